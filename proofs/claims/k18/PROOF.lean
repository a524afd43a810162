import PyProof.Rows.All
import Wide.All
import OpenK.AllK
import Wide.FinOn
import Lean
import PyProof.EqAt
import PyProof.EqKinds
import PyProof.TupleCall
import PySem.Challenge.RW_ownroom_k18_held_and_no_room
inductive Bb {α β:Type}(p:α->β->Prop):Prop
 |mk (x0:α) (x1:β) (_:p x0 x1):Bb p
inductive IT {α β γ:Type}(p:α->β->γ->Prop):Prop
 |mk (x0:α) (x1:β) (x2:γ) (_:p x0 x1 x2):IT p
inductive Jc {α β γ δ:Type}(p:α->β->γ->δ->Prop):Prop
 |mk (x0:α) (x1:β) (x2:γ) (x3:δ) (_:p x0 x1 x2 x3):Jc p
inductive BX {α β γ δ ε:Type}(p:α->β->γ->δ->ε->Prop):Prop
 |mk (x0:α) (x1:β) (x2:γ) (x3:δ) (x4:ε) (_:p x0 x1 x2 x3 x4):BX p
inductive Hh {α β γ δ ε ζ:Type}(p:α->β->γ->δ->ε->ζ->Prop):Prop
 |mk (x0:α) (x1:β) (x2:γ) (x3:δ) (x4:ε) (x5:ζ) (_:p x0 x1 x2 x3 x4 x5):Hh p
inductive sj (A0 A1 A2:Prop):Prop
 |mk (_:A0) (_:A1) (_:A2):sj A0 A1 A2
inductive Ia (A0 A1 A2 A3:Prop):Prop
 |mk (_:A0) (_:A1) (_:A2) (_:A3):Ia A0 A1 A2 A3
inductive FD (A0 A1 A2 A3 A4:Prop):Prop
 |mk (_:A0) (_:A1) (_:A2) (_:A3) (_:A4):FD A0 A1 A2 A3 A4
inductive xU (A0 A1 A2 A3 A4 A5:Prop):Prop
 |mk (_:A0) (_:A1) (_:A2) (_:A3) (_:A4) (_:A5):xU A0 A1 A2 A3 A4 A5
inductive IL (A0 A1 A2 A3 A4 A5 A6:Prop):Prop
 |mk (_:A0) (_:A1) (_:A2) (_:A3) (_:A4) (_:A5) (_:A6):IL A0 A1 A2 A3 A4 A5 A6
inductive IZ (A0 A1 A2 A3 A4 A5 A6 A7:Prop):Prop
 |mk (_:A0) (_:A1) (_:A2) (_:A3) (_:A4) (_:A5) (_:A6) (_:A7):IZ A0 A1 A2 A3 A4 A5 A6 A7
inductive HW (A0 A1 A2 A3 A4 A5 A6 A7 A8 A9 A10:Prop):Prop
 |mk (_:A0) (_:A1) (_:A2) (_:A3) (_:A4) (_:A5) (_:A6) (_:A7) (_:A8) (_:A9) (_:A10):HW A0 A1 A2 A3 A4 A5 A6 A7 A8 A9 A10
inductive GW (A0 A1 A2 A3 A4 A5 A6 A7 A8 A9 A10 A11 A12:Prop):Prop
 |mk (_:A0) (_:A1) (_:A2) (_:A3) (_:A4) (_:A5) (_:A6) (_:A7) (_:A8) (_:A9) (_:A10) (_:A11) (_:A12):GW A0 A1 A2 A3 A4 A5 A6 A7 A8 A9 A10 A11 A12
set_option Elab.async false
set_option linter.all false
set_option tactic.hygienic false
set_option maxRecDepth 100000
set_option maxHeartbeats 0
local macro_rules | `(tactic| omega) => `(tactic| lia)
theorem ao {p:Prop}(h:p:=by decide +kernel):p:=h
theorem av {p:Prop}(h:p:=by decide):p:=h
theorem af {p:Prop}(h:p:=by omega):p:=h
open PySem.W (instObj hideAll_get lookIn handedIn isFn plainOver takerIn makesIn emptyDict kitx_list kitx_tuple kitx_dict callWith_K0 excIn exmOne KdlSrc kdl_dict)
open List (replicate all_cons foldl map_take filter)
open Nat (le_refl)
open Option (getD_none bind_some isNone)
open Array (toList)
open PySem
open _root_.PySem renaming Shared->By,wpAny_bind->DD,FuncData->GX,Program->IF,wpAny_pure->Lg,sizeLine_eq->Lh,World->Ll,Around->Lq,Expr->LC,Stmt->LI,bootBuiltins->LK,mainGlobals->LS,wpAny_mono->L3,wpAny_truthy_bool->Ml,compareOp->Ms,wpAny_holding->Mz,wpAny_Call_Name_kw->MC,tupleKind_room_in1->ME,wpAny_execs_nil->MJ,wpAny_passesOwn->ML,sysModules->MW,keywordEach->MZ,call_meetsIn->Nb,attributeBase->Nh,wpAny_newObj_type->Ni,wpAny_call_entry->Nm,Pos->Nu,behindInMarks->Nv,call_meets->NA,wpAny_rule->NB,sliceBounds->ND,cLine->NG,wpAny_Call_method->NH,wpAny_execs_cons->NN,getMethod->NP,holding->NR,getItem->NS,binaryOp->NW,backToKw->NX,codeAny->NZ,codeAny_mono->N0,tupleKind->N3,assignEach->N4,Scope->Od,wpAny_assign_Name->Oe,wpAny_pyIter_list->Of,foldedSetIterable->Og,seqIndex_of->Oh,Sem->Om,wpAny_standAt->Oo,wpAny_comprehension_free->Oq,swapsWith->Ov,wpAny_callSpecial?_slot->Ow,wpAny_Call_method0_late->Oz,Env->OE,standAt->OG,wpAny_pyNext_range_end->OH,wpAny_pyIter_rangeiter->OI,IsPart->OP,wpAny_typeOf->OQ,wpAny_getItem_list_neg->OS,wpAny_noteFrame_againW->OV,valueAt->OW,Model->OZ,letOwnedTupleGo->O0,wpAny_isTrue_Compare1->O8,IsRangeIter->Pa,callWith->Pb,wpAny_field->Pc,subscripted->Pd,lookup_relabel_local->Ph,underTheClaimsCaller->Pj,Keyword->Pm,callerA->Pn,wpAny_newList->Pu,assign->Py,wpAny_pyIter_range->Pz,wpAny_call->PB,GenState->PL,wpAny_Return_some->PM,Operator->PN,BindsTo->PV,wpAny_sequenceKey->PY,slot_list_getitem->PZ,entryPlaceOf->P1,wpAny_pyIter_enum->P4,wpAny_pyIter_zip->P6,atKey->Qb,builtinsNs->Qj,wpAny_Name->Ql,bindArgs->Qo,bindL->Qp,bindC->Qq,typeIs_int->Qt,compEnvC->Qv,cellsFrom->QF,seqIndex?->QG,setItem->QI,CmpOp->QO,Tok->QW
open _root_.List renaming length_map->BY,size_toArray->G1,getElem?_map->K4,getElem?_eq_getElem->Lb,mem_of_getElem?->Ld,length_append->Li,not_mem_nil->Lm,map_append->Ln,length_cons->Lo,length_take->Lp,mem_cons_self->Ls,mem_cons_of_mem->Lx,mem_append_right->LF,getElem?_set_ne->LG,append_assoc->LJ,getElem?_set_self->LL,mem_cons->LO,length_set->LR,getD_eq_getElem?_getD->LU,length_range->LV,length_replicate->LW,getElem?_eq_none->LX,getElem?_append_right->LY,take_of_length_le->L0,getElem?_append_left->L4,pairwise_append->Ma,length_singleton->Mb,map_map->Me,mem_append_left->Mh,map_cons->Mm,getElem_of_mem->Mo,take_add_one->Mp,take_length->Mq,take_append_drop->Mu,length_drop->Mv,filter_cons->Mw,map_congr_left->Mx,getElem_mem->MB,replicate_succ->MD,nodup_nil->MN,flatten_cons->MO,drop_eq_getElem_cons->MQ,sum_cons->MV,ext_getElem?->Nd,take_sublist->Nl,length_filter_le->Nq,perm_append_comm->Nr,getElem_take->NK,reverse_append->NL,getElem?_range->NM,find?_cons->NQ,mem_singleton->NU,drop_sublist->N1,filter_eq_self->Ob,range_succ->Oc,getElem?_take->Ot,getElem?_drop->Ou,append_nil->OL,any_cons->Pe,take_zero->Po,length_nil->PF,map_nil->Qg,of_mem_zip->Qr,map_set->QL,mem_map->QM
open _root_.PyProof.Rows renaming wpS_bind->DO,wpS_pure->D3,arrOf->Lj,Keyed->Lk,pendingOf->Lu,SortSt->LN,slot_tuple_getitem->LP,wpS_forRange->LQ,callWith_type1->LZ,wpS_mono->Mr,numOf->Na,wpS_modify->Nc,IntsAre->Np,oneType'->Nx,failedOf->Ny,wpS_get->NJ,AllBare->NY,wpS_lift->Ox,envOfC->OO,subscriptTail_builtinR->OR,pairsOf->OX,pairsOf_size->OY,entry_tuple_getitem->Pp,subscriptTail->Pr,listUpdate_at->Pt,args_tuple_getitem->PD,seqEpoch_at->Qc,iadd_int->Qf,K_congr->Qh,boot_range->Qm,Subscript_->Qs,isInt_at->Qw,mirror->Qx,size_push'->Qz,wpS->QN,isInt->QT,stC->QU
open _root_.Ne renaming symm->G0
open _root_.Nat renaming le_refl->HC,le_trans->Ly,zero_le->LD,lt_of_lt_of_le->LH,ne_of_lt->LM,lt_irrefl->Nk,lt_succ_of_lt->NT,min_eq_right->N2,min_eq_left->Oj,le_succ->ON,ne_of_gt->PQ,le_of_lt->Qk,zero_add->Qy
open _root_.Or renaming inl->Lc,inr->OU
open _root_.Bool renaming false_ne_true->Lf,false_eq_true->Mt,eq_iff_iff->Nf,and_eq_true->Nn,and_false->Pf,and_eq_true_iff->Pk
open _root_.PySem.PassesOwn renaming never->Lr
open _root_.PySem.W renaming mg_none_of->Lz,mg_of->Mf,kitOne->Nz,kia_one->NF,findIn->N5,keepIn->OJ,callWith_K->OM,methodCall_KW->Pq,plainGet_of->Qa,of_hideAll->Qi,plainGet->Qn,methodObj->QC,hasDictIn->QD,hideAll->QH,fnOf->QJ,codeIn->QK,nsIn->QV
open _root_.False renaming elim->Mc
open _root_.Array renaming toList_append->Mg,length_toList->Mj,getElem?_toList->My,perm_iff_toList_perm->MF,getElem?_eq_some_iff->N6,toList_extract->N9,toList_reverse->Oa,toList_push->Oi,size_push->Oy,size_map->QA
open _root_.PySem.F renaming plainAttrs_list->Mi,plainAttrs_dict->Ng,slot_dict_get->Nw,entry_dict_get->N8,slot_list_remove->OA,slot_list_extend->OB,type_list_extend->OC
open _root_.True renaming intro->Mn
open _root_.Int renaming emod_lt_of_pos->MG,emod_nonneg->MU,toNat_natCast->MX,toNat->OD
open _root_.Option renaming bind_some->MY,isNone_iff_eq_none->NC,isSome_map->N7,not_isSome->PK,getD_some->P7
open _root_.PySem.Sem renaming wp->Nj
open _root_.Classical renaming byContradiction->Nt
open _root_.PySem.Data renaming cell->NO,fields->NV,seq->Qu
open _root_.Prod.mk renaming inj->Ol
open _root_.PySem.SeqAt renaming EqAt->OT
open _root_.PySem.SeqAt.EqAt renaming int_str->Pw,str_int->Px
open _root_.PyProof.Rows.SortSt renaming mk'->PH
open _root_.PySem.Around renaming under->PR
open _root_.PySem.Code renaming isFrame->PU,frames->QS
open _root_.Prod renaming ext->PX
open _root_.ForInStep renaming yield->Qd
open _root_.Array.Perm renaming refl->Qe
open _root_.PyProof.Rows.LSm renaming kept_iter->QB
open _root_.PySem.Walks renaming range->QP,list->QY
open _root_.PySem.IsRange renaming new->QR
open _root_.PySem.W.WShape renaming has->QX
theorem QZ {c:Prop}{h:Decidable c}(n:¬c){α:Sort u}{t e:α}:ite c t e=e:=if_neg n
theorem Q0 {c:Prop}{h:Decidable c}(n:c){α:Sort u}{t e:α}:ite c t e=t:=if_pos n
section
local macro_rules|`(tactic|show $t)=>`(tactic|refine $t)
open Lean in
local macro_rules|`(#[$xs,*])=>do
 let T:=([← `(⟨_,rfl⟩),← `(⟨rfl,rfl⟩),← `(⟨_,_⟩),← `(⟨?_,?_⟩),← `(⟨rfl,?_⟩),← `(⟨rfl,_⟩)]:List (TSyntax `term))
 let mut r:Array (TSyntax `term):=Array.mk []
 for x in xs.getElems do
  match x.raw.isNatLit? with
  |some k=>
   match T[k]! with
   |`(⟨$ys,*⟩)=>r:=r++ys.getElems
   |_=>r:=r
  |_=>r:=r.push x
 `(⟨$r,*⟩)
open Lean in
local macro_rules|`(tactic|let $p:term:=$e)=>do
 let rec go (n:Nat)(t:Syntax):MacroM (TSyntax `rcasesPat):=do
  match n with
  |0=>Macro.throwUnsupported
  |n+1=>match t with
   |`($i:ident)=>`(rcasesPat|$i:ident)
   |`(_)=>`(rcasesPat|_)
   |`(#[$xs,*])=>do `(rcasesPat|⟨$(←xs.getElems.mapM fun x=>do `(Parser.Tactic.rcasesPatLo|$(←go n x):rcasesPat)),*⟩)
   |_=>Macro.throwUnsupported
 match p with
 |`(#[$_,*])=>do `(tactic|obtain $(←go 99 p):rcasesPat := $e)
 |_=>Macro.throwUnsupported
namespace L2
open PySem PySem.Spec PyProof.Rows
noncomputable abbrev Key:=Sum Int Str
noncomputable def mX:Key->Value->Bool
 |.inl k,v=>Value.isInt k v
 |.inr x,v=>Value.isStrOf x v
noncomputable def Ke (w:Ll):Key->Int
 |.inl k=>hashInt k
 |.inr x=>hashStr w x
theorem cp:∀{k:Key}{v:Value},mX k v=true->(∃i t,k=Sum.inl i/\v=Value.int i t)\/(∃x t,k=Sum.inr x/\v=Value.str x t)
 |.inl i,v,h=>by
  let#[t,e]:=Value.isInt_shape (k:=i) (v:=v) h;show .inl #[i,t,rfl,e]
 |.inr x,v,h=>by
  let#[t,e]:=Value.isStrOf_shape (x:=x) (v:=v) h;show .inr #[x,t,rfl,e]
theorem yK (i:Int) (t:QW):mX (.inl i) (.int i t)=true:=by simp[mX,Value.isInt]
theorem xX (x:Str) (t:QW):mX (.inr x) (.str x t)=true:=by simp[mX,Value.isStrOf]
theorem FZ (a b:Int):decide ((Sum.inl a:Key)=Sum.inl b)=(a==b):=by
 by_cases e:a=b
 .subst e;simp
 .have h:¬ (Sum.inl a:Key)=Sum.inl b:=λq=>e (Sum.inl.inj q);rw[decide_eq_false h];show(beq_eq_false_iff_ne.mpr e).symm
theorem EH (a b:Str):decide ((Sum.inr a:Key)=Sum.inr b)=decide (a=b):=by
 by_cases e:a=b
 .subst e;simp
 .have h:¬ (Sum.inr a:Key)=Sum.inr b:=λq=>e (Sum.inr.inj q);rw[decide_eq_false h,decide_eq_false e]
theorem EW (a:Int) (b:Str):decide ((Sum.inl a:Key)=Sum.inr b)=false:=decide_eq_false (λq=>nomatch q)
theorem Ep (a:Str) (b:Int):decide ((Sum.inr a:Key)=Sum.inl b)=false:=decide_eq_false (λq=>nomatch q)
noncomputable def bu (prog:IF) (w:Ll):PySem.KeyKind prog w Key where
 is:=mX
 hash:=Ke w
 inj:=λv a b N J=>by
  rcases cp N with⟨i,t,rfl,rfl⟩|⟨x,t,rfl,rfl⟩
  .rcases cp J with⟨j,u,rfl,e⟩|⟨y,u,rfl,e⟩
   .injection e with G _;rw[G]
   .show nomatch e
  .rcases cp J with⟨j,u,rfl,e⟩|⟨y,u,rfl,e⟩
   .show nomatch e
   .injection e with G _;rw[G]
 byValue:=λk v h=>by
  rcases cp h with⟨i,t,rfl,rfl⟩|⟨x,t,rfl,rfl⟩<;>rfl
 pyHash:=λI h=>by
  rcases cp I with⟨i,t,rfl,rfl⟩|⟨x,t,rfl,rfl⟩
  .show wpAny_pyHash_int h
  .show wpAny_pyHash_str h
 eqBool:=λL I h=>by
  rcases cp L with⟨i,t,rfl,rfl⟩|⟨x,t,rfl,rfl⟩
  .rcases cp I with⟨j,u,rfl,rfl⟩|⟨y,u,rfl,rfl⟩
   .rw[FZ]at h;show wpAny_eqBool_int h
   .rw[EW]at h;show Pw i t y u _ _ _ _ h
  .rcases cp I with⟨j,u,rfl,rfl⟩|⟨y,u,rfl,rfl⟩
   .rw[Ep]at h;show Px x t j u _ _ _ _ h
   .rw[EH]at h;show wpAny_eqBool_str h
 «strs» := λk x t v h=>by
  rcases cp h with⟨i,u,rfl,e⟩|⟨y,u,rfl,e⟩
  .show nomatch e
  .injection e with G _;subst G;cases v<;>rfl
theorem sE (prog:IF) (w:Ll) (i:Int) (t:QW):(bu prog w).is (.inl i) (.int i t)=true:=yK i t
theorem ue (prog:IF) (w:Ll) (x:Str) (t:QW):(bu prog w).is (.inr x) (.str x t)=true:=xX x t
inductive V where
 |non|bl (b:Bool)|int (i:Int)|str (x:Str)|byt (b:Array UInt8)|flt (b:UInt64)|ref (a:Addr)|ty (n:String)
 deriving DecidableEq
noncomputable def RelV:V->Value->Prop
 |.non,u=>u=Value.none
 |.bl b,u=>u=Value.bool b
 |.int i,u=>∃t,u=Value.int i t
 |.str x,u=>∃t,u=Value.str x t
 |.byt b,u=>∃t,u=Value.bytes b t
 |.flt b,u=>∃t,u=Value.float b t
 |.ref a,u=>u=Value.ref a
 |.ty n,u=>u=Value.type n
noncomputable abbrev Vals:List V->List Value->Prop:=Paired RelV
theorem Vals.length {xs:List V}{us:List Value}(r:Vals xs us):xs.length=us.length:=Paired.length r
theorem Vals.get:∀{xs:List V}{us:List Value}{i:Nat}{x:V},Vals xs us->xs[i]?=some x->∃u,us[i]?=some u/\RelV x u
 |_,_,_,_,.nil,e=>by simp at e
 |_,_,0,_,.cons r _,e=>by simp at e;subst e;show#[0,r]
 |_,_,i+1,x,.cons _ t,e=>by
  let#[u,h1,h2]:=Vals.get (i:=i) (x:=x) t (by simpa using e);show#[u,by simpa using h1,h2]
theorem Vals.set {x:V}{u:Value}(r:RelV x u):∀{xs:List V}{us:List Value}(i:Nat),Vals xs us->Vals (xs.set i x) (us.set i u)
 |_,_,_,.nil=>.nil
 |_,_,0,.cons _ t=>.cons r t
 |_,_,i+1,.cons q t=>.cons q (Vals.set r i t)
theorem Vals.append:∀{xs ys:List V}{us ws:List Value},Vals xs us->Vals ys ws->Vals (xs++ys) (us++ws)
 |_,_,_,_,.nil,s=>s
 |_,_,_,_,.cons r t,s=>.cons r (Vals.append t s)
theorem Vals.take:∀{xs:List V}{us:List Value}(n:Nat),Vals xs us->Vals (xs.take n) (us.take n)
 |_,_,0,_=>.nil
 |_,_,_+1,.nil=>.nil
 |_,_,n+1,.cons r t=>.cons r (Vals.take n t)
theorem Vals.drop:∀{xs:List V}{us:List Value}(n:Nat),Vals xs us->Vals (xs.drop n) (us.drop n)
 |_,_,0,r=>r
 |_,_,_+1,.nil=>.nil
 |_,_,n+1,.cons _ t=>Vals.drop n t
noncomputable def gi:Option V->Option Value->Prop
 |some v,some u=>RelV v u
 |none,none=>True
 |_,_=>False
noncomputable def KV {κ:Type}:List (κ×V)->List (κ×Value)->Prop:=Paired λ(p:κ×V) (q:κ×Value)=>p.1=q.1/\RelV p.2 q.2
noncomputable def kV:Key->V
 |.inl i=>.int i
 |.inr x=>.str x
inductive HO where
  |lst (xs:List V)
  |tup (xs:List V)
  |dK (kvs:List (Key×V))|dT (kvs:List (List Key×V))
  |set (S:Int->Bool) (n:Nat)
  |ins (C dx:Addr) (fs:List (Str×V))
  |own (x:Addr)
  |xd (fs:List (Str×V))
  |met (f x:Addr)
  |rng (lo hi:Int)
  |cH (o:Obj) (u:HO)
  |tbl (ps:Array Value)
  |ext (φ:Heap->Prop)
noncomputable abbrev Hp:=Addr->Option HO
noncomputable def upd (H:Hp) (a:Addr) (o:HO):Hp:=λb=>if b=a then some o else H b
theorem ae {H:Hp}{a:Addr}{o:HO}:upd H a o a=some o:=by unfold upd;rw[Q0 rfl]
theorem ag {H:Hp}{a b:Addr}{o:HO}(h:b≠a):upd H a o b=H b:=by unfold upd;rw[QZ h]
theorem cJ {H:Hp}{a b:Addr}{o u:HO}(h:H a=some o) (h':H b=some u) (d:o≠u):a≠b:=by
 intro e;subst e;rw[h]at h';show d (Option.some.inj h')
theorem aq {H:Hp}{a b:Addr}{o:HO}(h:H a=some o) (h':H b=none):a≠b:=by
 intro e;subst e;rw[h]at h';cases h'
section
variable (P:IF) (w:Ll)
noncomputable def bT (H:Hp) (h:Heap) (a:Addr):HO->Prop
 |.lst xs=>xs.length<=sizeLine/\∃(its:List Value) (n:Nat),Vals xs its/\h.get? a=some { cls:=.type "list",data:=.seq its.toArray n }
 |.tup xs=>xs.length<=sizeLine/\∃its:List Value,Vals xs its/\IsTup h a its.toArray
 |.dK kvs=>kvs.length<=sizeLine/\(a==MW)=false/\∃vs,KV kvs vs/\h.DictOf (bu P w) a vs
 |.dT kvs=>kvs.length<=sizeLine/\(a==MW)=false/\∃xs:List (List Key×Addr×Value),
   Paired (λ(p:List Key×V) (q:List Key×Addr×Value)=>p.1=q.1/\H q.2.1=some (.tup (p.1.map kV))/\RelV p.2 q.2.2) kvs xs /\
   ∃o es ep,h.get? a=some o/\o.ExactDict/\o.data=.dict es ep/\es.toList=xs.map (entryOfKey (N3 (bu P w)))/\(xs.map (·.1)).Nodup
 |.set S n=>h.SetOf (intKind P w) a S n
 |.ins C dx fs=>H dx=some (.own a)/\fs.length<=1000/\dx≠a/\h.get? a=some (instObj C dx) /\
   ∃mA,h.Ns1 dx mA/\(∀f,gi (fs.lookup f) (mA f))/\PySem.Within mA (fs.map (·.1))
 |.own _=>∃o,h.get? a=some o
 |.xd fs=>∃mA,h.Ns1 a mA/\∀f,gi (fs.lookup f) (mA f)
 |.rng lo hi=>∃t u v,h.get? a=some { cls:=.type "range",data:=.fields ([.int lo t,.int hi u,.int 1 v].toArray) }
 |.cH o u=>h.get? a=some o/\bT H h a u
 |.tbl ps=>h.get? a=some { cls:=.none,data:=.fields ps }
 |.met f x=>h.get? a=some (QC (.ref f) (.ref x))
 |.ext G=>G h/\(∃o,h.get? a=some o)/\∀h1 h2:Heap, G h1->(∀o,h1.get? a=some o->h2.get? a=some o)->G h2
noncomputable def iX (H:Hp) (h:Heap):Prop:=∀a o,H a=some o->bT P w H h a o
end
section
variable {P:IF}{w:Ll}{H H':Hp}{h h':Heap}{a:Addr}{o:HO}
theorem bT.lt (x:bT P w H h a o):a<h.objs.size:=by
 cases o with
 |lst xs=>let#[_,_,_,_,e]:=x;show Heap.lt_size e
 |tup xs=>let#[_,_,_,p]:=x;show p.lt
 |dK kvs=>let#[_,_,_,_,o,_,_,e,_]:=x;show Heap.lt_size e
 |dT kvs=>let#[_,_,_,_,o,_,_,e,_]:=x;show Heap.lt_size e
 |set S n=>let#[o,_,_,_,e,_]:=x;show Heap.lt_size e
 |ins C dx fs=>let#[_,_,_,e,_]:=x;show Heap.lt_size e
 |own y=>let#[_,e]:=x;show Heap.lt_size e
 |xd fs=>let#[_,#[_,_,_,e,_],_]:=x;show Heap.lt_size e
 |rng lo hi=>let#[_,_,_,e]:=x;show Heap.lt_size e
 |cH ob u=>let#[e,_]:=x;show Heap.lt_size e
 |tbl ps=>show Heap.lt_size (show h.get? a=some _ from x)
 |met f y=>show Heap.lt_size (show h.get? a=some _ from x)
 |ext G=>let#[_,#[_,e],_]:=x;show Heap.lt_size e
theorem Paired.Br {α I:Type}{F G:α->I->Prop}:∀{l₁:List α}{l₂:List I},Paired F l₁ l₂->(∀a b,F a b->G a b)->Paired G l₁ l₂
 |_,_,.nil,_=>.nil
 |_,_,.cons r t,f=>.cons (f _ _ r) (Paired.Br t f)
theorem bT.iV (x:bT P w H h a o) (k:∀b u,(b=a\/H b=some (.own a))->h.get? b=some u->h'.get? b=some u)
  (N:∀b,H b=some (.own a)->H' b=some (.own a)) (L:∀b xs,H b=some (.tup xs)->H' b=some (.tup xs)):bT P w H' h' a o:=by
 induction o with
 |lst xs=>let#[z,its,n,r,e]:=x;show#[z,its,n,r,k _ _ (.inl rfl) e]
 |tup xs=>let#[z,its,r,ob,e,c]:=x;show#[z,its,r,ob,k _ _ (.inl rfl) e,c]
 |dK kvs=>let#[z,y,vs,r,ob,es,ep,e,c]:=x;show#[z,y,vs,r,ob,es,ep,k _ _ (.inl rfl) e,c]
 |dT kvs =>
  let#[z,y,xs,r,ob,es,ep,e,c]:=x;show#[z,y,xs,Paired.Br r λp q z=>#[z.1,L _ _ z.2.1,z.2.2],ob,es,ep,k _ _ (.inl rfl) e,c]
 |set S n=>let#[ob,es,ep,t,e,c]:=x;show#[ob,es,ep,t,k _ _ (.inl rfl) e,c]
 |ins C dx fs =>
  let#[d,z,J,e,mA,#[od,es,ep,I,c],r]:=x;show#[N _ d,z,J,k _ _ (.inl rfl) e,mA,#[od,es,ep,k _ _ (.inr d) I,c],r]
 |own y=>let#[ob,e]:=x;show#[ob,k _ _ (.inl rfl) e]
 |xd fs=>let#[mA,#[od,es,ep,e,c],r]:=x;show#[mA,#[od,es,ep,k _ _ (.inl rfl) e,c],r]
 |rng lo hi=>let#[t,u,v,e]:=x;show#[t,u,v,k _ _ (.inl rfl) e]
 |cH ob u G=>let#[e,q]:=x;show#[k _ _ (.inl rfl) e,G q]
 |tbl ps =>
  have e:h.get? a=some { cls:=.none,data:=.fields ps }:=x;change h'.get? a=some { cls:=.none,data:=.fields ps };show k a _ (.inl rfl) e
 |met f y =>
  have e:h.get? a=some (QC (.ref f) (.ref y)):=x;change h'.get? a=some (QC (.ref f) (.ref y));show k a _ (.inl rfl) e
 |ext O=>let#[p,#[o,e],st]:=x;show#[st _ _ p λo q=>k _ _ (.inl rfl) q,#[o,k _ _ (.inl rfl) e],st]
theorem iX.lt (x:iX P w H h) (e:H a=some o):a<h.objs.size:=(x a o e).lt
theorem iX.fresh (x:iX P w H h) (e:h.objs.size<=a):H a=none:=by
 cases q:H a with
 |none=>rfl
 |some u=>show absurd (LH (x.lt q) e) (Nk _)
theorem iX.kept (x:iX P w H h) (k:∀b u,h.get? b=some u->h'.get? b=some u):iX P w H h':=λa o e =>
 (x a o e).iV (λb u _ q=>k b u q) (λ_ q=>q) λ_ _ q=>q
theorem iX.laid (x:iX P w H h) (k:∀b u,h.get? b=some u->h'.get? b=some u) (J:h.objs.size<=a) (new:bT P w (upd H a o) h' a o):iX P w (upd H a o) h':=λb u e=>by
 have I:=x.fresh J;by_cases G:b=a
 .subst G;rw[ae]at e;cases e;show new
 .rw[ag G]at e;show(x b u e).iV (λc v _ q=>k c v q) (λc q=>by rw[ag (aq q I)];show q) λc xs q=>by rw[ag (aq q I)];show q
end
noncomputable def Rd (H:Hp) (a:Addr) (u:HO):Prop:=H a=some u\/∃o,H a=some (.cH o u)
theorem Rd.ok {P:IF}{w:Ll}{H:Hp}{h:Heap}{a:Addr}{u:HO}(r:Rd H a u) (x:iX P w H h):bT P w H h a u:=by
 rcases r with r|⟨o,r⟩
 .show x a u r
 .let#[_,q]:=x a _ r;show q
noncomputable def Ht:Option HO->Prop
 |some (.lst _)=>True
 |some (.dK _)=>True
 |some (.dT _)=>True
 |some (.set _ _)=>True
 |some (.ins _ _ _)=>True
 |some (.ext _)=>True
 |_=>False
section
variable {P:IF}{w:Ll}{H:Hp}{h h':Heap}{x e:Addr}{o':HO}
theorem iX.write (ok:iX P w H h) (J:Ht (H x)) (N:e=x\/H e=some (.own x)) (k:∀b u,b≠e->h.get? b=some u->h'.get? b=some u) (Y:∃u,h'.get? e=some u)
  (new:bT P w (upd H x o') h' x o'):iX P w (upd H x o') h':=λb u q=>by
 have R:∀c y,H c=some (.own y)->c≠x:=λc y r z=>(by subst z;rw[r]at J;show J);have S:∀c xs,H c=some (.tup xs)->c≠x:=λc xs r z=>(by subst z;rw[r]at J;show J);by_cases G:b=x
 .subst G;rw[ae]at q;cases q;show new
 .rw[ag G]at q;by_cases I:b=e
  .have O:H b=some (.own x):=by
    rcases N with z|z
    .show absurd (I.trans z) G
    .rw[I];show z
   rw[q]at O;cases O;let#[v,U]:=Y;show#[v,by rw[I];show U]
  .show(ok b u q).iV (λc v L r=>k c v ?_ r) (λc r=>by rw[ag (R c b r)];show r) λc xs r=>(by rw[ag (S c xs r)];show r);rcases L with rfl|L
   .show I
   .rintro rfl;rcases N with z|z
    .show R c b L z
    .rw[L]at z;cases z;show G rfl
end
structure Un (fs ex:List Addr) (H H':Hp) (h h':Heap):Prop where
 keep:∀b o,h.get? b=some o->H b=none->b∉fs->b∉ex->h'.get? b=some o
 slot:∀b o,h.get? b=some o->H b=none->b∈fs->b∉ex->∃sl,h'.get? b=some { o with slots:=sl }
 free:∀b o,h.get? b=some o->H b=none->b∉ex->H' b=none
 there:∀b o,h.get? b=some o->b∉ex->∃o',h'.get? b=some o'
 mf:∀b xs,H b=some (.tup xs)->H' b=some (.tup xs)
 ly:∀b o u,H b=some (.cH o u)->H' b=some (.cH o u)
 mS:∀b ps,H b=some (.tbl ps)->∃more,H' b=some (.tbl (ps++more))
section
variable {fs fs' ex ex':List Addr}{H H1 H2:Hp}{h h1 h2 h':Heap}{a x e:Addr}{o:HO}
theorem Un.any (u:Un fs ex H H1 h h1) {b:Addr}{ob:Obj}(q:h.get? b=some ob) (n:H b=none) (G:b∉ex):∃sl,h1.get? b=some { ob with slots:=sl }:=by
 by_cases I:b∈fs
 .show u.slot b ob q n I G
 .show#[ob.slots,u.keep b ob q n I G]
theorem Un.kept (k:∀b u,h.get? b=some u->h'.get? b=some u):Un fs ex H H h h' :=
 #[λb ob q _ _ _=>k b ob q,λb ob q _ _ _=>#[ob.slots,k b ob q],λ_ _ _ n _=>n,λb ob q _=>#[ob,k b ob q],λ_ _ q=>q,λ_ _ _ q=>q,λ_ ps q=>#[([].toArray),by rw[q];simp]]
theorem Un.refl:Un fs ex H H h h:=Un.kept λ_ _ q=>q
theorem Un.laid (k:∀b u,h.get? b=some u->h'.get? b=some u) (I:h.objs.size<=a) (G:H a=none):Un fs ex H (upd H a o) h h' where
 keep:=λb u q _ _ _=>k b u q
 slot:=λb u q _ _ _=>#[u.slots,k b u q]
 free:=λb u q n _=>by rw[ag (LM (LH (Heap.lt_size q) I))];show n
 there:=λb u q _=>#[u,k b u q]
 mf:=λb xs q=>by rw[ag (aq q G)];show q
 ly:=λb u xs q=>by rw[ag (aq q G)];show q
 mS:=λb ps q=>#[([].toArray),by rw[ag (aq q G),q];simp]
theorem Un.write (G:Ht (H x)) (O:e=x\/H e=some (.own x)) (k:∀b u,b≠e->h.get? b=some u->h'.get? b=some u) (R:∃u,h'.get? e=some u):Un fs ex H (upd H x o) h h':=by
 have J:∀b,H b=none->b≠x:=λb n z=>(by subst z;rw[n]at G;show G);have L:∀b,H b=none->b≠e:=λb n z=>by
  subst z;rcases O with r|r
  .show J b n r
  .rw[n]at r;cases r
 have I:∀b u,H b=some u->¬ Ht (some u)->b≠x:=λb u q nm z=>(by subst z;rw[q]at G;show nm G);show#[λb u q n _ _=>k b u (L b n) q,λb u q n _ _=>#[u.slots,k b u (L b n) q],λb u q n _=>by rw[ag (J b n)];show n,λb u q _=>?_,
  λb xs q=>by rw[ag (I b _ q λz=>z)];show q,λb u xs q=>by rw[ag (I b _ q λz=>z)];show q,λb ps q=>#[([].toArray),by rw[ag (I b _ q λz=>z),q];simp]]
 by_cases N:b=e
 .subst N;show R
 .show#[u,k b u N q]
end
noncomputable def IW (h:Heap) (H:Hp):List Addr:=(List.range h.objs.size).filter λa=>(H a).isSome
noncomputable def pX (h:Heap) (H:Hp):Heap:=QH h (IW h H)
theorem yh (h:Heap) (H:Hp):(pX h H).objs.size=h.objs.size:=PySem.W.hideAll_size _ _
theorem zh {h:Heap}{H:Hp}{b:Addr}{o:Obj}(e:h.get? b=some o) (n:H b=none):(pX h H).get? b=some o :=
 hideAll_get _ e λG=>by
  have q:(H b).isSome=true:=(List.mem_filter.mp G).2;rw[n]at q;simp at q
theorem CY {h:Heap}{H:Hp}{b:Addr}{o:Obj}(e:(pX h H).get? b=some o):h.get? b=some o/\H b=none:=by
 have G:h.get? b=some o:=Qi (IW h H) e;show#[G,?_];cases q:H b with
 |none=>rfl
 |some x =>
  have I:b∈IW h H:=List.mem_filter.mpr #[List.mem_range.mpr (Heap.lt_size G),by simp[q]];have z:(pX h H).get? b=none:=PySem.W.hideAll_none (IW h H) I;rw[z]at e;cases e
structure Mod (K:PySem.W.Frag) (mg:Str->Option Value) (base:Heap):Prop where
 DR:K.In base
 glob:base.Ns LS mg
 blt:∃mb,base.Ns Qj mb/\∀x:Str,x ≠ "__name__" -> mb x=LK x
 nolimit:base.NoLimit
structure Cx where
 prog:IF
 w:Ll
 K:PySem.W.Frag
 mg:Str->Option Value
 base:Heap
 A:Lq
 N:List Str
 s₀:By
 H₀:Hp
 env:OE
 outer:List OE
 stack:List OE
 ex:List Addr
 fn:Str->Bool
 calm:Bool
 pn:List (Addr×Obj)
 xe:Value->By->Prop
noncomputable def oK (l:List OE):List Addr:=l.filterMap (·.frame)
noncomputable abbrev Cx.fs (X:Cx):List Addr:=oK X.outer
noncomputable def Ir (G:Od) (x:Str):Prop:=G.names.lookup x=some .local\/G.names.lookup x=some .cell\/G.names.lookup x=some .free
noncomputable def Loc (G:Od) (x:Str):Prop:=G.names.lookup x=some .local\/G.names.lookup x=some .cell
noncomputable def Look (env:OE) (h:Heap) (m:Str->Option Value) (x:Str) (u:Value):Prop :=
 (env.kindOf x=some .local/\m x=some u)\/((env.kindOf x=some .cell\/env.kindOf x=some .free)/\∃c,env.cells.lookup x=some c/\h.IsCell c (some u))
structure Cx.Ok (X:Cx):Prop where
 mod:Mod X.K X.mg X.base
 kind:X.env.scope.kind=.function
 glob:X.env.globals=LS
 blt:X.env.builtins=Qj
 above:X.s₀.heap.objs.size<=X.env.locals
 inj:∀x y c,X.env.cells.lookup x=some c->X.env.cells.lookup y=some c->x=y
 has:∀x,(X.env.kindOf x=some .cell\/X.env.kindOf x=some .free)->∃c,X.env.cells.lookup x=some c
 Ft:∀x c,X.fn x=true->X.env.cells.lookup x=some c->X.s₀.heap.objs.size<=c
 hd:X.calm=true->X.A.handled=none
 frames:X.A.frames=some X.stack
 Gi:X.stack=X.outer\/(X.stack=X.env::X.outer/\X.env.frame=some X.env.locals)
 IS:∀b∈X.ex,b≠X.env.locals/\∀x c,X.env.cells.lookup x=some c->c≠b
 bs:∀b o,X.base.get? b=some o->X.s₀.heap.get? b=some o/\X.H₀ b=none
 zk:X.base.objs.size<=X.s₀.heap.objs.size
 wu:∀b o,X.base.get? b=some o->b∉X.ex
 uL:∀b∈X.ex,b∉X.fs
 jj:X.s₀.heap.FunFrames X.base X.outer
 CO:∀b∈X.fs,X.H₀ b=none
structure Inv (X:Cx) (pins:List (Addr×Obj)) (σ:List (Option V)) (H:Hp) (s:By):Prop where
 ok:X.Ok
 os:s.os=X.s₀.os
 bare:NY s.gens
 base:Un X.fs X.ex X.H₀ H X.s₀.heap s.heap
 loc:∃m,s.heap.Ns X.env.locals m/\∀(i:Nat) (x:Str) (v:V),X.N[i]?=some x->σ[i]?=some (some v)->Ir X.env.scope x->∃u,RelV v u/\Look X.env s.heap m x u
 cell:∀x c,X.env.cells.lookup x=some c->∃v,s.heap.IsCell c v
 free:H X.env.locals=none
 eX:∀x c,X.env.cells.lookup x=some c->H c=none
 pin:∀p∈X.pn++pins,s.heap.get? p.1=some p.2/\H p.1=none/\p.1≠X.env.locals/\p.1∉X.fs/\∀v,p.2.data≠.cell v
 bC:iX X.prog X.w H s.heap
 len:σ.length=X.N.length
section
variable {X:Cx}{pins:List (Addr×Obj)}{σ:List (Option V)}{H H':Hp}{s:By}{h':Heap}
theorem Cx.Ok.Jw (ok:X.Ok) {b:Addr}{o:Obj}(e:X.base.get? b=some o):b∉X.fs:=λG=>by
 have:=(ok.jj.mem G).1;rw[e]at this;cases this
theorem Inv.bs (I:Inv X pins σ H s):∀b o,X.base.get? b=some o->s.heap.get? b=some o/\H b=none:=λb o e =>
 #[I.base.keep b o (I.ok.bs b o e).1 (I.ok.bs b o e).2 (I.ok.Jw e) (I.ok.wu b o e),I.base.free b o (I.ok.bs b o e).1 (I.ok.bs b o e).2 (I.ok.wu b o e)]
theorem Inv.bk (I:Inv X pins σ H s):∀b o,X.base.get? b=some o->s.heap.get? b=some o:=λb o e=>(I.bs b o e).1
theorem Inv.mod (I:Inv X pins σ H s):Mod X.K X.mg X.base:=I.ok.mod
theorem Inv.jk (I:Inv X pins σ H s):X.K.In s.heap:=I.ok.mod.DR.keeps I.bk
theorem Inv.lt (I:Inv X pins σ H s):X.env.locals<s.heap.objs.size:=let ⟨_,G,_⟩:=I.loc;G.lt
theorem Inv.sz (I:Inv X pins σ H s):X.s₀.heap.objs.size<=s.heap.objs.size:=Ly I.ok.above (Qk I.lt)
theorem Inv.Hy (I:Inv X pins σ H s) {a:Addr}(h:s.heap.objs.size<=a):a∉X.fs:=λG=>by
 let#[_,o,J,_]:=I.ok.jj.mem G;show absurd (LH (Heap.lt_size J) (Ly I.sz h)) (Nk _)
theorem Inv.zG (I:Inv X pins σ H s):∀x c,X.env.cells.lookup x=some c->c≠X.env.locals:=λx c e z=>by
 let#[v,o,G,hd]:=I.cell x c e;let#[m,#[o',es,ep,L,J,_],_]:=I.loc;rw[z,L]at G;cases G;rw[J]at hd;cases hd
theorem Inv.jj (I:Inv X pins σ H s):s.heap.FunFrames X.base X.outer:=by
 have all:∀(l:List OE),(∀b∈oK l,b∈X.fs)->X.s₀.heap.FunFrames X.base l->s.heap.FunFrames X.base l:=by
  intro l
  induction l with
  |nil=>intro _ _;trivial
  |cons env r U =>
   intro hs O;let#[S,#[L,o,J,Y,ho,hd],R]:=O;have N:L∈X.fs:=hs L (by unfold oK;rw[List.filterMap_cons,J];show Ls);let#[sl,e]:=I.base.slot L o ho (I.ok.CO L N) N λz=>I.ok.uL L z N;show#[S,#[L,_,J,Y,e,hd],U (λb G=>hs b (by unfold oK;rw[List.filterMap_cons,J];show Lx _ G)) R]
 show all X.outer (λ_ G=>G) I.ok.jj
theorem Inv.stack (I:Inv X pins σ H s):s.heap.FunFrames X.base X.stack:=by
 rcases I.ok.Gi with e|⟨e,G⟩
 .rw[e];show I.jj
 .rw[e];let#[m,J,_]:=I.loc;show .cons (by rw[I.ok.kind];decide) G J ?_ I.jj;show Heap.get?_none_of_le (Ly I.ok.zk I.ok.above)
theorem Inv.p7 (I:Inv X pins σ H s):∀b∈oK X.stack,b∈X.env.locals::X.fs:=λb G=>by
 rcases I.ok.Gi with e|⟨e,J⟩
 .rw[e]at G;show Lx _ G
 .rw[e]at G;unfold oK at G;rw[List.filterMap_cons,J]at G;show G
theorem Inv.rf (I:Inv X pins σ H s):∀b∈oK X.stack,H b=none:=λb G=>by
 rcases List.mem_cons.mp (I.p7 b G)with e|G
 .rw[e];show I.free
 .let#[_,o,J,_]:=I.ok.jj.mem G;show I.base.free b o J (I.ok.CO b G) λz=>I.ok.uL b z G
theorem Inv.step {g':Array PL}{t':Nat}{d':Drawn}{ch:List Addr}(I:Inv X pins σ H s)
  (S:∀b∈ch,(b∈X.ex\/X.s₀.heap.objs.size<=b)/\b≠X.env.locals/\(∀x c,X.env.cells.lookup x=some c->c≠b)/\∀p∈X.pn++pins,p.1≠b)
  (keep:∀b o,b≠X.env.locals->b∉X.fs->b∉ch->s.heap.get? b=some o->H b=none->h'.get? b=some o)
  (slot:∀b o,b≠X.env.locals->b∈X.fs->b∉ch->s.heap.get? b=some o->H b=none->∃sl,h'.get? b=some { o with slots:=sl }) (free:∀b o,b∉ch->s.heap.get? b=some o->H b=none->H' b=none)
  (there:∀b o,b∉ch->s.heap.get? b=some o->∃o',h'.get? b=some o')
  (mf:∀b xs,H b=some (.tup xs)->H' b=some (.tup xs)) (ly:∀b o u,H b=some (.cH o u)->H' b=some (.cH o u)) (mS:∀b ps,H b=some (.tbl ps)->∃am,H' b=some (.tbl (ps++am)))
  (ns:∀m,s.heap.Ns X.env.locals m->h'.Ns X.env.locals m) (bC:iX X.prog X.w H' h') (hg:NY g') :
  Inv X pins σ H' { s with heap:=h',gens:=g',drawn:=d',toks:=t' }:=by
 have ab:∀b o,X.s₀.heap.get? b=some o->b≠X.env.locals:=λb o e=>LM (LH (Heap.lt_size e) I.ok.above);have U:∀b o,X.s₀.heap.get? b=some o->b∉X.ex->b∉ch:=λb o e G L=>by
  rcases(S b L).1 with z|z
  .show G z
  .show absurd (LH (Heap.lt_size e) z) (Nk _)
 have ac:∀x c,X.env.cells.lookup x=some c->∀v,s.heap.IsCell c v->h'.IsCell c v:=λx c e v ap=>by
  let#[o,N,hd]:=ap;have R:c∉ch:=λz=>(S c z).2.2.1 x c e rfl;by_cases hc:c∈X.fs
  .let#[sl,q]:=slot c o (I.zG x c e) hc R N (I.eX x c e);show#[_,q,hd]
  .show#[o,keep c o (I.zG x c e) hc R N (I.eX x c e),hd]
 show#[I.ok,I.os,hg,#[λb o e n L G=>?_,λb o e n L G=>?_,λb o e n G=>?_,λb o e G=>?_,λb xs e=>mf b xs (I.base.mf b xs e),λb o xs e=>ly b o xs (I.base.ly b o xs e),λb ps e=>?_],?_,λx c e=>?_,?_,λx c e=>?_,λp Y=>?_,bC,I.len]
 .show keep b o (ab b o e) L (U b o e G) (I.base.keep b o e n L G) (I.base.free b o e n G)
 .let#[sl,J]:=I.base.slot b o e n L G;let#[as,O]:=slot b _ (ab b o e) L (U b o e G) J (I.base.free b o e n G);show#[as,O]
 .let#[o',J]:=I.base.there b o e G;show free b o' (U b o e G) J (I.base.free b o e n G)
 .let#[o',J]:=I.base.there b o e G;show there b o' (U b o e G) J
 .let#[m1,J]:=I.base.mS b ps e;let#[m2,O]:=mS b _ J;show#[m1++m2,by rw[O,Array.append_assoc]]
 .let#[m,hn,hl]:=I.loc;show#[m,ns m hn,λi x v J O e3=>?_];let#[u,r,l]:=hl i x v J O e3;show#[u,r,?_];rcases l with l|⟨k,c,e,z⟩
  .show .inl l
  .show .inr #[k,c,e,ac x c e _ z]
 .let#[v,z]:=I.cell x c e;show#[v,ac x c e v z]
 .let#[m,#[o,_,_,N,_],_]:=I.loc;show free _ o (λz=>(S _ z).2.1 rfl) N I.free
 .let#[v,o,N,hd]:=I.cell x c e;show free c o (λz=>(S c z).2.2.1 x c e rfl) N (I.eX x c e)
 .let#[e,n,ne,nf,d]:=I.pin p Y;have R:p.1∉ch:=λz=>(S p.1 z).2.2.2 p Y rfl;show#[keep p.1 p.2 ne nf R e n,free p.1 p.2 R e n,ne,nf,d]
theorem Inv.un {t':Nat}(I:Inv X pins σ H s) (u:Un X.fs [] H H' s.heap h') (N:iX X.prog X.w H' h'):Inv X pins σ H' { s with heap:=h',toks:=t' }:=by
 let#[m,#[o,es,ep,L,r],_]:=id I.loc;let#[sl,S]:=u.any L I.free (by simp);show I.step (g':=s.gens) (d':=s.drawn) (ch:=[]) (λ_ z=>nomatch z) (λb o _ G _ e n=>u.keep b o e n G (by simp)) (λb o _ G _ e n=>u.slot b o e n G (by simp)) (λb o _ e n=>u.free b o e n (by simp)) (λb o _ e=>u.there b o e (by simp)) u.mf u.ly u.mS (λm' R=>by
  let#[o',Y,U,J,O]:=R;rw[L]at J;cases J;show#[_,Y,U,S,O]) N I.bare
theorem Inv.call {g':Array PL}{t':Nat}{d':Drawn}{ch:List Addr}(I:Inv X pins σ H s) (u:Un (oK X.stack) ch H H' s.heap h') (Y:iX X.prog X.w H' h') (R:NY g')
  (N:∀b∈ch,(b∈X.ex\/X.s₀.heap.objs.size<=b)/\b≠X.env.locals/\(∀x c,X.env.cells.lookup x=some c->c≠b)/\∀p∈X.pn++pins,p.1≠b) :
  Inv X pins σ H' { s with heap:=h',gens:=g',drawn:=d',toks:=t' }:=by
 let#[m,#[o,es,ep,O,r],_]:=id I.loc;let#[sl,J]:=u.any O I.free λz=>(N _ z).2.1 rfl;show I.step (ch:=ch) N (λb o J S G e n=>u.keep b o e n (λz=>(List.mem_cons.mp (I.p7 b z)).elim J S) G) (λb o _ _ G e n=>u.any e n G) (λb o G e n=>u.free b o e n G) (λb o G e=>u.there b o e G) u.mf u.ly u.mS (λm' U=>by
  let#[o',ac,ab,L,r']:=U;rw[O]at L;cases L;show#[_,ac,ab,J,r']) Y R
theorem Inv.turned {t':Nat}{G:Addr}(I:Inv X pins σ H s) (k:∀b o,b≠G->s.heap.get? b=some o->h'.get? b=some o) (R:H G=none) (N:G≠X.env.locals)
  (h1:G∈X.ex\/X.s₀.heap.objs.size<=G) (h2:∀x c,X.env.cells.lookup x=some c->c≠G) (U:∀p∈X.pn++pins,p.1≠G):Inv X pins σ H { s with heap:=h',toks:=t' }:=by
 have L:∀b u,H b=some u->b≠G:=λb u e z=>(by rw[z,R]at e;cases e);show I.step (g':=s.gens) (d':=s.drawn) (ch:=[G]) (λb O=>?_) (λb o _ _ J e _=>k b o (λz=>J (by simp[z])) e) (λb o _ _ J e _=>#[o.slots,k b o (λz=>J (by simp[z])) e]) (λ_ _ _ _ n=>n)
  (λb o J e=>#[o,k b o (λz=>J (by simp[z])) e]) (λ_ _ e=>e) (λ_ _ _ e=>e) (λb ps e=>#[([].toArray),by rw[e];simp]) (λm S=>?_) (λb u e=>?_) I.bare
 .have e:b=G:=(by simpa using O);subst e;show#[h1,N,h2,U]
 .let#[o,es,ep,Y,r]:=S;show#[o,es,ep,k _ o (G0 N) Y,r]
 .show(I.bC b u e).iV (λc v J q=>k c v ?_ q) (λ_ q=>q) λ_ _ q=>q;rcases J with z|z
  .rw[z];show L b u e
  .show L c _ z
theorem Inv.tok (I:Inv X pins σ H s) (t:Nat):Inv X pins σ H { s with toks:=t }:=I.un (h':=s.heap) (t':=t) Un.refl I.bC
theorem Inv.kept {t':Nat}(I:Inv X pins σ H s) (k:∀b u,s.heap.get? b=some u->h'.get? b=some u):Inv X pins σ H { s with heap:=h',toks:=t' }:=I.un (Un.kept k) (I.bC.kept k)
theorem Inv.laid {a:Addr}{o:HO}{t':Nat}(I:Inv X pins σ H s) (k:∀b u,s.heap.get? b=some u->h'.get? b=some u) (G:s.heap.objs.size<=a) (new:bT X.prog X.w (upd H a o) h' a o) :
  Inv X pins σ (upd H a o) { s with heap:=h',toks:=t' }:=I.un (Un.laid k G (I.bC.fresh G)) (I.bC.laid k G new)
theorem Inv.write {x e:Addr}{o:HO}{t':Nat}(I:Inv X pins σ H s) (J:Ht (H x)) (G:e=x\/H e=some (.own x)) (k:∀b u,b≠e->s.heap.get? b=some u->h'.get? b=some u) (L:∃u,h'.get? e=some u)
  (new:bT X.prog X.w (upd H x o) h' x o):Inv X pins σ (upd H x o) { s with heap:=h',toks:=t' }:=I.un (Un.write J G k L) (I.bC.write J G k L new)
theorem Inv.lV {G:List (Addr×Obj)}(I:Inv X pins σ H s) (h:∀p∈G,s.heap.get? p.1=some p.2/\H p.1=none/\p.1≠X.env.locals/\p.1∉X.fs/\∀v,p.2.data≠.cell v):Inv X G σ H s :=
 #[I.ok,I.os,I.bare,I.base,I.loc,I.cell,I.free,I.eX,λp J=>(List.mem_append.mp J).elim (λz=>I.pin p (Mh _ z)) (h p),I.bC,I.len]
theorem mP {N:List Str}(I:N.Nodup) {i j:Nat}{x:Str}(a:N[i]?=some x) (b:N[j]?=some x):i=j:=by
 let#[h1,J]:=List.getElem?_eq_some_iff.mp a;let#[h2,G]:=List.getElem?_eq_some_iff.mp b;show(List.getElem_inj I).mp (J.trans G.symm)
theorem pL {M:OZ}{A:Lq}{E:Value->By->Prop}{i:Nat}{x:Str}{v:V}{u:Value}{Q:Unit->By->Prop}(I:Inv X pins σ H s) (hN:X.N.Nodup) (hi:X.N[i]?=some x) (L:Loc X.env.scope x) (r:RelV v u)
  (h:∀s',Inv X pins (σ.set i (some v)) H s'->(∃a,Heap.SameBut a s.heap s'.heap/\(a=X.env.locals\/X.env.cells.lookup x=some a))->Q () s') (hf:X.fn x=true\/X.env.scope.names.lookup x=some .local:=by first|show .inl rfl|show .inr rfl|assumption):wpAny M A (storeName X.env x u) Q E s:=by
 let#[m,hn,hl]:=id I.loc;have a0:(X.env.scope.kind == .class||(X.env.scope.kind == .module&&X.env.locals != X.env.globals))=false:=(by rw[I.ok.kind];rfl);have as:i<σ.length:=(by rw[I.len];show(List.getElem?_eq_some_iff.mp hi).1);have zG:=I.zG;have ap:∀{a:Addr}{h':Heap},(∃o,s.heap.get? a=some o/\H a=none)->Heap.SameBut a s.heap h'->iX X.prog X.w H h':=λ{a h'} ha hs b ob e=>by
  let#[_,_,ac]:=ha;show(I.bC b ob e).iV (λc Y J q=>(hs.2 c ?_).trans q) (λ_ q=>q) λ_ _ q=>q;rintro rfl;rcases J with rfl|J
  .rw[ac]at e;cases e
  .rw[ac]at J;cases J
 rcases L with R|R
 .show wpAny_storeName_local R hn (λh' a3 hs=>?_) a0;let#[oL,_,_,a1,_]:=id hn;show h _ #[I.ok,I.os,I.bare,#[λb o e n S L=>?_,λb o e n S L=>?_,I.base.free,λb o e L=>?_,I.base.mf,I.base.ly,I.base.mS],#[_,a3,λj y v' G O e3=>?_],λy c e=>?_,I.free,I.eX,λp hp=>?_,ap #[oL,a1,I.free] hs,by simpa using I.len] #[_,hs,.inl rfl]
  .show(hs.2 b (LM (LH (Heap.lt_size e) I.ok.above))).trans (I.base.keep b o e n S L)
  .let#[sl,G]:=I.base.slot b o e n S L;show#[sl,(hs.2 b (LM (LH (Heap.lt_size e) I.ok.above))).trans G]
  .let#[o',G]:=I.base.there b o e L;show#[o',(hs.2 b (LM (LH (Heap.lt_size e) I.ok.above))).trans G]
  .by_cases U:j=i
   .subst U;rw[hi]at G;cases G;rw[LL as]at O;cases O;show#[u,r,.inl #[R,by simp]]
   .rw[LG (G0 U)]at O;let#[u',r',q]:=hl j y v' G O e3;show#[u',r',?_];rcases q with⟨k,e⟩|⟨k,c,e,z⟩
    .show .inl #[k,?_];have:y≠x:=λe=>U (mP hN G (e▸hi));simp[this,e]
    .show .inr #[k,c,e,z.sameBut hs (zG y c e)]
  .let#[Y,z]:=I.cell y c e;show#[Y,z.sameBut hs (zG y c e)]
  .let#[e,n,ne,nf,d]:=I.pin p hp;show#[(hs.2 p.1 ne).trans e,n,ne,nf,d]
 .have ab:X.fn x=true:=by
   rcases hf with z|z
   .show z
   .rw[z]at R;cases R
  let#[c,J]:=I.ok.has x (.inl R);let#[Y,z]:=I.cell x c J;show wpAny_storeName_cell I.ok.kind R J z (λh' aB hs=>?_);let#[oc,am,a2]:=id z;show h { s with heap:=h' } #[I.ok,I.os,I.bare,#[λb o e n S L=>?_,λb o e n S L=>?_,I.base.free,λb o e L=>?_,I.base.mf,I.base.ly,I.base.mS],#[m,hn.sameBut hs (G0 (zG x c J)),λj y v' G O e3=>?_],λy c' e=>?_,I.free,I.eX,λp hp=>?_,ap #[oc,am,I.eX x c J] hs,by simpa using I.len] #[c,hs,.inr J]
  .show(hs.2 b (LM (LH (Heap.lt_size e) (I.ok.Ft x c ab J)))).trans (I.base.keep b o e n S L)
  .let#[sl,G]:=I.base.slot b o e n S L;show#[sl,(hs.2 b (LM (LH (Heap.lt_size e) (I.ok.Ft x c ab J)))).trans G]
  .let#[o',G]:=I.base.there b o e L;show#[o',(hs.2 b (LM (LH (Heap.lt_size e) (I.ok.Ft x c ab J)))).trans G]
  .by_cases U:j=i
   .subst U;rw[hi]at G;cases G;rw[LL as]at O;cases O;show#[u,r,.inr #[.inl R,c,J,aB]]
   .rw[LG (G0 U)]at O;let#[u',r',q]:=hl j y v' G O e3;show#[u',r',?_];rcases q with q|⟨k,c',e,z'⟩
    .show .inl q
    .show .inr #[k,c',e,z'.sameBut hs ?_];rintro rfl;show U (mP hN G (I.ok.inj _ _ _ e J▸hi))
  .by_cases aT:c'=c
   .subst aT;show#[_,aB]
   .let#[w2,z2]:=I.cell y c' e;show#[w2,z2.sameBut hs aT]
  .let#[e,n,ne,nf,d]:=I.pin p hp;show#[(hs.2 p.1 ?_).trans e,n,ne,nf,d];intro q;rw[q,am]at e;have q':oc=p.2:=Option.some.inj e;show d Y (by rw[<-q'];show a2)
theorem jB {M:OZ}{A:Lq}{E:Value->By->Prop}{i:Nat}{x:Str}{v:V}{u:Value}{Q:Unit->By->Prop}(I:Inv X pins σ H s) (O:X.N.Nodup) (hi:X.N[i]?=some x) (G:Loc X.env.scope x) (r:RelV v u)
  (h:∀s',Inv X pins (σ.set i (some v)) H s'->Q () s') (L:X.fn x=true\/X.env.scope.names.lookup x=some .local:=by first|show .inl rfl|show .inr rfl|assumption):wpAny M A (storeName X.env x u) Q E s :=
 pL I O hi G r (λs' J _=>h s' J) L
theorem Inv.zP {s':By}{ch:List Addr}(I:Inv X pins σ H s) (N:s'.os=s.os) (u:Un (oK X.stack) ch H H' s.heap s'.heap) (G:iX X.prog X.w H' s'.heap) (J:NY s'.gens)
  (L:∀b∈ch,(b∈X.ex\/X.s₀.heap.objs.size<=b)/\b≠X.env.locals/\(∀x c,X.env.cells.lookup x=some c->c≠b)/\∀p∈X.pn++pins,p.1≠b):Inv X pins σ H' s':=by
 let#[h',g',d',t',o']:=s';have e:o'=s.os:=N;subst e;show I.call (g':=g') (t':=t') (d':=d') u G J L
end
noncomputable abbrev XK:=Value->Option Addr->Hp->Prop
noncomputable abbrev St:=List (Option V)
noncomputable abbrev VK:=V->Hp->Prop
noncomputable abbrev TE:=St->Hp->VK->Prop
noncomputable abbrev TT:=St->Hp->(Bool->Hp->Prop)->Prop
noncomputable abbrev TA:=St->Hp->(List V->Hp->Prop)->Prop
structure Ends where
 nx:St->Hp->Prop
 rt:VK
 bk:St->Hp->Prop:=λ_ _=>False
 ct:St->Hp->Prop:=λ_ _=>False
noncomputable abbrev TS:=Ends->St->Hp->Prop
noncomputable def EP (X:Cx) (pins:List (Addr×Obj)) (σ:St) (Q:VK) (u:Value) (s':By):Prop:=∃v H',Inv X pins σ H' s'/\RelV v u/\Q v H'
noncomputable def TP (X:Cx) (pins:List (Addr×Obj)) (σ:St) (Q:Bool->Hp->Prop) (b:Bool) (s':By):Prop:=∃H',Inv X pins σ H' s'/\Q b H'
noncomputable def AP (X:Cx) (pins:List (Addr×Obj)) (σ:St) (Q:List V->Hp->Prop) (us:List Value) (s':By):Prop:=∃vs H',Inv X pins σ H' s'/\Vals vs us/\Q vs H'
noncomputable def SP (X:Cx) (pins:List (Addr×Obj)) (D:Ends) (f:Flow) (s':By):Prop :=
 match f with
 |.next=>∃G H',Inv X pins G H' s'/\D.nx G H'
 |.brk=>∃G H',Inv X pins G H' s'/\D.bk G H'
 |.cont=>∃G H',Inv X pins G H' s'/\D.ct G H'
 |.ret u=>∃v G H',Inv X pins G H' s'/\RelV v u/\D.rt v H'
noncomputable def PE (X:Cx) (e:LC) (t:TE):Prop :=
 ∀(pins:List (Addr×Obj)) (s:By) (σ:St) (H:Hp) (Q:VK),Inv X pins σ H s->t σ H Q->wpAny (model X.prog X.w) X.A (eval e X.env) (EP X pins σ Q) X.xe s
noncomputable def PT (X:Cx) (e:LC) (t:TT):Prop :=
 ∀(pins:List (Addr×Obj)) (s:By) (σ:St) (H:Hp) (Q:Bool->Hp->Prop),Inv X pins σ H s->t σ H Q->wpAny (model X.prog X.w) X.A (isTrue e X.env (eval e X.env)) (TP X pins σ Q) X.xe s
noncomputable def PW (X:Cx) (e:LC) (t:TT):Prop :=
 ∀(G:Om Value) (pins:List (Addr×Obj)) (s:By) (σ:St) (H:Hp) (Q:Bool->Hp->Prop),Inv X pins σ H s->t σ H Q->wpAny (model X.prog X.w) X.A (isTrue e X.env G) (TP X pins σ Q) X.xe s
theorem PW.pt {X:Cx}{e:LC}{t:TT}(h:PW X e t):PT X e t:=h _
noncomputable def PA (X:Cx) (es:List LC) (t:TA):Prop :=
 ∀(pos:Nu) (pins:List (Addr×Obj)) (s:By) (σ:St) (H:Hp) (Q:List V->Hp->Prop),Inv X pins σ H s->t σ H Q->wpAny (model X.prog X.w) X.A (spliced (backTo pos (starEach es X.env))) (AP X pins σ Q) X.xe s
noncomputable def PS (X:Cx) (st:LI) (t:TS):Prop :=
 ∀(pins:List (Addr×Obj)) (s:By) (σ:St) (H:Hp) (D:Ends),Inv X pins σ H s->t D σ H->wpAny (model X.prog X.w) X.A (exec st X.env) (SP X pins D) X.xe s
noncomputable def vj (X:Cx) (st:List LI) (t:TS):Prop :=
 ∀(pins:List (Addr×Obj)) (s:By) (σ:St) (H:Hp) (D:Ends),Inv X pins σ H s->t D σ H->wpAny (model X.prog X.w) X.A (execs st X.env) (SP X pins D) X.xe s
theorem bS {α:Type}{t:Om α}{Q G:α->By->Prop}{M:OZ}{A:Lq}{E:Value->By->Prop}{s:By}(h:wpAny M A t Q E s) (I:∀a s,Q a s->G a s):wpAny M A t G E s:=L3 h I λ_ _ x=>x
section
variable {X:Cx}
inductive C5 (i:Nat) (σ:St) (H:Hp) (Q:VK):Prop
 |mk (v:_) (_:σ[i]?=some (some v)) (_:Q v H):C5 i σ H Q
noncomputable def tC (v:V):TE:=λ_ H Q=>Q v H
theorem E7 {i:Nat}{x:Str}{pos:Nu}(Y:X.N[i]?=some x) (hv:Ir X.env.scope x) (hd:(x==("__debug__" : Str))=false:=by decide) (U:(x==("__classdict__" : Str))=false:=by decide):PE X (.Name x pos) (C5 i):=by
 intro pins s σ H Q I h;let#[v,e,h]:=h;let#[m,hn,R]:=I.loc;let#[u,r,l]:=R i x v Y e hv;have J:EP X pins σ Q u s:=#[v,H,I,r,h];rcases l with⟨G,S⟩|⟨G,c,L,O⟩
 .show Ql (wpAny_loadName_local I.ok.kind G hn S J) hd
 .rcases G with G|G
  .show Ql (wpAny_loadName_cell I.ok.kind G L O J) hd
  .show Ql (wpAny_loadName_free I.ok.kind G L O J U) hd
theorem ak {i j pos}:PE X (.Constant (.int i) j pos) (tC (.int i)):=λ_ _ _ H _ I h=>wpAny_Constant_int #[.int i,H,I.tok _,#[0],h]
theorem k9 {b j pos}:PE X (.Constant (.bool b) j pos) (tC (.bl b)):=λ_ _ _ H _ I h=>Constant_bool #[.bl b,H,I,rfl,h]
theorem mZ {j pos}:PE X (.Constant .none j pos) (tC .non):=λ_ _ _ H _ I h=>Constant_none #[.non,H,I,rfl,h]
theorem aI {x j pos}:PE X (.Constant (.str x) j pos) (tC (.str x)):=λ_ _ _ H _ I h=>Calls.Constant_str #[.str x,H,I.tok _,#[0],h]
noncomputable def Gl (X:Cx) (x:Str):Prop:=X.env.kindOf x=some .globalImplicit
theorem gI {E:Value->By->Prop}{pins:List (Addr×Obj)}{s:By}{σ:St}{H:Hp}{x:Str}{u:Value}{pos:Nu}{Q:Value->By->Prop}(I:Inv X pins σ H s) (J:Gl X x) (G:X.mg x=some u) (h:Q u s)
  (hd:(x==("__debug__" : Str))=false:=by decide):wpAny (model X.prog X.w) X.A (eval (.Name x pos) X.env) Q E s :=
 Calls.Name_function_global I.ok.kind J (Calls.loadGlobal_global (by rw[I.ok.glob];show I.mod.glob.keeps I.bk) G h) hd
theorem hU {E:Value->By->Prop}{pins:List (Addr×Obj)}{s:By}{σ:St}{H:Hp}{x:Str}{u:Value}{pos:Nu}{Q:Value->By->Prop}(I:Inv X pins σ H s) (G:Gl X x) (J:X.mg x=none) (L:LK x=some u) (h:Q u s)
  (N:x ≠ "__name__" := by decide) (hd:(x==("__debug__" : Str))=false:=by decide):wpAny (model X.prog X.w) X.A (eval (.Name x pos) X.env) Q E s:=by
 let#[O,h1,h2]:=I.mod.blt;show Calls.Name_function_global I.ok.kind G (Calls.loadGlobal_builtin (by rw[I.ok.glob];show I.mod.glob.keeps I.bk) J (by rw[I.ok.blt];show h1.keeps I.bk) ((h2 x N).trans L) h) hd
theorem cB {x:Str}{v:V}{u:Value}{pos:Nu}(G:Gl X x) (J:X.mg x=some u) (r:RelV v u) (hd:(x==("__debug__" : Str))=false:=by decide):PE X (.Name x pos) (tC v):=
 λ_ _ _ H _ I h=>gI I G J #[v,H,I,r,h] hd
theorem fw {x:Str}{v:V}{u:Value}{pos:Nu}(G:Gl X x) (L:X.mg x=none) (J:LK x=some u) (r:RelV v u) (N:x ≠ "__name__" := by decide) (hd:(x==("__debug__" : Str))=false:=by decide):PE X (.Name x pos) (tC v):=
 λ_ _ _ H _ I h=>hU I G L J #[v,H,I,r,h] N hd
variable {a b:LC}{ta tb:TE}{pos:Nu}
noncomputable def PC (X:Cx) (G:QO) (a b:LC) (t:TE):Prop :=
 ∀(pins:List (Addr×Obj)) (s:By) (σ:St) (H:Hp) (Q:VK),Inv X pins σ H s->t σ H Q ->
  wpAny (model X.prog X.w) X.A (eval a X.env) (λv I=>wpAny (model X.prog X.w) X.A (eval b X.env) (λu J=>wpAny (model X.prog X.w) X.A (Ms G v u) (EP X pins σ Q) X.xe J) X.xe I) X.xe s
inductive Kv (t:TE) (Q:Bool->Hp->Prop) (x:V) (H1:Hp):Prop
 |mk (c:_) (_:x=.bl c) (_:Q c H1):Kv t Q x H1
noncomputable def tB (t:TE):TT:=λσ H Q=>t σ H λx H1=>Kv t Q x H1
theorem wy {G:QO}{t:TE}(h:PC X G a b t) (h1:Nv G b=false:=by first|show nobehind _ av av|rfl):PE X (.Compare a [G] [b] pos) t:=λpins s σ H Q I J=>wpAny_Compare1 (h pins s σ H Q I J) h1
theorem gb {G:QO}{t:TE}(h:PC X G a b t) (h1:Nv G b=false:=by first|show nobehind _ av av|rfl):PT X (.Compare a [G] [b] pos) (tB t):=by
 intro pins s σ H Q I R;show O8 (bS (h pins s σ H _ I R) λv S h1=>bS h1 λu s2 h2=>bS h2 λc s3 J=>?_) h1;let#[x,H1,O,N,L]:=J;let#[d,rfl,q]:=L;cases N;show Ml #[H1,O,q]
theorem fK {e:LC}{t:TE}(h:PE X e t) (J:∀G,isTrue e X.env G=(do let v <-G;OG e.pos;NR [v] (truthy v)):=by intro _;rfl):PT X e (tB t):=by
 intro pins s σ H Q I S;show isTrue_plain (bS (h pins s σ H _ I S) λv U N=>?_) (J _);let#[x,H1,R,O,L]:=N;let#[d,rfl,q]:=L;cases O;show Ml #[H1,R,q]
variable {tA tB':TT}{rest:List LC}
noncomputable def Jz (t u:TT):TT:=λσ H Q=>t σ H λc H1=>if c=true then u σ H1 Q else Q false H1
noncomputable def KR (t u:TT):TT:=λσ H Q=>t σ H λc H1=>if c=true then Q true H1 else u σ H1 Q
noncomputable def Jl (t:TT):TT:=λσ H Q=>t σ H λc H1=>Q (!c) H1
theorem fO (G:PT X a tA):PW X (.BoolOp .And [a] pos) tA:=by
 intro L pins s σ H Q I h;show isTrue_and (bS (G pins s σ H Q I h) λc J e=>?_);cases c with
 |true=>show isTrue_and_nil e
 |false=>show e
theorem jn (G:PT X a tA):PW X (.BoolOp .Or [a] pos) tA:=by
 intro L pins s σ H Q I h;show isTrue_or (bS (G pins s σ H Q I h) λc J e=>?_);cases c with
 |false=>show isTrue_or_nil e
 |true=>show e
theorem gM (R:PT X a tA) (L:PW X (.BoolOp .And (b::rest) pos) tB'):PW X (.BoolOp .And (a::b::rest) pos) (Jz tA tB'):=by
 intro O pins s σ H Q I h;show isTrue_and (bS (R pins s σ H _ I h) λc N S=>?_);let#[H1,J,G]:=S;cases c with
 |true=>show L O pins N σ H1 Q J G
 |false=>show#[H1,J,G]
theorem j7 (S:PT X a tA) (N:PW X (.BoolOp .Or (b::rest) pos) tB'):PW X (.BoolOp .Or (a::b::rest) pos) (KR tA tB'):=by
 intro R pins s σ H Q I h;show isTrue_or (bS (S pins s σ H _ I h) λc O L=>?_);let#[H1,J,G]:=L;cases c with
 |true=>show#[H1,J,G]
 |false=>show N R pins O σ H1 Q J G
theorem rH (G:PT X a tA):PT X (.UnaryOp .Not a pos) (Jl tA):=by
 intro pins s σ H Q I h;show isTrue_not (G pins s σ H (λc H1=>Q (!c) H1) I h)
inductive zw (ta tb:TE) (σ:St) (Q:VK) (x:V) (H1:Hp):Prop
 |mk (c:_) (_:x=.bl c) (_:if c=true then tb σ H1 Q else Q (.bl false) H1):zw ta tb σ Q x H1
noncomputable def HJ (ta tb:TE):TE:=λσ H Q=>ta σ H λx H1=>zw ta tb σ Q x H1
inductive D0 (ta tb:TE) (σ:St) (Q:VK) (x:V) (H1:Hp):Prop
 |mk (c:_) (_:x=.bl c) (_:if c=true then Q (.bl true) H1 else tb σ H1 Q):D0 ta tb σ Q x H1
noncomputable def JY (ta tb:TE):TE:=λσ H Q=>ta σ H λx H1=>D0 ta tb σ Q x H1
inductive AQ (ta:TE) (Q:VK) (x:V) (H1:Hp):Prop
 |mk (c:_) (_:x=.bl c) (_:Q (.bl (!c)) H1):AQ ta Q x H1
noncomputable def IA (ta:TE):TE:=λσ H Q=>ta σ H λx H1=>AQ ta Q x H1
theorem vO {op} {t:TE}(h:PE X a t):PE X (.BoolOp op [a] pos) t:=λpins s σ H Q I G=>BoolOp_one (h pins s σ H Q I G)
theorem z7 (S:PE X a ta) (L:PE X (.BoolOp .And (b::rest) pos) tb):PE X (.BoolOp .And (a::b::rest) pos) (HJ ta tb):=by
 intro pins s σ H Q I h;show BoolOp_and (bS (S pins s σ H _ I h) λv N R=>?_);let#[x,H1,J,O,G]:=R;let#[c,rfl,G]:=G;cases O;show Ml ?_;cases c with
 |true=>show L pins N σ H1 Q J G
 |false=>show#[.bl false,H1,J,rfl,G]
theorem Hr (S:PE X a ta) (L:PE X (.BoolOp .Or (b::rest) pos) tb):PE X (.BoolOp .Or (a::b::rest) pos) (JY ta tb):=by
 intro pins s σ H Q I h;show BoolOp_or (bS (S pins s σ H _ I h) λv N R=>?_);let#[x,H1,J,O,G]:=R;let#[c,rfl,G]:=G;cases O;show Ml ?_;cases c with
 |false=>show L pins N σ H1 Q J G
 |true=>show#[.bl true,H1,J,rfl,G]
theorem Fd (N:PE X a ta):PE X (.UnaryOp .Not a pos) (IA ta):=by
 intro pins s σ H Q I h;show UnaryOp_ (bS (N pins s σ H _ I h) λv R J=>?_);let#[x,H1,O,L,G]:=J;let#[c,rfl,G]:=G;cases L;show not_of (Ml #[.bl (!c),H1,O,rfl,G])
end
noncomputable def bA (K:PySem.W.Frag) (H:Hp) (a:Addr) (xs:List V):Prop :=
 Rd H a (.lst xs) \/
  ∃(o:Obj) (its:Array Value) (n:Nat),K.lookup a=some o/\o.cls=.type "list" /\ o.dict=none/\o.data=.seq its n/\its.size<=sizeLine/\Vals xs its.toList
noncomputable def cy (K:PySem.W.Frag) (H:Hp) (a:Addr) (xs:List V):Prop :=
 Rd H a (.tup xs) \/
  ∃(o:Obj) (its:Array Value) (n:Nat),K.lookup a=some o/\o.cls=.type "tuple" /\ o.data=.seq its n/\its.size<=sizeLine/\Vals xs its.toList
noncomputable def JX:Value->Option V
 |.none=>some .non
 |.bool b=>some (.bl b)
 |.int i _=>some (.int i)
 |.str x _=>some (.str x)
 |.bytes b _=>some (.byt b)
 |.float b _=>some (.flt b)
 |.ref a=>some (.ref a)
 |.type n=>some (.ty n)
 |_=>none
theorem RelV.abs {x:V}{u:Value}(r:RelV x u):JX u=some x:=by
 cases x with
 |non=>cases r;rfl
 |bl _=>cases r;rfl
 |int _=>let#[t,rfl]:=r;rfl
 |str _=>let#[t,rfl]:=r;rfl
 |byt _=>let#[t,rfl]:=r;rfl
 |flt _=>let#[t,rfl]:=r;rfl
 |ref _=>cases r;rfl
 |ty _=>cases r;rfl
theorem RelV.inj {x y:V}{u:Value}(r:RelV x u) (q:RelV y u):x=y:=Option.some.inj (r.abs.symm.trans q.abs)
theorem Vals.inj:∀{xs ys:List V}{us:List Value},Vals xs us->Vals ys us->xs=ys
 |_,_,_,.nil,.nil=>rfl
 |_,_,_,.cons r t,.cons G t'=>by rw[r.inj G,Vals.inj t t']
section
variable {X:Cx}{pins:List (Addr×Obj)}{σ:St}{H:Hp}{s:By}{a:Addr}{xs ys:List V}
theorem bA.of {K:PySem.W.Frag}(h:H a=some (.lst xs)):bA K H a xs:=.inl (.inl h)
theorem cy.of {K:PySem.W.Frag}(h:H a=some (.tup xs)):cy K H a xs:=.inl (.inl h)
theorem Inv.list (I:Inv X pins σ H s) (h:bA X.K H a xs):∃its:List Value,Vals xs its/\PlainL s.heap a its.toArray/\xs.length<=sizeLine:=by
 rcases h with h|⟨o,its,n,G,J,hd,hs,L,r⟩
 .let#[z,its,n,r,e]:=h.ok I.bC;show#[its,r,#[_,n,e,1,rfl],z]
 .show#[its.toList,r,#[o,n,I.jk a o G,J,hd,by simpa using hs],?_];have e:=r.length;simp only[Mj]at e;omega
theorem Inv.tuple (I:Inv X pins σ H s) (h:cy X.K H a xs):∃its:List Value,Vals xs its/\IsTup s.heap a its.toArray/\xs.length<=sizeLine:=by
 rcases h with h|⟨o,its,n,G,J,hs,L,r⟩
 .let#[z,its,r,p]:=h.ok I.bC;show#[its,r,p,z]
 .show#[its.toList,r,#[o,I.jk a o G,J,n,by simpa using hs],?_];have e:=r.length;simp only[Mj]at e;omega
theorem Inv.jy (I:Inv X pins σ H s) (h:bA X.K H a xs) (h':bA X.K H a ys):xs=ys:=by
 let#[its,r,#[o,n,e,_,_,d],_]:=I.list h;let#[its',L,#[o',N,G,_,_,d'],_]:=I.list h';rw[e]at G;cases G;rw[d]at d';injection d' with J _;have:its=its':=(by simpa using congrArg toList J);subst this;show r.inj L
theorem Inv.xT (I:Inv X pins σ H s) (h:cy X.K H a xs) (h':cy X.K H a ys):xs=ys:=by
 let#[its,r,#[o,e,_,n,d],_]:=I.tuple h;let#[its',L,#[o',G,_,N,d'],_]:=I.tuple h';rw[e]at G;cases G;rw[d]at d';injection d' with J _;have:its=its':=(by simpa using congrArg toList J);subst this;show r.inj L
end
noncomputable abbrev Cx.iU (X:Cx) (E:Value->By->Prop):Cx:={ X with xe:=E }
noncomputable abbrev Cx.si (X:Cx):Cx:=X.iU λ_ _=>False
theorem Cx.Ok.iU {X:Cx}(ok:X.Ok) (E:Value->By->Prop):(X.iU E).Ok :=
 #[ok.mod,ok.kind,ok.glob,ok.blt,ok.above,ok.inj,ok.has,ok.Ft,ok.hd,ok.frames,ok.Gi,ok.IS,ok.bs,ok.zk,ok.wu,ok.uL,ok.jj,ok.CO]
theorem Cx.Ok.cI {X:Cx}{E:Value->By->Prop}(ok:(X.iU E).Ok):X.Ok :=
 #[ok.mod,ok.kind,ok.glob,ok.blt,ok.above,ok.inj,ok.has,ok.Ft,ok.hd,ok.frames,ok.Gi,ok.IS,ok.bs,ok.zk,ok.wu,ok.uL,ok.jj,ok.CO]
section
variable {X:Cx}{pins:List (Addr×Obj)}{σ:St}{H:Hp}{s:By}{E:Value->By->Prop}
theorem Inv.iU (I:Inv X pins σ H s) (E:Value->By->Prop):Inv (X.iU E) pins σ H s:=#[I.ok.iU E,I.os,I.bare,I.base,I.loc,I.cell,I.free,I.eX,I.pin,I.bC,I.len]
theorem Inv.cI (I:Inv (X.iU E) pins σ H s):Inv X pins σ H s:=#[I.ok.cI,I.os,I.bare,I.base,I.loc,I.cell,I.free,I.eX,I.pin,I.bC,I.len]
theorem SP.cI {D:Ends}{f:Flow}{s':By}(h:SP (X.iU E) pins D f s'):SP X pins D f s':=by
 cases f with
 |next=>let#[G,H',I,q]:=h;show#[G,H',I.cI,q]
 |brk=>let#[G,H',I,q]:=h;show#[G,H',I.cI,q]
 |cont=>let#[G,H',I,q]:=h;show#[G,H',I.cI,q]
 |ret u=>let#[v,G,H',I,r,q]:=h;show#[v,G,H',I.cI,r,q]
theorem vj.si {st:List LI}{t:TS}(h:vj X.si st t):vj X st t:=λpins s σ H D I G =>
 L3 (h pins s σ H D (I.iU _) G) (λ_ _ q=>q.cI) λ_ _ z=>Mc z
end
section
variable {X:Cx}{st:LI}{rest:List LI}{t u:TS}{e:LC}{te:TE}{pos:Nu}
noncomputable def uf:TS:=λD σ H=>D.nx σ H
noncomputable def jG (t u:TS):TS:=λD σ H=>t { D with nx:=u D } σ H
theorem aG:vj X [] uf:=λ_ _ σ H _ I h=>MJ #[σ,H,I,h]
theorem ah (h1:PS X st t) (h2:vj X rest u):vj X (st::rest) (jG t u):=by
 intro pins s σ H D I h;show NN (bS (h1 pins s σ H { D with nx:=u D } I h) λf L q=>?_);cases f with
 |next =>
  let#[G,H',J,q]:=q;show h2 pins L G H' D J q
 |ret v=>show q
 |brk=>show q
 |cont=>show q
theorem aj (h1:PS X st t):vj X [st] t:=by
 intro pins s σ H D I h;show NN (bS (h1 pins s σ H D I h) λf G q=>?_);cases f with
 |next=>show MJ q
 |ret v=>show q
 |brk=>show q
 |cont=>show q
theorem Inv.quiet {pins:List (Addr×Obj)}{σ:St}{H:Hp}{s:By}(I:Inv X pins σ H s):interactive X.env=false:=by simp[interactive,I.ok.kind]
noncomputable def Ho (te:TE):TS:=λD σ H=>te σ H λ_ H1=>D.nx σ H1
theorem aM (G:PE X e te) (hs:Ov e none pos.line X.env=pure false:=by rfl):PS X (.Expr e pos) (Ho te):=by
 intro pins s σ H D I h;show wpAny_Expr_any (bS (G pins s σ H _ I h) λv R N=>by let#[x,H1,L,O,J]:=N;show#[σ,H1,L,J]) I.quiet hs
noncomputable def EV (te:TE):TS:=λD σ H=>te σ H D.rt
theorem aF (G:PE X e te):PS X (.Return (some e) pos) (EV te):=by
 intro pins s σ H D I h;show PM (bS (G pins s σ H _ I h) λv R N=>by let#[x,H1,J,O,L]:=N;show#[x,σ,H1,J,O,L])
noncomputable def Ik:TS:=λD _ H=>D.rt .non H
theorem r6:PS X (.Return none pos) Ik:=λ_ _ σ H _ I h=>wpAny_Return_none #[.non,σ,H,I,rfl,h]
noncomputable def y6 (c:TT) (t u:TS):TS:=λD σ H=>c σ H λb H1=>if b=true then t D σ H1 else u D σ H1
theorem aV {c:LC}{a b:List LI}{tc:TT}(O:PT X c tc) (R:vj X a t) (N:vj X b u):PS X (.If c a b pos) (y6 tc t u):=by
 intro pins s σ H D I h;show wpAny_If (bS (O pins s σ H _ I h) λd J S=>?_);let#[H1,L,G]:=S;cases d with
 |true=>show R pins J σ H1 D L G
 |false=>show N pins J σ H1 D L G
noncomputable def zj:TS:=λ_ _ _=>False
theorem dX:PS X st zj:=λ_ _ _ _ _ _ h=>h.elim
theorem cw {sts:List LI}:vj X sts zj:=λ_ _ _ _ _ _ h=>h.elim
end
noncomputable abbrev TG:=V->St->Hp->(St->Hp->Prop)->Prop
noncomputable abbrev Gm:=List V->St->Hp->(St->Hp->Prop)->Prop
noncomputable def PG (X:Cx) (I:LC) (t:TG):Prop :=
 ∀(pins:List (Addr×Obj)) (s:By) (σ:St) (H:Hp) (v:V) (u:Value) (Q:St->Hp->Prop),Inv X pins σ H s->RelV v u->t v σ H Q ->
  wpAny (model X.prog X.w) X.A (Py I X.env u) (λ_ s'=>∃G H',Inv X pins G H' s'/\Q G H') X.xe s
noncomputable def Jd (X:Cx) (ts:List LC) (t:Gm):Prop :=
 ∀(pins:List (Addr×Obj)) (s:By) (σ:St) (H:Hp) (vs:List V) (us:List Value) (Q:St->Hp->Prop),Inv X pins σ H s->Vals vs us->t vs σ H Q ->
  wpAny (model X.prog X.w) X.A (assignInOrder ((N4 ts X.env).map (·.2)) us) (λ_ s'=>∃G H',Inv X pins G H' s'/\Q G H') X.xe s
noncomputable abbrev yZ:=V->V->V->Hp->(Hp->Prop)->Prop
noncomputable def CU (X:Cx) (t:yZ):Prop :=
 ∀(pins:List (Addr×Obj)) (s:By) (σ:St) (H:Hp) (o i v:V) (ov G u:Value) (Q:Hp->Prop),Inv X pins σ H s->RelV o ov->RelV i G->RelV v u->t o i v H Q ->
  wpAny (model X.prog X.w) X.A (QI ov G u) (λ_ s'=>∃H',Inv X pins σ H' s'/\Q H') X.xe s
noncomputable abbrev IM:=V->V->Hp->VK->Prop
noncomputable def JF (X:Cx) (G:PN) (t:IM):Prop :=
 ∀(pins:List (Addr×Obj)) (s:By) (σ:St) (H:Hp) (x y:V) (v u:Value) (Q:VK),Inv X pins σ H s->RelV x v->RelV y u->t x y H Q ->
  wpAny (model X.prog X.w) X.A (inplaceOp G v u) (EP X pins σ Q) X.xe s
section
variable {X:Cx}{pos:Nu}
noncomputable def sI (i:Nat):TG:=λv σ H Q=>Q (σ.set i (some v)) H
theorem aY {i:Nat}{x:Str}(O:X.N.Nodup) (hi:X.N[i]?=some x) (G:Loc X.env.scope x) (L:X.fn x=true\/X.env.scope.names.lookup x=some .local:=by first|show .inl rfl|show .inr rfl|assumption):PG X (.Name x pos) (sI i):=by
 intro pins s σ H v u Q I r h;show Oe (jB I O hi G r (λs' J=>#[_,H,J,h]) L)
noncomputable def Kc:Gm:=λvs σ H Q=>vs=[]/\Q σ H
inductive AG (t:TG) (u:Gm) (vs:List V) (σ:St) (H:Hp) (Q:St->Hp->Prop):Prop
 |mk (v:_) (r:_) (_:vs=v::r) (_:t v σ H λσ' H'=>u r σ' H' Q):AG t u vs σ H Q
theorem cV:Jd X [] Kc:=by
 intro pins s σ H vs us Q I r h;let#[e,h]:=h;subst e;cases r;show assignInOrder_nil #[σ,H,I,h]
theorem bf {e:LC}{es:List LC}{t:TG}{u:Gm}(h1:PG X e t) (h2:Jd X es u)
  (hs:(N4 (e::es) X.env).map (·.2)=Py e X.env::(N4 es X.env).map (·.2):=by rfl):Jd X (e::es) (AG t u):=by
 intro pins s σ H vs us Q I r h;let#[v,U,N,h]:=h;subst N;cases r with
 |cons r G =>
  rw[hs];show assignInOrder_cons (bS (h1 pins s σ H _ _ _ I r h) λ_ L R=>?_);let#[O,H1,S,J]:=R;show h2 pins L O H1 _ _ Q S G J
inductive IC (K:PySem.W.Frag) (n:Nat) (t:Gm) (v:V) (σ:St) (H:Hp) (Q:St->Hp->Prop):Prop
 |mk (a:_) (xs:_) (_:v=.ref a) (_:cy K H a xs) (_:xs.length=n) (_:t xs σ H Q):IC K n t v σ H Q
theorem dE {es:List LC}{k:Nat}{t:Gm}{n:Nat}(hc:X.calm=true) (h:Jd X es t)
  (U:(N4 es X.env).length=n:=by rfl) (R:(N4 es X.env).findIdx? (·.1)=none:=by rfl):PG X (.Tuple es k pos) (IC X.K n t):=by
 intro pins s σ H v u Q I r G;let#[a,xs,S,O,L,G]:=G;subst S;cases r;let#[its,J,ht,hz]:=I.tuple O;show assign_Tuple_tuple (I.ok.hd hc) ht (by simp[U, <-L,J.length]) R λh' N=>?_;have Y:Inv X pins σ H { s with heap:=h' }:=I.kept (t':=s.toks) λb o e=>N b o (LM (Heap.lt_size e)) e;show h pins _ σ H xs _ Q Y (by simpa using J) G
noncomputable def Jn (to G:TE) (t:yZ):TG:=λv σ H Q=>to σ H λo H1=>G σ H1 λi H2=>t o i v H2 λH3=>Q σ H3
theorem eh {o i:LC}{to J:TE}{t:yZ}(ho:PE X o to) (hi:PE X i J) (hs:CU X t)
  (ha:∀v,Py (.Subscript o i pos) X.env v=(do
   let ov <-NR [v] (eval o X.env)
   let G <-NR [v,ov] (eval i X.env)
   OG pos
   NR [v,ov,G] (QI ov G v)
   release [v,ov,G] []):=by intro _;rfl):PG X (.Subscript o i pos) (Jn to J t):=by
 intro pins s σ H v u Q I r h;rw[ha];show DD (Mz (bS (ho pins s σ H _ I h) λov O U=>?_));let#[x,H1,I1,Y,L]:=U;show DD (Mz (bS (hi pins O σ H1 _ I1 L) λG s2 S=>?_));let#[y,H2,I2,N,q2]:=S;show DD (Oo (DD (Mz (bS (hs pins s2 σ H2 x y v ov G u _ I2 Y N r q2) λ_ s3 R=>?_))));let#[H3,I3,q3]:=R;show wpAny_release #[σ,H3,I3,q3]
noncomputable def Bz (te:TE) (g:TG):TS:=λD σ H=>te σ H λx H1=>g x σ H1 D.nx
theorem cN {tg e:LC}{te:TE}{g:TG}(G:PE X e te) (L:PG X tg g) (hs:swapsWithSole [tg] e pos.line X.env=pure false:=by rfl) (S:swappedStores [tg] e X.env=pure none:=by rfl)
  (h1:(N4 [tg] X.env).map (·.2)=[Py tg X.env]:=by rfl):PS X (.Assign [tg] e pos) (Bz te g):=by
 intro pins s σ H D I h;show wpAny_Assign_stores (bS (G pins s σ H _ I h) λv R J=>?_) hs S;let#[x,H1,U,O,N]:=J;rw[h1];show bS (L pins R σ H1 x v _ U O N) λ_ s2 q=>q
theorem aO {i:Nat}{x:Str}{e:LC}{te:TE}{pos':Nu}(Y:X.N.Nodup) (hi:X.N[i]?=some x) (J:Loc X.env.scope x) (G:PE X e te) (hs:Ov e (some (.Name x pos')) pos.line X.env=pure false:=by rfl) (R:X.fn x=true\/X.env.scope.names.lookup x=some .local:=by first|show .inl rfl|show .inr rfl|assumption) :
  PS X (.Assign [.Name x pos'] e pos) (Bz te (sI i)):=by
 intro pins s σ H D I h;show wpAny_Assign_Name (bS (G pins s σ H _ I h) λv s1 U=>?_) hs;let#[y,H1,S,O,L]:=U;show jB S Y hi J O (λs2 I2=>#[_,H1,I2,L]) R
noncomputable def Ie (to N te:TE) (G:V->V->Hp->VK->Prop) (J:IM) (O:yZ):TS:=λD σ H=>to σ H λo H1=>N σ H1 λi H2=>G o i H2 λx H3=>te σ H3 λy H4=>J x y H4 λz L=>O o i z L λI=>D.nx σ I
noncomputable def GY (X:Cx) (t:V->V->Hp->VK->Prop):Prop :=
 ∀(pins:List (Addr×Obj)) (s:By) (σ:St) (H:Hp) (o i:V) (ov G:Value) (Q:VK),Inv X pins σ H s->RelV o ov->RelV i G->t o i H Q ->
  wpAny (model X.prog X.w) X.A (NS ov G) (EP X pins σ Q) X.xe s
theorem xm {o i e:LC}{to R te:TE}{L:V->V->Hp->VK->Prop}{O:IM}{ab:yZ}{J:PN}{tpos:Nu}(ho:PE X o to) (hi:PE X i R) (hg:GY X L) (he:PE X e te) (hp:JF X J O) (hs:CU X ab)
  (ha:∀ov G new,augStore i ov G new=(do NR [new,ov,G] (QI ov G new);release [new,ov,G] [];pure .next):=by intros;rfl):PS X (.AugAssign (.Subscript o i tpos) J e pos) (Ie to R te L O ab):=by
 intro pins s σ H D I h;show wpAny_AugAssign_SubscriptAny (bS (ho pins s σ H _ I h) λov s1 aT=>?_) ha;let#[U,H1,I1,Y,q1]:=aT;show bS (hi pins s1 σ H1 _ I1 q1) λG s2 ap=>?_;let#[S,H2,I2,N,q2]:=ap;show bS (hg pins s2 σ H2 U S ov G _ I2 Y N q2) λa0 s3 ac=>?_;let#[x3,H3,I3,r3,q3]:=ac;show bS (he pins s3 σ H3 _ I3 q3) λv s4 aB=>?_;let#[x4,H4,I4,r4,q4]:=aB;show bS (hp pins s4 σ H4 x3 x4 a0 v _ I4 r3 r4 q4) λnew s5 am=>?_;let#[x5,H5,I5,r5,q5]:=am;show bS (hs pins s5 σ H5 U S x5 ov G new _ I5 Y N r5 q5) λ_ s6 as=>by let#[H6,I6,q6]:=as;show#[σ,H6,I6,q6]
noncomputable def Kr (f:Int->Int->Int):IM:=λx y H Q=>∃i j,x=.int i/\y=.int j/\Q (.int (f i j)) H
theorem Fm:JF X .Add (Kr λi j=>i+j):=by
 intro pins s σ H x y v u Q I J G h;let#[i,j,L,N,q]:=h;subst L;subst N;let#[t,rfl]:=J;let#[t',rfl]:=G;show Qf #[.int _,H,I.tok _,#[0],q]
theorem E8:JF X .Sub (Kr λi j=>i-j):=by
 intro pins s σ H x y v u Q I J G h;let#[i,j,L,N,q]:=h;subst L;subst N;let#[t,rfl]:=J;let#[t',rfl]:=G;show isub_int #[.int _,H,I.tok _,#[0],q]
end
section
variable {X:Cx}{pos:Nu}
noncomputable def Ff (c:TT) (tb:TS):TS:=λD σ H=>∃W:Nat->St->Hp->Prop,(∃m,W m σ H)/\∀m σ H,W m σ H ->
 c σ H λb H1=>if b=true then ∃N:St->Hp->Prop,(∀G H',N G H'->∃I,I<m/\W I G H')/\tb { D with nx:=N,ct:=N,bk:=D.nx } σ H1 else D.nx σ H1
theorem ud {c:LC}{body:List LI}{tc:TT}{tb:TS}(hp:PassesOwn (model X.prog X.w) X.A X.env X.xe) (hc:PT X c tc) (hb:vj X body tb):PS X (.While c body [] pos) (Ff tc tb):=by
 intro pins s σ H D I h;let#[W,#[m0,w0],am]:=h;show wpAny_While (codeAny_whileLoop (λn s'=>∃ab H',Inv X pins ab H' s'/\W n ab H') ?_ m0 #[σ,H,I,w0]);rintro n s1 ⟨J,H1,I1,w1⟩;show ML hp (bS (hc pins s1 J H1 _ I1 (am n J H1 w1)) λb s2 ac=>?_);let#[H2,I2,O]:=ac;cases b with
 |true =>
  let#[N,hN,O]:=O;rw[Q0 rfl];show ML hp (bS (hb pins s2 J H2 _ I2 O) λf s3 L=>?_);cases f with
  |next =>
   let#[G,H3,Y,U]:=L;let#[m',S,R]:=hN G H3 U;show#[m',S,G,H3,Y,R]
  |cont =>
   let#[G,H3,Y,U]:=L;let#[m',S,R]:=hN G H3 U;show#[m',S,G,H3,Y,R]
  |brk=>show L
  |ret v=>show L
 |false =>
  rw[QZ Lf];show MJ #[J,H2,I2,O]
end
structure It where
 go:Nat->Hp->Prop
 DJ:Nat->Hp->V->Hp->Prop
 stop:Nat->Hp->Prop
noncomputable def gy (X:Cx) (pins:List (Addr×Obj)) (H:Hp) (b:Addr):Prop :=
 H b=none/\b≠X.env.locals/\b∉X.fs/\(b∈X.ex\/X.s₀.heap.objs.size<=b)/\(∀x c,X.env.cells.lookup x=some c->c≠b)/\∀p∈X.pn++pins,p.1≠b
theorem Inv.j5 {X:Cx}{pins:List (Addr×Obj)}{σ:St}{H H':Hp}{s:By}{b:Addr}(I:Inv X pins σ H s) (G:s.heap.objs.size<=b) (L:H' b=none):gy X pins H' b:=by
 show#[L,PQ (LH I.lt G),I.Hy G,.inr (Ly I.sz G),λx c e z=>?_,λp J z=>?_]
 .let#[v,q]:=I.cell x c e;show absurd (LH q.lt (by rw[z];show G)) (Nk _)
 .show absurd (LH (Heap.lt_size (I.pin p J).1) (by rw[z];show G)) (Nk _)
structure Turn (P:IF) (w:Ll) (K:PySem.W.Frag) (tg:LC) (J:It) (fp:List Addr) (it:Addr) (tn:Nat->Heap->Prop):Prop where
 mem:it∈fp
 obj:∀i h,tn i h->∀b∈fp,∃o,h.get? b=some o/\∀v,o.data≠.cell v
 keep:∀i h h',tn i h->(∀b∈fp,∀o,h.get? b=some o->h'.get? b=some o)->tn i h'
 item:∀(X:Cx),X.prog=P->X.w=w->X.K=K->X.calm=true->∀(i:Nat) (pins:List (Addr×Obj)) (s:By) (σ:St) (H:Hp) (E:Value->By->Prop),Inv X pins σ H s->(∀b∈fp,gy X pins H b)->tn i s.heap->J.go i H ->
  wpAny (model P w) X.A (pyNext (.ref it)) (λr s1=>∃u,r=some u /\
   wpAny (model P w) X.A (O0 tg (.ref it) u) (λ_ s2=>∃x H',Inv X pins σ H' s2/\RelV x u/\J.DJ i H x H'/\tn (i+1) s2.heap/\∀b∈fp,H' b=none) E s1) E s
 done:∀(X:Cx),X.prog=P->X.w=w->X.K=K->X.calm=true->∀(i:Nat) (pins:List (Addr×Obj)) (s:By) (σ:St) (H:Hp) (E:Value->By->Prop),Inv X pins σ H s->(∀b∈fp,gy X pins H b)->tn i s.heap->J.stop i H ->
  wpAny (model P w) X.A (pyNext (.ref it)) (λr s1=>r=none/\Inv X pins σ H s1) E s
 self:∀(A:Lq) (i:Nat) (s:By) (Q:Value->By->Prop) (E:Value->By->Prop),tn i s.heap->Q (.ref it) s->wpAny (model P w) A (pyIter (.ref it)) Q E s
noncomputable abbrev TI:=St->Hp->(It->Hp->Prop)->Prop
noncomputable def Kq (X:Cx) (pins:List (Addr×Obj)) (σ:St) (tg:LC) (R:It->Hp->Prop) (L:Value) (s2:By):Prop :=
 ∃(G:Addr) (fp:List Addr) (I:Nat->Heap->Prop) (J:It) (H':Hp),L=.ref G/\Inv X pins σ H' s2/\Turn X.prog X.w X.K tg J fp G I/\I 0 s2.heap/\(∀b∈fp,gy X pins H' b)/\R J H'
noncomputable def PI (X:Cx) (tg iter:LC) (wi:TI):Prop :=
 ∀(pins:List (Addr×Obj)) (s:By) (σ:St) (H:Hp) (R:It->Hp->Prop),Inv X pins σ H s->wi σ H R ->
  wpAny (model X.prog X.w) X.A (eval iter X.env) (λv G=>wpAny (model X.prog X.w) X.A (pyIter v) (Kq X pins σ tg R) X.xe G) X.xe s
theorem ph {M:OZ}{A:Lq}{E:Value->By->Prop}{s:By}{tg:LC}{I:Addr}{u:Value}{o:Obj}{n:String}{vs:Array Value}{Q:Unit->By->Prop}(J:s.heap.get? I=some o) (N:o.cls=.type n) (hd:o.data=.fields vs)
  (L:["enumerate","zip","dict_itemiterator","dict_reverseitemiterator","odict_iterator","itertools.zip_longest","itertools.pairwise"].contains n=false) (G:Q () s):wpAny M A (O0 tg (.ref I) u) Q E s:=by
 unfold O0;cases tg<;>first
  |show Lg G
  |(cases u<;>first
    |show Lg G
    |(show DD (wpAny_load J ?_)
      rw[N,hd];change wpAny M A (if (["enumerate","zip","dict_itemiterator","dict_reverseitemiterator","odict_iterator","itertools.zip_longest","itertools.pairwise"].contains n&&vs[0]?==some (rawInt _))=true then _ else _) Q E s;rw[QZ (by intro h;rw[L,Bool.false_and]at h;cases h)];show Lg G))
noncomputable def EF (K:PySem.W.Frag) (a:Addr):It :=
 #[λi H=>∃xs x,bA K H a xs/\xs[i]?=some x,λi H x H'=>H'=H/\∀xs,bA K H a xs->xs[i]?=some x,λi H=>∃xs,bA K H a xs/\xs.length<=i]
noncomputable def Ja (K:PySem.W.Frag) (a:Addr):It :=
 #[λi H=>∃xs x,cy K H a xs/\xs[i]?=some x,λi H x H'=>H'=H/\∀xs,cy K H a xs->xs[i]?=some x,λi H=>∃xs,cy K H a xs/\xs.length<=i]
noncomputable def CW (lo:Int) (n:Nat):It:=#[λi _=>i<n,λi H x H'=>H'=H/\x=.int (lo+i),λi _=>n<=i]
theorem yJ {P:IF}{w:Ll}{K:PySem.W.Frag}{tg:LC}(a J:Addr):Turn P w K tg (EF K a) [J] J (λi h=>h.IsListIter J a i) where
 mem:=by simp
 obj:=λi h st b G=>by
  have e:b=J:=(by simpa using G);subst e;let#[o,e,c,d]:=st;show#[o,e,λv z=>by rw[d]at z;cases z]
 keep:=λi h h' st k=>st.at λo e=>k J (by simp) o e
 item:=by
  intro X Y hw U hc i pins s σ H E I N st R;subst Y hw U;let#[xs,x,L,hx]:=R;let#[its,O,p,hz]:=I.list L;let#[u,hu,ru]:=O.get hx;let#[f0,f1,f2,f3,f4,S]:=N J (by simp);show wpAny_pyNext_list_item st p.isList (x:=u) (by simpa using hu) λh' ab sb=>?_;have I1:Inv X pins σ H { s with heap:=h' }:=I.turned (t':=s.toks) (λb o G e=>(sb.2 b G).trans e) f0 f1 f3 f4 S;let#[o,e,c,d]:=id ab;show#[u,rfl,ph (s:={ s with heap:=h' }) e c d av #[x,H,I1,ru,#[rfl,λys hy=>by rw[I.jy hy L];show hx],ab,λb G=>(N b G).1]]
 done:=by
  intro X Y hw U hc i pins s σ H E I N st R;subst Y hw U;let#[xs,L,hx]:=R;let#[its,O,p,hz]:=I.list L;let#[f0,f1,f2,f3,f4,S]:=N J (by simp);have hl:=O.length;show wpAny_pyNext_list_end (I.ok.hd hc) st p.isList (by simp;omega) λh' eb=>#[rfl,I.turned (t':=s.toks) (λb o G e=>eb b o G e) f0 f1 f3 f4 S]
 self:=λ_ _ _ _ _ st h=>wpAny_pyIter_listiter st h
theorem vE {P:IF}{w:Ll}{K:PySem.W.Frag}{tg:LC}(a J:Addr):Turn P w K tg (Ja K a) [J] J (λi h=>h.IsTupleIter J a i) where
 mem:=by simp
 obj:=λi h st b G=>by
  have e:b=J:=(by simpa using G);subst e;let#[o,e,c,d]:=st;show#[o,e,λv z=>by rw[d]at z;cases z]
 keep:=λi h h' st k=>st.at λo e=>k J (by simp) o e
 item:=by
  intro X Y hw U hc i pins s σ H E I N st R;subst Y hw U;let#[xs,x,L,hx]:=R;let#[its,O,p,hz]:=I.tuple L;let#[u,hu,ru]:=O.get hx;let#[f0,f1,f2,f3,f4,S]:=N J (by simp);show wpAny_pyNext_tuple_item st (show s.heap.IsTuple a its.toArray from p) (x:=u) (by simpa using hu) λh' ab sb=>?_;have I1:Inv X pins σ H { s with heap:=h' }:=I.turned (t':=s.toks) (λb o G e=>(sb.2 b G).trans e) f0 f1 f3 f4 S;let#[o,e,c,d]:=id ab;show#[u,rfl,ph (s:={ s with heap:=h' }) e c d av #[x,H,I1,ru,#[rfl,λys hy=>by rw[I.xT hy L];show hx],ab,λb G=>(N b G).1]]
 done:=by
  intro X Y hw U hc i pins s σ H E I N st R;subst Y hw U;let#[xs,L,hx]:=R;let#[its,O,p,hz]:=I.tuple L;let#[f0,f1,f2,f3,f4,S]:=N J (by simp);have hl:=O.length;show wpAny_pyNext_tuple_end (I.ok.hd hc) st (show s.heap.IsTuple a its.toArray from p) (by simp;omega) λh' eb=>#[rfl,I.turned (t':=s.toks) (λb o G e=>eb b o G e) f0 f1 f3 f4 S]
 self:=λ_ _ _ _ _ st h=>wpAny_pyIter_tupleiter st h
theorem u5 {P:IF}{w:Ll}{K:PySem.W.Frag}{tg:LC}(G:Addr) (lo:Int) (n:Nat):Turn P w K tg (CW lo n) [G] G (λi h=>Pa h G (lo+(i:Nat)*1) ((n:Int)-(i:Nat)) 1) where
 mem:=by simp
 obj:=λi h st b J=>by
  have e:b=G:=(by simpa using J);subst e;show#[_,st,λv z=>by
   have z':NV _=NO v:=z;cases z']
 keep:=λi h h' st k=>k G (by simp) _ st
 item:=by
  intro X S Y R hc i pins s σ H E I L st N;subst S Y R;let#[U,f1,f2,f3,f4,O]:=L G (by simp);have W:=QP (prog:=X.prog) (w:=X.w) (I.ok.hd hc) G lo 1 n;show W.item i s _ _ N st λv h' tk hv ab kk=>?_;let#[t,rfl]:=hv;have I1:Inv X pins σ H { s with heap:=h',toks:=tk }:=I.turned (λb o J e=>kk b o (by simpa using J) e) U f1 f3 f4 O;show#[0,ph (s:={ s with heap:=h',toks:=tk }) (n := "range_iterator") ab rfl rfl av #[.int (lo+i),H,I1,#[t,?_],#[1],ab,λb J=>(L b J).1]];rw[Int.mul_one]
 done:=by
  intro X S Y R hc i pins s σ H E I L st N;subst S Y R;let#[U,f1,f2,f3,f4,O]:=L G (by simp);show OH (I.ok.hd hc) st (by have:n<=i:=N;omega) λh' eb=>#[rfl,I.turned (t':=s.toks) (λb o J e=>eb b o J e) U f1 f3 f4 O]
 self:=λ_ _ _ _ _ st h=>OI st h
section
variable {X:Cx}{tg:LC}
noncomputable def Iz (K:PySem.W.Frag) (tl:TE):TI:=λσ H R=>tl σ H λx H1=>∃a,x=.ref a/\(∃xs,bA K H1 a xs)/\R (EF K a) H1
noncomputable def Js (K:PySem.W.Frag) (tl:TE):TI:=λσ H R=>tl σ H λx H1=>∃a,x=.ref a/\(∃xs,cy K H1 a xs)/\R (Ja K a) H1
theorem eu {l:LC}{tl:TE}(L:PE X l tl):PI X tg l (Iz X.K tl):=by
 intro pins s σ H R I h;show bS (L pins s σ H _ I h) λv G Y=>?_;let#[x,H1,J,U,N]:=Y;let#[a,e,#[xs,O],q]:=N;subst e;cases U;let#[its,rv,p,hz]:=J.list O;show Of p.isList ?_;show#[G.heap.objs.size,[G.heap.objs.size],2,H1,rfl,J.kept (t':=G.toks) λb o e=>Heap.get?_push_of_some _ e,yJ a _,#[_,Heap.get?_push_size _ rfl,1],λb S=>?_,q];have e:b=G.heap.objs.size:=(by simpa using S);subst e;show J.j5 (HC _) (J.bC.fresh (HC _))
theorem FC {l:LC}{tl:TE}(L:PE X l tl):PI X tg l (Js X.K tl):=by
 intro pins s σ H R I h;show bS (L pins s σ H _ I h) λv G Y=>?_;let#[x,H1,J,U,N]:=Y;let#[a,e,#[xs,O],q]:=N;subst e;cases U;let#[its,rv,p,hz]:=J.tuple O;show wpAny_pyIter_tuple (show G.heap.IsTuple a its.toArray from p) ?_;show#[G.heap.objs.size,[G.heap.objs.size],2,H1,rfl,J.kept (t':=G.toks) λb o e=>Heap.get?_push_of_some _ e,vE a _,#[_,Heap.get?_push_size _ rfl,1],λb S=>?_,q];have e:b=G.heap.objs.size:=(by simpa using S);subst e;show J.j5 (HC _) (J.bC.fresh (HC _))
theorem tS {pins:List (Addr×Obj)}{σ:St}{H:Hp}{s:By}{R:It->Hp->Prop}{E:Value->By->Prop}{lo hi:Int}{t u v:QW}{tk:Nat}(I:Inv X pins σ H s) (h1 : -(2^62)<=lo) (h2:lo<2^62) (S : -(2^62)<=hi) (N:hi<2^62)
  (q:R (CW lo (hi-lo).toNat) H):wpAny (model X.prog X.w) X.A (pyIter (.ref s.heap.objs.size)) (Kq X pins σ tg R) E { s with heap:=s.heap.push { cls:=.type "range",data:=.fields ([.int lo t,.int hi u,.int 1 v].toArray) },toks:=tk }:=by
 show Pz (QR ..) (small_one h1 h2 S N) ?_;have G:Inv X pins σ H { s with heap:=s.heap.push { cls:=.type "range",data:=.fields ([.int lo t,.int hi u,.int 1 v].toArray) },toks:=tk }:=I.kept λb o e=>Heap.get?_push_of_some _ e;show#[(s.heap.push { cls:=.type "range",data:=.fields ([.int lo t,.int hi u,.int 1 v].toArray) }).objs.size,[(s.heap.push { cls:=.type "range",data:=.fields ([.int lo t,.int hi u,.int 1 v].toArray) }).objs.size],2,H,rfl,
  G.kept (t':=tk) λb o e=>Heap.get?_push_of_some _ e,u5 _ lo (hi-lo).toNat,?_,λb J=>?_,q]
 .have L:lo+((0:Nat):Int)*1=lo:=(by simp);have O:(((hi-lo).toNat:Nat):Int)-((0:Nat):Int)=Builtin.Range.rangeSize lo hi 1:=(by rw[rangeSize_one];split<;>omega);change Pa _ _ (lo+((0:Nat):Int)*1) ((((hi-lo).toNat:Nat):Int)-((0:Nat):Int)) 1;rw[L,O];show Heap.get?_push_size _ rfl
 .have e:b=(s.heap.push { cls:=.type "range",data:=.fields ([.int lo t,.int hi u,.int 1 v].toArray) }).objs.size:=(by simpa using J);subst e;show G.j5 (HC _) (G.bC.fresh (HC _))
noncomputable def Iq (ta:TA):TI:=λσ H R=>ta σ H λvs H1=>∃j:Int,vs=[.int j] /\ -(2^62)<=j/\j<2^62/\R (CW 0 j.toNat) H1
noncomputable def HH (ta:TA):TI:=λσ H R=>ta σ H λvs H1=>Bb λ(i j:Int)=>sj (vs=[.int i,.int j]) ((-(2^62)<=i/\i<2^62 /\ -(2^62)<=j/\j<2^62)) (R (CW i (j-i).toNat) H1)
theorem yl {a:LC}{ta:TA}{p pos:Nu}(L:Gl X "range") (O:X.mg "range" = none) (Y:PA X [a] ta) (hs:starEach [a] X.env=[(false,eval a X.env)]:=by rfl):PI X tg (.Call (.Name "range" p) [a] [] pos) (Iq ta):=by
 intro pins s σ H R I h;show Call_ (hU I L O Qm (LZ (bS (Y pos pins s σ H _ I h) λus s1 ab=>?_) hs rfl));let#[vs,H1,S,N,G]:=ab;let#[j,e,G,U,q]:=G;subst e;cases N with
 |cons r J =>
  cases J;let#[t,rfl]:=r;show call_range_1 (tS S af af G U (by simpa using q))
theorem gp {a b:LC}{ta:TA}{p pos:Nu}(N:Gl X "range") (S:X.mg "range" = none) (ha:PA X [a,b] ta) (hs:starEach [a,b] X.env=[(false,eval a X.env),(false,eval b X.env)]:=by rfl) (L:starEach [b] X.env=[(false,eval b X.env)]:=by rfl) :
  PI X tg (.Call (.Name "range" p) [a,b] [] pos) (HH ta):=by
 intro pins s σ H R I h;show Call_ (hU I N S Qm (LZ (bS (ha pos pins s σ H _ I h) λus s1 ⟨vs,H1,I1,U,J⟩=>?_) (by rw[hs,L]) (by rw[L];rfl)));let#[i,j,e,#[J,q2,Y,O],q]:=J;subst e;cases U with
 |cons r G =>
  cases G with
  |cons r' G =>
   cases G;let#[t,rfl]:=r;let#[t',rfl]:=r';show call_range_2 (tS I1 J q2 Y O q)
noncomputable def JC (wi:TI) (g:TG) (tb:TS):TS:=λD σ H=>wi σ H λJ H1=>∃W:Nat->Nat->St->Hp->Prop,(∃m,W 0 m σ H1)/\∀i m σ H,W i m σ H ->
 (J.stop i H/\D.nx σ H)\/(J.go i H/\∃N:St->Hp->Prop,(∀G H',N G H'->∃I,I<m/\W (i+1) I G H')/\∀x H',J.DJ i H x H'->g x σ H' λL H2=>tb { D with nx:=N,ct:=N,bk:=D.nx } L H2)
noncomputable def mj (fp:List Addr) (h:Heap):List (Addr×Obj):=fp.filterMap λb=>(h.get? b).map λo=>(b,o)
theorem gL {fp:List Addr}{h:Heap}{b:Addr}{o:Obj}(G:b∈fp) (e:h.get? b=some o):(b,o)∈mj fp h:=List.mem_filterMap.mpr #[b,G,by rw[e];rfl]
theorem yD {fp:List Addr}{h:Heap}{p:Addr×Obj}(J:p∈mj fp h):p.1∈fp/\h.get? p.1=some p.2:=by
 let#[b,I,e]:=List.mem_filterMap.mp J;cases q:h.get? b with
 |none=>rw[q]at e;cases e
 |some o =>
  rw[q]at e;have G:(b,o)=p:=Option.some.inj e;subst G;show#[I,q]
theorem Inv.pinned {pins:List (Addr×Obj)}{σ:St}{H:Hp}{s:By}{fp:List Addr}(I:Inv X pins σ H s) (R:∀b∈fp,gy X pins H b) (U:∀b∈fp,∃o,s.heap.get? b=some o/\∀v,o.data≠.cell v):Inv X (pins++mj fp s.heap) σ H s :=
 I.lV λp N=>(List.mem_append.mp N).elim (λz=>I.pin p (LF _ z)) λz=>by
  let#[G,e]:=yD z;let#[O,L,S,_]:=R p.1 G;let#[o,J,d]:=U p.1 G;rw[e]at J;cases J;show#[e,O,L,S,d]
theorem Inv.oh {pins pl:List (Addr×Obj)}{σ:St}{H:Hp}{s:By}(I:Inv X (pins++pl) σ H s):Inv X pins σ H s:=I.lV λp G=>I.pin p (LF _ (Mh _ G))
theorem de {iter:LC}{body:List LI}{wi:TI}{g:TG}{tb:TS}{pos:Nu}(U:PassesOwn (model X.prog X.w) X.A X.env X.xe) (hc:X.calm=true) (hi:PI X tg iter wi) (hg:PG X tg g) (R:vj X body tb)
  (hs:∀x,Og iter X.env x=pure x:=by intro _;rfl):PS X (.For tg iter body [] pos) (JC wi g tb):=by
 intro pins s σ H D I h;show wpAny_For (bS (hi pins s σ H _ I h) λv s1 h1=>bS h1 λba s2 h2=>?_) hs;let#[it,fp,tn,J,H2,e,I2,T,a7,f2,W,#[m0,w0],a3]:=h2;subst e;have ac:∀{H':Hp},(∀b∈fp,H' b=none)->∀b∈fp,gy X pins H' b:=λhn b R=>#[hn b R,(f2 b R).2];show codeAny_forLoop_any (λn s'=>∃i ab H',Inv X pins ab H' s'/\tn i s'.heap/\(∀b∈fp,H' b=none)/\W i n ab H') ?_ m0 #[(0),σ,H2,I2,a7,λb R=>(f2 b R).1,w0];rintro n s3 ⟨i,Y,H3,I3,as,ap,w3⟩;rcases a3 i n Y H3 w3 with⟨a1,qn⟩|⟨go,N,hN,step⟩
 .show ML U (bS (T.done X rfl rfl rfl hc i pins s3 Y H3 X.xe I3 (ac ap) as a1) λr s4 aB=>?_);let#[hr,I4]:=aB;subst hr;show MJ #[Y,H3,I4,qn]
 .show ML U (bS (T.item X rfl rfl rfl hc i pins s3 Y H3 X.xe I3 (ac ap) as go) λr s4 a0=>?_);let#[u,hr,h4]:=a0;subst hr;show ML U (bS h4 λ_ s5 a2=>?_);let#[x,H5,I5,r5,y5,am,a6]:=a2;have a5:=I5.pinned (ac a6) (T.obj _ _ am);show ML U (bS (hg _ s5 Y H5 x u _ a5 r5 (step x H5 y5)) λ_ s6 aT=>?_);let#[a4,H6,I6,q6]:=aT;show ML U (bS (R _ s6 a4 H6 _ I6 q6) λf s7 S=>?_);have again:∀{L:St}{O:Hp},Inv X (pins++mj fp s5.heap) L O s7->N L O->∃m,m<n/\∃i ab H',Inv X pins ab H' s7/\tn i s7.heap/\(∀b∈fp,H' b=none)/\W i m ab H':=λ{L O} G n7=>by
   let#[m',hm,w7]:=hN L O n7;show#[m',hm,i+1,L,O,G.oh,T.keep _ _ _ am λb R o e=>(G.pin (b,o) (LF _ (LF _ (gL R e)))).1,λb R=>?_,w7];let#[o,e,d]:=T.obj _ _ am b R;show(G.pin (b,o) (LF _ (LF _ (gL R e)))).2.1
  cases f with
  |next=>let#[L,O,G,n7]:=S;show again G n7
  |cont=>let#[L,O,G,n7]:=S;show again G n7
  |brk=>let#[L,O,G,S]:=S;show#[L,O,G.oh,S]
  |ret v=>let#[x7,L,O,G,r7,S]:=S;show#[x7,L,O,G.oh,r7,S]
end
theorem dZ {K:PySem.W.Frag}{a:Addr}{xs:List V}{g:TG}{tb:TS}{D:Ends}{σ:St}{H:Hp}(Pv:Nat->St->Hp->Prop) (O:Pv 0 σ H) (S:∀i σ H,i<=xs.length->Pv i σ H->bA K H a xs)
  (hs:∀i x σ H,xs[i]?=some x->Pv i σ H->g x σ H λI H2=>tb { D with nx:=Pv (i+1),ct:=Pv (i+1),bk:=D.nx } I H2) (hd:∀σ H,Pv xs.length σ H->D.nx σ H) :
  ∃W:Nat->Nat->St->Hp->Prop,(∃m,W 0 m σ H)/\∀i m σ H,W i m σ H ->
   ((EF K a).stop i H/\D.nx σ H)\/((EF K a).go i H/\∃N:St->Hp->Prop,(∀G H',N G H'->∃L,L<m/\W (i+1) L G H')/\∀x H',(EF K a).DJ i H x H'->g x σ H' λI H2=>tb { D with nx:=N,ct:=N,bk:=D.nx } I H2):=by
 show#[λi m σ H=>m=xs.length-i/\i<=xs.length/\Pv i σ H,#[xs.length,by simp,LD _,O],?_];rintro i m σ H ⟨rfl,hi,p⟩;have q:=S i σ H hi p;by_cases J:i<xs.length
 .show .inr #[#[xs,xs[i],q,by simp[J]],Pv (i+1),λG H' R=>#[xs.length-(i+1),af,rfl,J,R],λx H' y=>?_];let#[e,y]:=y;subst e;show hs i x σ _ (y xs q) p
 .have e:i=xs.length:=af;subst e;show .inl #[#[xs,q,HC _],hd σ H p]
theorem kr {lo:Int}{n:Nat}{g:TG}{tb:TS}{D:Ends}{σ:St}{H:Hp}(Pv:Nat->St->Hp->Prop) (O:Pv 0 σ H)
  (hs:∀i σ H,i<n->Pv i σ H->g (.int (lo+i)) σ H λI H2=>tb { D with nx:=Pv (i+1),ct:=Pv (i+1),bk:=D.nx } I H2) (hd:∀σ H,Pv n σ H->D.nx σ H) :
  ∃W:Nat->Nat->St->Hp->Prop,(∃m,W 0 m σ H)/\∀i m σ H,W i m σ H ->
   ((CW lo n).stop i H/\D.nx σ H)\/((CW lo n).go i H/\∃N:St->Hp->Prop,(∀G H',N G H'->∃L,L<m/\W (i+1) L G H')/\∀x H',(CW lo n).DJ i H x H'->g x σ H' λI H2=>tb { D with nx:=N,ct:=N,bk:=D.nx } I H2):=by
 show#[λi m σ H=>m=n-i/\i<=n/\Pv i σ H,#[n,by simp,LD _,O],?_];rintro i m σ H ⟨rfl,hi,p⟩;by_cases J:i<n
 .show .inr #[J,Pv (i+1),λG H' R=>#[n-(i+1),af,rfl,J,R],λx H' y=>?_];let#[e,y]:=y;subst e y;show hs i σ _ J p
 .have e:i=n:=af;subst e;show .inl #[HC _,hd σ H p]
noncomputable abbrev R2:=V->V->Hp->VK->Prop
noncomputable def lC (X:Cx) (f:Value->Value->Om Value) (r:R2):Prop :=
 ∀(pins:List (Addr×Obj)) (s:By) (σ:St) (H:Hp) (x y:V) (v u:Value) (Q:VK),Inv X pins σ H s->RelV x v->RelV y u->r x y H Q ->
  wpAny (model X.prog X.w) X.A (f v u) (EP X pins σ Q) X.xe s
noncomputable def J2 (X:Cx) (f:Value->Om Value) (r:V->Hp->VK->Prop):Prop :=
 ∀(pins:List (Addr×Obj)) (s:By) (σ:St) (H:Hp) (x:V) (v:Value) (Q:VK),Inv X pins σ H s->RelV x v->r x H Q ->
  wpAny (model X.prog X.w) X.A (f v) (EP X pins σ Q) X.xe s
noncomputable def dG (X:Cx) (f:Value) (r:List V->Hp->VK->Prop):Prop :=
 ∀(pins:List (Addr×Obj)) (s:By) (σ:St) (H:Hp) (xs:List V) (us:List Value) (Q:VK),Inv X pins σ H s->Vals xs us->r xs H Q ->
  wpAny (model X.prog X.w) X.A (call f us) (EP X pins σ Q) X.xe s
noncomputable def Gj (r:R2) (ta tb:TE):TE:=λσ H Q=>ta σ H λx H1=>tb σ H1 λy H2=>r x y H2 Q
noncomputable def La (r:V->Hp->VK->Prop) (ta:TE):TE:=λσ H Q=>ta σ H λx H1=>r x H1 Q
inductive rI (C:Int->Int->Prop) (g:Int->Int->V) (x:V) (y:V) (H:Hp) (Q:VK):Prop
 |mk (i:_) (j:_) (_:x=.int i) (_:y=.int j) (_:C i j) (_:Q (g i j) H):rI C g x y H Q
inductive DM (g:Int->Int->V) (x:V) (y:V) (H:Hp) (Q:VK):Prop
 |mk (i:_) (j:_) (_:x=.int i) (_:y=.int j) (_:Q (g i j) H):DM g x y H Q
inductive rU (g:Int->V) (x:V) (H:Hp) (Q:VK):Prop
 |mk (i:_) (_:x=.int i) (_:Q (g i) H):rU g x H Q
section
variable {X:Cx}{a b c:LC}{ta tb tc:TE}{pos:Nu}
theorem El (ha:PE X a ta) (L:PE X b tb) {pins:List (Addr×Obj)}{s:By}{σ:St}{H:Hp}{R:V->V->Hp->Prop}(I:Inv X pins σ H s)
  (h:ta σ H λx H1=>tb σ H1 λy H2=>R x y H2) {Q:Value->By->Prop}{f:Value->Value->Om Value}
  (Y:∀v u s2 x y H2,Inv X pins σ H2 s2->RelV x v->RelV y u->R x y H2->wpAny (model X.prog X.w) X.A (f v u) Q X.xe s2) :
  wpAny (model X.prog X.w) X.A (eval a X.env) (λv N=>wpAny (model X.prog X.w) X.A (eval b X.env) (λu ac=>wpAny (model X.prog X.w) X.A (f v u) Q X.xe ac) X.xe N) X.xe s:=by
 show bS (ha pins s σ H _ I h) λv O U=>?_;let#[x,H1,I1,S,G]:=U;show bS (L pins O σ H1 _ I1 G) λu s2 ab=>?_;let#[y,H2,I2,J,q2]:=ab;show Y v u s2 x y H2 I2 S J q2
theorem aD {G:PN}{r:R2}(N:lC X (NW G) r) (O:PE X a ta) (L:PE X b tb):PE X (.BinOp a G b pos) (Gj r ta tb):=by
 intro pins s σ H Q I h;show wpAny_BinOp (El O L I h λv u s2 x y H2 R J S q=>N pins s2 σ H2 x y v u Q R J S q)
theorem BQ {G:UnaryOp}{r:V->Hp->VK->Prop}(S:J2 X (unaryOp G) r) (U:PE X a ta):PE X (.UnaryOp G a pos) (La r ta):=by
 intro pins s σ H Q I h;show UnaryOp_ (bS (U pins s σ H _ I h) λv N R=>by let#[x,H1,O,L,J]:=R;show S pins N σ H1 x v Q O L J)
theorem IY {f:Value->Value->Om Value}{C:Int->Int->Prop}{g:Int->Int->Int}
  (rule:∀(i j:Int) (t u:QW) (s:By) (Q:Value->By->Prop) (E:Value->By->Prop),C i j->Q (.int (g i j) s.toks) { s with toks:=s.toks+1 }->wpAny (model X.prog X.w) X.A (f (.int i t) (.int j u)) Q E s) :
  lC X f (rI C λi j=>.int (g i j)):=by
 intro pins s σ H x y v u Q I G L h;let#[i,j,rfl,rfl,J,q]:=h;let#[t,rfl]:=G;let#[t',rfl]:=L;show rule i j t t' s _ _ J #[.int (g i j),H,I.tok _,#[0],q]
theorem Hz {f:Value->Value->Om Value}{g:Int->Int->Int}
  (rule:∀(i j:Int) (t u:QW) (s:By) (Q:Value->By->Prop) (E:Value->By->Prop),Q (.int (g i j) s.toks) { s with toks:=s.toks+1 }->wpAny (model X.prog X.w) X.A (f (.int i t) (.int j u)) Q E s) :
  lC X f (DM λi j=>.int (g i j)):=by
 intro pins s σ H x y v u Q I G J h;let#[i,j,rfl,rfl,q]:=h;let#[t,rfl]:=G;let#[t',rfl]:=J;show rule i j t t' s _ _ #[.int (g i j),H,I.tok _,#[0],q]
theorem Es {f:Value->Value->Om Value}{g:Int->Int->Bool}
  (rule:∀(i j:Int) (t u:QW) (s:By) (Q:Value->By->Prop) (E:Value->By->Prop),Q (.bool (g i j)) s->wpAny (model X.prog X.w) X.A (f (.int i t) (.int j u)) Q E s) :
  lC X f (DM λi j=>.bl (g i j)):=by
 intro pins s σ H x y v u Q I G J h;let#[i,j,rfl,rfl,q]:=h;let#[t,rfl]:=G;let#[t',rfl]:=J;show rule i j t t' s _ _ #[.bl (g i j),H,I,rfl,q]
noncomputable def JN (i j:Int):Prop:=0<j/\j<1073741824
noncomputable def Ju (i j:Int):Prop:=0<=j/\j<=1000000/\i.natAbs<2^64
noncomputable def Bq (i j:Int):Prop:=(-(2^64)<i/\i<2^64)\/(-(2^64)<j/\j<2^64)
theorem Bq.ok {i j:Int}(h:Bq i j):IntMulOk i j:=by
 rcases h with⟨h1,h2⟩|⟨h1,h2⟩
 .show .of_left (intBits_le_64 h1 h2)
 .show .of_right (intBits_le_64 h1 h2)
theorem bt:lC X (NW .Add) (DM λi j=>.int (i+j)):=Hz λ_ _ _ _ _ _ _ q=>add_int q
theorem nW:lC X (NW .Sub) (DM λi j=>.int (i-j)):=Hz λ_ _ _ _ _ _ _ q=>sub_int q
theorem eU:lC X (NW .Mult) (rI Bq λi j=>.int (i*j)):=IY λ_ _ _ _ _ _ _ G q=>mul_int q G.ok
theorem bZ:lC X (NW .FloorDiv) (rI JN λi j=>.int (i/j)):=IY λi j _ _ _ _ _ G q=>by
 have h1:(0:Int)<j:=G.1;have h2:j<1073741824:=G.2;show floordiv_int af (by rw[Int.fdiv_eq_ediv_of_nonneg i af];show q) (.inl (PyProof.noPylong_small af))
theorem bN:lC X (NW .Mod) (rI (λ_ j=>0<j) λi j=>.int (i%j)):=IY λi j _ _ _ _ _ G q=>by
 have h1:(0:Int)<j:=G;show mod_int' af (by rw[Int.fmod_eq_emod_of_nonneg i af];show q)
theorem ve:lC X (NW .Pow) (rI Ju λi j=>.int (i^j.toNat)):=IY λ_ _ _ _ _ _ _ G q=>pow_int_small G.1 G.2.1 G.2.2 q
theorem K8 {f:Value->Om Value}{g:Int->Int}
  (rule:∀(i:Int) (t:QW) (s:By) (Q:Value->By->Prop) (E:Value->By->Prop),Q (.int (g i) s.toks) { s with toks:=s.toks+1 }->wpAny (model X.prog X.w) X.A (f (.int i t)) Q E s) :
  J2 X f (rU λi=>.int (g i)):=by
 intro pins s σ H x v Q I G h;let#[i,rfl,q]:=h;let#[t,rfl]:=G;show rule i t s _ _ #[.int (g i),H,I.tok _,#[0],q]
theorem uA:J2 X (unaryOp .USub) (rU λi=>.int (-i)):=K8 λ_ _ _ _ _ q=>neg_int q
end
noncomputable def Ce:V->V->Bool
 |.non,.non=>true|.non,.int _=>true|.int _,.non=>true|.non,.bl _=>true|.bl _,.non=>true|.non,.str _=>true|.str _,.non=>true
 |.int _,.int _=>true|.bl _,.bl _=>true|.str _,.str _=>true|.byt _,.byt _=>true
 |.int _,.str _=>true|.str _,.int _=>true|.bl _,.str _=>true|.str _,.bl _=>true
 |_,_=>false
noncomputable def JK:R2:=λx y H Q=>Ce x y=true/\Q (.bl (decide (x=y))) H
noncomputable def K6:R2:=λx y H Q=>Ce x y=true/\Q (.bl (!decide (x=y))) H
theorem wO {i j:Int}:decide (V.int i=V.int j)=(i==j):=by
 rw[Nf];simp
theorem BR {i j:Bool}:decide (V.bl i=V.bl j)=(i==j):=by
 rw[Nf];simp
theorem wZ {i j:Str}:decide (V.str i=V.str j)=(i==j):=by
 rw[Nf];simp
theorem xB {i j:Array UInt8}:decide (V.byt i=V.byt j)=(i.toList==j.toList):=by
 rw[Nf];cases i;cases j;simp
section
variable {X:Cx}{a b c:LC}{ta tb tc:TE}{pos:Nu}
theorem bM {pins:List (Addr×Obj)}{σ:St}{H:Hp}{s:By}{Q:VK}{k G:Bool}(I:Inv X pins σ H s) (q:Q (.bl k) H) (e:k=G):EP X pins σ Q (.bool G) s:=by
 subst e;show#[.bl k,H,I,rfl,q]
theorem bH:lC X (Ms .Eq) JK:=by
 intro pins s σ H x y v u Q I J G h;let#[hs,q]:=h;cases x with
 |non =>
  cases J;cases y with
  |non=>cases G;show PySem.EqNone.eq_none_none (bM I q (by simp))
  |bl j=>cases G;show PySem.EqNone.eq_none_bool (bM I q (by simp))
  |int j=>let#[t',rfl]:=G;show PySem.EqNone.eq_none_int (bM I q (by simp))
  |str j=>let#[t',rfl]:=G;show PySem.EqNone.eq_none_str (bM I q (by simp))
  |_=>show absurd (show false=true from hs) Lf
 |bl i =>
  cases J;cases y with
  |non=>cases G;show PySem.EqNone.eq_bool_none (bM I q (by simp))
  |bl j=>cases G;show eq_bool (bM I q BR)
  |str j=>let#[t',rfl]:=G;show PySem.EqMixed.eq_bool_str (bM I q (by simp))
  |_=>show absurd (show false=true from hs) Lf
 |int i =>
  let#[t,rfl]:=J;cases y with
  |non=>cases G;show PySem.EqNone.eq_int_none (bM I q (by simp))
  |int j=>let#[t',rfl]:=G;show eq_int (bM I q wO)
  |str j=>let#[t',rfl]:=G;show PySem.EqMixed.eq_int_str (bM I q (by simp))
  |_=>show absurd (show false=true from hs) Lf
 |str i =>
  let#[t,rfl]:=J;cases y with
  |non=>cases G;show PySem.EqNone.eq_str_none (bM I q (by simp))
  |bl j=>cases G;show PySem.EqMixed.eq_str_bool (bM I q (by simp))
  |int j=>let#[t',rfl]:=G;show PySem.EqMixed.eq_str_int (bM I q (by simp))
  |str j=>let#[t',rfl]:=G;show eq_str (bM I q wZ)
  |_=>show absurd (show false=true from hs) Lf
 |byt i =>
  let#[t,rfl]:=J;cases y with
  |byt j=>let#[t',rfl]:=G;show PySem.W.eq_bytes (bM I q xB)
  |_=>show absurd (show false=true from hs) Lf
 |_=>cases y<;>show absurd (show false=true from hs) Lf
theorem Ih:lC X (Ms .NotEq) K6:=by
 intro pins s σ H x y v u Q I J G h;let#[hs,q]:=h;cases x with
 |non =>
  cases J;cases y with
  |non=>cases G;show PySem.EqNone.ne_none_none (bM I q (by simp))
  |bl j=>cases G;show PySem.EqNone.ne_none_bool (bM I q (by simp))
  |int j=>let#[t',rfl]:=G;show PySem.EqNone.ne_none_int (bM I q (by simp))
  |str j=>let#[t',rfl]:=G;show PySem.EqNone.ne_none_str (bM I q (by simp))
  |_=>show absurd (show false=true from hs) Lf
 |bl i =>
  cases J;cases y with
  |non=>cases G;show PySem.EqNone.ne_bool_none (bM I q (by simp))
  |bl j=>cases G;show ne_bool (bM I q (congrArg not BR))
  |str j=>let#[t',rfl]:=G;show PySem.EqMixed.ne_bool_str (bM I q (by simp))
  |_=>show absurd (show false=true from hs) Lf
 |int i =>
  let#[t,rfl]:=J;cases y with
  |non=>cases G;show PySem.EqNone.ne_int_none (bM I q (by simp))
  |int j=>let#[t',rfl]:=G;show ne_int (bM I q (congrArg not wO))
  |str j=>let#[t',rfl]:=G;show PySem.EqMixed.ne_int_str (bM I q (by simp))
  |_=>show absurd (show false=true from hs) Lf
 |str i =>
  let#[t,rfl]:=J;cases y with
  |non=>cases G;show PySem.EqNone.ne_str_none (bM I q (by simp))
  |bl j=>cases G;show PySem.EqMixed.ne_str_bool (bM I q (by simp))
  |int j=>let#[t',rfl]:=G;show PySem.EqMixed.ne_str_int (bM I q (by simp))
  |str j=>let#[t',rfl]:=G;show ne_str (bM I q (congrArg not wZ))
  |_=>show absurd (show false=true from hs) Lf
 |byt i =>
  let#[t,rfl]:=J;cases y with
  |byt j=>let#[t',rfl]:=G;show PySem.W.ne_bytes (bM I q (congrArg not xB))
  |_=>show absurd (show false=true from hs) Lf
 |_=>cases y<;>show absurd (show false=true from hs) Lf
theorem iu:lC X (Ms .Lt) (DM λi j=>.bl (decide (i<j))):=Es λ_ _ _ _ _ _ _ q=>lt_int q
theorem gz:lC X (Ms .Gt) (DM λi j=>.bl (decide (j<i))):=Es λ_ _ _ _ _ _ _ q=>gt_int q
theorem HV:lC X (Ms .GtE) (DM λi j=>.bl (decide (j<=i))):=Es λ_ _ _ _ _ _ _ q=>ge_int q
theorem Dt:lC X (Ms .IsNot) (λx y H Q=>y=.non/\Q (.bl (!decide (x=.non))) H):=by
 intro pins s σ H x y v u Q I G J h;let#[rfl,q]:=h;cases J;show isnot_none_gen (bM I q ?_);cases x<;>first
  |(cases G;rfl)
  |(let#[t,rfl]:=G;rfl)
theorem aH (b:LC) {G:QO}(h:G≠.In:=by decide) (h2:G≠.NotIn:=by decide):Nv G b=false:=by
 have J:(G==CmpOp.In)=false:=by cases G<;>first|rfl|show absurd rfl h
 have I:(G==CmpOp.NotIn)=false:=by cases G<;>first|rfl|show absurd rfl h2
 cases b<;>simp[Nv,J,I]
theorem jP {G:QO}{r:R2}(O:lC X (Ms G) r) (R:PE X a ta) (L:PE X b tb) (N:Nv G b=false):PE X (.Compare a [G] [b] pos) (Gj r ta tb):=by
 intro pins s σ H Q I h;show wpAny_Compare1 (El R L I h λv u s2 x y H2 S J U q=>O pins s2 σ H2 x y v u Q S J U q) N
inductive zK (t:TE) (Q:Bool->Hp->Prop) (x:V) (H':Hp):Prop
 |mk (k:_) (_:x=.bl k) (_:Q k H'):zK t Q x H'
noncomputable def zS (t:TE):TT:=λσ H Q=>t σ H λx H'=>zK t Q x H'
theorem aA {G:QO}{r:R2}(ho:lC X (Ms G) r) (ha:PE X a ta) (O:PE X b tb) (U:Nv G b=false):PT X (.Compare a [G] [b] pos) (zS (Gj r ta tb)):=by
 intro pins s σ H Q I h;show O8 (bS (ha pins s σ H _ I h) λv S ⟨x,H1,I1,R,L⟩=>bS (O pins S σ H1 _ I1 L) λu s2 ⟨y,H2,I2,N,Y⟩ =>
  bS (ho pins s2 σ H2 x y v u _ I2 R N Y) λc s3 ⟨z,H3,J,r3,k,e,q3⟩=>?_) U
 subst e;cases r3;show Ml #[H3,J,q3]
theorem mI:(sizeLine:Nat)<2^63:=by rw[Lh];decide
theorem vals1 {x:V}{us:List Value}(r:Vals [x] us):∃u,us=[u]/\RelV x u:=by
 cases r with
 |cons G I=>cases I;show#[0,G]
theorem vals2 {x y:V}{us:List Value}(r:Vals [x,y] us):∃u G,us=[u,G]/\RelV x u/\RelV y G:=by
 cases r with
 |cons L I =>
  cases I with
  |cons N J=>cases J;show#[_,0,L,N]
theorem pA (J:X.calm=true):dG X (.builtin "max") (λxs H Q=>∃i j,xs=[.int i,.int j]/\Q (.int (if j>i then j else i)) H):=by
 intro pins s σ H xs us Q I r h;let#[i,j,rfl,q]:=h;let#[u,L,rfl,#[t,rfl],#[t',rfl]]:=vals2 r;show max_two_ints (I.ok.hd J) λh' tk k=>#[_,H,I.kept k,?_,q];by_cases G:j>i
 .rw[Q0 G,Q0 G];show#[0]
 .rw[QZ G,QZ G];show#[0]
theorem gC:dG X (.type "int") (λxs H Q=>(∃i,xs=[.int i]/\Q (.int i) H)\/∃k,xs=[.bl k]/\Q (.int (if k then 1 else 0)) H):=by
 intro pins s σ H xs us Q I r h;rcases h with⟨i,rfl,q⟩|⟨k,rfl,q⟩
 .let#[u,rfl,t,rfl]:=vals1 r;show call_int_int #[.int i,H,I,#[0],q]
 .let#[u,rfl,G]:=vals1 r;cases G;show call_int_bool #[.int (if k then 1 else 0),H,I.tok _,#[0],q]
end
structure uz (h:Heap) (x dx C:Addr) (mA:Str->Option Value):Prop where
 obj:h.get? x=some (instObj C dx)
 ns:h.Ns1 dx mA
 ne:dx≠x
theorem yY {h:Heap}{dx:Addr}{mA:Str->Option Value}(n:h.Ns1 dx mA):∃od,h.get? dx=some od/\∀name,lookIn name od=some (mA name):=by
 let#[o,es,ep,N,hd,G,_,J]:=n;show#[o,N,λname=>?_];have e:=J name;unfold nsFind findBy at e;rw[<-Array.find?_toList]at e;unfold lookIn;rw[hd];dsimp only
 set_option tactic.hygienic true in split
 .rename_i y q;rw[q]at e;show congrArg some e
 .rename_i q;rw[q]at e;have a:es.toList.any (·.refKey)=false:=by
   rw[List.any_eq_false];intro y L;let#[z,t,O]:=G y (Array.mem_toList_iff.mp L);simp[DictEntry.refKey,O]
  have I:¬ es.toList.any (·.refKey)=true:=(by rw[a];show Lf);rw[QZ I];show congrArg some e
theorem uz.look {h:Heap}{x dx C:Addr}{mA:Str->Option Value}(I:uz h x dx C mA):∃od,PySem.W.InstAt h x (instObj C dx) C (some od)/\∀name,lookIn name od=some (mA name):=
 let ⟨od,J,G⟩:=yY I.ns
 #[od,#[I.obj,1,J],G]
section
variable {prog:IF}{w:Ll}{A:Lq}{E:Value->By->Prop}{s:By}{K:PySem.W.Frag}{x dx C f:Addr}{mA:Str->Option Value}{name:Str}{v:Value}
theorem get_map {O:Bool}{Q:Value->By->Prop}(X:K.In s.heap) (I:uz s.heap x dx C mA) (L:Qn K C name=true) (U:QD K C=true)
  (R:N5 K (.ref C) name=some none) (S:mA name=some v) (N:handedIn v=true) (h:Q v { s with toks:=s.toks+1 }) :
  wpAny (model prog w) A (getAttr (.ref x) name O) Q E s:=by
 let#[od,J,G]:=I.look;show PySem.W.get_value X J (Qa L).1 (PySem.W.findObj_own U R rfl (by rw[G,S])) N h
theorem zp {pl:Om Bool}{Q:Value×List Value->By->Prop}(X:K.In s.heap) (I:uz s.heap x dx C mA) (G:Qn K C name=true)
  (N:N5 K (.ref C) name=some (some (.ref f))) (O:isFn K (.ref f)=true) (R:mA name=none) (h:Q (.ref f,[.ref x]) s) :
  wpAny (model prog w) A (NP (.ref x) name pl) Q E s:=by
 let#[od,J,L]:=I.look;show PySem.W.method_fn X J (Qa G).1 (Qa G).2 N (beq_iff_eq.mp O) (by change(lookIn name od).map (·.isSome)=some false;rw[L,R];rfl) h
theorem Cs {ns:List Str}{Q:Unit->By->Prop}(X:K.In s.heap) (I:uz s.heap x dx C mA)
  (hs:N5 K (.ref C) "__setattr__" = some (some (.builtin "object.__setattr__"))) (S:plainOver K C=true) (ht:takerIn K C name=some none) (hh:QD K C=true)
  (Y:PySem.Within mA ns) (hsz:ns.length<=sizeLine)
  (h:∀h',uz h' x dx C (λy=>if y=name then some v else mA y)->Heap.SameBut dx s.heap h'->Q () { s with heap:=h',toks:=s.toks+2 }) :
  wpAny (model prog w) A (setAttr (.ref x) name v) Q E s:=by
 let#[od,J,hl]:=I.look;show PySem.W.set_plain X J hs (PySem.W.osa_open (s:={ s with toks:=s.toks+1 }) (r:=none) X J S ht λb=>?_);let#[cd,hc,ab]:=PySem.W.any_some hh;have N:s.heap.get? x=some #[.ref C,some dx,.plain, ([].toArray)]:=I.obj;show DD (Lg (DD (DD (wpAny_loadPart N (DD (PySem.W.Looks.here (s:={ s with toks:=s.toks+1 }) (PySem.W.looks_clsIn X hc) ?_))))));rw[ab];show Lg (a:=some dx) (DD (Lg (DD ?_)));show wpAny_nsSet1 (s:={ s with toks:=s.toks+1 }) I.ns λh' G L=>?_;let#[oD,ac,am,R,U,O]:=G.count (PySem.Within.cons name v Y);show DD (wpAny_lookBehind R (by rw[U];show pastItsLine_dict (Ly O (by rw[Lo];omega))) ?_);show Lg (h _ #[(L.2 _ (G0 I.ne)).trans I.obj,G,I.ne] L)
theorem AU {R:Result->By->Prop}{vs:List Value}{G:List (Str×Value)}(X:K.In s.heap) (I:makesIn K C=true)
  (hi:N5 K (.ref C) "__init__" = some (some (.ref f))) (J:PySem.W.typeIn K (.ref f)=some (.type "function"))
  (h:NZ (model prog w) (A.under (.builtin "type.__call__" #[.ref C::vs,G])) (.call (.ref f) #[.ref (s.heap.objs.size+1)::vs,G]) (PySem.W.InitBack (s.heap.objs.size+1) R)
   { s with heap:=(s.heap.push emptyDict).push (instObj C s.heap.objs.size) }) :
  NZ (model prog w) A (.call (.ref C) #[vs,G]) R s:=by
 let#[L,g,d,t,os]:=s;show PySem.W.make_core (PySem.W.makes_of X I) (PySem.W.looks_findIn X hi) (λself=>PySem.W.bind_fn X self J) (.inl rfl) h
end
noncomputable def bj (f:Str) (v:V):List (Str×V)->List (Str×V)
 | []=>[(f,v)]
 |(g,x)::r=>if g=f then(g,v)::r else(g,x)::bj f v r
theorem aE (f g:Str) (v:V):∀fs:List (Str×V),(bj f v fs).lookup g=if g=f then some v else fs.lookup g
 | []=>by
  change List.lookup g [(f,v)]=_;by_cases h:g=f
  .have G:(g==f)=true:=beq_iff_eq.mpr h;simp only[List.lookup,G,Q0 h]
  .have G:(g==f)=false:=beq_eq_false_iff_ne.mpr h;simp only[List.lookup,G,QZ h]
 |(k,x)::r=>by
  have J:=aE f g v r;rw[show bj f v ((k,x)::r)=(if k=f then(k,v)::r else(k,x)::bj f v r)from rfl];by_cases I:k=f
  .rw[Q0 I];by_cases h:g=k
   .have G:(g==k)=true:=beq_iff_eq.mpr h;simp only[List.lookup,G,Q0 (h.trans I)]
   .have G:(g==k)=false:=beq_eq_false_iff_ne.mpr h;simp only[List.lookup,G,QZ (λe:g=f=>h (e.trans I.symm))]
  .rw[QZ I];by_cases h:g=k
   .have G:(g==k)=true:=beq_iff_eq.mpr h;simp only[List.lookup,G,QZ (λe:g=f=>I (h.symm.trans e))]
   .have G:(g==k)=false:=beq_eq_false_iff_ne.mpr h;simp only[List.lookup,G];show J
theorem kC (f:Str) (v:V):∀fs:List (Str×V),f∈(bj f v fs).map (·.1)/\∀g,g∈fs.map (·.1)->g∈(bj f v fs).map (·.1)
 | []=>#[by simp[bj],λg h=>by simp at h]
 |(k,x)::r=>by
  let#[J,I]:=kC f v r;rw[show bj f v ((k,x)::r)=(if k=f then(k,v)::r else(k,x)::bj f v r)from rfl];by_cases G:k=f
  .rw[Q0 G];subst G;show#[by simp,λg h=>by simpa using h]
  .rw[QZ G];show#[?_,λg h=>?_]
   .rw[Mm];show Lx _ J
   .rw[Mm]at h ⊢;rcases List.mem_cons.mp h with e|e
    .show List.mem_cons.mpr (.inl e)
    .show Lx _ (I g e)
theorem k8 (f:Str) (v:V):∀fs:List (Str×V),(bj f v fs).length<=fs.length+1
 | []=>by simp[bj]
 |(k,x)::r=>by
  have I:=k8 f v r;rw[show bj f v ((k,x)::r)=(if k=f then(k,v)::r else(k,x)::bj f v r)from rfl];by_cases G:k=f
  .rw[Q0 G,Lo,Lo];omega
  .rw[QZ G,Lo,Lo];omega
theorem gi.some_of {v:V}{o:Option Value}(r:gi (some v) o):∃u,o=some u/\RelV v u:=by
 cases o with
 |none=>show(show False from r).elim
 |some u=>show#[u,rfl,r]
theorem gi.none_of {o:Option Value}(r:gi none o):o=none:=by
 cases o with
 |none=>rfl
 |some u=>show(show False from r).elim
theorem y4 {v:V}{u:Value}(r:RelV v u):handedIn u=true:=by
 cases v with
 |non=>cases(show u=Value.none from r);rfl
 |bl b=>cases(show u=Value.bool b from r);rfl
 |int i=>let#[t,e]:=(show ∃t,u=Value.int i t from r);cases e;rfl
 |str x=>let#[t,e]:=(show ∃t,u=Value.str x t from r);cases e;rfl
 |byt b=>let#[t,e]:=(show ∃t,u=Value.bytes b t from r);cases e;rfl
 |flt b=>let#[t,e]:=(show ∃t,u=Value.float b t from r);cases e;rfl
 |ref a=>cases(show u=Value.ref a from r);rfl
 |ty n=>cases(show u=Value.type n from r);rfl
section
variable {P:IF}{w:Ll}{H H':Hp}{h h':Heap}{a C dx:Addr}{fs fs':List (Str×V)}
theorem lQ (G:iX P w H h) (e:H a=some (.ins C dx fs)):∃mA,uz h a dx C mA/\(∀f,gi (fs.lookup f) (mA f))/\PySem.Within mA (fs.map (·.1))/\fs.length<=1000/\H dx=some (.own a):=by
 let#[d,z,I,ob,mA,n,r,q]:=(show bT P w H h a (.ins C dx fs)from G a _ e);show#[mA,#[ob,n,I],r,q,z,d]
end
structure pG (K:PySem.W.Frag) (C:Addr):Prop where
 pg:Qn K C Str.empty=true
 hd:QD K C=true
 po:plainOver K C=true
 sa:N5 K (.ref C) "__setattr__" = some (some (.builtin "object.__setattr__"))
theorem pG.get {K:PySem.W.Frag}{C:Addr}(c:pG K C) (f:Str):Qn K C f=true:=c.pg
noncomputable def dg (K:PySem.W.Frag) (C:Addr) (f:Str):Prop:=N5 K (.ref C) f=some none
theorem dg.GJ {K:PySem.W.Frag}{C:Addr}{f:Str}(n:dg K C f):takerIn K C f=some none:=by
 unfold takerIn;rw[show N5 K (.ref C) f=some none from n];rfl
structure Meth (K:PySem.W.Frag) (C:Addr) (m:Str) (f:Addr):Prop where
 at_:N5 K (.ref C) m=some (some (.ref f))
 fn:isFn K (.ref f)=true
 kp:OJ K (.ref f)=true
section
variable {X:Cx}{pins:List (Addr×Obj)}{σ:St}{H:Hp}{s:By}{a C dx:Addr}{fs:List (Str×V)}{f:Str}{v:V}{A:Lq}{E:Value->By->Prop}
theorem m9 {b:Bool}{Q:Value->By->Prop}(I:Inv X pins σ H s) (e:H a=some (.ins C dx fs)) (c:pG X.K C) (n:dg X.K C f) (l:fs.lookup f=some v)
  (h:∀u s',Inv X pins σ H s'->RelV v u->Q u s'):wpAny (model X.prog X.w) A (getAttr (.ref a) f b) Q E s:=by
 let#[mA,O,r,_,_,_]:=lQ I.bC e;let#[u,J,G]:=gi.some_of (v:=v) (o:=mA f) (by rw[<-l];show r f);show get_map I.jk O (c.get f) c.hd n J (y4 G) (h u _ (I.tok _) G)
theorem jc {m:Str}{g:Addr}{pl:Om Bool}{Q:Value×List Value->By->Prop}(I:Inv X pins σ H s) (e:H a=some (.ins C dx fs)) (c:pG X.K C) (k:Meth X.K C m g) (l:fs.lookup m=none)
  (h:Q (.ref g,[.ref a]) s):wpAny (model X.prog X.w) A (NP (.ref a) m pl) Q E s:=by
 let#[mA,O,r,_,_,_]:=lQ I.bC e;have G:mA m=none:=gi.none_of (by rw[<-l];show r m);show zp I.jk O (c.get m) k.at_ k.fn G h
theorem nK {y:V}{u:Value}{Q:Unit->By->Prop}(I:Inv X pins σ H s) (e:H a=some (.ins C dx fs)) (c:pG X.K C) (n:dg X.K C f) (hl:fs.length<1000) (Y:RelV y u)
  (h:∀s',Inv X pins σ (upd H a (.ins C dx (bj f y fs))) s'->Q () s'):wpAny (model X.prog X.w) A (setAttr (.ref a) f u) Q E s:=by
 let#[mA,O,r,wi,_,J]:=lQ I.bC e;have U:(fs.map (·.1)).length<=sizeLine:=(by rw[BY,Lh];omega);show Cs I.jk O c.sa c.po n.GJ c.hd wi U λh' G L=>h _ ?_;have hd:∃o,h'.get? dx=some o:=let ⟨o,_,_,S,_⟩:=G.ns;#[o,S];show I.write (x:=a) (e:=dx) (by rw[e];show Mn) (.inr J) (λb q R z=>(L.2 b R).trans z) hd ?_;show#[by rw[ag O.ne];show J,?_,O.ne,G.obj,_,G.ns,λg=>?_,λg N=>?_]
 .have:=k8 f y fs;omega
 .change gi ((bj f y fs).lookup g) (if g=f then some u else mA g);rw[aE];by_cases q:g=f
  .rw[Q0 q,Q0 q];show Y
  .rw[QZ q,QZ q];show r g
 .by_cases q:g=f
  .rw[q];show(kC f y fs).1
  .show(kC f y fs).2 g (wi g λz=>N ?_);change(if g=f then some u else mA g)=none;rw[QZ q];show z
theorem Inv.made (I:Inv X pins σ H s):Inv X pins σ (upd (upd H s.heap.objs.size (.own (s.heap.objs.size+1))) (s.heap.objs.size+1) (.ins C s.heap.objs.size []))
  { s with heap:=(s.heap.push emptyDict).push (instObj C s.heap.objs.size) }:=by
 have G:(s.heap.push emptyDict).get? s.heap.objs.size=some emptyDict:=Heap.get?_push_size s.heap rfl;have L:((s.heap.push emptyDict).push (instObj C s.heap.objs.size)).get? (s.heap.objs.size+1)=some (instObj C s.heap.objs.size):=by
  have:=Heap.get?_push_size (s.heap.push emptyDict) (o:=instObj C s.heap.objs.size) rfl
  rwa [Heap.size_push]at this
 have N:(s.heap.push emptyDict).Ns s.heap.objs.size (λ_=>none):=#[emptyDict, ([].toArray),_,G,rfl,(λe O=>absurd O (by simp)),λ_=>rfl];have S:=I.laid (a:=s.heap.objs.size) (o:=.own (s.heap.objs.size+1)) (h':=s.heap.push emptyDict) (t':=s.toks) (λb u q=>Heap.get?_push_of_some _ q) (HC _) #[_,G];show S.laid (a:=s.heap.objs.size+1) (o:=.ins C s.heap.objs.size []) (t':=s.toks) (λb u q=>Heap.get?_push_of_some _ q) (Nat.le_of_eq (Heap.size_push _ _)) ?_;have J:s.heap.objs.size≠s.heap.objs.size+1:=LM (Nat.lt_succ_self _);show#[by rw[ag J,ae],LD _,J,L,λ_=>none,(Heap.Ns1.of_empty N).at λo q=>Heap.get?_push_of_some _ q,λ_=>Mn,λy R=>absurd rfl R]
theorem Cj {prog:IF}{w:Ll}{env:OE}{e:LC}{f:Str}{pos:Nu}{s:By}{Q:Value->By->Prop}(G:Nh e f env (eval e env)=eval e env)
  (h:wpAny (model prog w) A (eval e env) (λo I=>wpAny (model prog w) A (getAttr o f true) Q E I) E s):wpAny (model prog w) A (eval (.Attribute e f pos) env) Q E s :=
 Attribute_any_ h (by rw[arm_eval_Attribute,G])
end
inductive Ea (K:PySem.W.Frag) (ta:TE) (f:Str) (Q:VK) (x:V) (H1:Hp):Prop
 |mk (a:_) (C:_) (dx:_) (fs:_) (v:_) (_:x=.ref a) (_:H1 a=some (.ins C dx fs)) (_:pG K C) (_:dg K C f) (_:fs.lookup f=some v) (_:Q v H1):Ea K ta f Q x H1
noncomputable def DK (K:PySem.W.Frag) (ta:TE) (f:Str):TE:=λσ H Q=>ta σ H λx H1=>Ea K ta f Q x H1
noncomputable def JG (K:PySem.W.Frag) (ta tv:TE) (f:Str):TS:=λD σ H=>tv σ H λy H1=>ta σ H1 λx H2=>Jc λa C dx fs=>xU (x=.ref a) (H2 a=some (.ins C dx fs)) (pG K C) (dg K C f) (fs.length<1000) (D.nx σ (upd H2 a (.ins C dx (bj f y fs))))
noncomputable def Gu (X:Cx) (G:PN) (rd:V->V->Hp->VK->Prop):Prop :=
 ∀(pins:List (Addr×Obj)) (s:By) (σ:St) (H:Hp) (x y:V) (u v:Value) (Q:VK),Inv X pins σ H s->RelV x u->RelV y v->rd x y H Q->wpAny (model X.prog X.w) X.A (inplaceOp G u v) (EP X pins σ Q) X.xe s
noncomputable def Dy (K:PySem.W.Frag) (ta tv:TE) (rd:V->V->Hp->VK->Prop) (f:Str):TS:=λD σ H=>ta σ H λx H1=>BX λa C dx fs v=>xU (x=.ref a) (H1 a=some (.ins C dx fs)) (pG K C) (dg K C f) (fs.lookup f=some v) (tv σ H1 λy H2=>rd v y H2 λz H3=>∃G fs',H3 a=some (.ins C G fs')/\fs'.length<1000/\D.nx σ (upd H3 a (.ins C G (bj f z fs'))))
section
variable {X:Cx}{o e value:LC}{f:Str}{pos pos' tpos:Nu}{ta tv:TE}
theorem aL (G:PE X e ta) (N:Nh e f X.env (eval e X.env)=eval e X.env):PE X (.Attribute e f pos) (DK X.K ta f):=by
 intro pins s σ H Q I h;show Cj N (bS (G pins s σ H _ I h) λu s1 O=>?_);let#[x,H1,R,J,a,C,dx,fs,v,ex,L,c,n,l,q]:=O;subst ex;obtain rfl:u=Value.ref a:=J;show m9 R L c n l λY s2 U S=>#[v,H1,U,S,q]
theorem fM (U:PE X o ta) (Y:PE X value tv) (hs:Ov value (some (.Attribute o f pos')) pos.line X.env=pure false):PS X (.Assign [.Attribute o f pos'] value pos) (JG X.K ta tv f):=by
 intro pins s σ H D I h;show plainObj_wpAny_Assign_Attribute (bS (Y pins s σ H _ I h) λu L J=>?_) hs;let#[y,H1,I1,ry,q]:=J;show bS (U pins L σ H1 _ I1 q) λov s2 G=>?_;let#[x,H2,I2,O,a,C,dx,fs,ex,R,c,n,l,S]:=G;subst ex;obtain rfl:ov=Value.ref a:=O;show nK I2 R c n l ry λs3 N=>#[σ,_,N,S]
theorem yC {G:PN}{rd:V->V->Hp->VK->Prop}(ha:PE X o ta) (hv:PE X value tv) (ap:Gu X G rd):PS X (.AugAssign (.Attribute o f tpos) G value pos) (Dy X.K ta tv rd f):=by
 intro pins s σ H D I h;show wpAny_AugAssign_AttributeAny (bS (ha pins s σ H _ I h) λov s1 ac=>?_);let#[x,H1,I1,rx,a,C,dx,fs,v,ex,ea,c,n,l,q]:=ac;subst ex;obtain rfl:ov=Value.ref a:=rx;show m9 I1 ea c n l λu s2 I2 ru=>bS (hv pins s2 σ H1 _ I2 q) λJ s3 am=>?_;let#[y,H2,Y,ry,U]:=am;show bS (ap pins s3 σ H2 v y u J _ Y ru ry U) λw4 s4 ab=>?_;let#[z,H3,N,S,as,fs',O,l',L]:=ab;show nK N O c n l' S λs5 R=>#[σ,_,R,L]
inductive Iu (x:V) (y:V) (H:Hp) (Q:VK):Prop
 |mk (i:_) (j:_) (_:x=.int i) (_:y=.int j) (_:Q (.int (i+j)) H):Iu x y H Q
theorem FQ:Gu X .Add Iu:=by
 rintro pins s σ H x y u v Q I G J ⟨i,j,rfl,rfl,q⟩;let#[t,rfl]:=(show ∃t,u=Value.int i t from G);let#[t',rfl]:=(show ∃t',v=Value.int j t' from J);show Qf #[.int (i+j),H,I.tok _,#[0],q]
end
section
variable {X:Cx}{pins:List (Addr×Obj)}{σ:St}{H:Hp}{s:By}{A:Lq}{E:Value->By->Prop}{Q:Value->By->Prop}{c:Value}{b:Bool}
inductive jX (K:PySem.W.Frag) (H:Hp):V->Value->Prop where
 |non:jX K H .non (.type "NoneType")
 |bl (x:Bool):jX K H (.bl x) (.type "bool")
 |int (i:Int):jX K H (.int i) (.type "int")
 |str (x:Str):jX K H (.str x) (.type "str")
 |flt (x:UInt64):jX K H (.flt x) (.type "float")
 |lst {a:Addr}{xs:List V}(e:H a=some (.lst xs)):jX K H (.ref a) (.type "list")
 |cH {a:Addr}{o:Obj}{xs:List V}(e:H a=some (.cH o (.lst xs))):jX K H (.ref a) (.type "list")
 |tup {a:Addr}{xs:List V}(e:H a=some (.tup xs)):jX K H (.ref a) (.type "tuple")
 |dK {a:Addr}{kvs:List (Key×V)}(e:H a=some (.dK kvs)):jX K H (.ref a) (.type "dict")
 |dT {a:Addr}{kvs:List (List Key×V)}(e:H a=some (.dT kvs)):jX K H (.ref a) (.type "dict")
 |ins {a C dx:Addr}{fs:List (Str×V)}(e:H a=some (.ins C dx fs)) (cl:pG K C) (ha:N5 K (.ref C) "__class__" = some (some (.builtin "object.__class__")))
   (hn:PySem.W.specialIn K (.builtin "object.__class__") "__get__" = some (some (.builtin "getset_descriptor.__get__"))) (htk:PySem.W.takesIn K (.builtin "object.__class__")=some true)
   (hm:PySem.W.mroIn K C (.type "object")=some true):jX K H (.ref a) (.ref C)
theorem yV {x:V}{u t:Value}(I:Inv X pins σ H s) (G:RelV x u) (ty:jX X.K H x t) (e:Nz X.K t c=some b) (h:∀tk,Q (.bool b) { s with toks:=tk }) :
  wpAny (model X.prog X.w) A (call (.builtin "isinstance") [u,c]) Q E s:=by
 cases ty with
 |non=>cases(show u=Value.none from G);show NF PySem.W.kitx_none I.jk Mn e (λz=>nomatch z) h
 |bl y=>cases(show u=Value.bool y from G);show NF PySem.W.kitx_bool I.jk Mn e (λz=>nomatch z) h
 |int i=>let#[t,q]:=(show ∃t,u=Value.int i t from G);cases q;show NF PySem.W.kitx_int I.jk Mn e (λz=>nomatch z) h
 |str y=>let#[t,q]:=(show ∃t,u=Value.str y t from G);cases q;show NF PySem.W.kitx_str I.jk Mn e (λz=>nomatch z) h
 |flt y=>let#[t,q]:=(show ∃t,u=Value.float y t from G);cases q;show NF PySem.W.kitx_float I.jk Mn e (λz=>nomatch z) h
 | @lst a xs L =>
  cases(show u=Value.ref a from G);let#[_,_,n,_,h1]:=(show bT X.prog X.w H s.heap a (.lst xs)from I.bC a _ L);show NF kitx_list I.jk #[_,h1,rfl] e (λz=>nomatch z) h
 | @cH a ob xs L =>
  cases(show u=Value.ref a from G);let#[_,_,_,n,_,h1]:=(show bT X.prog X.w H s.heap a (.cH ob (.lst xs))from I.bC a _ L);show NF kitx_list I.jk #[_,h1,rfl] e (λz=>nomatch z) h
 | @tup a xs L =>
  cases(show u=Value.ref a from G);let#[_,_,_,p]:=(show bT X.prog X.w H s.heap a (.tup xs)from I.bC a _ L);let#[o,h1,h2,_]:=p;show NF kitx_tuple I.jk #[o,h1,h2] e (λz=>nomatch z) h
 | @dK a kvs L =>
  cases(show u=Value.ref a from G);let#[_,_,vs,_,p]:=(show bT X.prog X.w H s.heap a (.dK kvs)from I.bC a _ L);let#[o,es,ep,h1,h2,_]:=p;show NF kitx_dict I.jk #[o,h1,h2.1] e (λz=>nomatch z) h
 | @dT a kvs L =>
  cases(show u=Value.ref a from G);let#[_,_,xs,_,o,es,ep,h1,h2,_]:=(show bT X.prog X.w H s.heap a (.dT kvs)from I.bC a _ L);show NF kitx_dict I.jk #[o,h1,h2.1] e (λz=>nomatch z) h
 | @ins a C dx fs L cl S U R N =>
  cases(show u=Value.ref a from G);let#[mA,O,_]:=lQ I.bC L;let#[od,J,_]:=O.look;show NF (PySem.W.kitx_own (cl.get _) cl.hd S U R N) I.jk J e (λz=>nomatch z) h
end
structure cZ (k:Nat) (A:Lq):Prop where
 hd:A.handled=none
 dp:A.depth+3*k+5<recursionLimit
 un:A.units+16*k+200<NG
theorem cZ.mono {j k:Nat}{A:Lq}(r:cZ k A) (h:j<=k):cZ j A:=#[r.hd,by have:=r.dp;omega,by have:=r.un;omega]
theorem cZ.deeper {k:Nat}{A:Lq}(r:cZ (k+1) A) (env:OE):cZ k (A.deeper env):=
 #[r.hd,by have:=r.dp;change A.depth+1+3*k+5<_;omega,by have:=r.un;change A.units+3+16*k+200<_;omega]
theorem we {A:Lq}{C:Addr}{us:List Value}{G:List (Str×Value)}:(A.under (.builtin "type.__call__" #[.ref C::us,G])).depth=A.depth+1:=by
 first|rfl|simp[PR,Code.weight,Code.isCreation,Code.isGuard,Code.isCaller,QS,PU,guardIds]
theorem wg {A:Lq}{C:Addr}{us:List Value}{G:List (Str×Value)}:(A.under (.builtin "type.__call__" #[.ref C::us,G])).units=A.units+1:=by
 first|rfl|simp[PR,Code.cUnits,QS,PU]
theorem cZ.make {k:Nat}{A:Lq}(r:cZ (k+1) A) (C:Addr) (us:List Value) (G:List (Str×Value)):cZ k (A.under (.builtin "type.__call__" #[.ref C::us,G])):=
 #[r.hd,by have:=r.dp;rw[we];omega,by have:=r.un;rw[wg];omega]
theorem cZ.depth {k:Nat}{A:Lq}(r:cZ k A):A.depth<recursionLimit:=by have:=r.dp;omega
theorem cZ.units {k:Nat}{A:Lq}(r:cZ k A):A.units+64<NG:=by have:=r.un;omega
theorem cZ.kT {k:Nat}{A:Lq}(r:cZ k A):A.units<NG:=by have:=r.un;omega
noncomputable def C1:TA:=λ_ H Q=>Q [] H
noncomputable def Gx (ta:TE) (G:TA):TA:=λσ H Q=>ta σ H λx H1=>G σ H1 λxs H2=>Q (x::xs) H2
section
variable {X:Cx}{e:LC}{es:List LC}{te:TE}{t:TA}{pos:Nu}
theorem ai:PA X [] C1:=λ_ _ _ _ H Q I h=>Calls.spliced_nil #[[],H,I,.nil,h]
theorem aa (ha:PE X e te) (G:PA X es t) (hs:starEach (e::es) X.env=(false,eval e X.env)::starEach es X.env:=by rfl):PA X (e::es) (Gx te t):=by
 intro pos pins s σ H Q I h;rw[hs];change wpAny _ _ (spliced ((false,eval e X.env)::backTo pos (starEach es X.env))) _ _ s;show Calls.spliced_cons (bS (ha pins s σ H _ I h) λu O U=>?_);let#[x,H1,R,N,J]:=U;show bS (G pos pins O σ H1 _ R J) λus s2 Y=>by let#[xs,H2,I2,L,S]:=Y;show#[x::xs,H2,I2,.cons N L,S]
noncomputable def JS (t:TA):TE:=λσ H Q=>t σ H λxs H1=>xs.length<=sizeLine/\∀p,H1 p=none->Q (.ref p) (upd H1 p (.tup xs))
noncomputable def GQ (t:TA):TE:=λσ H Q=>t σ H λxs H1=>xs.length<=sizeLine/\∀p,H1 p=none->Q (.ref p) (upd H1 p (.lst xs))
theorem cR {x1} (h:PA X es t):PE X (.Tuple es x1 pos) (JS t):=by
 intro pins s σ H Q I L;show wpAny_Tuple_spliced (bS (h pos pins s σ H _ I L) λus G N=>?_);let#[xs,H1,J,r,z,q]:=N;show#[by rw[<-r.length];show z,?_];have O:H1 G.heap.objs.size=none:=J.bC.fresh (HC _);show#[.ref G.heap.objs.size,upd H1 G.heap.objs.size (.tup xs),J.laid (t':=G.toks) (λb u e=>Heap.get?_push_of_some _ e) (HC _) ?_,rfl,q _ O];show#[z,us,r,#[_,Heap.get?_push_size _ rfl,rfl,0]]
theorem cn (h:PA X es t):PE X (.List es pos) (GQ t):=by
 intro pins s σ H Q I L;show wpAny_List_spliced (bS (h pos pins s σ H _ I L) λus G N=>?_);let#[xs,H1,J,r,z,q]:=N;show#[by rw[<-r.length];show z,?_];have O:H1 G.heap.objs.size=none:=J.bC.fresh (HC _);show#[.ref G.heap.objs.size,upd H1 G.heap.objs.size (.lst xs),J.laid (t':=G.toks) (λb u e=>Heap.get?_push_of_some _ e) (HC _) ?_,rfl,q _ O];show#[z,us,(0),r,Heap.get?_push_size _ rfl]
end
noncomputable abbrev Sp:=List V->Hp->VK->XK->Prop
noncomputable abbrev ui:=List OE->Hp->By->XK->Value->By->Prop
structure uq (P:IF) (w:Ll) (K:PySem.W.Frag) (mg:Str->Option Value) (base:Heap) (A:Lq) (outer:List OE) (s:By) (H:Hp):Prop where
 frames:A.frames=some outer
 mod:Mod K mg base
 bs:∀b o,base.get? b=some o->s.heap.get? b=some o/\H b=none
 zk:base.objs.size<=s.heap.objs.size
 jj:s.heap.FunFrames base outer
 CO:∀b∈oK outer,H b=none
 bC:iX P w H s.heap
 bare:NY s.gens
noncomputable def CE (outer:List OE) (P:IF) (w:Ll) (H:Hp) (s:By) (Q:VK) (u:Value) (s':By):Prop :=
 ∃v H',s'.os=s.os/\NY s'.gens/\Un (oK outer) [] H H' s.heap s'.heap/\iX P w H' s'.heap/\RelV v u/\Q v H'
noncomputable def CR (CX:ui) (outer:List OE) (P:IF) (w:Ll) (H:Hp) (s:By) (Q:VK) (E:XK) (r:Result) (s':By):Prop :=
 match r with
 |.ok (.ret u)=>CE outer P w H s Q u s'
 |.ok _=>False
 |.error e=>CX outer H s E e s'
structure a8 (P:IF) (w:Ll) (K:PySem.W.Frag) (mg:Str->Option Value) (base:Heap) (CX:ui) (k:Nat) (f:Addr) (fd:GX) (ps:List Str) (sp:Sp):Prop where
 len:∀vs H Q E,sp vs H Q E->vs.length=ps.length
 run:∀(A:Lq) (outer:List OE) (s:By) (H:Hp) (args:Args) (us:List Value) (vs:List V) (Q:VK) (E:XK),cZ k A->uq P w K mg base A outer s H->PV s fd args (ps.zip us)->Vals vs us->sp vs H Q E ->
  NZ (model P w) A (.call (.ref f) args) (CR CX outer P w H s Q E) s
theorem uq.make {P:IF}{w:Ll}{K:PySem.W.Frag}{mg:Str->Option Value}{base:Heap}{A:Lq}{outer:List OE}{s:By}{H:Hp}(e:uq P w K mg base A outer s H) (C:Addr) (us:List Value) (G:List (Str×Value)) :
  uq P w K mg base (A.under (.builtin "type.__call__" #[.ref C::us,G])) outer s H:=#[by first|show e.frames|(simpa[PR,Code.envs,PU,pushEnvs]using e.frames),e.mod,e.bs,e.zk,e.jj,e.CO,e.bC,e.bare]
section
variable {X:Cx}{pins:List (Addr×Obj)}{σ:St}{H:Hp}{s s':By}
theorem Inv.Fb (I:Inv X pins σ H s):uq X.prog X.w X.K X.mg X.base X.A X.stack s H :=
 #[I.ok.frames,I.ok.mod,I.bs,Ly I.ok.zk I.sz,I.stack,I.rf,I.bC,I.bare]
theorem Inv.after {Q:VK}{u:Value}(I:Inv X pins σ H s) (h:CE X.stack X.prog X.w H s Q u s'):EP X pins σ Q u s':=by
 let#[v,H',os,bare,un,G,r,q]:=h;let#[J,g,d,t,L]:=s';obtain rfl:L=s.os:=os;show#[v,H',I.call (h':=J) (g':=g) (d':=d) (t':=t) (ch:=[]) un G bare (λb z=>absurd z (by simp)),r,q]
end
noncomputable def DY (sp:Sp) (dvs:List V) (E:XK) (t:TA):TE:=λσ H Q=>t σ H λvs H1=>sp (vs++dvs) H1 Q E
inductive zu (C:Addr) (m:Str) (sp:Sp) (dvs:List V) (E:XK) (ta:TE) (t:TA) (σ:St) (Q:VK) (x:V) (H1:Hp):Prop
 |mk (a:_) (dx:_) (fs:_) (_:x=.ref a) (_:H1 a=some (.ins C dx fs)) (_:fs.lookup m=none) (_:t σ H1 λvs H2=>sp (x::(vs++dvs)) H2 Q E):zu C m sp dvs E ta t σ Q x H1
noncomputable def wW (C:Addr) (m:Str) (sp:Sp) (dvs:List V) (E:XK) (ta:TE) (t:TA):TE:=λσ H Q=>ta σ H λx H1=>zu C m sp dvs E ta t σ Q x H1
noncomputable def Eb (C:Addr) (sp:Sp) (dvs:List V) (E:XK) (t:TA):TE:=λσ H Q=>t σ H λvs H1=>∀x dx,H1 x=none->H1 dx=none->dx≠x ->
 sp (.ref x::(vs++dvs)) (upd (upd H1 dx (.own x)) x (.ins C dx [])) (λv H2=>v=.non/\Q (.ref x) H2) E
noncomputable def Binds (K:PySem.W.Frag) (fd:GX) (ps:List Str) (ds:List Value):Prop :=
 ∀(s:By) (us:List Value),K.In s.heap->(us++ds).length=ps.length->PV s fd #[us,[]] (ps.zip (us++ds))
theorem Binds.all {K:PySem.W.Frag}{fd:GX}{ps:List Str}(h:∀us:List Value,us.length=ps.length->Qo fd #[us,[]]=pure (ps.zip us)):Binds K fd ps []:=λs us _ G=>by
 rw[OL]at G ⊢;show .of_eq (h us G)
noncomputable def Passes (CX:ui) (X:Cx) (E:XK):Prop:=∀(pins:List (Addr×Obj)) (σ:St) (H:Hp) (s:By) (e:Value) (s':By),Inv X pins σ H s->CX X.stack H s E e s'->X.xe e s'
section
variable {X:Cx}{CX:ui}{k:Nat}{f C:Addr}{fd:GX}{ps:List Str}{sp:Sp}{dvs:List V}{ds:List Value}{E:XK}{x m:Str}{p pos apos:Nu}{e o:LC}{es:List LC}{ta:TE}{t:TA}
theorem ur {pins:List (Addr×Obj)}{σ:St}{H:Hp}{s:By}{Q:VK}{us:List Value}{vs:List V}(F:a8 X.prog X.w X.K X.mg X.base CX k f fd ps sp) (N:cZ k X.A) (R:Binds X.K fd ps ds) (hd:Vals dvs ds) (O:Passes CX X E)
  (I:Inv X pins σ H s) (r:Vals vs us) (h:sp (vs++dvs) H Q E):wpAny (model X.prog X.w) X.A (call (.ref f) us) (EP X pins σ Q) X.xe s:=by
 have J:Vals (vs++dvs) (us++ds):=r.append hd;have L:(us++ds).length=ps.length:=(by rw[<-J.length];show F.len _ _ _ _ h);show PB (N0 (F.run X.A X.stack s H #[us,[]] (us++ds) (vs++dvs) Q E N I.Fb (R s us I.jk L) J h) λr s' G=>?_);cases r with
 |error e=>show O pins σ H s e s' I G
 |ok S =>
  cases S with
  |ret u=>show I.after G
  |next=>show Mc G
  |brk=>show Mc G
  |cont=>show Mc G
theorem De (F:a8 X.prog X.w X.K X.mg X.base CX k f fd ps sp) (J:cZ k X.A) (N:Gl X x) (hm:X.mg x=some (.ref f)) (O:OJ X.K (.ref f)=true) (S:Binds X.K fd ps ds) (hd:Vals dvs ds) (R:Passes CX X E)
  (ha:PA X (e::es) t) (ab:(x==("__debug__" : Str))=false:=by decide) (L:starEach (e::es) X.env=(false,eval e X.env)::starEach es X.env:=by rfl) (U:(backTo pos (starEach es X.env)).any (·.1)=false:=by rfl) :
  PE X (.Call (.Name x p) (e::es) [] pos) (DY sp dvs E t):=by
 intro pins s σ H Q I h;show MC (gI I N hm ?_ ab);show OM (h₀:=X.base) I.ok.mod.DR O (bS (ha pos pins s σ H _ I h) λus s1 Y=>?_) L U;let#[vs,H1,G,r,q]:=Y;show#[G.jk,?_];show ur F J S hd R G r q
theorem DF {pl:Om Bool}(he:PE X o ta) (c:pG X.K C) (G:Meth X.K C m f) (F:a8 X.prog X.w X.K X.mg X.base CX k f fd ps sp) (Y:cZ k X.A) (O:Binds X.K fd ps ds) (hd:Vals dvs ds) (hx:Passes CX X E) (ha:PA X (e::es) t)
  (N:starEach (e::es) X.env=(false,eval e X.env)::starEach es X.env:=by rfl) (S:(backTo pos (starEach es X.env)).any (·.1)=false:=by rfl)
  (ht:eval (.Call (.Attribute o m apos) (e::es) [] pos) X.env=(do
   let ov <-eval o X.env
   OG apos.atName
   let (f,first) <-NR [ov] (NP ov m pl)
   Pb pos f first (backTo pos (starEach (e::es) X.env)) (NX pos (MZ [] X.env))):=by rfl) :
  PE X (.Call (.Attribute o m apos) (e::es) [] pos) (wW C m sp dvs E ta t):=by
 intro pins s σ H Q I h;show Pq (pl:=pl) (bS (he pins s σ H _ I h) λu R ab=>?_) ht;let#[x,H1,L,rx,a,dx,fs,ex,ea,l,q]:=ab;subst ex;obtain rfl:u=Value.ref a:=rx;show jc L ea c G l ?_;show OM (first:=[.ref a]) (h₀:=X.base) I.ok.mod.DR G.kp (bS (ha pos pins R σ H1 _ L q) λus s2 U=>?_) N S;let#[vs,H2,J,r,q2]:=U;show#[J.jk,?_];show ur (us:=.ref a::us) (vs:=.ref a::vs) F Y O hd hx J (.cons rfl r) q2
theorem AL {pl:Om Bool}(N:PE X o ta) (c:pG X.K C) (J:Meth X.K C m f) (F:a8 X.prog X.w X.K X.mg X.base CX k f fd ps sp) (L:cZ k X.A) (U:Binds X.K fd ps ds) (hd:Vals dvs ds) (O:Passes CX X E)
  (Y:eval (.Call (.Attribute o m apos) [] [] pos) X.env=(do
   let ov <-eval o X.env
   OG apos.atName
   let (f,first) <-NR [ov] (NP ov m pl)
   Pb pos f first (backTo pos (starEach [] X.env)) (NX pos (MZ [] X.env))):=by rfl) :
  PE X (.Call (.Attribute o m apos) [] [] pos) (wW C m sp dvs E ta C1):=by
 intro pins s σ H Q I h;show Pq (pl:=pl) (bS (N pins s σ H _ I h) λu s1 ab=>?_) Y;let#[x,H1,G,R,a,dx,fs,ex,S,l,q]:=ab;subst ex;obtain rfl:u=Value.ref a:=R;show jc G S c J l ?_;show callWith_K0 (first:=[.ref a]) G.jk J.kp (ur (us:=[.ref a]) (vs:=[.ref a]) F L U hd O G (.cons rfl .nil) q)
structure Mk (K:PySem.W.Frag) (C f:Addr):Prop where
 makes:makesIn K C=true
 init:N5 K (.ref C) "__init__" = some (some (.ref f))
 fn:isFn K (.ref f)=true
 kp:OJ K (.ref C)=true
theorem tE {pins:List (Addr×Obj)}{σ:St}{H:Hp}{s:By}{Q:VK}{us:List Value}{vs:List V}(M:Mk X.K C f) (F:a8 X.prog X.w X.K X.mg X.base CX k f fd ps sp) (hr:cZ (k+1) X.A) (hb:Binds X.K fd ps ds) (hd:Vals dvs ds)
  (hx:Passes CX X E) (I:Inv X pins σ H s) (r:Vals vs us)
  (h:∀x dx,H x=none->H dx=none->dx≠x->sp (.ref x::(vs++dvs)) (upd (upd H dx (.own x)) x (.ins C dx [])) (λv H2=>v=.non/\Q (.ref x) H2) E) :
  wpAny (model X.prog X.w) X.A (call (.ref C) us) (EP X pins σ Q) X.xe s:=by
 have N:=h (s.heap.objs.size+1) s.heap.objs.size (I.bC.fresh (ON _)) (I.bC.fresh (HC _)) (LM (Nat.lt_succ_self _));have J:=Inv.made (C:=C) I;have L:Vals (V.ref (s.heap.objs.size+1)::(vs++dvs)) (Value.ref (s.heap.objs.size+1)::(us++ds)):=.cons rfl (r.append hd);have Y:(Value.ref (s.heap.objs.size+1)::us++ds).length=ps.length:=by
  have e:=L.length;rw[F.len _ _ _ _ N]at e;show e.symm
 show PB (AU (f:=f) I.jk M.makes M.init (beq_iff_eq.mp M.fn) (N0 (F.run _ X.stack _ _ #[Value.ref (s.heap.objs.size+1)::us,[]] (Value.ref (s.heap.objs.size+1)::(us++ds)) _ _ E (hr.make C us [])
  (J.Fb.make C us []) (hb _ (Value.ref (s.heap.objs.size+1)::us) J.jk Y) L N) λr s' G=>?_))
 cases r with
 |error e=>show hx pins σ _ _ e s' J G
 |ok S =>
  cases S with
  |ret u =>
   let#[v,H',I3,O,R,U]:=J.after G;subst R;show#[O,#[V.ref (s.heap.objs.size+1),H',I3,rfl,U]]
  |next=>show Mc G
  |brk=>show Mc G
  |cont=>show Mc G
theorem lL (M:Mk X.K C f) (F:a8 X.prog X.w X.K X.mg X.base CX k f fd ps sp) (J:cZ (k+1) X.A) (N:Gl X x) (U:X.mg x=some (.ref C)) (R:Binds X.K fd ps ds) (hd:Vals dvs ds) (O:Passes CX X E)
  (ha:PA X (e::es) t) (ab:(x==("__debug__" : Str))=false:=by decide) (L:starEach (e::es) X.env=(false,eval e X.env)::starEach es X.env:=by rfl) (S:(backTo pos (starEach es X.env)).any (·.1)=false:=by rfl) :
  PE X (.Call (.Name x p) (e::es) [] pos) (Eb C sp dvs E t):=by
 intro pins s σ H Q I h;show MC (gI I N U ?_ ab);show OM (h₀:=X.base) I.ok.mod.DR M.kp (bS (ha pos pins s σ H _ I h) λus s1 Y=>?_) L S;let#[vs,H1,G,r,q]:=Y;show#[G.jk,?_];show tE M F J R hd O G r q
theorem tX (M:Mk X.K C f) (F:a8 X.prog X.w X.K X.mg X.base CX k f fd ps sp) (G:cZ (k+1) X.A) (J:Gl X x) (O:X.mg x=some (.ref C)) (N:Binds X.K fd ps ds) (hd:Vals dvs ds) (L:Passes CX X E)
  (R:(x==("__debug__" : Str))=false:=by decide):PE X (.Call (.Name x p) [] [] pos) (Eb C sp dvs E C1):=by
 intro pins s σ H Q I h;show MC (gI I J O ?_ R);show callWith_K0 I.jk M.kp (tE (us:=[]) M F G N hd L I .nil h)
end
section
variable {X:Cx}{CX:ui}{k:Nat}{f C:Addr}{fd:GX}{ps ks:List Str}{sp:Sp}{E:XK}{x m:Str}{p pos apos kpos:Nu}{e o:LC}{es:List LC}{kws:List Pm}{te ta:TE}{t tk:TA}{nm:Option Str}
variable {g:List Value->List Value->List Value}{gV:List V->List V->List V}
end
structure aC (N P:List Str) (sc:Od):Prop where
 kind:sc.kind=.function
 co:sc.isCoroutine=false
 gen:sc.isGenerator=false
 nd:N.Nodup
 pre:N.take P.length=P
 par:∀x∈P,sc.names.lookup x=some .local\/sc.names.lookup x=some .cell
 FR:∀y∈sc.names,y.2≠.free
theorem bG {N P:List Str}{G:Od}(a:G.kind=.function:=by exact rfl) (b:G.isCoroutine=false:=by exact rfl) (c:G.isGenerator=false:=by exact rfl) (d:N.Nodup:=by decide +kernel) (e:N.take P.length=P:=by exact rfl) (f:∀x∈P,G.names.lookup x=some .local\/G.names.lookup x=some .cell:=by decide +kernel) (g:∀y∈G.names,y.2≠.free:=by decide +kernel):aC N P G:=#[a,b,c,d,e,f,g]
theorem pf {kindOf:Str->Option NameKind}{x:Str}:∀{binds:List (Str×Value)}{m:Str->Option Value},(∀v,(x,v)∉binds)->Qp kindOf binds m x=m x
 | [],_,_=>rfl
 |(n,v)::r,m,h=>by
  unfold Qp;rw[pf λw G=>h w (Lx _ G)];split
  .have:x≠n:=(by rintro rfl;show h v Ls);simp[this]
  .rfl
theorem oU {kindOf:Str->Option NameKind}{x:Str}:∀{binds:List (Str×Value)}{m:Str->Option Value},(∀v,(x,v)∉binds)->Qq kindOf binds m x=m x
 | [],_,_=>rfl
 |(n,v)::r,m,h=>by
  unfold Qq;rw[oU λw G=>h w (Lx _ G)];split
  .rfl
  .have:x≠n:=(by rintro rfl;show h v Ls);simp[this]
theorem pE {kindOf:Str->Option NameKind}{x:Str}{v:Value}:∀{P:List Str}{vs:List Value}{i:Nat}{m:Str->Option Value},P.Nodup->P[i]?=some x->vs[i]?=some v->kindOf x=some .local ->
  Qp kindOf (P.zip vs) m x=some v
 | [],_,_,_,_,h,_,_=>by simp at h
 |_::_,[],_,_,_,_,h,_=>by simp at h
 |p::P,w::vs,0,m,I,h1,h2,G=>by
  simp at h1 h2;subst h1;subst h2;change Qp kindOf ((p,w)::P.zip vs) m p=_;unfold Qp;rw[pf λv J=>(List.nodup_cons.mp I).1 (Qr J).1,Q0 G];simp
 |p::P,w::vs,i+1,m,I,h1,h2,G=>by
  change Qp kindOf ((p,w)::P.zip vs) m x=_;unfold Qp;show pE (i:=i) (List.nodup_cons.mp I).2 (by simpa using h1) (by simpa using h2) G
theorem oT {kindOf:Str->Option NameKind}{x:Str}{v:Value}:∀{P:List Str}{vs:List Value}{i:Nat}{m:Str->Option Value},P.Nodup->P[i]?=some x->vs[i]?=some v->kindOf x≠some .local ->
  Qq kindOf (P.zip vs) m x=some v
 | [],_,_,_,_,h,_,_=>by simp at h
 |_::_,[],_,_,_,_,h,_=>by simp at h
 |p::P,w::vs,0,m,I,h1,h2,G=>by
  simp at h1 h2;subst h1;subst h2;change Qq kindOf ((p,w)::P.zip vs) m p=_;unfold Qq;rw[oU λv J=>(List.nodup_cons.mp I).1 (Qr J).1,QZ G];simp
 |p::P,w::vs,i+1,m,I,h1,h2,G=>by
  change Qq kindOf ((p,w)::P.zip vs) m x=_;unfold Qq;show oT (i:=i) (List.nodup_cons.mp I).2 (by simpa using h1) (by simpa using h2) G
noncomputable def start (N:List Str) (vs:List V):St:=vs.map some++replicate (N.length-vs.length) none
noncomputable def vp (CX:ui) (P:IF) (w:Ll) (K:PySem.W.Frag) (mg:Str->Option Value) (base:Heap) (N:List Str) (G:Str) (scope:Od) (f:Addr) (cd:Value) (A:Lq) (outer:List OE) (s:By) (H:Hp) (E:XK):Cx where
 prog:=P
 w:=w
 K:=K
 mg:=mg
 base:=base
 A:=A.deeper (OO G scope s.heap.objs.size f cd)
 N:=N
 s₀:=s
 H₀:=H
 env:=OO G scope s.heap.objs.size f cd
 outer:=outer
 stack:=OO G scope s.heap.objs.size f cd::outer
 ex:=[]
 calm:=true
 fn:=λ_=>true
 pn:=[]
 xe:=λe s'=>wpAny (model P w) (A.deeper (OO G scope s.heap.objs.size f cd)) (leaving (OO G scope s.heap.objs.size f cd) e) (λ_ I=>CX outer H s E e I) (λJ I=>CX outer H s E J I) s'
theorem tu {G:Od}{n:Nat}{x:Str}(h:G.names.lookup x=some .cell):∃c,(QF n G.names []).lookup x=some c:=by
 have q:=PySem.W.cellsFrom_some G.names n [] (.inl h);show Option.isSome_iff_exists.mp q
theorem yP {CX:ui}{P:IF}{w:Ll}{K:PySem.W.Frag}{mg:Str->Option Value}{base:Heap}{N ps:List Str}{L:Str}{scope:Od}{f:Addr}{cd:Value}{A:Lq}{outer:List OE}{s R:By}{H:Hp}{E:XK}{us:List Value}{vs:List V}
  (S:aC N ps scope) (hd:A.handled=none) (G:uq P w K mg base A outer s H) (hl:vs.length=ps.length) (r:Vals vs us)
  (x:InCallC s s.heap.objs.size (Qp (OO L scope s.heap.objs.size f cd).kindOf (ps.zip us) λ_=>none) (QF (s.heap.objs.size+1) scope.names []) (Qq (OO L scope s.heap.objs.size f cd).kindOf (ps.zip us) λ_=>none) R) :
  Inv (vp CX P w K mg base N L scope f cd A outer s H E) [] (start N vs) H R:=by
 have ac:ps.length<=N.length:=(by have:=congrArg List.length S.pre;rw[Lp]at this;omega);let#[h1,tk,rfl,U]:=x.done;have O:∀b:Addr,b∉(vp CX P w K mg base N L scope f cd A outer s H E).ex:=λb z=>absurd (show b∈([]:List Addr)from z) (by simp);show#[#[G.mod,S.kind,1,HC _,λy z c h1 h2=>?_,λy I=>?_,λy c _ h=>?_,λ_=>hd,Around.frames_deeper G.frames,.inr #[1],λb z=>absurd z (O b),G.bs,G.zk,λb _ _=>O b,λb z=>absurd z (O b),G.jj,G.CO],
  rfl,G.bare,Un.kept U,#[_,x.toInCall.ns,λi y v h1 h2 h3=>?_],λy c h=>#[_,x.cell y c h],G.bC.fresh (HC _),λy c h=>?_,λp J=>absurd (show p∈([]:List (Addr×Obj))from J) (by simp),G.bC.kept U,?_]
 .show name_of_addr x.apart (PySem.mem_of_lookup h1) (PySem.mem_of_lookup h2)
 .have I:scope.names.lookup y=some .cell\/scope.names.lookup y=some .free:=I;rcases I with I|I
  .show tu I
  .show absurd rfl (S.FR _ (PySem.mem_of_lookup I))
 .show Qk (x.above y c (PySem.mem_of_lookup h))
 .have hi:i<vs.length:=by
   unfold start at h2;by_cases hi:i<vs.length
   .show hi
   .rw[LY (by simpa using hi)]at h2;rw[List.getElem?_replicate]at h2;split at h2<;>cases h2
  have ha:vs[i]?=some v:=by
   unfold start at h2;rw[L4 (by simpa using hi),K4]at h2;cases e:vs[i]? with
   |none=>rw[e]at h2;cases h2
   |some a=>rw[e]at h2;cases h2;rfl
  let#[u,Y,rv]:=r.get ha;have J:ps[i]?=some y:=by
   rw[<-S.pre,List.getElem?_take_of_lt af];show h1
  have ab:ps.Nodup:=(by rw[<-S.pre];show S.nd.sublist (Nl _ _));show#[u,rv,?_];rcases S.par y (Ld J)with k|k
  .show .inl #[k,pE ab J Y k]
  .let#[c,e]:=tu (n:=s.heap.objs.size+1) k;show .inr #[.inl k,c,e,?_];have q:=x.cell y c e;rw[oT ab J Y (by change scope.names.lookup y≠_;rw[k];decide)]at q;show q
 .show G.bC.fresh (Qk (x.above y c (PySem.mem_of_lookup h)))
 .unfold start;change _=N.length;rw[Li,BY,LW];omega
theorem Ei {CX:ui}{P:IF}{w:Ll}{K:PySem.W.Frag}{mg:Str->Option Value}{base:Heap}{k:Nat}{f:Addr}{name L:Str}{am:Arguments}{body:List LI}{scope:Od}{dV kV ab pm G ct oc:Value}{an od:Option Addr}
  {a2:Array (Option Value)}{N ps:List Str}{sp:Sp}(lk:K.lookup f=some #[oc,od,.func (QJ name L am body scope dV kV ab pm an G ct),a2]) (aT:QK K G L=true) (S:aC N ps scope)
  (len:∀vs H Q E,sp vs H Q E->vs.length=ps.length)
  (as:∀(A:Lq) (outer:List OE) (s:By) (H:Hp) (vs:List V) (Q:VK) (E:XK),cZ k (A.deeper (OO L scope s.heap.objs.size f G))->sp vs H Q E ->
   ∃t,vj (vp CX P w K mg base N L scope f G A outer s H E) body t/\t { nx:=λ_ H'=>Q .non H',rt:=Q } (start N vs) H) :
  a8 P w K mg base CX (k+1) f (QJ name L am body scope dV kV ab pm an G ct) ps sp:=by
 show#[len,λA outer s H args us vs Q E Y O hb r ac=>?_];have hl:=len _ _ _ _ ac;have KX:K.In s.heap:=O.mod.DR.keeps λb o e=>(O.bs b o e).1;have a0:s.heap.NoLimit:=O.mod.nolimit.keeps λb o e=>(O.bs b o e).1;have a1:∀y∈ps.zip us,scope.names.lookup y.1=some .local\/(scope.names.lookup y.1=some .cell/\((QF (s.heap.objs.size+1) scope.names []).lookup y.1).isSome=true):=λaB hy=>by
  let#[n,v]:=aB;rcases S.par n (Qr hy).1 with q|q
  .show .inl q
  .show .inr #[q,PySem.W.cellsFrom_some _ _ _ (.inl q)]
 show codeAny_call_function Y.depth (KX _ _ lk) rfl S.co S.gen rfl (PySem.W.codeRec_of KX aT) (hb _ _ _ _ ?_);show wpAny_newFunctionEnv_cells S.kind a1 λenv he s1 x=>?_;subst he;show#[a0.keeps x.toInCall.keep,codeAny_func ?_];let#[t,ht,hq]:=as A outer s H vs Q E (Y.deeper _) ac;have I:Inv (vp CX P w K mg base N L scope f G A outer s H E) [] (start N vs) H s1:=yP S Y.hd O hl r x;show L3 (ht [] s1 (start N vs) H _ I hq) (λfl s' hs=>?_) λe s' hs=>hs;have ap:∀{R:St}{H':Hp}{v:V}{u:Value},Inv (vp CX P w K mg base N L scope f G A outer s H E) [] R H' s'->RelV v u->Q v H'->CE outer P w H s Q u s' :=
  λ{R H' v u} J U q=>#[v,H',J.os,J.bare,J.base,J.bC,U,q]
 cases fl with
 |ret u =>
  let#[v,R,H',J,U,q]:=hs;show ap J U q
 |next =>
  let#[R,H',J,q]:=hs;show ap (v:=V.non) (u:=Value.none) J rfl q
 |brk =>
  let#[_,_,_,q]:=hs;show Mc q
 |cont =>
  let#[_,_,_,q]:=hs;show Mc q
section
variable {X:Cx}{x:Str}{p pos:Nu}{e:LC}{es:List LC}{t:TA}{id T:String}{r:List V->Hp->VK->Prop}
noncomputable def Ky (r:List V->Hp->VK->Prop) (t:TA):TE:=λσ H Q=>t σ H λvs H1=>r vs H1 Q
theorem aK (hc:dG X (.builtin id) r) (J:Gl X x) (S:X.mg x=none) (hv:LK x=some (.builtin id)) (ha:PA X (e::es) t) (hn:x ≠ "__name__" := by decide) (ab:(x==("__debug__" : Str))=false:=by decide)
  (G:starEach (e::es) X.env=(false,eval e X.env)::starEach es X.env:=by rfl) (R:(backTo pos (starEach es X.env)).any (·.1)=false:=by rfl):PE X (.Call (.Name x p) (e::es) [] pos) (Ky r t):=by
 intro pins s σ H Q I h;show MC (hU I J S hv ?_ hn ab);show PyProof.Rows.callWith_builtin1 (bS (ha pos pins s σ H _ I h) λus N U=>by let#[vs,H1,Y,O,L]:=U;show hc pins N σ H1 vs us Q Y O L) G R
theorem cg (hc:dG X (.type T) r) (J:Gl X x) (U:X.mg x=none) (hv:LK x=some (.type T)) (ha:PA X (e::es) t) (hn:x ≠ "__name__" := by decide) (ab:(x==("__debug__" : Str))=false:=by decide)
  (G:starEach (e::es) X.env=(false,eval e X.env)::starEach es X.env:=by rfl) (R:(backTo pos (starEach es X.env)).any (·.1)=false:=by rfl):PE X (.Call (.Name x p) (e::es) [] pos) (Ky r t):=by
 intro pins s σ H Q I h;show MC (hU I J U hv ?_ hn ab);show LZ (bS (ha pos pins s σ H _ I h) λus O N=>by let#[vs,H1,Y,S,L]:=N;show hc pins O σ H1 vs us Q Y S L) G R
end
end L2
namespace HT
open PySem PyProof.Rows
section
open PySem.SeqAt
open PySem.AutoSeq1 (wpAny_loadPart')
open PySem.MeetsSeq PySem.MeetsSeq2 PySem.MeetsSeq3
end
section
variable {prog:IF}{w:Ll}{A:Lq}{E:Value->By->Prop}{s:By}
noncomputable def di (n d:Nat):Option Int->Nat
 |none=>d
 |some v=>if v<0 then(v+(n:Int)).toNat else min v.toNat n
theorem lM (n d k:Nat):di n d (some (k:Int))=min k n:=by
 change(if (k:Int)<0 then((k:Int)+(n:Int)).toNat else min (k:Int).toNat n)=min k n;rw[QZ af,MX]
theorem E2 (n d:Nat) (hd:d<=n) (o:Option Int):di n d o<=n:=by
 cases o with
 |none=>show hd
 |some v =>
  change(if v<0 then(v+(n:Int)).toNat else min v.toNat n)<=n;by_cases G:v<0
  .rw[Q0 G];omega
  .rw[QZ G];show Nat.min_le_right _ _
theorem xn (v:Int) (n d:Nat):(if v<0 then max (v+(n:Int)) 0 else min v (n:Int))=((di n d (some v):Nat):Int):=by
 change(if v<0 then max (v+(n:Int)) 0 else min v (n:Int))=(((if v<0 then(v+(n:Int)).toNat else min v.toNat n):Nat):Int);by_cases G:v<0
 .simp only[Q0 G];omega
 .simp only[QZ G];omega
theorem uw (lo hi:Option Int) (n:Nat):Builtin.Slice.sliceAdjust lo hi 1 (n:Int)=(((di n 0 lo:Nat):Int),((di n n hi:Nat):Int)):=by
 have h1:¬ ((1:Int)<0):=af;unfold Builtin.Slice.sliceAdjust;simp only[h1,if_false];show PX ?_ ?_
 .cases lo with
  |none=>rfl
  |some v=>show xn v n 0
 .cases hi with
  |none=>rfl
  |some v=>show xn v n n
theorem vb (i j:Nat):Builtin.Slice.slicePlaces (i:Int) (j:Int) 1=j-i:=by
 unfold Builtin.Slice.slicePlaces;have h1:(1:Int)>0:=af;simp only[h1,if_true,Int.ediv_one];split<;>omega
theorem nZ {v:Value}{o:Option Int}{Q:Option Int->By->Prop}(p:OP v o) (h:Q o s):wpAny (model prog w) A (Builtin.Slice.slicePartIndex v) Q E s:=by
 cases p with
 |none=>show slicePart_none h
 |int i t=>show slicePart_int h
theorem gG {sl:Addr}{G L:Value}{lo hi:Option Int}{n:Nat}{Q:Int×Int×Nat->By->Prop}(hs:s.heap.IsSliceOf sl G L .none) (pl:OP G lo) (N:OP L hi)
  (h:Q (((di n 0 lo:Nat):Int),1,di n n hi-di n 0 lo) s):wpAny (model prog w) A (Builtin.Slice.sliceApplied (.ref sl) (pure (n:Int))) Q E s:=by
 let#[os,J,O,I]:=id hs;unfold Builtin.Slice.sliceApplied Builtin.Slice.sliceFields;show DD (DD (Pc J I (x:=G) rfl (DD (Pc J I (x:=L) rfl (DD (Pc J I (x:=.none) rfl (Lg ?_)))))));show DD (slicePart_none ?_);change wpAny _ _ (if ((1:Int)==0)=true then _ else _) _ _ s;rw[QZ av];show DD (nZ pl (DD (nZ N (DD (Lg ?_)))));change wpAny _ _ (match Builtin.Slice.sliceAdjust lo hi 1 (n:Int)with|(lo,hi)=>pure (lo,(1:Int),Builtin.Slice.slicePlaces lo hi 1)) _ _ s;rw[uw lo hi n];change wpAny _ _ (pure (((di n 0 lo:Nat):Int),(1:Int),Builtin.Slice.slicePlaces ((di n 0 lo:Nat):Int) ((di n n hi:Nat):Int) 1)) _ _ s;rw[vb];show Lg h
theorem AX (xs:Array Value) (i k:Nat):((List.range k).filterMap λ(m:Nat)=>xs[((i:Int)+(m:Int)*1).toNat]?).toArray=((xs.toList.drop i).take k).toArray:=by
 have e:(λ(m:Nat)=>xs[((i:Int)+(m:Int)*1).toNat]?)=λm=>xs[i+m]?:=by
  funext m;have:((i:Int)+(m:Int)*1).toNat=i+m:=af;rw[this]
 rw[e];have:=pick_run xs i k;rw[List.filterMap_map]at this;have G:((λx=>xs[x]?)∘λx=>i+x)=λm=>xs[i+m]?:=rfl;rw[G]at this;rw[this]
theorem j0 {t sl:Addr}{G:Array Value}{L N:Value}{lo hi:Option Int}{Q:Value->By->Prop}(J:IsTup s.heap t G) (hs:s.heap.IsSliceOf sl L N .none) (pl:OP L lo) (O:OP N hi)
  (Y:¬ (di G.size 0 lo=0/\di G.size G.size hi=G.size))
  (h:Q (.ref s.heap.objs.size) { s with heap:=s.heap.push { cls:=.type "tuple",data:=.seq ((G.toList.drop (di G.size 0 lo)).take (di G.size G.size hi-di G.size 0 lo)).toArray } })
  (hsz:G.size<=sizeLine):wpAny (model prog w) A (NS (.ref t) (.ref sl)) Q E s:=by
 have I:sizeOk (.seq ((G.toList.drop (di G.size 0 lo)).take (di G.size G.size hi-di G.size 0 lo)).toArray):=by
  change((G.toList.drop (di G.size 0 lo)).take (di G.size G.size hi-di G.size 0 lo)).toArray.size<=sizeLine;rw[G1,Lp,Mv,Mj];omega
 have hj:di G.size G.size hi<=G.size:=E2 _ _ (HC _) hi;let#[os,S,R,ac]:=id hs;have ab:s.TypeIs (.ref sl) "slice" := #[os,S,R];unfold NS
 try with_reducible show Mz ?_
 first|show DD (Lg ?_)|skip
 show DD (PY J.typeIs av ?_);show DD (Ow (name:=Str.ofString "__getitem__") J.typeIs LP
  (Nm LP J.typeIs Pp ?_ (PD _ _)))
 change wpAny _ _ (Builtin.Tuple.tupleItemsOf (.ref t)>>=_) _ _ s;show DD (tupleItemsOf_ J ?_);show DD (OQ ab ?_);rw[Q0 av];show DD (gG hs pl O ?_);have U:¬ ((((di G.size 0 lo:Nat):Int)==0&&(1:Int)==1&&(di G.size G.size hi-di G.size 0 lo)==G.size)=true):=by
  intro q;rw[Nn,Nn]at q;have q1:((di G.size 0 lo:Nat):Int)=0:=eq_of_beq q.1.1;have q2:di G.size G.size hi-di G.size 0 lo=G.size:=eq_of_beq q.2;show Y #[af,af]
 change wpAny _ _ (if (((di G.size 0 lo:Nat):Int)==0&&(1:Int)==1&&(di G.size G.size hi-di G.size 0 lo)==G.size)=true then _ else _) _ _ s;rw[QZ U,AX]
 first
  |show DD (m:=Builtin.Tuple.tupleExact _) (Ni (Lg #[0,Lg h]) I)
  |show DD (m:=Builtin.Tuple.tupleExact _) (Ni (DD (Lg (Lg #[0,Lg h]))) I)
  |show DD (DD (m:=Builtin.Tuple.tupleExact _) (Ni (Lg (Lg #[0,Lg h])) I))
  |show DD (DD (m:=Builtin.Tuple.tupleExact _) (Ni (Lg #[0,Lg h]) I))
end
end HT
namespace L2
open PySem PySem.Spec PyProof.Rows
noncomputable abbrev TO:=St->Hp->(Option Int->Hp->Prop)->Prop
noncomputable def PO (X:Cx) (e:Option LC) (t:TO):Prop :=
 ∀(pins:List (Addr×Obj)) (s:By) (σ:St) (H:Hp) (Q:Option Int->Hp->Prop),Inv X pins σ H s->t σ H Q ->
  wpAny (model X.prog X.w) X.A (evalPart e X.env) (λu s'=>∃o H',Inv X pins σ H' s'/\OP u o/\Q o H') X.xe s
noncomputable def Dh:TO:=λ_ H Q=>Q none H
noncomputable def HN (t:TE):TO:=λσ H Q=>t σ H λx H1=>∃i,x=.int i/\Q (some i) H1
theorem intsAre_of {ns:List Int}:∀{us:List Value},Vals (ns.map V.int) us->Np us ns:=by
 induction ns with
 |nil=>intro us r;rw[Qg]at r;cases r;show .nil
 |cons n ns J =>
  intro us r;rw[Mm]at r;cases r with
  |cons I G =>
   let#[t,e]:=I;subst e;show .cons n t (J G)
section
variable {X:Cx}{e:LC}{te:TE}{lo hi:Option LC}{tl th:TO}{pos p2:Nu}
theorem fj:PO X none Dh:=by
 intro pins s σ H Q I h;rw[evalPart_none];show Lg #[none,H,I,.none,h]
theorem cU (h:PE X e te):PO X (some e) (HN te):=by
 intro pins s σ H Q I N;rw[evalPart_some];show bS (h pins s σ H _ I N) λu R L=>?_;let#[x,H1,O,J,G]:=L;let#[i,rfl,q]:=G;let#[t,rfl]:=J;show#[some i,H1,O,.int i t,q]
noncomputable def Ig (X:Cx) (r:V->Option Int->Option Int->Hp->VK->Prop):Prop :=
 ∀(pins:List (Addr×Obj)) (s:By) (σ:St) (H:Hp) (x:V) (v G I:Value) (lo hi:Option Int) (sl:Addr) (Q:VK),Inv X pins σ H s->RelV x v->s.heap.IsSliceOf sl G I .none->OP G lo->OP I hi->r x lo hi H Q ->
  ∃T id,typeLookup (.type T) "__getitem__" = pure (some (.builtin id))/\s.TypeIs v T/\wpAny (model X.prog X.w) X.A (NS v (.ref sl)) (EP X pins σ Q) X.xe s
noncomputable def K5 (r:V->Option Int->Option Int->Hp->VK->Prop) (te:TE) (tl th:TO):TE:=λσ H Q=>te σ H λx H1=>tl σ H1 λl H2=>th σ H2 λu H3=>r x l u H3 Q
theorem cX {r:V->Option Int->Option Int->Hp->VK->Prop}(hr:Ig X r) (he:PE X e te) (hl:PO X lo tl) (hu:PO X hi th):PE X (.Subscript e (.Slice lo hi none p2) pos) (K5 r te tl th):=by
 intro pins s σ H Q I h;show Qs (bS (he pins s σ H _ I h) λv O S=>?_);let#[x,H1,I1,r1,L]:=S;show wpAny_Slice (bS (hl pins O σ H1 _ I1 L) λG s2 ab=>?_);let#[l,H2,I2,pl,q2]:=ab;show bS (hu pins s2 σ H2 _ I2 q2) λJ s3 U=>?_;let#[u,H3,I3,pu,q3]:=U;rw[evalPart_none];show Lg ?_;have R:Inv X pins σ H3 { s3 with heap:=s3.heap.push { cls:=.type "slice",data:=.fields ([G,J,.none].toArray) } }:=I3.kept (t':=s3.toks) λb ob q=>Heap.get?_push_of_some _ q;let#[T,id,Y,ht,N]:=hr pins { s3 with heap:=s3.heap.push { cls:=.type "slice",data:=.fields ([G,J,.none].toArray) } } σ H3 x v G J l u s3.heap.objs.size Q R r1 (Heap.IsSliceOf.new ..) pl pu q3;change wpAny (model X.prog X.w) X.A (Pr e (.Slice lo hi none p2) v (.ref s3.heap.objs.size)) (EP X pins σ Q) X.xe { s3 with heap:=s3.heap.push { cls:=.type "slice",data:=.fields ([G,J,.none].toArray) } };show tail_any (ops:=[.ref s3.heap.objs.size,v]) ht Y N (by with_unfolding_all rfl)
noncomputable def fL (xs:List V) (lo hi:Option Int):List V:=(xs.drop (HT.di xs.length 0 lo)).take (HT.di xs.length xs.length hi-HT.di xs.length 0 lo)
theorem lh (xs:List V) (lo hi:Option Int):(fL xs lo hi).length<=xs.length:=by
 unfold fL;rw[Lp,Mv];omega
inductive Iv (K:PySem.W.Frag) (x:V) (lo:Option Int) (hi:Option Int) (H:Hp) (Q:VK):Prop
 |mk (a:_) (xs:_) (_:x=.ref a) (_:cy K H a xs) (_:¬ (HT.di xs.length 0 lo=0/\HT.di xs.length xs.length hi=xs.length)) (_:∀p,H p=none->Q (.ref p) (upd H p (.tup (fL xs lo hi)))):Iv K x lo hi H Q
theorem FJ:Ig X (Iv X.K):=by
 intro pins s σ H x v U Y lo hi sl Q I N hs pl R h;let#[a,xs,rfl,O,S,q]:=h;cases N;let#[its,r,J,L]:=I.tuple O;have G:its.toArray.size=xs.length:=(by rw[G1];show r.length.symm);show#["tuple",_,LP.lookup,J.typeIs,?_];show HT.j0 J hs pl R (by rw[G];show S) ?_ (by rw[G];show L);rw[G];show#[.ref s.heap.objs.size,_,I.laid (t':=s.toks) (o:=.tup (fL xs lo hi)) (λb ob q=>Heap.get?_push_of_some _ q) (HC _) ?_,rfl,q _ (I.bC.fresh (HC _))];show#[Ly (lh xs lo hi) L,_,(r.drop (HT.di xs.length 0 lo)).take (HT.di xs.length xs.length hi-HT.di xs.length 0 lo),IsTup.new _ _]
end
noncomputable def xu (n:Nat) (i:Int):Option Nat:=if 0<=i then(if i<n then some i.toNat else none)else if -(n:Int)<=i then some (i+n).toNat else none
noncomputable def B6 {α:Type}(xs:List α) (i:Int):Option α:=(xu xs.length i).bind λj=>xs[j]?
theorem wM {n:Nat}{i:Int}{j:Nat}(h:xu n i=some j):QG i n=some j/\j<n /\ -(n:Int)<=i/\i<n:=by
 unfold xu at h;by_cases G:0<=i
 .rw[Q0 G]at h;by_cases h1:i<n
  .rw[Q0 h1]at h;have e:i.toNat=j:=Option.some.inj h;show#[by rw[Oh G h1,e],af,af,h1]
  .rw[QZ h1]at h;cases h
 .rw[QZ G]at h;by_cases h1 : -(n:Int)<=i
  .rw[Q0 h1]at h;have e:(i+n).toNat=j:=Option.some.inj h;show#[by rw[seqIndex_neg af h1,e],af,h1,af]
  .rw[QZ h1]at h;cases h
theorem qK {α:Type}{xs:List α}{i:Int}{v:α}(h:B6 xs i=some v):∃j,QG i xs.length=some j/\xs[j]?=some v/\j<xs.length /\ -(xs.length:Int)<=i/\i<xs.length:=by
 unfold B6 at h;cases e:xu xs.length i with
 |none=>rw[e]at h;cases h
 |some j =>
  rw[e]at h;let#[h1,h2,I,G]:=wM e;show#[j,h1,h,h2,I,G]
theorem jW {α:Type}{xs:List α}{j:Nat}{v:α}(h:xs[j]?=some v):B6 xs (j:Int)=some v:=by
 have G:j<xs.length:=(List.getElem?_eq_some_iff.mp h).1;have e:xu xs.length (j:Int)=some j:=by
  unfold xu;rw[Q0 af,Q0 af];simp
 unfold B6;rw[e];show h
noncomputable def DG (b:LC):Prop:=∀o i,Pd b false o i=operate [o,i] (NS o i)
noncomputable def Jx (X:Cx) (r:R2):Prop :=
 ∀(value G:LC) (pins:List (Addr×Obj)) (s:By) (σ:St) (H:Hp) (x y:V) (v u:Value) (Q:VK),Inv X pins σ H s->RelV x v->RelV y u->r x y H Q ->
  Pd G false v u=operate [v,u] (NS v u)->wpAny (model X.prog X.w) X.A (Pr value G v u) (EP X pins σ Q) X.xe s
noncomputable def KU (X:Cx) (id:String) (r:V->List V->Hp->VK->Prop):Prop :=
 ∀(pins:List (Addr×Obj)) (s:By) (σ:St) (H:Hp) (x:V) (xs:List V) (v:Value) (us:List Value) (Q:VK),Inv X pins σ H s->RelV x v->Vals xs us->r x xs H Q ->
  wpAny (model X.prog X.w) X.A (call (.builtin id) (v::us)) (EP X pins σ Q) X.xe s
section
variable {X:Cx}{a b:LC}{ta tb:TE}{pos:Nu}
theorem bq {r:R2}(G:Jx X r) (N:PE X a ta) (L:PE X b tb) (hs:DG b):PE X (.Subscript a b pos) (Gj r ta tb):=by
 intro pins s σ H Q I h;show Qs (El N L I h λv u s2 x y H2 O J R q=>G a b pins s2 σ H2 x y v u Q O J R q (hs _ _))
inductive Eo (K:PySem.W.Frag) (x:V) (y:V) (H:Hp) (Q:VK):Prop
 |mk (p:_) (xs:_) (i:_) (v:_) (_:x=.ref p) (_:y=.int i) (_:bA K H p xs) (_:B6 xs i=some v) (_:Q v H):Eo K x y H Q
inductive HA (K:PySem.W.Frag) (x:V) (y:V) (H:Hp) (Q:VK):Prop
 |mk (p:_) (xs:_) (i:_) (v:_) (_:x=.ref p) (_:y=.int i) (_:cy K H p xs) (_:B6 xs i=some v) (_:Q v H):HA K x y H Q
theorem cG:Jx X (Eo X.K):=by
 intro value ab pins s σ H x y v u Q I S ry h hs;let#[p,xs,i,z,rfl,rfl,Y,U,q]:=h;cases S;let#[t,rfl]:=ry;let#[its,r,pl,hz]:=I.list Y;let#[j,h1,h2,h3,h4,h5]:=qK U;let#[w,L,O]:=r.get h2;have R:=r.length;have hn:=mI;have N:EP X pins σ Q w s:=#[z,H,I,O,q];by_cases J:0<=i
 .have G:i.toNat=j:=by
   rw[Oh J h5]at h1;show Option.some.inj h1
  show item_listR pl.isList J af (by rw[G];simpa using L) N hs
 .have G:(i+(its.toArray.size:Int)).toNat=j:=by
   rw[seqIndex_neg af h4]at h1;rw[G1, <-R];show Option.some.inj h1
  show OR (x:=w) pl.isList.typeIs PZ.lookup
   (OS (Q:=λr s'=>r=w/\EP X pins σ Q r s') pl.isList af (by rw[G1]<;>omega) af (by rw[G];simpa using L) #[rfl,N]) hs
theorem bB:Jx X (HA X.K):=by
 intro value ab pins s σ H x y v u Q I L U h hs;let#[p,xs,i,z,rfl,rfl,O,N,q]:=h;cases L;let#[t,rfl]:=U;let#[its,r,pl,hz]:=I.tuple O;let#[j,h1,h2,Y,h4,h5]:=qK N;let#[w,R,G]:=r.get h2;have J:=r.length;have hn:=mI;have S:EP X pins σ Q w s:=#[z,H,I,G,q];show OR (x:=w) pl.typeIs LP.lookup
  (getItem_tuple (j:=j) (Q:=λr s'=>r=w/\EP X pins σ Q r s') pl af af (by rw[G1, <-J];show h1) (by simpa using R) #[rfl,S]) hs
theorem uE (its:List Value) (n j:Nat) (u:Value):Obj.mapSeq (·.setIfInBounds j u) { cls:=.type "list",data:=.seq its.toArray n }={ cls:=.type "list",data:=.seq (its.set j u).toArray n }:=by
 simp[Obj.mapSeq]
theorem Inv.lst {pins:List (Addr×Obj)}{σ:St}{H:Hp}{s:By}{p:Addr}{xs:List V}(I:Inv X pins σ H s) (h:H p=some (.lst xs)) :
  ∃(its:List Value) (n:Nat),Vals xs its/\s.heap.get? p=some { cls:=.type "list",data:=.seq its.toArray n }/\xs.length<=sizeLine:=by
 let#[z,its,n,r,e]:=I.bC p _ h;show#[its,n,r,e,z]
theorem Inv.ET {pins:List (Addr×Obj)}{σ:St}{H:Hp}{s:By}{p:Addr}{xs ys:List V}{its its':List Value}{n G:Nat}{f:Obj->Obj}(I:Inv X pins σ H s) (h:H p=some (.lst xs))
  (N:s.heap.get? p=some { cls:=.type "list",data:=.seq its.toArray n }) (J:f { cls:=.type "list",data:=.seq its.toArray n }={ cls:=.type "list",data:=.seq its'.toArray G }) (r:Vals ys its') (O:ys.length<=sizeLine) (t:Nat) :
  Inv X pins σ (upd H p (.lst ys)) { s with heap:=s.heap.update p f,toks:=t }:=by
 have e:(s.heap.update p f).get? p=some { cls:=.type "list",data:=.seq its'.toArray G }:=by
  rw[Heap.get?_update_self f N (by rw[J]<;>rfl),J]
 show I.write (x:=p) (e:=p) (by rw[h];trivial) (.inl rfl) (λb u L q=>(Heap.get?_update_other _ _ (G0 L)).trans q) #[_,e] ?_;show#[O,its',G,r,e]
inductive DN (o:V) (i:V) (v:V) (H:Hp) (Q:(Hp->Prop)):Prop
 |mk (p:_) (xs:_) (k:_) (j:_) (_:o=.ref p) (_:i=.int k) (_:H p=some (.lst xs)) (_:xu xs.length k=some j) (_:Q (upd H p (.lst (xs.set j v)))):DN o i v H Q
theorem set_list:CU X DN:=by
 intro pins s σ H o i v ov iv u Q I ro ri Y h;let#[p,xs,k,j,rfl,rfl,O,hj,q]:=h;cases ro;let#[t,rfl]:=ri;let#[its,n,r,L,hz]:=I.lst O;let#[h1,h2,R,U]:=wM hj;have G:=r.length;have hn:=mI;have S:Inv X pins σ (upd H p (.lst (xs.set j v))) { s with heap:=s.heap.update p (Obj.mapSeq (·.setIfInBounds j u)) }:=
  I.ET O L (uE its n j u) (r.set Y j) (by rw[LR];show hz) s.toks
 by_cases N:0<=k
 .have J:k.toNat=j:=by
   rw[Oh N U]at h1;show Option.some.inj h1
  show PySem.W.ki_setAt L N af (by rw[G1, <-G];show U) (by rw[J];show#[_,S,q])
 .have J:(k+(its.toArray.size:Int)).toNat=j:=by
   rw[seqIndex_neg af R]at h1;rw[G1, <-G];show Option.some.inj h1
  show PySem.W.ki_setBack L af (by rw[G1, <-G];show R) af (by rw[J];show#[_,S,q])
theorem qW (lo hi:Option Int) (n:Nat):(ND lo hi none n).1=((HT.di n 0 lo:Nat):Int)/\(ND lo hi none n).2.1=((HT.di n n hi:Nat):Int)/\(ND lo hi none n).2.2=1:=by
 show#[3,rfl]
 .cases lo with
  |none=>simp[ND,HT.di]
  |some i =>
   simp only[ND,HT.di,getD_none,show(1:Int)>0 by decide,if_true];by_cases h:i<0
   .simp only[h,if_true]<;>omega
   .simp only[h,if_false]<;>omega
 .cases hi with
  |none=>simp[ND,HT.di]
  |some i =>
   simp only[ND,HT.di,getD_none,show(1:Int)>0 by decide,if_true];by_cases h:i<0
   .simp only[h,if_true]<;>omega
   .simp only[h,if_false]<;>omega
theorem oO (its:List Value) (lo hi:Option Int):slicePick its.toArray lo hi none=((its.drop (HT.di its.length 0 lo)).take (HT.di its.length its.length hi-HT.di its.length 0 lo)).toArray:=by
 let#[h1,h2,G]:=qW lo hi its.toArray.size;unfold slicePick;rw[h1,h2,G];simp only[sliceRange_one,pick_run,G1]<;>rfl
inductive FG (K:PySem.W.Frag) (x:V) (lo:Option Int) (hi:Option Int) (H:Hp) (Q:VK):Prop
 |mk (a:_) (xs:_) (_:x=.ref a) (_:bA K H a xs) (_:∀p,H p=none->Q (.ref p) (upd H p (.lst (fL xs lo hi)))):FG K x lo hi H Q
theorem gH:Ig X (FG X.K):=by
 intro pins s σ H x v S U lo hi sl Q I J hs pl N h;let#[a,xs,rfl,L,q]:=h;cases J;let#[its,r,G,R]:=I.list L;have O:=r.length;show#["list",_,PZ.lookup,G.isList.typeIs,?_];show wpAny_getItem_list_slice G.isList hs pl N .none (by simp) ?_ (by rw[G1]<;>omega);rw[oO, <-O];show#[.ref s.heap.objs.size,_,I.laid (t':=s.toks) (o:=.lst (fL xs lo hi)) (λb ob q=>Heap.get?_push_of_some _ q) (HC _) ?_,rfl,q _ (I.bC.fresh (HC _))];show#[Ly (lh xs lo hi) R,_,(0),(r.drop (HT.di xs.length 0 lo)).take (HT.di xs.length xs.length hi-HT.di xs.length 0 lo),Heap.get?_push_size _ rfl]
noncomputable def eI:V->Bool
 |.non=>true
 |.bl _=>true
 |.int _=>true
 |.str _=>true
 |_=>false
noncomputable def lN:V->V->Bool
 |.non,.non=>true
 |.bl a,.bl b=>a==b
 |.bl a,.int b=>(if a then 1 else 0)==b
 |.int a,.bl b=>a==(if b then 1 else 0)
 |.int a,.int b=>a==b
 |.str a,.str b=>a==b
 |_,_=>false
theorem rW {A:Lq}{s:By}{y x:V}{u v:Value}(J:RelV y u) (G:RelV x v) (L:eI y=true) (I:eI x=true):OT A s u v (lN y x):=by
 cases y with
 |non =>
  cases J;cases x with
  |non=>cases G;show SeqAt.EqAt.same _
  |bl b=>cases G;show SeqAt.EqAt.none_bool b
  |int b=>let#[t,rfl]:=G;show SeqAt.EqAt.none_int b t
  |str b=>let#[t,rfl]:=G;show SeqAt.EqAt.none_str b t
  |_=>show absurd (show false=true from I) Lf
 |bl a =>
  cases J;cases x with
  |non=>cases G;show SeqAt.EqAt.bool_none a
  |bl b=>cases G;show SeqAt.EqAt.bool_bool a b
  |int b=>let#[t,rfl]:=G;show SeqAt.EqAt.bool_int a b t
  |str b=>let#[t,rfl]:=G;show SeqAt.EqAt.bool_str a b t
  |_=>show absurd (show false=true from I) Lf
 |int a =>
  let#[t',rfl]:=J;cases x with
  |non=>cases G;show SeqAt.EqAt.int_none a t'
  |bl b=>cases G;show SeqAt.EqAt.int_bool a t' b
  |int b=>let#[t,rfl]:=G;show SeqAt.EqAt.int_int a t' b t
  |str b=>let#[t,rfl]:=G;show Pw a t' b t
  |_=>show absurd (show false=true from I) Lf
 |str a =>
  let#[t',rfl]:=J;cases x with
  |non=>cases G;show SeqAt.EqAt.str_none a t'
  |bl b=>cases G;show SeqAt.EqAt.str_bool a t' b
  |int b=>let#[t,rfl]:=G;show Px a t' b t
  |str b=>let#[t,rfl]:=G;show SeqAt.EqAt.str_str a t' b t
  |_=>show absurd (show false=true from I) Lf
 |_=>show absurd (show false=true from L) Lf
noncomputable def vR (x:V) (u:Value):Bool:=match u with
 |.none=>lN .non x
 |.bool b=>lN (.bl b) x
 |.int i _=>lN (.int i) x
 |.str z _=>lN (.str z) x
 |_=>false
theorem zU {x y:V}{u:Value}(r:RelV y u) (f:eI y=true):vR x u=lN y x:=by
 cases y with
 |non=>cases r;rfl
 |bl b=>cases r;rfl
 |int i=>let#[t,rfl]:=r;rfl
 |str z=>let#[t,rfl]:=r;rfl
 |_=>show absurd (show false=true from f) Lf
theorem jC {x:V}:∀{xs:List V}{us:List Value},Vals xs us->xs.all eI=true->us.any (vR x)=xs.any λy=>lN y x
 |_,_,.nil,_=>rfl
 |y::xs,u::us,.cons r t,f=>by
  rw[all_cons,Nn]at f;rw[Pe,Pe,zU r f.1,jC t f.2]
theorem ij {A:Lq}{s:By}{x:V}{v:Value}(I:RelV x v) (J:eI x=true):∀{xs:List V}{us:List Value},Vals xs us->xs.all eI=true->∀u∈us,OT A s u v (vR x u)
 |_,_,.nil,_=>λu G=>by cases G
 |y::xs,u::us,.cons r t,f=>λL G=>by
  rw[all_cons,Nn]at f;rcases List.mem_cons.mp G with rfl|G
  .rw[zU r f.1];show rW r I f.1 J
  .show ij I J t f.2 L G
noncomputable def Fs (x:V) (xs:List V):Bool:=xs.any λy=>lN y x
inductive J9 (K:PySem.W.Frag) (neg:Bool) (x:V) (y:V) (H:Hp) (Q:VK):Prop
 |mk (p:_) (xs:_) (_:y=.ref p) (_:(bA K H p xs\/cy K H p xs)) (_:eI x=true) (_:xs.all eI=true) (_:Q (.bl (if neg then !Fs x xs else Fs x xs)) H):J9 K neg x y H Q
theorem yb:lC X (Ms .In) (J9 X.K false):=by
 intro pins s σ H x y v u Q I L R h;let#[p,xs,rfl,G,N,fs,q]:=h;cases R;rcases G with G|G
 .let#[its,r,pl,O]:=I.list G;show SeqAt.in_listAt (vR x) pl.isList (λw J=>ij L N r fs w (by simpa using J)) #[.bl _,H,I,4];rw[show its.toArray.any (vR x)=its.any (vR x)by simp,jC r fs];show q
 .let#[its,r,pl,O]:=I.tuple G;show SeqAt.in_tupleAt (vR x) pl (λw J=>ij L N r fs w (by simpa using J)) #[.bl _,H,I,4];rw[show its.toArray.any (vR x)=its.any (vR x)by simp,jC r fs];show q
theorem jR:lC X (Ms .NotIn) (J9 X.K true):=by
 intro pins s σ H x y v u Q I L R h;let#[p,xs,rfl,G,N,fs,q]:=h;cases R;rcases G with G|G
 .let#[its,r,pl,O]:=I.list G;show SeqAt.notIn_listAt (vR x) pl.isList (λw J=>ij L N r fs w (by simpa using J)) #[.bl _,H,I,4];rw[show its.toArray.any (vR x)=its.any (vR x)by simp,jC r fs];show q
 .let#[its,r,pl,O]:=I.tuple G;show SeqAt.notIn_tupleAt (vR x) pl (λw J=>ij L N r fs w (by simpa using J)) #[.bl _,H,I,4];rw[show its.toArray.any (vR x)=its.any (vR x)by simp,jC r fs];show q
theorem bo:dG X (.builtin "len") (λxs H Q=>∃p ys,xs=[.ref p]/\(bA X.K H p ys\/cy X.K H p ys)/\Q (.int ys.length) H):=by
 intro pins s σ H xs us Q I r h;let#[p,ys,rfl,G,q]:=h;let#[u,rfl,N]:=vals1 r;cases N;have R:=mI;rcases G with G|G
 .let#[its,J,pl,O]:=I.list G;have L:=J.length;show Calls.call_len_list pl.isList (by simp only[G1]<;>omega) #[.int ys.length,H,I.tok _,#[s.toks+1,by rw[G1,L]],q]
 .let#[its,J,pl,O]:=I.tuple G;have L:=J.length;show len_tuple pl (by simp only[G1]<;>omega) #[.int ys.length,H,I.tok _,#[s.toks+1,by rw[G1,L]],q]
theorem dQ:dG X (.type "list") (λxs H Q=>∃p ys,xs=[.ref p]/\(bA X.K H p ys\/cy X.K H p ys)/\∀l,H l=none->Q (.ref l) (upd H l (.lst ys))):=by
 intro pins s σ H xs us Q I r h;let#[p,ys,rfl,O,q]:=h;let#[u,rfl,Y]:=vals1 r;cases Y;have U:∀(its:List Value),Vals ys its->ys.length<=sizeLine->∀(h':Heap) (J:Nat),(∀b o',s.heap.get? b=some o'->h'.get? b=some o') ->
   h'.get? s.heap.objs.size=some { cls:=.type "list",dict:=none,data:=.seq its.toArray J,slots := ([].toArray) }->EP X pins σ Q (.ref s.heap.objs.size) { s with heap:=h' }:=λits G N h' J L e =>
  #[.ref s.heap.objs.size,_,I.laid (t':=s.toks) L (HC _) (show bT X.prog X.w _ h' _ (.lst ys)from#[N,its,J,G,e]),rfl,q _ (I.bC.fresh (HC _))]
 rcases O with O|O
 .let#[its,G,pl,N]:=I.list O;have ab:=G.length;let#[o,R,S,n,hd]:=pl.isList;show call_list_seq p (.inl rfl) R S hd (λh' J L e=>U its G N h' J L e) (by simp only[G1]<;>omega)
 .let#[its,G,pl,N]:=I.tuple O;have ab:=G.length;let#[o,R,S,n,hd]:=pl;show call_list_seq p (.inr rfl) R S hd (λh' J L e=>U its G N h' J L e) (by simp only[G1]<;>omega)
theorem oH:dG X (.type "tuple") (λxs H Q=>∃p ys,xs=[.ref p]/\((bA X.K H p ys/\∀l,H l=none->Q (.ref l) (upd H l (.tup ys)))\/(cy X.K H p ys/\Q (.ref p) H))):=by
 intro pins s σ H xs us Q I r h;let#[p,ys,rfl,h]:=h;let#[u,rfl,R]:=vals1 r;cases R;rcases h with⟨G,q⟩|⟨G,q⟩
 .let#[its,J,pl,N]:=I.list G;have U:=J.length;show call_tuple_list pl.isList (λh' O=>?_) (by simp only[G1]<;>omega);have L:Inv X pins σ H { s with heap:=h' }:=I.kept (t':=s.toks) O;have S:Inv X pins σ (upd H h'.objs.size (.tup ys)) { s with heap:=h'.push { cls:=.type "tuple",data:=.seq its.toArray } }:=
   L.laid (t':=s.toks) (λb o e=>Heap.get?_push_of_some _ e) (HC _) (show bT X.prog X.w _ _ _ (.tup ys)from#[N,its,J,IsTup.new _ _])
  show#[.ref h'.objs.size,_,S,rfl,q _ (L.bC.fresh (HC _))]
 .let#[its,J,pl,N]:=I.tuple G;show call_tuple_same pl #[.ref p,H,I,rfl,q]
noncomputable def Kt (K:PySem.W.Frag) (T:String) (x:V) (H:Hp):Prop:=match x with
 |.str _=>T = "str"
 |.int _=>T = "int"
 |.ref p=>(T = "list" /\ ∃xs,bA K H p xs)\/(T = "tuple" /\ ∃o,K.lookup p=some o/\o.cls=.type "tuple" /\ o.dict=none) \/
   (T = "dict" /\ ((∃kvs,H p=some (.dK kvs))\/∃kvs,H p=some (.dT kvs)))\/(T = "set" /\ ∃S n,H p=some (.set S n))
 |_=>False
theorem FT {pins:List (Addr×Obj)}{σ:St}{H:Hp}{s:By}{T:String}{x:V}{v:Value}(I:Inv X pins σ H s) (r:RelV x v) (ty:Kt X.K T x H) :
  s.TypeIs v T/\∀a,v=.ref a->∃ob,s.heap.get? a=some ob/\ob.dict=none:=by
 cases x with
 |str z =>
  let#[t,rfl]:=r;cases(show T = "str" from ty);show#[typeIs_str s z t,λ_ e=>nomatch e]
 |int i =>
  let#[t,rfl]:=r;cases(show T = "int" from ty);show#[Qt s i t,λ_ e=>nomatch e]
 |ref p =>
  cases r;rcases ty with⟨rfl,xs,L⟩|⟨rfl,o,G,N,hd⟩|⟨rfl,G⟩|⟨rfl,S,n,G⟩
  .let#[its,_,pl,_]:=I.list L;show#[pl.isList.typeIs,λa e=>?_];cases e;let#[o,n,e,c,hd,_]:=pl;show#[o,e,hd]
  .show#[#[o,I.jk p o G,N],λa e=>?_];cases e;show#[o,I.jk _ o G,hd]
  .have z:∃o,s.heap.get? p=some o/\o.ExactDict:=by
    rcases G with⟨kvs,G⟩|⟨kvs,G⟩
    .let#[_,_,_,_,o,_,_,e,ex,_]:=I.bC p _ G;show#[o,e,ex]
    .let#[_,_,_,_,o,_,_,e,ex,_]:=I.bC p _ G;show#[o,e,ex]
   let#[o,e,ex]:=z;show#[#[o,e,ex.1],λa J=>?_];cases J;show#[o,e,ex.2.1]
  .let#[o,_,_,_,e,ex,_]:=I.bC p _ G;show#[#[o,e,ex.1],λa J=>?_];cases J;show#[o,e,ex.2.1]
 |_=>show Mc ty
noncomputable def K7 (K:PySem.W.Frag) (T:String) (r:V->List V->Hp->VK->Prop) (to:TE) (t:TA):TE:=λσ H Q=>to σ H λx H1=>Kt K T x H1/\t σ H1 λxs H2=>r x xs H2 Q
variable {o e:LC}{es:List LC}{to:TE}{t:TA}{name:Str}{apos cpos:Nu}{T id:String}{r:V->List V->Hp->VK->Prop}
theorem iY (Y:PlainAttrs T) (slot:Slot T name id) (S:typeOf (.builtin id)=pure (.type "method_descriptor")) (U:KU X id r) (ho:PE X o to) (ha:PA X (e::es) t)
  (aB:Nh o name X.env (eval o X.env)=eval o X.env:=by rfl)
  (am:((backTo cpos (starEach (e::es) X.env)).all (λx => !x.1)&&(NX cpos (MZ [] X.env)).all (λx=>x.1.isSome)
   && decide ((e::es).length+([]:List Pm).length+(if ([]:List Pm).isEmpty then 0 else 1)<30))=true:=by rfl)
  (ab:(apos.endLine==cpos.line)=true:=by rfl) (hs:starEach (e::es) X.env=(false,eval e X.env)::starEach es X.env:=by rfl) (as:(backTo cpos (starEach es X.env)).any (·.1)=false:=by rfl) :
  PE X (.Call (.Attribute o name apos) (e::es) [] cpos) (K7 X.K T r to t):=by
 intro pins s σ H Q I h;show wpAny_Call_method_late aB am ab rfl (bS (ho pins s σ H _ I h) λv R ac=>?_);let#[x,H1,L,J,ty,N]:=ac;let#[h1,h2]:=FT L J ty;show#[T,id,Y,slot,S,h1,h2,?_];have G:=ha cpos pins R σ H1 _ L N;rw[hs]at G ⊢;show Calls.callWith_builtin (by change(false||(backTo cpos (starEach es X.env)).any (·.1))=false;rw[as]<;>rfl) (Calls.evalArgs_plain ?_);show bS G λus s2 ap=>by let#[vs,H2,I2,O,q2]:=ap;show U pins s2 σ H2 x vs v us Q I2 J O q2
end
noncomputable def ED (X:Cx) (id:String) (r:V->List V->Hp->VK->Prop):Prop :=
 ∀(pins:List (Addr×Obj)) (s:By) (σ:St) (H:Hp) (x:V) (xs:List V) (v:Value) (us:List Value) (Q:VK),Inv X pins σ H s->RelV x v->Vals xs us->r x xs H Q ->
  wpAny (model X.prog X.w) X.A (call (.builtin id) (v::us)) (EP X pins σ Q) X.xe s
theorem Vals.one:∀{x:V}{us:List Value},Vals [x] us->∃u,us=[u]/\RelV x u
 |_,_,.cons r .nil=>#[0,r]
theorem Vals.eraseIdx:∀{xs:List V}{us:List Value}(i:Nat),Vals xs us->Vals (xs.eraseIdx i) (us.eraseIdx i)
 |_,_,_,.nil=>.nil
 |_,_,0,.cons _ t=>t
 |_,_,i+1,.cons r t=>.cons r (Vals.eraseIdx i t)
theorem Vals.rep {xs:List V}{us:List Value}(h:Vals xs us):∀k:Nat,Vals (replicate k xs).flatten (replicate k us).flatten
 |0=>.nil
 |k+1=>by
  rw[MD,MD,MO,MO];show Vals.append h (Vals.rep h k)
theorem pM {α:Type}:∀(l:List α) (i:Nat),(l.eraseIdx i).length<=l.length
 | [],_=>HC _
 |_::_,0=>ON _
 |_::r,i+1=>Nat.succ_le_succ (pM r i)
theorem foldl_rep (its:List Value):∀(k:Nat) (G:List Value),
  foldl (λI L=>I++L) G.toArray (replicate k its.toArray)=(G++(replicate k its).flatten).toArray
 |0,G=>by simp
 |k+1,G=>by
  have e:G.toArray++its.toArray=(G++its).toArray:=(by simp);have J:(G++its)++(replicate k its).flatten=G++(replicate (k+1) its).flatten:=by
   rw[MD,MO,LJ]
  rw[<-J, <-foldl_rep its k (G++its), <-e,MD,List.foldl_cons]
section
variable {X:Cx}{pins:List (Addr×Obj)}{σ:St}{H:Hp}{s:By}{l b:Addr}{xs ys zs:List V}
theorem Inv.Dn {its its':List Value}{n:Nat}{f:Array Value->Array Value}{t':Nat}(I:Inv X pins σ H s) (L:H l=some (.lst xs))
  (e:s.heap.get? l=some { cls:=.type "list",data:=.seq its.toArray n }) (N:f its.toArray=its'.toArray) (R:Vals ys its') (O:ys.length<=sizeLine) :
  Inv X pins σ (upd H l (.lst ys)) { s with heap:=s.heap.update l (Obj.mapSeq f),toks:=t' }:=by
 have q:=PySem.IsL.update e f;rw[N]at q;show I.write (x:=l) (e:=l) (by rw[L];show trivial) (.inl rfl) (λS u J G=>(Heap.get?_update_other s.heap (Obj.mapSeq f) (G0 J)).trans G) #[_,q] ?_;show#[O,its',_,R,q]
theorem Inv.Ha {its:List Value}{t':Nat}(I:Inv X pins σ H s) (J:Vals ys its) (G:ys.length<=sizeLine) :
  Inv X pins σ (upd H s.heap.objs.size (.lst ys)) { s with heap:=s.heap.push { cls:=.type "list",data:=.seq its.toArray },toks:=t' }:=
 I.laid (λ_ _ q=>Heap.get?_push_of_some _ q) (HC _) #[G,its,(0),J,Heap.get?_push_size _ rfl]
theorem Inv.fresh (I:Inv X pins σ H s):H s.heap.objs.size=none:=I.bC.fresh (HC _)
theorem Inv.ny (I:Inv X pins σ H s) (G:H l=some (.lst xs)):xs.length<=sizeLine/\∃(its:List Value) (n:Nat),Vals xs its/\xs.length=its.length/\s.heap.get? l=some { cls:=.type "list",data:=.seq its.toArray n }:=by
 let#[z,its,n,r,e]:=I.bC l _ G;show#[z,its,n,r,r.length,e]
theorem tD {n:Nat}(h:n<=sizeLine):Builtin.List.listTooLong n=false:=by
 unfold Builtin.List.listTooLong;show decide_eq_false af
end
section
variable {X:Cx}
inductive xI (x:V) (vs:List V) (H:Hp) (Q:VK):Prop
 |mk (l:_) (xs:_) (y:_) (_:x=.ref l) (_:vs=[y]) (_:H l=some (.lst xs)) (_:xs.length<sizeLine) (_:Q .non (upd H l (.lst (xs++[y])))):xI x vs H Q
theorem oQ:ED X "list.append" xI:=by
 intro pins s σ H x vs v us Q I J L h;let#[l,xs,y,rfl,rfl,G,R,q]:=h;cases J;let#[u,rfl,N]:=L.one;let#[z,its,n,r,O,e]:=I.ny G;show NA F.slot_list_append #[_,e,rfl] F.entry_list_append (F.args_list_append_2 _ _) (list_append l its.toArray n u (by rw[G1];omega)) #[e,?_];show#[.non,_,I.Dn (its':=its++[u]) G e (by simp) (r.append (.cons N .nil)) ?_,rfl,q];rw[Li,Mb];omega
inductive xN (x:V) (vs:List V) (H:Hp) (Q:VK):Prop
 |mk (l:_) (b:_) (xs:_) (zs:_) (_:x=.ref l) (_:vs=[.ref b]) (_:H l=some (.lst xs)) (_:H b=some (.lst zs)) (_:xs.length+zs.length<=sizeLine) (_:Q .non (upd H l (.lst (xs++zs)))):xN x vs H Q
theorem pS:ED X "list.extend" xN:=by
 intro pins s σ H x vs v us Q I rx L h;let#[l,b,xs,zs,rfl,rfl,J,O,hz,q]:=h;cases rx;let#[u,rfl,U]:=L.one;cases U;let#[z,its,n,r,hl,e]:=I.ny J;let#[z2,G,R,N,ab,Y]:=I.ny O;have hsz:its.toArray.size+G.toArray.size<=sizeLine:=(by rw[G1,G1];omega);have S:¬ (!its.toArray.isEmpty&&Builtin.List.listTooLong (its.toArray.size+G.toArray.size))=true:=by
  rw[tD hsz,Pf];show Lf
 show NA F.slot_list_extend #[_,e,rfl] F.entry_list_extend (F.args_list_extend_2 _ _)
  (AutoSeq1.list_extend_list_list_0 l its.toArray n b G.toArray R S (by rw[G1];omega) af) #[e,Y,?_]
 show#[.non,_,I.Dn (its':=its++G) J e (by simp) (r.append N) ?_,rfl,q];rw[Li];omega
inductive zN (x:V) (vs:List V) (H:Hp) (Q:VK):Prop
 |mk (l:_) (xs:_) (i:_) (k:_) (y:_) (_:x=.ref l) (_:vs=[.int i]) (_:H l=some (.lst xs)) (_ : -(2^63)<=i) (_:i<2^63) (_:QG i xs.length=some k) (_:xs[k]?=some y) (_:Q y (upd H l (.lst (xs.eraseIdx k)))):zN x vs H Q
theorem Bs:ED X "list.pop" zN:=by
 intro pins s σ H x vs v us Q I L N h;let#[l,xs,i,k,y,rfl,rfl,G,h1,h2,O,S,q]:=h;cases L;let#[u,rfl,U]:=N.one;let#[t,rfl]:=U;let#[z,its,n,r,J,e]:=I.ny G;let#[w,R,Y]:=r.get S;show NA F.slot_list_pop #[_,e,rfl] F.entry_list_pop (F.args_list_pop_2 _ _)
  (MeetsSeq.list_pop_at l its.toArray n i t k w (fitsIndex_both h1 h2) (by rw[G1, <-J];show O) (by rw[<-My];show R) (by rw[G1];omega)) #[e,?_]
 show#[y,_,I.Dn (its':=its.eraseIdx k) G e ?_ (r.eraseIdx k) ?_,Y,q]
 .change its.toArray.eraseIdxIfInBounds k=(its.eraseIdx k).toArray;rw[List.eraseIdxIfInBounds_toArray]
 .have:=pM xs k;omega
inductive Ij (x:V) (y:V) (H:Hp) (Q:VK):Prop
 |mk (l:_) (b:_) (xs:_) (zs:_) (_:x=.ref l) (_:y=.ref b) (_:H l=some (.lst xs)) (_:H b=some (.lst zs)) (_:xs.length+zs.length<=sizeLine) (_:∀p,H p=none->Q (.ref p) (upd H p (.lst (xs++zs)))):Ij x y H Q
theorem rQ:lC X (NW .Add) Ij:=by
 intro pins s σ H x y v u Q I J U h;let#[l,b,xs,zs,rfl,rfl,R,O,hz,q]:=h;cases J;cases U;let#[z,its,n,r,Y,e]:=I.ny R;let#[z2,G,n2,L,ab,S]:=I.ny O;show PySem.P.add_list e S ?_ (by rw[G1,G1];omega);have N:its.toArray++G.toArray=(its++G).toArray:=(by simp);rw[N];show#[.ref _,_,I.Ha (t':=s.toks) (r.append L) (by rw[Li];omega),rfl,q _ I.fresh]
inductive Gp (x:V) (y:V) (H:Hp) (Q:VK):Prop
 |mk (l:_) (k:_) (xs:_) (_:x=.ref l) (_:y=.int k) (_:H l=some (.lst xs)) (_ : -(2^63)<=k) (_:k<2^63) (_:xs.length*k.toNat<=sizeLine) (_:∀p,H p=none->Q (.ref p) (upd H p (.lst (replicate k.toNat xs).flatten))):Gp x y H Q
theorem len_rep {α:Type}(xs:List α) (k:Nat):(replicate k xs).flatten.length=k*xs.length:=by
 induction k with
 |zero=>simp
 |succ k G=>rw[MD,MO,Li,G,Nat.succ_mul,Nat.add_comm]
theorem lZ:lC X (NW .Mult) Gp:=by
 intro pins s σ H x y v u Q I Y ry h;let#[l,k,xs,rfl,rfl,S,h1,h2,L,q]:=h;cases Y;let#[t,rfl]:=ry;let#[z,its,n,r,R,e]:=I.ny S;have ac:its.toArray.size*k.toNat<=sizeLine:=(by rw[G1, <-R];show L);have ap:¬ its.toArray.size*k.toNat>(2^63-1)/8:=by
  have:(sizeLine:Nat)<=(2^63-1)/8:=av;omega
 have N:¬ (!Builtin.List.listFitsIndex k)=true:=by
  rw[fitsIndex_both h1 h2];show Lf
 have am:¬ Builtin.List.listTooLong (its.toArray.size*k.toNat)=true:=by
  rw[tD ac];show Lf
 have ab:foldl (λJ G=>J++G) ([].toArray) (replicate (if its.toArray.isEmpty=true then 0 else k.toNat) its.toArray)=(replicate k.toNat its).flatten.toArray:=by
  have O:∀m:Nat,foldl (λJ G=>J++G) ([].toArray) (replicate m its.toArray)=(replicate m its).flatten.toArray:=λm=>by
   have:=foldl_rep its m [];rw[List.nil_append]at this;show this
  rw[O];cases its with
  |nil=>simp
  |cons a r'=>rw[QZ (by simp)]
 show wpAny_binaryOp_repeat_ref (T := "list") (U := "int") av #[_,e,rfl] (λs'=>Qt s' k t) noFill_list_mul F.fills_int_mul F.slot_int_rmul repeat_list F.slot_int_index.lookup
  (NA F.slot_int_rmul (Qt s k t) F.entry_int_rmul (F.args_int_rmul_2 _ _) (int___rmul___int_list k t l its.toArray n)
   #[e,rfl,#[_,e,rfl],NA F.slot_list_mul #[_,e,rfl] F.entry_list_mul (F.args_list_mul_2 _ _) (AutoListH.list___mul___list_int_3 l its.toArray n k t N ap am) #[e,?_]])
 rw[ab];show#[.ref _,_,I.Ha (t':=s.toks) (r.rep k.toNat) (by rw[len_rep,Nat.mul_comm];show L),rfl,q _ I.fresh]
end
section
variable {prog:IF}{w:Ll}{A:Lq}{E:Value->By->Prop}{s:By}
end
section
variable {X:Cx}
end
end L2
namespace Att
open PySem PySem.W PySem.Calls PyProof.Rows
theorem lq {P:Params}{h:Heap}:∀(ns:List Int) (vs:List Value),WellAll P h vs (ns.map WData.int)->Np vs ns:=by
 intro ns
 induction ns with
 |nil =>
  intro vs w;rw[Qg]at w;cases w;show .nil
 |cons n ns G =>
  intro vs w;rw[Mm]at w;cases w with
  |cons a b =>
   cases a;show .cons _ _ (G _ b)
theorem yI {l:OpenLaw}{n:Nat}(hn:l.most=some n) {P:Params}{h:Heap}{args:List WData}{J:List Value}
  (N:l.row.toRowW.claim.pre args=true) (S:WellAll P h J args) :
  ∃a vs ns,J=[Value.ref a]/\args=[WData.list (ns.map WData.int)]/\h.get? a=some { cls:=.type "list",data:=.seq vs.toArray }/\Np vs ns/\ns.length<=n:=by
 have O:WShape.hasAll [] args [.list .int]=true:=(pre_splitW N).1;have L:l.pre.holds [] { args:=args }=true:=(pre_splitW N).2;let#[d,r,rfl,h1,h2]:=hasAllW_cons O;obtain rfl:=hasAllW_nil h2;let#[xs,rfl,h3]:=hasW_list h1;let#[ns,rfl]:=items_int h3;have ab:ns.length<=n:=by
  unfold OpenLaw.pre at L;have I:(WTm.not (.lt (.lit (.int (n:Int))) (.len (.arg 0)))).holds [] { args:=[.list (ns.map .int)] }=true:=by
   have I:=(holds_andW L).1;rw[hn]at I;show I
  have G:=condW_of I (w_not (w_lt w_lit (w_len_list (w_arg rfl))));rw[BY]at G;show Nat.le_of_not_lt λq=>?_;have R:(n:Int)<((ns.length:Nat):Int):=af
  first
   |(rw[decide_eq_true R]at G;show absurd G av)
   |(simp at G;omega)
 cases S with
 |cons U w2 =>
  cases w2;cases U with
  |list ho Y=>show#[2,ns,1,ho,lq ns _ Y,ab]
theorem xP (l:OpenLaw) (args:List WData):l.row.toRowW.claim.post args (.bool true) args=true :=
 postW_of (r:=l.row.toRowW) (X:=(true==true))
  (show QX [] (.bool true) .bool=true by first|rfl|decide|simp[QX,WShape.arms,WShape.armsAll])
  (show(WTm.eq .res (.lit (.bool true))).value [] { args:=args,res:=some (.bool true),after:=args }=some (.bool (true==true))from w_eq_bool (w_res rfl) w_lit) rfl
theorem sH {l:OpenLaw}{n:Nat}{q:IF}{loose:List Str}{XP:(Str->Option Value)->Heap->Prop}{O:Ll->Heap->Prop}{d:DefRec}
  (hn:l.most=some n) (aB:d.params.defaults=[])
  (call:∀(w:Ll) (s₀ I:By) (mg L:Str->Option Value) (J:Addr) (o:Obj) (pm cd N:Value) (a:Addr) (vs:List Value) (ns:List Int),
   Ground q loose [] XP w s₀ mg L I.heap->O w I.heap ->
   I.heap.get? J=some o->o.data=.func (docDef d.name d.params d.body d.scope pm cd N)->I.heap.CodeRec cd d.name->mg d.name=some (.ref J) ->
   I.heap.get? a=some { cls:=.type "list",data:=.seq vs.toArray }->Np vs ns->ns.length<=n->I.gens = ([].toArray) ->
   NZ (model l.prog w) Pn (.call (.ref J) #[[.ref a],[]]) (λr s'=>r=.ok (.ret (.bool true))/\OldK I.heap s'.heap/\s'.os=I.os/\NY s'.gens) I) :
  WalkO q loose XP O l.row.toRowW d [] (λf vs=>PySem.call f vs):=by
 intro w s₀ I mg L G Y J o pm cd N dV kV ho hd ac R ap S args a2 as am a4 a3 aT a5;obtain rfl:dV=.none:=Dflts.none R aB;obtain rfl:kV=.none:=Dflts.noKw R;let#[a,vs,ns,rfl,rfl,a1,ab,a0]:=yI hn am aT;show enter_call (N0 (call w s₀ I mg L J o pm cd N a vs ns G Y ho (fd_plain hd) ac ap a1 ab a0 S) λr s' hq=>?_);let#[rfl,h2,h3,h4]:=hq;show#[.inl #[.bool true,.bool true,[],rfl,λ_=>rfl,.bool true,xP l _,λ_=>#[List.Pairwise.nil,λ_ U=>(nomatch U)]],h2,h3,h4]
section
variable {prog:IF}{w:Ll}{A:Lq}{E:Value->By->Prop}{s:By}{K:Frag}
end
end Att
namespace L2
open PySem PySem.Spec PyProof.Rows
theorem iL:∀{vs:List Value}{ns:List Int},Np vs ns->Vals (ns.map V.int) vs
 |_,_,.nil=>.nil
 |_,_,.cons n t h=>.cons #[t,rfl] (iL h)
noncomputable def E5 (H:Hp):Prop:=∀b,H b=none\/∃o xs,H b=some (.cH o (.lst xs))
theorem Bd {P:IF}{w:Ll}{K:PySem.W.Frag}{mg R:Str->Option Value}{CX:ui}{k:Nat}{O a:Addr}{fd:GX}{x:Str}{sp:Sp}{G:By}{vs:List Value}{ns:List Int}
  (KX:K.In G.heap) (am:G.heap.Ns LS mg) (I:G.heap.Ns Qj R) (aT:∀x:Str,x ≠ "__name__" -> R x=LK x) (a1:G.heap.NoLimit) (hg:G.gens = ([].toArray))
  (L:G.heap.get? a=some { cls:=.type "list",data:=.seq vs.toArray }) (hi:Np vs ns) (hl:ns.length<=sizeLine) (hr:cZ k Pn)
  (F:∀base:Heap,K.In base->base.Ns LS mg->a8 P w K mg base CX k O fd [x] sp) (ap:∀(s:By) (u:Value),PV s fd #[[u],[]] [(x,u)])
  (a2:∀H:Hp,E5 H->bA K H a (ns.map V.int)->sp [.ref a] H (λv _=>v=.bl true) λ_ _ _=>False)
  (a0:∀H e s',CX [] H G (λ_ _ _=>False) e s'->False) :
  NZ (model P w) Pn (.call (.ref O) #[[.ref a],[]]) (λr s'=>r=.ok (.ret (.bool true))/\OldK G.heap s'.heap/\s'.os=G.os/\NY s'.gens) G:=by
 have U:=iL hi;have a3:=hi.length;have Y:∀H:Hp,E5 H->bA K H a (ns.map V.int)->iX P w H G.heap->(∀b,H b≠none->b=a)->(H a≠none->K.lookup a=none) ->
   NZ (model P w) Pn (.call (.ref O) #[[.ref a],[]]) (λr s'=>r=.ok (.ret (.bool true))/\OldK G.heap s'.heap/\s'.os=G.os/\NY s'.gens) G:=by
  intro H hO hS bC hA hK;have ab:∀{b:Addr}{o:Obj},G.heap.get? b=some o->H b=none->(pX G.heap H).get? b=some o:=λe n=>zh e n;have a4:∀{b:Addr}{o:Obj}{es:Array DictEntry}{ep:Nat},G.heap.get? b=some o->o.data=.dict es ep->H b=none:=λ{b o es ep} e d=>by
   cases q:H b with
   |none=>rfl
   |some u =>
    have S:b=a:=hA b (by rw[q];simp);subst S;rw[L]at e;cases e;have d':Qu vs.toArray _=Data.dict es ep:=d;cases d'
  have J:∀{b:Addr}{m:Str->Option Value},G.heap.Ns b m->(pX G.heap H).Ns b m:=λ{b m} as=>(by let#[o,es,ep,e,d,r]:=as;show#[o,es,ep,ab e (a4 e d),d,r]);have ac:K.In (pX G.heap H):=λb o e=>ab (KX b o e) (by
   cases q:H b with
   |none=>rfl
   |some u =>
    have S:b=a:=hA b (by rw[q];simp);subst S;rw[hK (by rw[q];simp)]at e;cases e)
  have hM:Mod K mg (pX G.heap H):=#[ac,J am,#[R,J I,aT],let ⟨mc,h1,h2⟩:=a1;#[mc,J h1,h2]];have e0:uq P w K mg (pX G.heap H) Pn [] G H:=#[rfl,hM,λb o e=>CY e,Nat.le_of_eq (yh _ _),trivial,λb I=>absurd (show b∈([]:List Addr)from I) (by simp),bC,.of_eq hg];show N0 ((F _ ac (J am)).run Pn [] G H #[[.ref a],[]] [.ref a] [.ref a] _ _ hr e0 (ap G (.ref a)) (.cons rfl .nil) (a2 H hO hS)) λr s' h=>?_;cases r with
  |error e=>show(a0 H e s' h).elim
  |ok fl =>
   cases fl with
   |next=>show Mc h
   |brk=>show Mc h
   |cont=>show Mc h
   |ret u =>
    let#[v,H',os,bare,un,aB,r',q]:=h;have q':v=.bl true:=q;subst q';obtain rfl:u=Value.bool true:=r';show#[rfl,OldK.of_keep λb o e=>?_,os,bare];cases q:H b with
    |none=>show un.keep b o e q (by intro z;show absurd (show b∈([]:List Addr)from z) (by simp)) (by simp)
    |some u =>
     rcases hO b with z|⟨ob,xs,z⟩
     .rw[q]at z;cases z
     .have z2:=un.ly b ob _ z;let#[e1,_]:=bC b _ z;let#[e2,_]:=aB b _ z2;rw[e]at e1;cases e1;show e2
 cases N:K.lookup a with
 |some o =>
  have e:=KX a o N;rw[L]at e;cases e;show Y (λ_=>none) (λ_=>.inl rfl) (.inr #[_,vs.toArray,_,N,1,rfl,by rw[G1,a3];show hl,by simpa using U]) (λb u z=>by have z':(none:Option HO)=some u:=z;cases z') (λb z=>absurd rfl z) λz=>absurd rfl z
 |none =>
  show Y (λb=>if b=a then some (.cH { cls:=.type "list",data:=.seq vs.toArray } (.lst (ns.map V.int)))else none) (λb=>?_) (.inl (.inr #[{ cls:=.type "list",data:=.seq vs.toArray },Q0 rfl])) (λb u z=>?_) (λb z=>?_) λ_=>N
  .by_cases I:b=a
   .show .inr #[2,Q0 I]
   .show .inl (QZ I)
  .by_cases I:b=a
   .have z':=(Q0 I).symm.trans z;cases z';subst I;show#[L,by rw[BY];show hl,vs,_,U,L]
   .have z':=(QZ I).symm.trans z;cases z'
  .by_cases I:b=a
   .show I
   .show absurd (QZ I) z
theorem B8 {l:PySem.W.OpenLaw}{n k:Nat}{q:IF}{loose:List Str}{XP:(Str->Option Value)->Heap->Prop}{J:Ll->Heap->Prop}{d:DefRec}{K:Params->PySem.W.Frag}{CX:Ll->ui}{sp:Ll->Sp}{x:Str}
  (hn:l.most=some n) (as:n<=sizeLine) (am:d.params.defaults=[]) (hr:cZ k Pn)
  (hY:∀(w:Ll) (h:Heap),J w h->(K w.params).In h)
  (F:∀(w:Ll) (mg:Str->Option Value) (I:Addr) (h:Heap),(K w.params).In h->h.Ns LS mg->mg d.name=some (.ref I) ->
   ∃fd:GX,(∀(s:By) (u:Value),PV s fd #[[u],[]] [(x,u)]) /\
    ∀base:Heap,(K w.params).In base->base.Ns LS mg->a8 l.prog w (K w.params) mg base (CX w) k I fd [x] (sp w))
  (ac:∀(w:Ll) (H:Hp) (a:Addr) (ns:List Int),ns.length<=n->E5 H->bA (K w.params) H a (ns.map V.int)->sp w [.ref a] H (λv _=>v=.bl true) λ_ _ _=>False)
  (U:∀(w:Ll) (H:Hp) (s:By) (e:Value) (s':By),CX w [] H s (λ_ _ _=>False) e s'->False) :
  PySem.W.WalkO q loose XP J l.row.toRowW d [] (λf vs=>PySem.call f vs):=by
 show Att.sH hn am λw s₀ S mg mb I o pm cd a0 a vs ns G Y ho hd aT ap aB ab N O=>?_;have L:=hY w _ Y;let#[fd,R,hF]:=F w mg I _ L G.T.g ap;show Bd L G.T.g G.T.b G.T.builtins G.T.nolimit O aB ab (Ly N as) hr hF R (λH hO hS=>ac w H a ns N hO hS) λH e s'=>U w H S e s'
noncomputable def inClass (s:LI) (j:Nat):LI:=match s with
 |.ClassDef _ _ _ body _ _ _ _ _ _ _=>body.getD j (.Pass #[(0),(0),(0),(0)])
 |_=>.Pass #[(0),(0),(0),(0)]
noncomputable def fW (s:LI):Arguments:=match s with
 |.FunctionDef _ a _ _ _ _ _ _ _ _=>a
 |_=>{ posonlyargs:=[],args:=[],vararg:=none,kwonlyargs:=[],kw_defaults:=[],kwarg:=none,defaults:=[] }
noncomputable def eB (s:LI):List LI:=match s with
 |.FunctionDef _ _ b _ _ _ _ _ _ _=>b
 |_=>[]
noncomputable def aw (s:LI):Od:=match s with
 |.FunctionDef _ _ _ _ _ _ G _ _ _=>G
 |_=>{ kind:=.function,names:=[],isGenerator:=false,isCoroutine:=false }
noncomputable abbrev aS:ui:=λ_ _ _ _ _ _=>False
noncomputable abbrev E0:XK:=λ_ _ _=>False
theorem ax {X:Cx}:Passes aS X E0:=λ_ _ _ _ _ _ _ h=>h.elim
structure cM (K:PySem.W.Frag) (x qual:Str) (st:LI) (f:Addr) (fd:GX):Prop where
 ex:∃(oc:Value) (od:Option Addr) (kV doc pm:Value) (an:Option Addr) (cdv ct:Value) (osl:Array (Option Value)),
  fd=QJ x qual (fW st) (eB st) (aw st) .none kV doc pm an cdv ct/\K.lookup f=some #[oc,od,.func fd,osl]/\QK K cdv qual=true
 kp:OJ K (.ref f)=true
section
variable {P:IF}{w:Ll}{K:PySem.W.Frag}{mg:Str->Option Value}{base:Heap}
theorem cM.ok {x I:Str}{st:LI}{f:Addr}{fd:GX}{N ps:List Str}{k:Nat}{sp:Sp}(F:cM K x I st f fd) (S:aC N ps (aw st)) (len:∀vs H Q E,sp vs H Q E->vs.length=ps.length)
  (J:∀(G:Value) (A:Lq) (outer:List OE) (s:By) (H:Hp) (vs:List V) (Q:VK) (E:XK),cZ k (A.deeper (OO I (aw st) s.heap.objs.size f G))->sp vs H Q E ->
   ∃t,vj (vp aS P w K mg base N I (aw st) f G A outer s H E).si (eB st) t/\t { nx:=λ_ H'=>Q .non H',rt:=Q } (start N vs) H):a8 P w K mg base aS (k+1) f fd ps sp:=by
 let#[oc,od,kV,ab,pm,an,G,ct,Y,rfl,R,L]:=F.ex;show Ei R L S len λA outer s H vs Q E U O=>?_;let#[t,h,q]:=J G A outer s H vs Q E U O;show#[t,h.si,q]
theorem cM.binds {x J:Str}{st:LI}{f:Addr}{fd:GX}{ps:List Str}(F:cM K x J st f fd)
  (h:∀(kV G pm:Value) (an:Option Addr) (I ct:Value) (us:List Value),us.length=ps.length->Qo (QJ x J (fW st) (eB st) (aw st) .none kV G pm an I ct) #[us,[]]=pure (ps.zip us)):Binds K fd ps []:=by
 let#[oc,od,kV,G,pm,an,I,ct,L,rfl,O,N]:=F.ex;show .all (h kV G pm an I ct)
theorem rJ {x G:Str}{st:LI}{f:Addr}{oc:Value}{od an:Option Addr}{L:Array (Option Value)}{kV J pm I ct:Value}(l:K.lookup f=some #[oc,od,.func (QJ x G (fW st) (eB st) (aw st) .none kV J pm an I ct),L])
  (c:QK K I G=true) (k:OJ K (.ref f)=true):cM K x G st f (QJ x G (fW st) (eB st) (aw st) .none kV J pm an I ct):=#[#[oc,od,kV,J,pm,an,I,ct,L,rfl,l,c],k]
end
theorem aZ {A:Lq}{k:Nat}(G:cZ k A):A.units+1<NG:=Nat.lt_of_le_of_lt (Nat.add_le_add_left (by decide:1<=64) _) G.units
section
variable {X:Cx}
theorem pv (i:Nat) {x:Str}{pos:Nu}(J:X.N[i]?=some x:=by rfl) (G:Ir X.env.scope x:=by first|show Lc rfl|show OU (Lc rfl)|show OU (OU rfl)) (hd:(x==("__debug__" : Str))=false:=by decide)
  (I:(x==("__classdict__" : Str))=false:=by decide):PE X (.Name x pos) (C5 i):=E7 J G hd I
end
theorem bJ {A B:Prop}(h:B):if false=true then A else B:=by
 rw[QZ Lf];show h
theorem eL {A B:Prop}(h:A):if true=true then A else B:=by
 rw[Q0 rfl];show h
theorem gf {c A B:Prop} [Decidable c] (h1:c->A) (h2:¬ c->B):if c then A else B:=by
 by_cases h:c
 .rw[Q0 h];show h1 h
 .rw[QZ h];show h2 h
noncomputable def bh (H H':Hp):Prop:=∀b o,H b=some o->H' b=some o
theorem bh.refl (H:Hp):bh H H:=λ_ _ h=>h
theorem bh.trans {H H1 H2:Hp}(a:bh H H1) (b:bh H1 H2):bh H H2:=λc o h=>b c o (a c o h)
theorem bh.free {H H':Hp}(e:bh H H') {l:Addr}(h:H' l=Option.none):H l=Option.none:=by
 cases q:H l with
 |none=>rfl
 |some o =>
  rw[e l o q]at h;cases h
noncomputable def qo (X:Cx) (G:List Str) (scope:Od) (cl:List (Str×Addr)) (C:Addr) (s₀:By) (H₀:Hp) (ex:List Addr):Cx where
 prog:=X.prog
 w:=X.w
 K:=X.K
 mg:=X.mg
 base:=X.base
 A:=X.A
 N:=G
 s₀:=s₀
 H₀:=H₀
 env:=Qv scope cl C X.env
 outer:=X.stack
 stack:=X.stack
 ex:=ex
 fn:=λ_=>false
 calm:=X.calm
 pn:=[]
 xe:=λ_ _=>False
noncomputable def gw (t:Str) (caps:List (Str×Nat)):List Str:=t::caps.map (·.1)
noncomputable def gg (caps:List (Str×Nat)) (σ:St) (v:Option V):St:=v::caps.map λp=>(σ[p.2]?).join
structure jV (X:Cx) (scope:Od) (cl:List (Str×Addr)) (t:Str) (caps:List (Str×Nat)):Prop where
 kind:scope.kind=.function
 EI:∀y∈scope.names,y.2≠.cell
 names:∀y∈scope.names,y.2=.local->scope.names.lookup y.1=some .local
 Kx:scope.names.lookup t=some .local
 HE:closureFor scope X.env=pure cl
 sub:∀p∈cl,X.env.cells.lookup p.1=some p.2
 has:((relabel scope X.env).names.all λy => !(y.2 == .cell||y.2 == .free)||(cl.lookup y.1).isSome)=true
 KQ:∀p∈caps,X.N[p.2]?=some p.1/\(X.env.kindOf p.1=some .cell\/X.env.kindOf p.1=some .free)/\((relabel scope X.env).names.lookup p.1=some .cell\/(relabel scope X.env).names.lookup p.1=some .free)
 nd:(gw t caps).Nodup
section
variable {X:Cx}{scope:Od}{cl:List (Str×Addr)}{t:Str}{caps:List (Str×Nat)}{pins:List (Addr×Obj)}{σ:St}{H:Hp}{s:By}{C:Addr}{fp:List Addr}
theorem jV.look (K:jV X scope cl t caps) {x:Str}{c:Addr}(h:cl.lookup x=some c):X.env.cells.lookup x=some c:=K.sub (x,c) (PySem.mem_of_lookup h)
theorem jV.hs (K:jV X scope cl t caps) {x:Str}(h:(relabel scope X.env).names.lookup x=some .cell\/(relabel scope X.env).names.lookup x=some .free):∃c,cl.lookup x=some c:=by
 have G:∀k,(relabel scope X.env).names.lookup x=some k->(k==NameKind.cell||k==NameKind.free)=true->∃c,cl.lookup x=some c:=λk e I=>by
  have:=List.all_eq_true.mp K.has (x,k) (PySem.mem_of_lookup e);dsimp only at this;rw[I]at this;show Option.isSome_iff_exists.mp (by simpa using this)
 rcases h with h|h
 .show G _ h rfl
 .show G _ h rfl
theorem KG (I:Inv X pins σ H s) (K:jV X scope cl t caps) (J:∀b∈fp,gy X pins H b) (R:∀b∈fp,b<s.heap.objs.size) (L:s.heap.objs.size<=C):(qo X (gw t caps) scope cl C s H fp).Ok where
 mod:=I.ok.mod
 kind:=K.kind
 glob:=I.ok.glob
 blt:=I.ok.blt
 above:=L
 inj:=λx y c h1 h2=>I.ok.inj x y c (K.look h1) (K.look h2)
 has:=λx N=>K.hs N
 Ft:=λx c h=>nomatch (show false=true from h)
 hd:=I.ok.hd
 frames:=I.ok.frames
 Gi:=.inl rfl
 IS:=λb G=>#[LM (LH (R b G) L),λx c e=>(J b G).2.2.2.2.1 x c (K.look e)]
 bs:=I.bs
 zk:=Ly I.ok.zk I.sz
 wu:=λb o e G=>by
  rcases(J b G).2.2.2.1 with z|z
  .show I.ok.wu b o e z
  .show absurd (LH (Heap.lt_size e) (Ly I.ok.zk z)) (Nk _)
 uL:=λb G O=>by
  rcases List.mem_cons.mp (I.p7 b O)with e|e
  .show(J b G).2.1 e
  .show(J b G).2.2.1 e
 jj:=I.stack
 CO:=I.rf
theorem Ji {O:Heap}{m:Str->Option Value}{tk:Nat}(I:Inv X pins σ H s) (K:jV X scope cl t caps) (hf:∀b∈fp,gy X pins H b) (ho:∀b∈fp,b<s.heap.objs.size) (S:s.heap.objs.size<=C)
  (R:∀b o,s.heap.get? b=some o->O.get? b=some o) (ns:O.Ns C m):Inv (qo X (gw t caps) scope cl C s H fp) [] (gg caps σ none) H { s with heap:=O,toks:=tk }:=by
 have ac:∀c v,s.heap.IsCell c v->O.IsCell c v:=λc v ap=>(by let#[o,e,d]:=ap;show#[o,R c o e,d]);show#[KG I K hf ho S,rfl,I.bare,Un.kept R,#[m,ns,λi x v e1 Y e3=>?_],λx c e=>?_,I.bC.fresh S,λx c e=>I.eX x c (K.look e),λp G=>absurd (show p∈([]:List (Addr×Obj))from G) (by simp),I.bC.kept R,by simp[gg,gw,qo]]
 .cases i with
  |zero =>
   have J:some (none:Option V)=some (some v):=Y;cases J
  |succ j =>
   have L:(caps.map (·.1))[j]?=some x:=e1;have J:(caps.map λp=>(σ[p.2]?).join)[j]?=some (some v):=Y;rw[K4]at L J;cases G:caps[j]? with
   |none=>rw[G]at L;cases L
   |some p =>
    rw[G]at L J;have ex:p.1=x:=Option.some.inj L;have N:(σ[p.2]?).join=some v:=Option.some.inj J;have aB:σ[p.2]?=some (some v):=by
     cases q:σ[p.2]? with
     |none=>rw[q]at N;cases N
     |some z=>rw[q]at N;show congrArg some N
    let#[hN,hk,U]:=K.KQ p (Ld G);subst ex;let#[m',_,hl]:=I.loc;have as:Ir X.env.scope p.1:=by
     rcases hk with z|z
     .show .inr (.inl z)
     .show .inr (.inr z)
    let#[u,r,l]:=hl p.2 p.1 v hN aB as;let#[c,hc]:=K.hs U;rcases l with⟨z,_⟩|⟨_,c',ab,am⟩
    .rcases hk with y|y<;>(rw[y]at z;cases z)
    .rw[K.look hc]at ab;cases ab;show#[u,r,.inr #[U,c,hc,ac c _ am]]
 .let#[v,z]:=I.cell x c (K.look e);show#[v,ac c v z]
theorem Inv.Hb {D:Addr}{ys:List V}{its:List Value}{n:Nat}(I:Inv X pins σ H s) (f:gy X pins H D) (e:s.heap.get? D=some { cls:=.type "list",data:=.seq its.toArray n }) (r:Vals ys its) (Y:ys.length<=sizeLine) :
  Inv X pins σ (upd H D (.lst ys)) s:=by
 let#[J,L,f2,U,S,R]:=f;let#[N,g,d,tk,os]:=s;show I.step (g':=g) (d':=d) (t':=tk) (h':=N) (ch:=[D]) (λb G=>?_) (λb o _ _ _ e _=>e) (λb o _ _ _ e _=>#[o.slots,e]) (λb o G _ n=>?_) (λb o _ e=>#[o,e]) (λb xs q=>?_) (λb o u q=>?_) (λb ps q=>#[([].toArray),?_]) (λm O=>O) (λb u q=>?_) I.bare
 .have z:b=D:=(by simpa using G);subst z;show#[U,L,S,R]
 .rw[ag (λz=>G (by simp[z]))];show n
 .rw[ag (aq q J)];show q
 .rw[ag (aq q J)];show q
 .rw[ag (aq q J),q];simp
 .by_cases G:b=D
  .subst G;rw[ae]at q;cases q;show#[Y,its,n,r,e]
  .rw[ag G]at q;show(I.bC b u q).iV (λ_ _ _ z=>z) (λc z=>by rw[ag (aq z J)];show z) λc xs z=>by rw[ag (aq z J)];show z
end
noncomputable def GZ (X:Cx) (ifs:List LC) (t:TT):Prop :=
 ∀(pins:List (Addr×Obj)) (s:By) (σ:St) (H:Hp) (Q:Bool->Hp->Prop),Inv X pins σ H s->t σ H Q ->
  wpAny (model X.prog X.w) X.A (forIn ifs true λc r=>if r=true then do let ok <-isTrue c X.env (eval c X.env);pure (Qd ok)else pure (Qd r)) (TP X pins σ Q) X.xe s
noncomputable def oJ:TT:=λ_ H Q=>Q true H
theorem gO {X:Cx}:GZ X [] oJ:=λ_ _ _ H _ I h=>wpAny_tests_nil #[H,I,h]
theorem CN {X:Cx}{c:LC}{t:TT}(h:PT X c t):GZ X [c] t:=λpins s σ H Q I q=>wpAny_tests_one (h pins s σ H Q I q)
noncomputable def iA (caps:List (Str×Nat)) (tt:TT) (te:TE) (σ:St) (J:It) (Q:List V->Hp->Prop) (W:Nat->Nat->List V->Hp->Prop):Prop :=
 ∀i m ys H,W i m ys H->(J.stop i H/\Q ys H)\/(J.go i H/\∃N:List V->Hp->Prop,(∀G H',N G H'->∃I,I<m/\W (i+1) I G H')/\∀x H',J.DJ i H x H'->tt (gg caps σ (some x)) H' λb H2 =>
  if b=true then te (gg caps σ (some x)) H2 (λy H3=>ys.length<sizeLine/\N (ys++[y]) H3)else N ys H2)
noncomputable def Eg (caps:List (Str×Nat)) (wi:TI) (tt:TT) (te:TE):TE:=λσ H Q=>wi σ H λJ H1 =>
 ∃W:Nat->Nat->List V->Hp->Prop,(∃m,W 0 m [] H1)/\iA caps tt te σ J (λys H2=>∀p,H2 p=none->Q (.ref p) (upd H2 p (.lst ys))) W
section
variable {X:Cx}{scope:Od}{cl:List (Str×Addr)}{t:Str}{caps:List (Str×Nat)}{elt iter:LC}{ifs:List LC}{px pos:Nu}{wi:TI}{tt:TT}{te:TE}
theorem mL {pins:List (Addr×Obj)}{σ:St}{H:Hp}{s:By}{J:It}{fp:List Addr}{it:Addr}{tn:Nat->Heap->Prop}{W:Nat->Nat->List V->Hp->Prop}{QE:List V->Hp->Prop}{E:Value->By->Prop}{RR:Value->Addr->Result->By->Prop}{m0:Nat}
  (K:jV X scope cl t caps) (hc:X.calm=true)
  (ht:∀C s₀ H₀ ex,GZ (qo X (gw t caps) scope cl C s₀ H₀ ex) ifs tt) (he:∀C s₀ H₀ ex,PE (qo X (gw t caps) scope cl C s₀ H₀ ex) elt te)
  (I:Inv X pins σ H s) (T:Turn X.prog X.w X.K (.Name t px) J fp it tn) (st:tn 0 s.heap) (U:∀b∈fp,gy X pins H b) (w0:W 0 m0 [] H) (hW:iA caps tt te σ J QE W)
  (bY:∀D C ys H' s' m,H' D=none->Inv X pins σ (upd H' D (.lst ys)) s'->s'.heap.Ns C m->gy X pins (upd H' D (.lst ys)) C->QE ys H'->RR (.ref D) C (.ok .next) s') :
  wpAny (model X.prog X.w) X.A (newList []) (λbi ac=>wpAny (model X.prog X.w) X.A (newFunctionEnv scope X.env.globals cl [] X.env.qual none .none (some X.env)) (λbl b0 =>
   NZ (model X.prog X.w) X.A (.compStart (.ListComp elt [#[.Name t px,iter,ifs,(0)]] scope pos) 0 (.ref it) bi { bl with scope:=relabel scope X.env }) (RR bi bl.locals) b0) E ac) E s:=by
 show Ni (wpAny_newFunctionEnv K.EI (by intro y hy;simp at hy) (λas a7 am=>?_) K.kind);dsimp only at a7 am ⊢;generalize a6:s.heap.push { cls:=.type "list",dict:=none,data:=.seq ([]:List Value).toArray }=H2 at a7 am ⊢;have hC:H2.objs.size=s.heap.objs.size+1:=(by rw[<-a6,Heap.size_push]);have ap:s.heap.objs.size≠H2.objs.size:=(by rw[hC];show LM (Nat.lt_succ_self _));have aT:s.heap.objs.size<=H2.objs.size:=(by rw[hC];show ON _);have below:∀b,b<s.heap.objs.size->b≠H2.objs.size:=λb G=>(by rw[hC];show LM (NT G));have bv:∀b o,s.heap.get? b=some o->as.get? b=some o:=λb o e=>am.extBut b o (below b (Heap.lt_size e)) (Heap.get?_push_of_some _ (a6▸Heap.get?_push_of_some _ e));have b1:as.get? s.heap.objs.size=some { cls:=.type "list",data:=.seq ([]:List Value).toArray }:=am.extBut _ _ ap (Heap.get?_push_of_some _ (a6▸Heap.get?_push_size _ rfl));have ho:∀b∈fp,b<s.heap.objs.size:=λb G=>let ⟨_,e,_⟩:=T.obj 0 _ st b G;Heap.lt_size e;have bc:s.heap.objs.size∉fp:=λhm=>Nk _ (ho _ hm);have be:tn 0 as:=T.keep 0 _ _ st λb _ o e=>bv b o e;have cc:s.heap.objs.size∉oK X.stack:=λz=>by
  rcases List.mem_cons.mp (I.p7 _ z)with e|e
  .show absurd (e▸I.lt) (Nk _)
  .show I.Hy (HC _) e
 have b9:∀x c,cl.lookup x=some c->c≠s.heap.objs.size:=λx c e z=>by
  let#[v,q]:=I.cell x c (K.look e);show absurd (z▸q.lt) (Nk _)
 have ba:∀{pl:List (Addr×Obj)}{L:Hp},(∀b∈fp,L b=none)->(∀p∈pl,p.1∉fp)->∀b∈fp,gy (qo X (gw t caps) scope cl H2.objs.size s H fp) pl L b:=λ{pl L} hn S b G =>
  #[hn b G,below b (ho b G),(KG I K U ho aT).uL b G,.inl G,λx c e=>(U b G).2.2.2.2.1 x c (K.look e),λp bI z=>by
   have b2:p∈pl:=bI;show S p b2 (z▸G)]
 have bb:∀ac:By,ac={ s with heap:=as,toks:=s.toks+([]:List (Str×Value)).length } ->
   NZ (model X.prog X.w) X.A (.compLoop (.ListComp elt [#[.Name t px,iter,ifs,(0)]] scope pos) 0 (.ref it) (.ref s.heap.objs.size) (Qv scope cl H2.objs.size X.env)) (RR (.ref s.heap.objs.size) H2.objs.size) ac:=by
  rintro ac rfl;show codeAny_loop rfl (λn s'=>∃i ys its O L v0,Inv (qo X (gw t caps) scope cl H2.objs.size s H fp) [] (gg caps σ v0) L s'/\tn i s'.heap/\(∀b∈fp,L b=none)/\L s.heap.objs.size=none /\
   s'.heap.get? s.heap.objs.size=some { cls:=.type "list",data:=.seq its.toArray O }/\Vals ys its/\ys.length<=sizeLine/\W i n ys L) (λn s' hI=>?_) m0
   #[(0),[],[],(0),H,none,Ji I K U ho aT bv a7,be,λb G=>(U b G).1,I.bC.fresh (HC _),b1,.nil,LD _,w0]
  let#[i,ys,its,O,L,v0,I3,bx,bn,a0,e3,r3,z3,w3]:=hI;change wpAny _ X.A ((compTurn (.ListComp elt [#[.Name t px,iter,ifs,(0)]] scope pos) 0 (.ref it) (.ref s.heap.objs.size) (Qv scope cl H2.objs.size X.env)).onRaise (λx=>do noteFrame x (Qv scope cl H2.objs.size X.env);theTreesLotGoes x)) _ _ s';show wpAny_noted ?_;rw[compTurn_list];have bd:Inv (qo X (gw t caps) scope cl H2.objs.size s H fp) [(s.heap.objs.size, { cls:=.type "list",data:=.seq its.toArray O })] (gg caps σ v0) L s':=I3.lV λp S=>by
   have ep:p=(s.heap.objs.size, { cls:=.type "list",data:=.seq its.toArray O }):=(by simpa using S);subst ep;show#[e3,a0,ap,cc,λv z=>by cases(show Qu its.toArray O=NO v from z)]
  have pD:∀p∈[((s.heap.objs.size:Addr),({ cls:=.type "list",data:=.seq its.toArray O }:Obj))],p.1∉fp:=λp S=>by
   have ep:p=(s.heap.objs.size, { cls:=.type "list",data:=.seq its.toArray O }):=(by simpa using S);subst ep;show bc
  rcases hW i n ys L w3 with⟨b8,q⟩|⟨go,N,hN,step⟩
  .show DD (Oo (DD (bS (T.done (qo X (gw t caps) scope cl H2.objs.size s H fp) rfl rfl rfl hc i _ s' _ L _ bd (ba bn pD) bx b8) λr s4 b5=>?_)));let#[hr,Y]:=b5;subst hr;show Lg ?_;have I5:Inv X pins σ L s4:=I.zP (ch:=fp) Y.os Y.base Y.bC Y.bare λb G=>#[(U b G).2.2.2.1,(U b G).2.1,(U b G).2.2.2.2.1,(U b G).2.2.2.2.2];have e4:=(Y.pin _ (LF _ Ls)).1;have fD:gy X pins L s.heap.objs.size:=I.j5 (HC _) a0;have I6:=I5.Hb fD e4 r3 z3;let#[m,hn,_]:=Y.loc;show bY _ _ ys L s4 m a0 I6 hn (I.j5 aT ?_) q;rw[ag (G0 ap)];show Y.free
  .show DD (Oo (DD (bS (T.item (qo X (gw t caps) scope cl H2.objs.size s H fp) rfl rfl rfl hc i _ s' _ L _ bd (ba bn pD) bx go) λr s4 b4=>?_)));let#[u,hr,h4]:=b4;subst hr;show DD (bS h4 λ_ s5 b7=>?_);let#[x,H5,I5,r5,y5,aB,b6]:=b7;have cm:=(I5.pin _ (LF _ Ls)).2.1;have ca:=I5.pinned (ba b6 pD) (T.obj _ _ aB);have si:∀{α:Type}{tr:Om α}{Q:α->By->Prop}{E':Value->By->Prop}{R:By},wpAny (model X.prog X.w) X.A tr Q (λ_ _=>False) R->wpAny (model X.prog X.w) X.A tr Q E' R:=λh=>L3 h (λ_ _ z=>z) λ_ _ z=>z.elim;show DD (Oe (jB (X:=qo X (gw t caps) scope cl H2.objs.size s H fp) (i:=0) (x:=t) ca K.nd rfl (.inl (Ph K.Kx)) r5 (λs6 I6=>?_) (.inr (Ph K.Kx))));have e0:(gg caps σ v0).set 0 (some x)=gg caps σ (some x):=rfl;rw[e0]at I6;show DD (si (bS (ht _ _ _ _ _ s6 _ H5 _ I6 (step x H5 y5)) λok s7 b3=>?_));let#[H7,I7,q7]:=b3;have bm:∀{ab:St}{H':Hp}{R:By},Inv (qo X (gw t caps) scope cl H2.objs.size s H fp) ([(s.heap.objs.size, { cls:=.type "list",data:=.seq its.toArray O })]++mj fp s5.heap) ab H' R ->
     R.heap.get? s.heap.objs.size=some { cls:=.type "list",data:=.seq its.toArray O }/\H' s.heap.objs.size=none/\tn (i+1) R.heap/\(∀b∈fp,H' b=none):=λ{ab H' R} Ix=>by
    have a:=Ix.pin _ (LF _ (Mh _ Ls));show#[a.1,a.2.1,T.keep _ _ _ aB λb G o e=>(Ix.pin (b,o) (LF _ (LF _ (gL G e)))).1,λb G=>?_];let#[o,e,d]:=T.obj _ _ aB b G;show(Ix.pin (b,o) (LF _ (LF _ (gL G e)))).2.1
   have bare:∀{pl:List (Addr×Obj)}{ab:St}{H':Hp}{R:By},Inv (qo X (gw t caps) scope cl H2.objs.size s H fp) pl ab H' R->Inv (qo X (gw t caps) scope cl H2.objs.size s H fp) [] ab H' R:=λIx=>Ix.lV λp S=>absurd S (by simp);cases ok with
   |false =>
    rw[QZ Lf]at q7;let#[m',hm,w7]:=hN _ _ q7;let#[a1,a2,a3,a4]:=bm I7;show Lg #[rfl,m',hm,i+1,ys,its,O,H7,some x,bare I7,a3,a4,a2,a1,r3,z3,w7]
   |true =>
    rw[Q0 rfl]at q7;show DD (DD (si (bS (he _ _ _ _ _ s7 _ H7 _ I7 q7) λy s8 bz=>?_)));let#[yv,H8,I8,r8,ce,n8]:=bz;let#[m',hm,w8]:=hN _ _ n8;let#[a1,a2,a3,a4]:=bm I8;have ci:=r3.length;show DD (NA F.slot_list_append #[_,a1,rfl] F.entry_list_append (F.args_list_append_2 _ _) (list_append s.heap.objs.size its.toArray O y (by rw[G1];omega)) #[a1,?_]);obtain⟨a5,q⟩:∃a5:Nat,(s8.heap.update s.heap.objs.size (Obj.mapSeq (·.push y))).get? s.heap.objs.size=some { cls:=.type "list",data:=.seq (its++[y]).toArray a5 }:=by
     have q:=PySem.IsL.update a1 (·.push y);have ea:its.toArray.push y=(its++[y]).toArray:=(by simp);rw[ea]at q;show#[_,q]
    have I9:Inv (qo X (gw t caps) scope cl H2.objs.size s H fp) [] (gg caps σ (some x)) H8 { s8 with heap:=s8.heap.update s.heap.objs.size (Obj.mapSeq (·.push y)) }:=
     (bare I8).turned (t':=s8.toks) (λb o G e=>(Heap.get?_update_other _ _ (G0 G)).trans e) a2 ap (.inr (HC _)) b9 (λp S=>absurd (show p∈([]:List (Addr×Obj))from S) (by simp))
    show Lg (Lg #[rfl,m',hm,i+1,ys++[yv],its++[y],a5,H8,some x,I9,T.keep _ _ _ a3 λb G o e=>(Heap.get?_update_other _ _ (show s.heap.objs.size≠b from λz=>bc (by rw[z];show G))).trans e,a4,a2,q,r3.append (.cons r8 .nil),?_,w8])
    .rw[Li,Mb];omega
 show codeAny_compStart_list (bb _ rfl) (T.self _ 0 _ _ _ be (bb _ rfl))
theorem iR (K:jV X scope cl t caps) (hc:X.calm=true) (hi:PI X (.Name t px) iter wi)
  (ht:∀C s₀ H₀ ex,GZ (qo X (gw t caps) scope cl C s₀ H₀ ex) ifs tt) (U:∀C s₀ H₀ ex,PE (qo X (gw t caps) scope cl C s₀ H₀ ex) elt te)
  (hs:∀x,Og iter X.env x=pure x:=by intro _;rfl):PE X (.ListComp elt [#[.Name t px,iter,ifs,(0)]] scope pos) (Eg caps wi tt te):=by
 intro pins s σ H Q I h;rw[eval_ListComp];show Oq (use:=none) rfl hs K.HE K.kind K.names (bS (hi pins s σ H _ I h) λv s1 h1=>bS h1 λam s2 h2=>?_);let#[it,fp,tn,J,H2,e,I2,T,ac,R,W,#[m0,S],hW]:=h2;subst e;show mL (RR:=λab C=>compPost (model X.prog X.w) X.A X.xe none (EP X pins σ Q) ab C) K hc ht U I2 T ac R S hW ?_;intro D C ys H' s' m O I' hn N q;show#[m,hn,λh' L=>?_];let#[c0,c1,c2,Y,c4,c5]:=N;show#[.ref D,_,I'.turned (t':=s'.toks) (λb o G e=>(L.2 b G).trans e) c0 c1 Y c4 c5,rfl,q D O]
theorem xv {i:Nat}{y:Str}{G O:Nu}(hN:X.N.Nodup) (ac:X.N[i]?=some y) (hy:Loc X.env.scope y) (K:jV X scope cl t caps) (hc:X.calm=true) (hi:PI X (.Name t px) iter wi)
  (ht:∀C s₀ H₀ ex,GZ (qo X (gw t caps) scope cl C s₀ H₀ ex) ifs tt) (he:∀C s₀ H₀ ex,PE (qo X (gw t caps) scope cl C s₀ H₀ ex) elt te)
  (aB:Ov (.ListComp elt [#[.Name t px,iter,ifs,(0)]] scope pos) (some (.Name y G)) O.line X.env=pure true:=by rfl)
  (hs:∀x,Og iter X.env x=pure x:=by intro _;rfl) (hf:X.fn y=true\/X.env.scope.names.lookup y=some .local:=by first|show .inl rfl|show .inr rfl|assumption) :
  PS X (.Assign [.Name y G] (.ListComp elt [#[.Name t px,iter,ifs,(0)]] scope pos) O) (Bz (Eg caps wi tt te) (sI i)):=by
 intro pins s σ H D I h;rw[exec_Assign_Name_used _ _ _ _ aB];show DD (Oo (DD ?_));change wpAny _ X.A (do let _ <-comprehension (.ListComp elt [#[.Name t px,iter,ifs,(0)]] scope pos) scope X.env _ (newList []) false (eval iter X.env) (some (Py (.Name y G) X.env))) _ _ s;show DD (bS (Oq (use:=some (Py (.Name y G) X.env)) (Q:=λ_ s'=>SP X pins D .next s') rfl hs K.HE K.kind K.names
  (bS (hi pins s σ H _ I h) λv s1 h1=>bS h1 λa0 s2 h2=>?_)) λ_ s' hq=>Lg (Lg hq))
 let#[it,fp,tn,J,H2,e,I2,T,aT,f2,W,#[m0,w0],hW]:=h2;subst e;show mL (RR:=λam C=>compPost (model X.prog X.w) X.A X.xe (some (Py (.Name y G) X.env)) (λ_ s'=>SP X pins D .next s') am C) K hc ht he I2 T aT f2 w0 hW ?_;intro L C ys H' s' m hD I' hn Y q;let#[c0,S,c2,c3,R,c5]:=Y;change wpAny _ X.A (Py (.Name y G) X.env (.ref L)) _ _ s';show Oe (pL (v:=.ref L) I' hN ac hy rfl (λs3 I3 ab=>?_) hf);let#[a,ap,ha]:=ab;have as:C≠a:=by
  rcases ha with z|z
  .rw[z];show S
  .show λw=>R y a z w.symm
 show#[m,hn.sameBut ap as,λh' U=>?_];show#[2,I3.turned (t':=s3.toks) (λb o hb e=>(U.2 b hb).trans e) c0 S c3 R c5,q L hD]
end
theorem mC {caps:List (Str×Nat)}{tt:TT}{te:TE}{σ:St}{H:Hp}{lo:Int}{n:Nat}{I:List V->Hp->Prop}(Pv:Nat->List V->Hp->Prop) (J:Pv 0 [] H)
  (hs:∀i ys H,i<n->Pv i ys H->tt (gg caps σ (some (.int (lo+i)))) H λb H2=>if b=true then te (gg caps σ (some (.int (lo+i)))) H2 (λy H3=>ys.length<sizeLine/\Pv (i+1) (ys++[y]) H3)else Pv (i+1) ys H2)
  (hd:∀ys H,Pv n ys H->I ys H):∃W:Nat->Nat->List V->Hp->Prop,(∃m,W 0 m [] H)/\iA caps tt te σ (CW lo n) I W:=by
 show#[λi m ys H=>m=n-i/\i<=n/\Pv i ys H,#[n,by simp,LD _,J],?_];rintro i m ys H ⟨rfl,hi,p⟩;by_cases G:i<n
 .show .inr #[G,Pv (i+1),λN H' L=>#[n-(i+1),af,rfl,G,L],λx H' y=>?_];let#[e,y]:=y;subst e y;show hs i ys _ G p
 .have e:i=n:=af;subst e;show .inl #[HC _,hd ys H p]
theorem yT {K:PySem.W.Frag}{a:Addr}{xs:List V}{caps:List (Str×Nat)}{tt:TT}{te:TE}{σ:St}{H:Hp}{I:List V->Hp->Prop}(Pv:Nat->List V->Hp->Prop) (L:Pv 0 [] H) (J:∀i ys H,i<=xs.length->Pv i ys H->bA K H a xs)
  (hs:∀i x ys H,xs[i]?=some x->Pv i ys H->tt (gg caps σ (some x)) H λb H2=>if b=true then te (gg caps σ (some x)) H2 (λy H3=>ys.length<sizeLine/\Pv (i+1) (ys++[y]) H3)else Pv (i+1) ys H2)
  (hd:∀ys H,Pv xs.length ys H->I ys H):∃W:Nat->Nat->List V->Hp->Prop,(∃m,W 0 m [] H)/\iA caps tt te σ (EF K a) I W:=by
 show#[λi m ys H=>m=xs.length-i/\i<=xs.length/\Pv i ys H,#[xs.length,by simp,LD _,L],?_];rintro i m ys H ⟨rfl,hi,p⟩;have q:=J i ys H hi p;by_cases G:i<xs.length
 .show .inr #[#[xs,xs[i],q,by simp[G]],Pv (i+1),λO H' N=>#[xs.length-(i+1),af,rfl,G,N],λx H' y=>?_];let#[e,y]:=y;subst e;show hs i x ys _ (y xs q) p
 .have e:i=xs.length:=af;subst e;show .inl #[#[xs,q,HC _],hd ys H p]
theorem zA {K:PySem.W.Frag}{a:Addr}{xs:List V}{caps:List (Str×Nat)}{tt:TT}{te:TE}{σ:St}{H:Hp}{I:List V->Hp->Prop}(Pv:Nat->List V->Hp->Prop) (L:Pv 0 [] H) (J:∀i ys H,i<=xs.length->Pv i ys H->cy K H a xs)
  (hs:∀i x ys H,xs[i]?=some x->Pv i ys H->tt (gg caps σ (some x)) H λb H2=>if b=true then te (gg caps σ (some x)) H2 (λy H3=>ys.length<sizeLine/\Pv (i+1) (ys++[y]) H3)else Pv (i+1) ys H2)
  (hd:∀ys H,Pv xs.length ys H->I ys H):∃W:Nat->Nat->List V->Hp->Prop,(∃m,W 0 m [] H)/\iA caps tt te σ (Ja K a) I W:=by
 show#[λi m ys H=>m=xs.length-i/\i<=xs.length/\Pv i ys H,#[xs.length,by simp,LD _,L],?_];rintro i m ys H ⟨rfl,hi,p⟩;have q:=J i ys H hi p;by_cases G:i<xs.length
 .show .inr #[#[xs,xs[i],q,by simp[G]],Pv (i+1),λO H' N=>#[xs.length-(i+1),af,rfl,G,N],λx H' y=>?_];let#[e,y]:=y;subst e;show hs i x ys _ (y xs q) p
 .have e:i=xs.length:=af;subst e;show .inl #[#[xs,q,HC _],hd ys H p]
theorem ir {caps:List (Str×Nat)}{te:TE}{σ:St}{H:Hp}{lo:Int}{n:Nat}{G:List V->Hp->Prop}(Pv:Nat->List V->Hp->Prop) (I:Pv 0 [] H)
  (hs:∀i ys H,i<n->Pv i ys H->te (gg caps σ (some (.int (lo+i)))) H (λy H3=>ys.length<sizeLine/\Pv (i+1) (ys++[y]) H3))
  (hd:∀ys H,Pv n ys H->G ys H):∃W:Nat->Nat->List V->Hp->Prop,(∃m,W 0 m [] H)/\iA caps oJ te σ (CW lo n) G W :=
 mC Pv I (λi ys H hi p=>by
  change if true=true then _ else Pv (i+1) ys H
  rw[Q0 rfl];show hs i ys H hi p) hd
theorem vq {K:PySem.W.Frag}{a:Addr}{xs:List V}{caps:List (Str×Nat)}{te:TE}{σ:St}{H:Hp}{G:List V->Hp->Prop}(Pv:Nat->List V->Hp->Prop) (J:Pv 0 [] H) (I:∀i ys H,i<=xs.length->Pv i ys H->bA K H a xs)
  (hs:∀i x ys H,xs[i]?=some x->Pv i ys H->te (gg caps σ (some x)) H (λy H3=>ys.length<sizeLine/\Pv (i+1) (ys++[y]) H3))
  (hd:∀ys H,Pv xs.length ys H->G ys H):∃W:Nat->Nat->List V->Hp->Prop,(∃m,W 0 m [] H)/\iA caps oJ te σ (EF K a) G W :=
 yT Pv J I (λi x ys H hi p=>by
  change if true=true then _ else Pv (i+1) ys H
  rw[Q0 rfl];show hs i x ys H hi p) hd
theorem yN {K:PySem.W.Frag}{a:Addr}{xs:List V}{caps:List (Str×Nat)}{te:TE}{σ:St}{H:Hp}{G:List V->Hp->Prop}(Pv:Nat->List V->Hp->Prop) (J:Pv 0 [] H) (I:∀i ys H,i<=xs.length->Pv i ys H->cy K H a xs)
  (hs:∀i x ys H,xs[i]?=some x->Pv i ys H->te (gg caps σ (some x)) H (λy H3=>ys.length<sizeLine/\Pv (i+1) (ys++[y]) H3))
  (hd:∀ys H,Pv xs.length ys H->G ys H):∃W:Nat->Nat->List V->Hp->Prop,(∃m,W 0 m [] H)/\iA caps oJ te σ (Ja K a) G W :=
 zA Pv J I (λi x ys H hi p=>by
  change if true=true then _ else Pv (i+1) ys H
  rw[Q0 rfl];show hs i x ys H hi p) hd
theorem eY:LK "list" = some (.type "list"):=ao
theorem mT:LK "tuple" = some (.type "tuple"):=ao
theorem kG:LK "int" = some (.type "int"):=ao
theorem DB:LK "bool" = some (.type "bool"):=ao
theorem qR:LK "dict" = some (.type "dict"):=ao
theorem BA:LK "max" = some (.builtin "max"):=ao
theorem bV:LK "isinstance" = some (.builtin "isinstance"):=ao
theorem fC:LK "sorted" = some (.builtin "sorted"):=ao
section
variable {X:Cx}
inductive Ba (x:V) (vs:List V) (H:Hp) (Q:VK):Prop
 |mk (l:Addr) (ns:List Int) (k:Int) (_:x=.ref l) (_:vs=[.int k]) (_:H l=some (.lst (ns.map V.int))) (_:k∈ns) (_:Q (.int (ns.idxOf k:Nat)) H):Ba x vs H Q
theorem BO:ED X "list.index" Ba:=by
 intro pins s σ H x vs v us Q I rx J h;let#[l,ns,k,rfl,rfl,L,R,q]:=h;cases rx;let#[u,rfl,Y]:=J.one;let#[t,rfl]:=Y;let#[z,its,n,r,N,e]:=I.ny L;have hi:=intsAre_of r;have S:=hi.length;rw[BY]at N z;have hs:sizeLine=16777216:=Lh;have G:ns.idxOf k<ns.length:=List.idxOf_lt_length_iff.mpr R;show NA PySem.F.slot_list_index #[_,e,rfl] PySem.F.entry_list_index (PySem.F.args_list_index_2 _ _)
  (SeqAt.list_indexAt l its.toArray n none ([].toArray) (.int k t) (QT k) (ns.idxOf k) (by simpa[S]using G) af ?_ ?_) #[e,λy U=>(eq_isInt k t hi y (by simpa using U)).at _ _,#[.int (ns.idxOf k:Nat),H,I.tok _,#[0],q]]
 .change QT k its[ns.idxOf k]=true;rw[Qw k hi _ af G];simpa using List.getElem_idxOf G
 .intro j O ab;change QT k its[j]=false;rw[Qw k hi j (by simpa using O) af];show ne_of_lt_idxOf ab _
inductive z8 (x:V) (vs:List V) (H:Hp) (Q:VK):Prop
 |mk (l:Addr) (ns:List Int) (k:Int) (_:x=.ref l) (_:vs=[.int k]) (_:H l=some (.lst (ns.map V.int))) (_:Q (.int (ns.count k:Nat)) H):z8 x vs H Q
theorem zy:ED X "list.count" z8:=by
 intro pins s σ H x vs v us Q I G J h;let#[l,ns,k,rfl,rfl,L,q]:=h;cases G;let#[u,rfl,N]:=J.one;let#[t,rfl]:=N;let#[z,its,n,r,O,e]:=I.ny L;show count_list_ints (PySem.IsL.isList e) (intsAre_of r) #[.int (ns.count k:Nat),H,I.tok _,#[0],q]
end
noncomputable def jh:List V->List V->Bool
 | [],[]=>true
 |x::xs,y::ys=>lN x y&&jh xs ys
 |_,_=>false
theorem mi:∀{xs ys:List V},xs.length≠ys.length->jh xs ys=false
 | [],[],h=>absurd rfl h
 | [],_::_,_=>rfl
 |_::_,[],_=>rfl
 |x::xs,y::ys,h=>by
  have G:=mi (xs:=xs) (ys:=ys) λe=>h (by simp[e]);change(lN x y&&jh xs ys)=false;rw[G,Pf]
theorem jo:∀{xs ys:List V},xs.length=ys.length->(List.range xs.length).all (λj=>lN (xs.getD j .non) (ys.getD j .non))=jh xs ys
 | [],[],_=>rfl
 |x::xs,y::ys,h=>by
  have G:=jo (xs:=xs) (ys:=ys) (by simpa using h);rw[Lo,List.range_succ_eq_map,all_cons,List.all_map];change(lN x y&&_)=(lN x y&&jh xs ys);rw[<-G];rfl
 | [],_::_,h=>by simp at h
 |_::_,[],h=>by simp at h
theorem B9 (a b:Int):lN (.int a) (.int b)=decide (a=b):=by
 change(a==b)=_;rw[Bool.beq_eq_decide_eq]
theorem pF:∀(xs ys:List Int),jh (xs.map V.int) (ys.map V.int)=decide (xs=ys)
 | [],[]=>rfl
 | [],_::_=>rfl
 |_::_,[]=>rfl
 |x::xs,y::ys=>by
  have G:=pF xs ys;change(lN (.int x) (.int y)&&jh (xs.map V.int) (ys.map V.int))=_;rw[G,B9];by_cases h1:x=y
  .by_cases h2:xs=ys
   .simp[h1,h2]
   .simp[h1,h2]
  .simp[h1]
theorem gn (xs:List Int):(xs.map V.int).all eI=true:=by
 rw[List.all_map];show List.all_eq_true.mpr λ_ _=>rfl
section
variable {X:Cx}
theorem tL:GY X (Eo X.K):=by
 intro pins s σ H o i ov iv Q I ro ri h;let#[p,xs,k,z,rfl,rfl,U,S,q]:=h;cases ro;let#[t,rfl]:=ri;let#[its,r,pl,hz]:=I.list U;let#[j,h1,h2,h3,Y,h5]:=qK S;let#[w,J,O]:=r.get h2;have R:=r.length;have hn:=mI;have L:EP X pins σ Q w s:=#[z,H,I,O,q];by_cases N:0<=k
 .have G:k.toNat=j:=by
   rw[Oh N h5]at h1;show Option.some.inj h1
  show wpAny_getItem_list pl.isList N af (by rw[G];simpa using J) L
 .have G:(k+(its.toArray.size:Int)).toNat=j:=by
   rw[seqIndex_neg af Y]at h1;rw[G1, <-R];show Option.some.inj h1
  show OS pl.isList af (by rw[G1]<;>omega) af (by rw[G];simpa using J) L
theorem d0:dG X (.builtin "isinstance") (λxs H Q=>∃x n t b,xs=[x,.ty n]/\jX X.K H x t/\Nz X.K t (.type n)=some b/\Q (.bl b) H):=by
 intro pins s σ H xs us Q I r h;let#[x,n,t,b,rfl,ty,e,q]:=h;let#[u,c,rfl,J,G]:=vals2 r;obtain rfl:c=Value.type n:=G;show yV I J ty e λtk=>#[.bl b,H,I.tok _,rfl,q]
theorem Fg (K:PySem.W.Frag):Nz K (.type "int") (.type "int")=some true:=rfl
theorem E4 (K:PySem.W.Frag):Nz K (.type "list") (.type "list")=some true:=rfl
theorem FK (K:PySem.W.Frag):Nz K (.type "int") (.type "bool")=some false:=by with_unfolding_all rfl
end
theorem zJ:LK "range" = some (.type "range"):=ao
section
variable {X:Cx}
end
end L2
namespace PySem.W
open PySem PySem.Spec PySem.Calls PyProof.Rows Builtin Builtin.ObjectAttr Builtin.Getset_descriptor
section
variable {prog:IF}{w:Ll}{A:Lq}{E:Value->By->Prop}{s:By}{K:Frag}{x C:Addr}
end
end PySem.W
namespace L2
open PySem PySem.Spec PyProof.Rows PySem.W
noncomputable def xo (e:Addr) (cls:Value):HO:=.ext λh=>∃o,h.get? e=some o/\o.cls=cls
theorem G8 {P:IF}{w:Ll}{H:Hp}{h:Heap}{e:Addr}{cls:Value}(x:∃o,h.get? e=some o/\o.cls=cls):bT P w H h e (xo e cls):=
 #[x,let ⟨o,G,_⟩:=x;#[o,G],λh1 h2 ⟨o,G,I⟩ k=>#[o,k o G,I]]
noncomputable def C2 (e:Addr) (h:Heap):Prop:=∃o vs,h.get? e=some o/\o.data=.fields vs/\vs[2]?=some .none
noncomputable def Jh (f:Obj->Obj):Prop:=∀o vs,o.data=.fields vs->vs[2]?=some .none->∃G,(f o).data=.fields G/\G[2]?=some .none
inductive Pl {α:Type}:Om α->Prop
 |pure (a:α):Pl (.pure a)
 |raise (e:Value):Pl (.raise e)
 |unsupported (x:String):Pl (.unsupported x)
 |finish (x:Ending):Pl (.finish x)
 |rule (tag:String) (k:Unit->Om α) (h:∀u,Pl (k u)):Pl (.rule tag k)
 |at_ (p:Nu) (k:Unit->Om α) (h:∀u,Pl (k u)):Pl (.at p k)
 |load (a:Addr) (part:Option Value) (k:Obj->Om α) (h:∀o,Pl (k o)):Pl (.load a part k)
 |update (a:Addr) (part:Option Value) (f:Obj->Obj) (k:Unit->Om α) (hf:Jh f) (h:∀u,Pl (k u)):Pl (.update a part f k)
 |alloc (o:Obj) (k:Addr->Om α) (h:∀a,Pl (k a)):Pl (.alloc o k)
 |loadIfAlive (a:Addr) (k:Option Obj->Om α) (h:∀o,Pl (k o)):Pl (.loadIfAlive a k)
 |point (l:List Value) (k:Unit->Om α) (h:∀u,Pl (k u)):Pl (.point l k)
 |register (a:Addr) (k:Unit->Om α):Pl (.register a k)
 |fresh (k:QW->Om α) (h:∀t,Pl (k t)):Pl (.fresh k)
 |ask (k:Setting->Om α) (h:∀t,Pl (k t)):Pl (.ask k)
 |handled (own:Bool) (k:Option Value->Om α) (h:∀t,Pl (k t)):Pl (.handled own k)
 |stack (k:List (Code×Nu)->Om α) (h:∀t,Pl (k t)):Pl (.stack k)
theorem Pl.bind {α J:Type}{t:Om α}{k:α->Om J}(h:Pl t) (L:∀a,Pl (k a)):Pl (t>>=k):=by
 change Pl (Sem.bind t k)
 induction h with
 |pure a=>show L a
 |raise e=>show .raise e
 |unsupported x=>show .unsupported x
 |finish x=>show .finish x
 |rule O I _ G=>show .rule _ _ G
 |at_ p I _ G=>show .at_ _ _ G
 |load a part I _ G=>show .load _ _ _ G
 |update a part f I N _ G=>show .update _ _ _ _ N G
 |alloc o I _ G=>show .alloc _ _ G
 |loadIfAlive a I _ G=>show .loadIfAlive _ _ G
 |point l I _ G=>show .point _ _ G
 |register a I=>show .register _ _
 |fresh I _ G=>show .fresh _ G
 |ask I _ G=>show .ask _ G
 |handled own I _ G=>show .handled _ _ G
 |stack I _ G=>show .stack _ G
theorem C2.push {e:Addr}{h:Heap}{o:Obj}(c:C2 e h):C2 e (h.push o):=let ⟨x,vs,h1,h2⟩:=c;#[x,vs,Heap.get?_push_of_some _ h1,h2]
theorem C2.update {e a:Addr}{h:Heap}{f:Obj->Obj}(c:C2 e h) (J:Jh f):C2 e (h.update a f):=by
 let#[x,vs,h1,h2,G]:=c;by_cases q:a=e
 .subst q;let#[L,I,N]:=J x vs h2 G;show#[f x,L,Heap.get?_update_self _ h1 (Obj.isFreed_of_fields I),I,N]
 .show#[x,vs,(Heap.get?_update_other _ _ q).trans h1,h2,G]
theorem Pl.wp {α:Type}{M:OZ}{I:PySem.Ctx}{t:Om α}{e:Addr}{Q:α->Nu->By->Prop}{E:Value->Nu->By->Prop}(h:Pl t):∀(p:Nu) (s:By),Nj M I t Q E p s->C2 e s.heap ->
  Nj M I t (λa p s=>Q a p s/\C2 e s.heap) (λx p s=>E x p s/\C2 e s.heap) p s:=by
 induction h with
 |pure a=>intro p s q c;rw[Nj]at q ⊢;show#[q,c]
 |raise e=>intro p s q c;rw[Nj]at q ⊢;show#[q,c]
 |unsupported x=>intro p s q c;rw[Nj]at q;show q.elim
 |finish x=>intro p s q c;rw[Nj]at q;show q.elim
 |rule O k _ G=>intro p s q c;rw[Nj]at q ⊢;show G () p s q c
 |at_ J k _ G=>intro p s q c;rw[Nj]at q ⊢;show G () J s q c
 |load a part k _ G=>intro p s q c;rw[Nj]at q ⊢;let#[o,N,q]:=q;show#[o,N,G o p s q c]
 |update a part f k L _ G=>intro p s q c;rw[Nj]at q ⊢;show#[q.1,G () p _ q.2 (c.update L)]
 |alloc o k _ G=>intro p s q c;rw[Nj]at q ⊢;show G _ p _ q c.push
 |loadIfAlive a k _ G=>intro p s q c;rw[Nj]at q ⊢;show G _ p s q c
 |point l k _ G=>intro p s q c;rw[Nj]at q ⊢;show G () p s q c
 |register a k=>intro p s q c;rw[Nj]at q;show q.elim
 |fresh k _ G=>intro p s q c;rw[Nj]at q ⊢;show G _ p _ q c
 |ask k _ G=>intro p s q c;rw[Nj]at q ⊢;show G _ p s q c
 |handled own k _ G=>intro p s q c;rw[Nj]at q ⊢;show G _ p s q c
 |stack k _ G=>intro p s q c;rw[Nj]at q ⊢;show G _ p s q c
theorem Pl.any {α:Type}{M:OZ}{A:Lq}{t:Om α}{e:Addr}{Q:α->By->Prop}{E:Value->By->Prop}{s:By}(h:Pl t) (q:wpAny M A t Q E s) (c:C2 e s.heap):wpAny M A t (λa s=>Q a s/\C2 e s.heap) (λx s=>E x s/\C2 e s.heap) s :=
 λG p I=>h.wp p s (q G p I) c
theorem EU {i:Nat}{v:Value}(h:i≠2):Jh (Obj.mapFields (·.setIfInBounds i v)):=λo vs hd h2=>#[_,Obj.data_mapFields hd _,by rw[Array.getElem?_setIfInBounds_ne h];show h2]
theorem qT (a:Addr):Pl (load a):=.load _ _ _ λo=>.pure o
theorem yO (v:Value):Pl (fieldsOf v):=by
 unfold fieldsOf;split
 .show Pl.bind (qT _) λo=>?_;split
  .show .pure _
  .show .unsupported _
 .show .unsupported _
theorem jD (v:Value) (i:Nat):Pl (field v i):=by
 unfold field;show Pl.bind (yO v) λvs=>?_;split
 .show .pure _
 .show .unsupported _
theorem ig (v:Value) (i:Nat) (x:Value) (h:i≠2):Pl (setField v i x):=by
 unfold setField;split
 .unfold updateField;show Pl.bind (qT _) λo=>?_;split
  .split
   .show .update _ _ _ _ (EU h) λu=>.pure u
   .show .unsupported _
  .show .unsupported _
 .show .unsupported _
theorem m6:Pl stack:=.stack _ λl=>.pure l
theorem qE (ty:String) (vs:List Value):Pl (newFields ty vs):=by
 have G:Pl (newObjAsIs (Value.type ty) (NV vs.toArray)):=Pl.bind (.alloc _ _ λa=>.pure a) λa=>.pure _;unfold newFields newObj;dsimp only;split
 .show Pl.bind (.unsupported _) λ_=>G
 .show G
theorem Cr:Pl frameEnvs:=by
 unfold frameEnvs;show Pl.bind m6 λl=>.pure _
theorem yQ (env:OE) (outer:List OE):Pl (behindIsImport env outer):=by
 unfold behindIsImport;split
 .show .pure _
 .split
  .show .pure _
  .show Pl.bind (jD _ _) λ_=>.pure _
theorem Bu:Pl Pj:=by
 unfold Pj;show Pl.bind m6 λ_=>.pure _
theorem Cy (env:OE) (i:Bool) (l:List OE):Pl (keptBack env i l):=by
 unfold keptBack;split
 .split
  .show .pure _
  .show Pl.bind Bu λ_=>.pure _
 .show .pure _
theorem t6:∀l:List OE,Pl (readyFrames l)
 | []=>.pure _
 |env::outer=>by
  unfold readyFrames;split
  .show Pl.bind (qT _) λo=>?_;split
   .show .pure _
   .show Pl.bind (yQ _ _) λi=>Pl.bind (Cy _ _ _) λb=>Pl.bind (.update _ _ _ _ (λo vs h1 h2=>#[vs,h1,h2]) λu=>.pure u) λ_=>t6 outer
  .show .unsupported _
theorem nJ (l:List OE):Pl (frameObject l):=by
 cases l with
 |nil=>show .pure _
 |cons env outer =>
  unfold frameObject;show Pl.bind (t6 _) λ_=>.pure _
theorem wH (env:OE):Pl (PySem.frameOf env):=by
 unfold PySem.frameOf;show Pl.bind Cr λl=>Pl.bind (nJ _) λo=>?_;split
 .show .pure _
 .show .unsupported _
theorem Ai (f:Addr) (b:Bool):Pl (P1 f b):=by
 unfold P1;show Pl.bind m6 λl=>?_;split
 .show .pure _
 .show .pure _
theorem kD (v:Value) (f:Option Addr):Pl (setFlight v f):=by
 unfold setFlight;show Pl.bind (jD _ _) λtb=>?_;split
 .show ig _ _ _ av
 .show .pure _
theorem wN (v:Value) (env:OE):Pl (noteFrame v env):=by
 unfold noteFrame;split
 .show Pl.bind (jD _ _) λhd=>?_;have rest:∀f:Addr,Pl (do
    let a <-PySem.frameOf env
    let pl <-P1 f (hd != .none)
    let b <-EntryCells.newEntry hd a .none (rawInt f) .none pl
    setField v 1 b):=λf=>Pl.bind (wH _) λa=>Pl.bind (Ai _ _) λq=>Pl.bind (qE _ _) λb=>ig _ _ _ av
  split
  .show Pl.bind (jD _ _) λx=>?_;split
   .show .pure _
   .show Pl.bind (ig _ _ _ av) λ_=>rest _
  .show rest _
 .show .unsupported _
theorem vk (env:OE) (v:Value):Pl (leaving env v):=by
 unfold leaving;show Pl.bind (wN _ _) λ_=>kD _ _
noncomputable def sG (B:Heap) (l:List OE) (e:Addr) (cls I:Value) (h:Heap):Prop :=
 B.StaysIn h/\B.get? e=none/\h.FunFrames B l/\∃G vs,h.get? e=some G/\G.cls=cls/\G.data=.fields vs/\vs[0]?=some I/\vs[1]?=some .none
noncomputable def Bm (X:Cx) (pins:List (Addr×Obj)) (σ:St) (H:Hp) (B:Heap) (s:By):Prop :=
 ∀(h':Heap) (tk:Nat),B.StaysIn h'->s.heap.UpToSlots h'->Inv X pins σ H { s with heap:=h',toks:=tk }
structure BV (X:Cx) (pins:List (Addr×Obj)) (H:Hp) (e:Addr):Prop where
 old:X.s₀.heap.get? e=none
 loc:e≠X.env.locals
 fs:e∉X.fs
 cell:∀x c,X.env.cells.lookup x=some c->c≠e
 pin:∀p∈X.pn++pins,p.1≠e
 free:H e=none
noncomputable abbrev XR:=St->Value->Hp->Prop
noncomputable def XP (X:Cx) (pins:List (Addr×Obj)) (R:XR) (x:Value) (s':By):Prop :=
 ∃(e:Addr) (cls G:Value) (B:Heap) (σ:St) (H:Hp),x=.ref e/\(sG B X.stack e cls G s'.heap\/Heap.FlyingW B X.stack e cls G s'.heap\/∃L,X.env.frame=some L/\Heap.HeldW B X.stack e cls G L s'.heap)/\C2 e s'.heap/\Bm X pins σ H B s'/\BV X pins H e/\R σ cls H
noncomputable def su (P:IF) (w:Ll):ui:=λouter H s E x s' =>
 ∃(e:Addr) (cls G:Value) (B:Heap) (H':Hp),x=.ref e/\s'.os=s.os/\NY s'.gens/\s.heap.get? e=none/\H' e=none/\Heap.FlyingW B outer e cls G s'.heap/\C2 e s'.heap /\
  (∀h',B.StaysIn h'->s'.heap.UpToSlots h'->Un (oK outer) [] H H' s.heap h'/\iX P w H' h')/\E cls none H'
section
variable {X:Cx}{pins:List (Addr×Obj)}{σ:St}{H H':Hp}{s s':By}
theorem Inv.Ed (I:Inv X pins σ H s) (hex:X.ex=[]) {e:Addr}(h:s.heap.get? e=none) (N:H' e=none):BV X pins H' e:=by
 have J:X.s₀.heap.get? e=none:=by
  cases q:X.s₀.heap.get? e with
  |none=>rfl
  |some o =>
   let#[o',z]:=I.base.there e o q (by rw[hex];simp);rw[h]at z;cases z
 show#[J,λz=>?_,λz=>?_,λx c q z=>?_,λp L z=>?_,N]
 .let#[m,#[o,_,_,G,_],_]:=I.loc;rw[<-z,h]at G;cases G
 .let#[_,o,G,_]:=I.ok.jj.mem z;rw[J]at G;cases G
 .let#[v,o,G,_]:=I.cell x c q;rw[z,h]at G;cases G
 .have:=(I.pin p L).1;rw[z,h]at this;cases this
theorem Inv.comes {E:XK}{x:Value}(I:Inv X pins σ H s) (hex:X.ex=[]) (h:su X.prog X.w X.stack H s E x s'):XP X pins (λJ cls H'=>J=σ/\E cls none H') x s':=by
 let#[e,cls,O,B,H',rfl,os,bare,new,free,N,G,keep,q]:=h;show#[e,cls,O,B,σ,H',rfl,.inr (.inl N),G,λh' tk k u=>?_,I.Ed hex new free,rfl,q];let#[un,L]:=keep h' k u;show I.zP (s':={ s' with heap:=h',toks:=tk }) (ch:=[]) os un L bare (λb z=>absurd z (by simp))
theorem XP.imp {R G:XR}{x:Value}(h:XP X pins R x s') (U:∀σ cls H,R σ cls H->G σ cls H):XP X pins G x s':=by
 let#[e,cls,S,B,σ,H,J,N,I,O,L,q]:=h;show#[e,cls,S,B,σ,H,J,N,I,O,L,U _ _ _ q]
theorem Bm.now {B:Heap}(b:Bm X pins σ H B s) (k:B.StaysIn s.heap):Inv X pins σ H s:=b s.heap s.toks k (Heap.UpToSlots.refl _)
end
noncomputable abbrev Gh:=St->Hp->VK->(Value->Hp->Prop)->Prop
noncomputable abbrev uk:=Ends->XR->St->Hp->Prop
noncomputable def Gk (X:Cx) (e:LC) (t:Gh):Prop :=
 ∀(pins:List (Addr×Obj)) (s:By) (σ:St) (H:Hp) (Q:VK) (R:Value->Hp->Prop),Inv X pins σ H s->t σ H Q R ->
  wpAny (model X.prog X.w) X.A (eval e X.env) (EP X pins σ Q) (XP X pins λG cls H'=>G=σ/\R cls H') s
noncomputable def Ga (X:Cx) (st:LI) (t:uk):Prop :=
 ∀(pins:List (Addr×Obj)) (s:By) (σ:St) (H:Hp) (D:Ends) (R:XR),Inv X pins σ H s->t D R σ H->wpAny (model X.prog X.w) X.A (exec st X.env) (SP X pins D) (XP X pins R) s
noncomputable def p9 (X:Cx) (st:List LI) (t:uk):Prop :=
 ∀(pins:List (Addr×Obj)) (s:By) (σ:St) (H:Hp) (D:Ends) (R:XR),Inv X pins σ H s->t D R σ H->wpAny (model X.prog X.w) X.A (execs st X.env) (SP X pins D) (XP X pins R) s
section
variable {X:Cx}{e:LC}{te:TE}{tx:Gh}{t:TS}{ts us:uk}{st:LI}{sts rest:List LI}{pos:Nu}
theorem kl (h:PS X.si st t):Ga X st (λD _ σ H=>t D σ H):=λpins s σ H D R I q =>
 L3 (h pins s σ H D (I.iU _) q) (λ_ _ z=>z.cI) λ_ _ z=>z.elim
noncomputable def xA (t u:uk):uk:=λD R σ H=>t { D with nx:=u D R } R σ H
theorem cu (h1:Ga X st ts) (h2:p9 X rest us):p9 X (st::rest) (xA ts us):=by
 intro pins s σ H D R I h;show NN (bS (h1 pins s σ H _ R I h) λf N G=>?_);cases f with
 |next =>
  let#[J,H',L,q]:=G;show h2 pins N J H' D R L q
 |brk=>show G
 |cont=>show G
 |ret u=>show G
theorem ix (h1:Ga X st ts):p9 X [st] ts:=by
 intro pins s σ H D R I h;show NN (bS (h1 pins s σ H D R I h) λf G q=>?_);cases f with
 |next=>show MJ q
 |ret v=>show q
 |brk=>show q
 |cont=>show q
noncomputable def AB:uk:=λD _ σ H=>D.nx σ H
theorem gx:p9 X [] AB:=λ_ _ σ H _ _ I h=>MJ #[σ,H,I,h]
theorem nx {α:Type}{M:OZ}{A:Lq}{I:Om α}{Q G:α->By->Prop}{E:Value->By->Prop}{s:By}(h:wpAny M A I Q (λ_ _=>False) s) (J:∀a s,Q a s->G a s):wpAny M A I G E s :=
 L3 h J λ_ _ z=>z.elim
noncomputable def FL (te:Gh):uk:=λD R σ H=>te σ H (λ_ H1=>D.nx σ H1) (R σ)
theorem XP.at {pins:List (Addr×Obj)}{σ:St}{R:XR}{x:Value}{s':By}(h:XP X pins (λG cls H'=>G=σ/\R σ cls H') x s'):XP X pins R x s':=h.imp λ_ _ _ ⟨e,q⟩=>e▸q
theorem oq (G:Gk X e tx) (hs:Ov e none pos.line X.env=pure false:=by rfl):Ga X (.Expr e pos) (FL tx):=by
 intro pins s σ H D R I h;show wpAny_Expr_any (L3 (G pins s σ H _ _ I h) (λv O ⟨x,H1,L,N,J⟩=>#[σ,H1,L,J]) λ_ _ z=>z.at) I.quiet hs
noncomputable def Iy (te:Gh):uk:=λD R σ H=>te σ H D.rt (R σ)
theorem xp (G:Gk X e tx):Ga X (.Return (some e) pos) (Iy tx):=by
 intro pins s σ H D R I h;show PM (L3 (G pins s σ H _ _ I h) (λv O ⟨x,H1,J,N,L⟩=>#[x,σ,H1,J,N,L]) λ_ _ z=>z.at)
noncomputable def Gw (c:TT) (t u:uk):uk:=λD R σ H=>c σ H λb H1=>if b=true then t D R σ H1 else u D R σ H1
theorem kq {c:LC}{a b:List LI}{tc:TT}(O:PT X.si c tc) (S:p9 X a ts) (N:p9 X b us):Ga X (.If c a b pos) (Gw tc ts us):=by
 intro pins s σ H D R I h;show wpAny_If (nx (O pins s σ H _ (I.iU _) h) λd J ⟨H1,L,G⟩=>?_);cases d with
 |true=>show S pins J σ H1 D R L.cI G
 |false=>show N pins J σ H1 D R L.cI G
end
section
variable {X:Cx}{k:Nat}{f C:Addr}{fd:GX}{ps:List Str}{sp:Sp}{dvs:List V}{ds:List Value}{x m:Str}{p pos apos:Nu}{e o:LC}{es:List LC}{ta:TE}{t:TA}
theorem w6 {pins:List (Addr×Obj)}{σ:St}{H:Hp}{s:By}{Q:VK}{R:Value->Hp->Prop}{us:List Value}{vs:List V}(F:a8 X.prog X.w X.K X.mg X.base (su X.prog X.w) k f fd ps sp) (N:cZ k X.A) (S:Binds X.K fd ps ds) (hd:Vals dvs ds) (hex:X.ex=[])
  (I:Inv X pins σ H s) (r:Vals vs us) (h:sp (vs++dvs) H Q λcls _ H'=>R cls H'):wpAny (model X.prog X.w) X.A (call (.ref f) us) (EP X pins σ Q) (XP X pins λO cls H'=>O=σ/\R cls H') s:=by
 have J:Vals (vs++dvs) (us++ds):=r.append hd;have L:(us++ds).length=ps.length:=(by rw[<-J.length];show F.len _ _ _ _ h);show PB (N0 (F.run X.A X.stack s H #[us,[]] (us++ds) (vs++dvs) Q _ N I.Fb (S s us I.jk L) J h) λr s' G=>?_);cases r with
 |error e=>show I.comes (E:=λcls _ H'=>R cls H') hex (show su X.prog X.w X.stack H s (λcls _ H'=>R cls H') e s' from G)
 |ok U =>
  cases U with
  |ret u=>show I.after G
  |next=>show Mc G
  |brk=>show Mc G
  |cont=>show Mc G
noncomputable def zZ (sp:Sp) (dvs:List V) (t:TA):Gh:=λσ H Q R=>t σ H λvs H1=>sp (vs++dvs) H1 Q λcls _ H'=>R cls H'
noncomputable def z9 (C:Addr) (m:Str) (sp:Sp) (dvs:List V) (ta:TE) (t:TA):Gh:=λσ H Q R=>ta σ H λx H1=>∃a dx fs,x=.ref a/\H1 a=some (.ins C dx fs)/\fs.lookup m=none /\
 t σ H1 λvs H2=>sp (x::(vs++dvs)) H2 Q λcls _ H'=>R cls H'
theorem Bl (F:a8 X.prog X.w X.K X.mg X.base (su X.prog X.w) k f fd ps sp) (J:cZ k X.A) (hex:X.ex=[]) (N:Gl X x) (Y:X.mg x=some (.ref f)) (O:OJ X.K (.ref f)=true) (S:Binds X.K fd ps ds) (hd:Vals dvs ds)
  (ha:PA X.si (e::es) t) (ab:(x==("__debug__" : Str))=false:=by decide) (L:starEach (e::es) X.env=(false,eval e X.env)::starEach es X.env:=by rfl) (U:(backTo pos (starEach es X.env)).any (·.1)=false:=by rfl) :
  Gk X (.Call (.Name x p) (e::es) [] pos) (zZ sp dvs t):=by
 intro pins s σ H Q R I h;show MC (gI I N Y ?_ ab);show OM (h₀:=X.base) I.ok.mod.DR O (nx (ha pos pins s σ H _ (I.iU _) h) λus s1 ⟨vs,H1,G,r,q⟩=>#[G.cI.jk,?_]) L U;show w6 F J S hd hex G.cI r q
theorem zE {pl:Om Bool}(he:PE X.si o ta) (c:pG X.K C) (G:Meth X.K C m f) (F:a8 X.prog X.w X.K X.mg X.base (su X.prog X.w) k f fd ps sp) (Y:cZ k X.A) (hex:X.ex=[]) (O:Binds X.K fd ps ds) (hd:Vals dvs ds) (ha:PA X.si (e::es) t)
  (N:starEach (e::es) X.env=(false,eval e X.env)::starEach es X.env:=by rfl) (U:(backTo pos (starEach es X.env)).any (·.1)=false:=by rfl)
  (ht:eval (.Call (.Attribute o m apos) (e::es) [] pos) X.env=(do
   let ov <-eval o X.env
   OG apos.atName
   let (f,first) <-NR [ov] (NP ov m pl)
   Pb pos f first (backTo pos (starEach (e::es) X.env)) (NX pos (MZ [] X.env))):=by rfl) :
  Gk X (.Call (.Attribute o m apos) (e::es) [] pos) (z9 C m sp dvs ta t):=by
 intro pins s σ H Q R I h;show Pq (pl:=pl) (nx (he pins s σ H _ (I.iU _) h) λu S ⟨x,H1,L,rx,a,dx,fs,ex,ea,l,q⟩=>?_) ht;subst ex;obtain rfl:u=Value.ref a:=rx;show jc L.cI ea c G l ?_;show OM (first:=[.ref a]) (h₀:=X.base) I.ok.mod.DR G.kp (nx (ha pos pins S σ H1 _ L q) λus s2 ⟨vs,H2,J,r,q2⟩=>#[J.cI.jk,?_]) N U;show w6 (us:=.ref a::us) (vs:=.ref a::vs) F Y O hd hex J.cI (.cons rfl r) q2
end
def Au:List Value:=[.type "ValueError",.type "Exception",.type "BaseException",.type "object"]
theorem Dz {K:PySem.W.Frag}{h:Heap}{C:Addr}{R:List Value}{L:String}(X:K.In h) (q:excIn K C R L=true) :
  ∃bm N nm q bs hdct sn sub ab col dd k0 k1 k2 k3 k5 mN,h.get? C=some (excClassObj nm q C N bs bm hdct sn sub ab col dd k0 k1 k2 k3 k5 L)/\h.Ns N mN/\mN "__init__" = none/\OwnTail h R bm:=by
 unfold excIn at q
 set_option tactic.hygienic true in split at q
 .rename_i dd cd sl Y
  set_option tactic.hygienic true in split at q
  .rename_i C' bm k0 k1 k2 k3 n k5 I hs;simp only[Nn,beq_iff_eq,Bool.not_eq_true']at q;let#[#[#[#[#[rfl,rfl],J],U],G],O]:=q;let#[nm,bs,ac,ns,qn,hd,sn,sub,ab,col,del]:=cd;dsimp only at I J G O;subst I J;have S:sl = ([k0,k1,k2,k3,some (.builtin n),k5].toArray):=by
    let#[l]:=sl;simp only at hs;rw[hs]
   subst S;show#[bm,ns,nm,qn,bs,hd,sn,sub,ab,col,dd,k0,k1,k2,k3,k5,_,X _ _ Y,.of_isNs (PySem.W.isNs_of_in X G),PySem.W.nsMap_none_of_in X G O,PySem.W.tail_of_in X U]
  .cases q
 .cases q
theorem sv {P:IF}{w:Ll}{H:Hp}{h:Heap}{a:Addr}{o:HO}(x:bT P w H h a o):∃ob,h.get? a=some ob:=by
 cases o with
 |lst xs=>let#[_,_,_,_,e]:=x;show#[_,e]
 |tup xs=>let#[_,_,_,p]:=x;let#[o,e,_]:=p;show#[_,e]
 |dK kvs=>let#[_,_,_,_,o,_,_,e,_]:=x;show#[_,e]
 |dT kvs=>let#[_,_,_,_,o,_,_,e,_]:=x;show#[_,e]
 |set S n=>let#[o,_,_,_,e,_]:=x;show#[_,e]
 |ins C dx fs=>let#[_,_,_,e,_]:=x;show#[_,e]
 |own y=>let#[_,e]:=x;show#[_,e]
 |xd fs=>let#[_,#[_,_,_,e,_],_]:=x;show#[_,e]
 |rng lo hi=>let#[_,_,_,e]:=x;show#[_,e]
 |cH ob u=>let#[e,_]:=x;show#[_,e]
 |tbl ps=>show#[_,(show h.get? a=some _ from x)]
 |met f y=>show#[_,(show h.get? a=some _ from x)]
 |ext G=>let#[_,e,_]:=x;show e
section
variable {X:Cx}{pins:List (Addr×Obj)}{σ:St}{H:Hp}{s:By}
theorem Inv.raised {h':Heap}{e:Addr}{cls:Value}{vs:List Value}(I:Inv X pins σ H s) (hex:X.ex=[]) (J:Heap.MadeExcOf s.heap h' e cls vs):XP X pins (λY c H'=>Y=σ/\c=cls/\H'=H) (.ref e) { s with heap:=h' }:=by
 let#[t,L,am,ht]:=J.there;have ab:∀env∈X.stack,∀a,env.frame=some a->a∈oK X.stack:=λenv L a hf=>List.mem_filterMap.mpr #[env,L,hf];have nf:∀b u,H b=some u->b∉oK X.stack:=λb u q z=>(by rw[I.rf b z]at q;cases q);have hB:∀b,s.heap.get? b=none->(QH s.heap (oK X.stack)).get? b=none:=λb q=>by
  cases z:(QH s.heap (oK X.stack)).get? b with
  |none=>rfl
  |some o=>rw[Qi _ z]at q;cases q
 show#[e,cls,.ref t,QH s.heap (oK X.stack),σ,H,rfl,.inl #[λb o q=>J.keeps b o (Qi _ q),hB e J.new,?_,2,L,1,1],#[2,L,1],λO tk k u=>?_,I.Ed hex J.new ?_,1,rfl]
 .show(PySem.W.funFrames_hide I.stack ab).of_keeps λb o q _=>#[o,J.keeps b o q,rfl]
 .have N:∀b o,s.heap.get? b=some o->b∉oK X.stack->O.get? b=some o:=λb o q nb=>k b o (hideAll_get _ q nb);have sl:∀b o,s.heap.get? b=some o->b∈oK X.stack->∃sl,O.get? b=some { o with slots:=sl }:=λb o q G=>by
   let#[_,o',R,hd]:=I.stack.mem G;rw[q]at R;cases R;show u b o (J.keeps b o q) hd
  show I.zP (s':={ s with heap:=O,toks:=tk }) (ch:=[]) rfl #[λb o q n G _=>N b o q G,λb o q n G _=>sl b o q G,λb o q n _=>n,λb o q _=>?_,λb xs q=>q,λb o u q=>q,λb ps q=>#[([].toArray),by rw[q];simp]] (λa o q=>?_) I.bare (λb z=>absurd z (by simp))
  .by_cases G:b∈oK X.stack
   .let#[ac,U]:=sl b o q G;show#[_,U]
   .show#[o,N b o q G]
  .show(I.bC a o q).iV (λc v hc qc=>N c v qc ?_) (λ_ z=>z) λ_ _ z=>z;rcases hc with z|z
   .rw[z];show nf a o q
   .show nf c _ z
 .cases z:H e with
  |none=>rfl
  |some o =>
   let#[ob,S]:=sv (I.bC e o z);rw[J.new]at S;cases S
end
noncomputable abbrev TJ:=Str->St->Hp->(Str->Hp->Prop)->Prop
noncomputable def PJ (X:Cx) (vs:List LC) (t:TJ):Prop :=
 ∀(pins:List (Addr×Obj)) (s:By) (σ:St) (H:Hp) (G:Str) (Q:Str->Hp->Prop),Inv X pins σ H s->t G σ H Q->Joins (model X.prog X.w) X.A X.xe (evalEach vs X.env) G (λout I=>∃H',Inv X pins σ H' I/\Q out H') s
section
variable {X:Cx}{v v2:LC}{vs:List LC}{te:TE}{t:TJ}{pos:Nu}
noncomputable def IE:TJ:=λacc _ H Q=>Q acc H
noncomputable def Ew (te:TE) (t:TJ):TJ:=λG σ H Q=>te σ H λx H1=>∃y,x=.str y/\(G++y).length<=sizeLine/\t (G++y) σ H1 Q
theorem ES:PJ X [] IE:=λ_ s _ H _ _ I h=>show ∃H',_ from#[H,I,h]
theorem rq (L:PE X v te) (J:PJ X vs t):PJ X (v::vs) (Ew te t):=by
 intro pins s σ H S Q I h;change wpAny _ _ (eval v X.env) _ _ s;show bS (L pins s σ H _ I h) λu O ⟨x,H1,R,N,y,ex,G,q⟩=>?_;subst ex;let#[tk,rfl]:=N;show#[y,tk,rfl,G,J pins O σ H1 _ Q R q]
theorem Cf (h:PJ X (v::v2::vs) t):PE X (.JoinedStr (v::v2::vs) pos) (λσ H Q=>t Str.empty σ H λout H'=>out.length<=sizeLine/\Q (.str out) H'):=by
 intro pins s σ H Q I q;show wpAny_JoinedStr ?_;have z:=h pins s σ H Str.empty _ I q;have S:∀(l:List (Om Value)) (J:Str) (s:By),Joins (model X.prog X.w) X.A X.xe l J (λout G=>∃H',Inv X pins σ H' G/\out.length<=sizeLine/\Q (.str out) H') s ->
   Joins (model X.prog X.w) X.A X.xe l J (λout G=>out.length<=sizeLine/\EP X pins σ Q (.str out G.toks) { G with toks:=G.toks+1 }) s:=by
  intro l
  induction l with
  |nil =>
   intro J s ⟨H',O,L,N⟩;show#[L,.str J,H',O.tok _,#[0],N]
  |cons a r R =>
   intro J s U;show bS U λu G ⟨y,tk,e,L,N⟩=>#[y,tk,e,L,R _ _ N]
 show S _ _ _ z
theorem D7 (J:PE X v te):PE X (.FormattedValue v (-1) none pos) (λσ H Q=>te σ H λx H1=>∃i:Int,x=.int i/\i.natAbs.log2<1920/\Q (.str (toString i)) H1):=by
 intro pins s σ H Q I h;show wpAny_FormattedValue_plain (bS (J pins s σ H _ I h) λu O ⟨x,H1,L,N,i,ex,G,q⟩=>?_);subst ex;let#[tk,rfl]:=N;show wpAny_formatField_int G #[.str (toString i),H1,L.tok _,#[0],q]
end
theorem len_app (a b:Str):(a++b).length=a.length+b.length:=strLen_append a b
theorem wR {i:Int}(h:i.natAbs.log2<1920):(toString i:Str).length<=1921:=by
 have e:=int_text_length_le (k:=1920) av h;change(Str.ofString (toString i)).length<=1921;rw[PySem.ofString_length];show e
section
variable {X:Cx}{C:Addr}{x:Str}{np cpos pos:Nu}{e₀:LC}{es:List LC}{t:TA}
theorem x6 (L:Gl X x) (U:X.mg x=some (.ref C)) (hq:excIn X.K C Au "ValueError.__new__" = true) (hc:X.calm=true) (hex:X.ex=[]) (ha:PA X.si (e₀::es) t)
  (J:starEach (e₀::es) X.env=(false,eval e₀ X.env)::starEach es X.env:=by rfl) (S:(backTo cpos (starEach es X.env)).any (·.1)=false:=by rfl) (hd:(x==("__debug__" : Str))=false:=by decide) :
  Ga X (.Raise (some (.Call (.Name x np) (e₀::es) [] cpos)) none pos) (λD R σ H=>t σ H λvs H1=>vs.length<=sizeLine/\R σ (.ref C) H1):=by
 intro pins s σ H D R I h;let#[tl,N,nm,q,bs,hdct,sn,sub,ab,col,dd,k0,k1,k2,k3,k5,mN,Y,hN,ac,T]:=Dz I.ok.mod.DR hq;show wpAny_Raise_call_subT (C:=C) (nm:=nm) (q:=q) (N:=N) (bs:=bs) (bm:=tl) (hdct:=hdct) (sn:=sn) (sub:=sub) (ab:=ab) (col:=col) (dd:=dd) (k0:=k0) (k1:=k1) (k2:=k2) (k3:=k3) (k5:=k5)
  F.excBase_ValueError (mN:=mN) (T.hasType F.excBase_ValueError.hasBase) (I.ok.hd hc) (by rw[J];change(false||(backTo cpos (starEach es X.env)).any (·.1))=false;rw[S];rfl) ac (gI I L U #[4] hd)
 have h2:=ha cpos pins s σ H _ (I.iU _) h;rw[J]at h2 ⊢;show Calls.evalArgs_plain (nx h2 λus s2 ⟨vs,H1,G,r,hl,O⟩=>#[4,G.cI.bk _ _ Y,hN.keeps G.cI.bk,T.keeps G.cI.bk,λh' e hx=>?_])
 .change us.length<=sizeLine;rw[<-r.length];show hl
 .show(G.cI.raised hex hx).imp λ_ _ _ ⟨a,b,c⟩=>by subst a b c;show O
end
section
variable {P:IF}{w:Ll}{K:PySem.W.Frag}{mg:Str->Option Value}{base:Heap}
theorem qN {M:OZ}{A:Lq}{E:Value->By->Prop}{s:By}{B:Heap}{env:OE}{outer:List OE}{L e:Addr}{cls I:Value}{Q:Unit->By->Prop}
  (R:A.frames=some (env::outer)) (J:env.frame=some L) (h:sG B (env::outer) e cls I s.heap\/Heap.FlyingW B (env::outer) e cls I s.heap\/∃L,env.frame=some L/\Heap.HeldW B (env::outer) e cls I L s.heap)
  (N:∀h',Heap.FlyingW B outer e cls I h'->s.heap.UpToSlots h'->Q () { s with heap:=h' }):wpAny M A (leaving env (.ref e)) Q E s:=by
 rcases h with⟨h1,h2,Y,oe,vs,he,hc,hd,U,ab⟩|h|⟨L',S,O⟩
 .subst hc;show wpAny_leaving_firstW R Y J he h1 h2 hd ab U λh' ⟨k1,⟨_,_,k2⟩,k3,k4⟩=>N h' #[k1,h2,k2,k3] k4
 .show wpAny_leaves_onW R J h N
 .rw[J]at S;cases S;let#[g1,g2,g3,g4]:=id O;show DD (OV J g4 (wpAny_landsW O λh' G up=>N h' #[G.1,G.2.1,?_,G.2.2.2] up));show(show h'.FunFrames B (env::outer)from G.2.2.1).2.2
theorem sN {M:OZ}{A:Lq}{E:Value->By->Prop}{s:By}{B:Heap}{env:OE}{outer:List OE}{L e:Addr}{cls G:Value}{Q:Unit->By->Prop}
  (N:A.frames=some (env::outer)) (R:env.frame=some L) (h:sG B (env::outer) e cls G s.heap\/Heap.FlyingW B (env::outer) e cls G s.heap\/∃L,env.frame=some L/\Heap.HeldW B (env::outer) e cls G L s.heap) (c:C2 e s.heap)
  (I:∀h',Heap.FlyingW B outer e cls G h'->s.heap.UpToSlots h'->C2 e h'->Q () { s with heap:=h' }):wpAny M A (leaving env (.ref e)) Q E s :=
 L3 ((vk env (.ref e)).any (E:=λ_ _=>False) (qN (Q:=λ_ s'=>∃h',s'={ s with heap:=h' }/\Heap.FlyingW B outer e cls G h'/\s.heap.UpToSlots h') N R h λh' f u=>#[h',rfl,f,u]) c)
  (λ_ s' ⟨⟨h',J,f,u⟩,O⟩=>by subst J;show I h' f u O) λ_ _ z=>z.1.elim
theorem cM.IX {x O:Str}{st:LI}{f:Addr}{fd:GX}{N ps:List Str}{k:Nat}{sp:Sp}(F:cM K x O st f fd) (S:aC N ps (aw st)) (len:∀vs H Q E,sp vs H Q E->vs.length=ps.length)
  (ab:∀(G:Value) (A:Lq) (outer:List OE) (s:By) (H:Hp) (vs:List V) (Q:VK) (E:XK),cZ k (A.deeper (OO O (aw st) s.heap.objs.size f G))->sp vs H Q E ->
   ∃t,p9 (vp (su P w) P w K mg base N O (aw st) f G A outer s H E) (eB st) t/\t { nx:=λ_ H'=>Q .non H',rt:=Q } (λ_ cls H'=>E cls none H') (start N vs) H):a8 P w K mg base (su P w) (k+1) f fd ps sp:=by
 let#[oc,od,kV,aT,pm,an,G,ct,aB,rfl,lk,ac]:=F.ex;show Ei lk ac S len λA outer s H vs Q E hr am=>?_;let#[t,h,q]:=ab G A outer s H vs Q E hr am;show#[λD σ H'=>t D (λ_ cls H'=>E cls none H') σ H',λpins s1 σ H1 D I q1=>?_,q];show L3 (h pins s1 σ H1 D _ I q1) (λ_ _ z=>z) λv s2 hx=>?_;let#[e,cls,a0,B,a1,H2,rfl,U,c2,Y,new,hE]:=hx;have iV:B.StaysIn s2.heap:=by
  rcases U with z|z|⟨_,_,z⟩
  .show z.1
  .show z.1
  .show z.1
 have R:=Y.now iV;show sN (L:=s.heap.objs.size) R.ok.frames rfl U c2 λh' ap up c3=>?_;show#[e,cls,a0,B,H2,rfl,R.os,R.bare,new.old,new.free,ap,c3,λas k u=>(λJ=>#[J.base,J.bC]) (Y as s2.toks k (up.trans u)),hE]
end
noncomputable abbrev Cx.hand (X:Cx) (e:Addr):Cx:={ X with A:=X.A.mark (some (.ref e)),calm:=false }
section
variable {X:Cx}{pins:List (Addr×Obj)}{σ:St}{H:Hp}{s:By}
theorem Cx.Ok.hand (ok:X.Ok) (e:Addr):(X.hand e).Ok :=
 #[ok.mod,ok.kind,ok.glob,ok.blt,ok.above,ok.inj,ok.has,ok.Ft,(λz=>Bool.noConfusion z),ok.frames,ok.Gi,ok.IS,ok.bs,ok.zk,ok.wu,ok.uL,ok.jj,ok.CO]
theorem Inv.hand (I:Inv X pins σ H s) (e:Addr):Inv (X.hand e) pins σ H s:=#[I.ok.hand e,I.os,I.bare,I.base,I.loc,I.cell,I.free,I.eX,I.pin,I.bC,I.len]
theorem Inv.Ey {e:Addr}(I:Inv (X.hand e) pins σ H s) (ok:X.Ok):Inv X pins σ H s:=#[ok,I.os,I.bare,I.base,I.loc,I.cell,I.free,I.eX,I.pin,I.bC,I.len]
theorem Inv.FA {e:Addr}{cls:Value}(I:Inv X pins σ H s) (n:BV X pins H e) (x:∃o,s.heap.get? e=some o/\o.cls=cls):Inv X pins σ (upd H e (xo e cls)) s:=by
 have G:∀b o,H b=some o->b≠e:=λb o q=>aq q n.free;show#[I.ok,I.os,I.bare,#[I.base.keep,I.base.slot,λb o q Y N=>?_,I.base.there,λb xs q=>?_,λb o u q=>?_,λb ps q=>?_],I.loc,I.cell,?_,λy c q=>?_,λp L=>?_,λb u q=>?_,I.len]
 .rw[ag (λz=>by rw[z,n.old]at q;cases q)];show I.base.free b o q Y N
 .have z:=I.base.mf b xs q;rw[ag (G _ _ z)];show z
 .have z:=I.base.ly b o u q;rw[ag (G _ _ z)];show z
 .let#[S,z]:=I.base.mS b ps q;show#[S,by rw[ag (G _ _ z)];show z]
 .rw[ag (G0 n.loc)];show I.free
 .rw[ag (n.cell y c q)];show I.eX y c q
 .let#[U,R,O]:=I.pin p L;show#[U,by rw[ag (n.pin p L)];show R,O]
 .by_cases J:b=e
  .subst J;rw[ae]at q;cases q;show G8 x
  .rw[ag J]at q;show(I.bC b u q).iV (λ_ _ _ z=>z) (λc z=>by rw[ag (G _ _ z)];show z) λc xs z=>by rw[ag (G _ _ z)];show z
theorem Inv.unset {i:Nat}{n:Str}{m:Str->Option Value}{h':Heap}{v:Option Value}{tk:Nat}(I:Inv X pins σ H s) (hN:X.N.Nodup) (hi:X.N[i]?=some n) (hl:X.env.kindOf n=some .local)
  (hm:s.heap.Ns X.env.locals m) (ac:∀(i:Nat) (x:Str) (v:V),X.N[i]?=some x->σ[i]?=some (some v)->Ir X.env.scope x->∃u,RelV v u/\Look X.env s.heap m x u)
  (hn:h'.Ns X.env.locals (λx=>if x=n then v else m x)) (hs:Heap.SameBut X.env.locals s.heap h'):Inv X pins (σ.set i none) H { s with heap:=h',toks:=tk }:=by
 have ab:i<σ.length:=(by rw[I.len];show(List.getElem?_eq_some_iff.mp hi).1);have zG:=I.zG;have U:∀b o,X.s₀.heap.get? b=some o->b≠X.env.locals:=λb o e=>LM (LH (Heap.lt_size e) I.ok.above);show#[I.ok,I.os,I.bare,#[λb o e n R L=>?_,λb o e n R L=>?_,I.base.free,λb o e L=>?_,I.base.mf,I.base.ly,I.base.mS],#[_,hn,λj y v' G O e3=>?_],λy c e=>?_,I.free,I.eX,λp hp=>?_,λb ob e=>?_,by simpa using I.len]
 .show(hs.2 b (U b o e)).trans (I.base.keep b o e n R L)
 .let#[sl,G]:=I.base.slot b o e n R L;show#[sl,(hs.2 b (U b o e)).trans G]
 .let#[o',G]:=I.base.there b o e L;show#[o',(hs.2 b (U b o e)).trans G]
 .by_cases S:j=i
  .subst S;rw[LL ab]at O;cases O
  .rw[LG (G0 S)]at O;let#[u',r',q]:=ac j y v' G O e3;show#[u',r',?_];rcases q with⟨k,e⟩|⟨k,c,e,z⟩
   .show .inl #[k,?_];have:y≠n:=λe=>S (mP hN G (e▸hi));simp[this,e]
   .show .inr #[k,c,e,z.sameBut hs (zG y c e)]
 .let#[Y,z]:=I.cell y c e;show#[Y,z.sameBut hs (zG y c e)]
 .let#[e,n,ne,nf,d]:=I.pin p hp;show#[(hs.2 p.1 ne).trans e,n,ne,nf,d]
 .show(I.bC b ob e).iV (λc Y J q=>(hs.2 c ?_).trans q) (λ_ q=>q) λ_ _ q=>q;rintro rfl;rcases J with J|J
  .rw[<-J,I.free]at e;cases e
  .rw[I.free]at J;cases J
end
theorem tY {M:OZ}{A:Lq}{E:Value->By->Prop}{s:By}{B:Heap}{env:OE}{outer:List OE}{L e:Addr}{cls I:Value}{Q:Unit->By->Prop}
  (R:A.frames=some (env::outer)) (G:env.frame=some L) (h:sG B (env::outer) e cls I s.heap\/Heap.FlyingW B (env::outer) e cls I s.heap\/∃L,env.frame=some L/\Heap.HeldW B (env::outer) e cls I L s.heap)
  (J:∀h',Heap.HeldW B (env::outer) e cls I L h'->s.heap.UpToSlots h'->Q () { s with heap:=h' }):wpAny M A (noteFrame (.ref e) env) Q E s:=by
 rcases h with⟨h1,h2,h3,oe,vs,O,hc,hd,Y,U⟩|h|⟨L',S,N⟩
 .subst hc;unfold noteFrame;simp only[G];show DD (Pc O hd U ?_);rw[QZ av];show wpAny_entryW R h3 G O h1 h2 hd (N6.mp U).1 Y λh' ⟨k1,k2,k3,k4⟩=>J h' #[k1,h2,k2,k3] k4
 .show wpAny_looks_onW R G h J
 .rw[G]at S;cases S;show OV G N.2.2.2 (J s.heap N (Heap.UpToSlots.refl _))
theorem vX {M:OZ}{A:Lq}{E:Value->By->Prop}{s:By}{B:Heap}{env:OE}{outer:List OE}{L e:Addr}{cls G:Value}{Q:Unit->By->Prop}
  (N:A.frames=some (env::outer)) (R:env.frame=some L) (h:sG B (env::outer) e cls G s.heap\/Heap.FlyingW B (env::outer) e cls G s.heap\/∃L,env.frame=some L/\Heap.HeldW B (env::outer) e cls G L s.heap) (c:C2 e s.heap)
  (I:∀h',Heap.HeldW B (env::outer) e cls G L h'->s.heap.UpToSlots h'->C2 e h'->Q () { s with heap:=h' }):wpAny M A (noteFrame (.ref e) env) Q E s :=
 L3 ((wN (.ref e) env).any (E:=λ_ _=>False) (tY (Q:=λ_ s'=>∃h',s'={ s with heap:=h' }/\Heap.HeldW B (env::outer) e cls G L h'/\s.heap.UpToSlots h') N R h λh' f u=>#[h',rfl,f,u]) c)
  (λ_ s' ⟨⟨h',J,f,u⟩,O⟩=>by subst J;show I h' f u O) λ_ _ z=>z.1.elim
theorem CZ {M:OZ}{A:Lq}{E:Value->By->Prop}{s:By}{B:Heap}{l:List OE}{e L:Addr}{cls G:Value}{Q:Unit->By->Prop}(O:Heap.HeldW B l e cls G L s.heap) (c:C2 e s.heap)
  (I:∀h',Heap.FlyingW B l e cls G h'->s.heap.UpToSlots h'->C2 e h'->Q () { s with heap:=h' }):wpAny M A (setFlight (.ref e) none) Q E s :=
 L3 ((kD (.ref e) none).any (E:=λ_ _=>False) (wpAny_landsW (Q:=λ_ s'=>∃h',s'={ s with heap:=h' }/\Heap.FlyingW B l e cls G h'/\s.heap.UpToSlots h') O λh' f u=>#[h',rfl,f,u]) c)
  (λ_ s' ⟨⟨h',J,f,u⟩,N⟩=>by subst J;show I h' f u N) λ_ _ z=>z.1.elim
theorem zq {M:OZ}{A:Lq}{E:Value->By->Prop}{s:By}{B:Heap}{l:List OE}{e:Addr}{cls G:Value}{Q:Unit->By->Prop}(N:Heap.FlyingW B l e cls G s.heap) (c:C2 e s.heap)
  (I:∀h',Heap.FlyingW B l e cls G h'->s.heap.UpToSlots h'->C2 e h'->Q () { s with heap:=h' }):wpAny M A (setFlight (.ref e) none) Q E s :=
 L3 ((kD (.ref e) none).any (E:=λ_ _=>False) (lands_againW (Q:=λ_ s'=>∃h',s'={ s with heap:=h' }/\Heap.FlyingW B l e cls G h'/\s.heap.UpToSlots h') N λh' f u=>#[h',rfl,f,u]) c)
  (λ_ s' ⟨⟨h',J,f,u⟩,L⟩=>by subst J;show I h' f u L) λ_ _ z=>z.1.elim
noncomputable def Hu (i:Nat) (D:Ends):Ends:={ nx:=λσ H=>D.nx (σ.set i none) H,rt:=D.rt,bk:=λσ H=>D.bk (σ.set i none) H,ct:=λσ H=>D.ct (σ.set i none) H }
noncomputable def JU (K:PySem.W.Frag) (C:Addr) (i:Nat) (tb:uk) (ts:TS):TS:=λD σ H=>tb D (λG cls H'=>exmOne K cls (.ref C)=some true/\∀e,H' e=none->ts (Hu i D) (G.set i (some (.ref e))) (upd H' e (xo e cls))) σ H
section
variable {X:Cx}{C:Addr}{i:Nat}{x n:Str}{np hpos pos:Nu}{body suite:List LI}{b₀:LI}{tb:uk}{ts:TS}
theorem EN (hex:X.ex=[]) (a6:X.stack=X.env::X.outer) (hf:X.env.frame=some X.env.locals) (hg:Gl X x) (hm:X.mg x=some (.ref C)) (hN:X.N.Nodup) (hi:X.N[i]?=some n) (U:X.env.scope.names.lookup n=some .local)
  (hb:p9 X body tb) (hs:∀e,vj (X.hand e).si (b₀::suite) ts) (hd:(x==("__debug__" : Str))=false:=by decide) :
  PS X (.Try body [.ExceptHandler (some (.Name x np)) (some n) (b₀::suite) hpos] [] [] pos) (JU X.K C i tb ts):=by
 intro pins s σ H D I h;show wpAny_Try_except (L3 (hb pins s σ H D _ I h) (λf S q=>?_) λv S hx=>?_)
 .cases f with
  |next=>show MJ q
  |ret v=>show q
  |brk=>show q
  |cont=>show q
 let#[e,cls,a0,B,bi,H1,rfl,fl,c2,be,new,bc,hk]:=hx;have iV:B.StaysIn S.heap:=by
  rcases fl with z|z|⟨_,_,z⟩
  .show z.1
  .show z.1
  .show z.1
 have I1:=be.now iV;have aB:=I1.ok.frames;rw[a6]at fl aB;have a7:=I1.ok;show vX aB hf fl c2 λh4 held aT c4=>?_;show CZ held c4 λh5 ac ba c5=>?_;have ap:=aT.trans ba;have I5:=(be h5 S.toks ac.1 ap).hand e;let#[ob,a2,a3]:=ac.there;show wpAny_handleBy_cons (codeAny_handlers_test (gI (X:=X.hand e) I5 hg hm ?_ hd)) (by intro q;cases q);have LT:PySem.W.Looks (model X.prog X.w) h5 (typeOf (.ref e)) cls:=a3▸(PySem.W.Looks.ld a2).andThen .now;show(PySem.W.exm_one I5.jk LT bc).here (s:={ S with heap:=h5 }) ?_;show codeAny_handlers_suite_as ?_;show zq ac c5 λh6 as bb c6=>?_;have I6:=be h6 S.toks as.1 (ap.trans bb);have bd:=(I6.FA (cls:=cls) new as.there).hand e;show jB (X:=X.hand e) (v:=.ref e) bd hN hi (.inl U) rfl (λs7 I7=>?_) (.inr U);show nx (hs e pins s7 _ _ _ (I7.iU _) (hk e new.free)) λf s8 Y=>?_;have ab:∀{L:St}{O:Hp}{Q:By->Prop},Inv (X.hand e).si pins L O s8->(∀J,Inv X pins (L.set i none) O J->Q J) ->
   wpAny (model X.prog X.w) X.A (do bindName X.env n .none;unbindBehindTheSuite X.env n hpos) (λ_ J=>Q J) X.xe s8:=λ{L O Q} G k=>by
  have am:Inv X pins L O s8:=(G.cI).Ey a7;let#[m,hn,a4]:=am.loc;show wpAny_nameGoes_keeps U hn (by rw[am.ok.kind];rfl) λh' v a5 a1=>k _ (am.unset hN hi U hn a4 a5 a1)
 cases f with
 |next =>
  let#[L,O,G,q]:=Y;show ab G λJ R=>#[2,R,q]
 |brk =>
  let#[L,O,G,q]:=Y;show ab G λJ R=>#[2,R,q]
 |cont =>
  let#[L,O,G,q]:=Y;show ab G λJ R=>#[2,R,q]
 |ret u =>
  let#[v,L,O,G,rv,q]:=Y;show ab G λJ R=>#[v,2,R,rv,q]
end
section
variable {X:Cx}{tg:LC}
end
section
variable {X:Cx}{C:Addr}{x:Str}{np hpos pos:Nu}{body suite:List LI}{b₀:LI}{tb:uk}{ts:TS}
end
section
variable {t u r:TS}{D:Ends}{σ:St}{H:Hp}
noncomputable abbrev Le (u G:TS):Prop:=∀D σ H,u D σ H->G D σ H
theorem Le.rfl:Le u u:=λ_ _ _ h=>h
theorem fY {c:TT}(k:∀t' G,Le t t'->Le u G->y6 c t' G D σ H):y6 c t u D σ H:=k t u Le.rfl Le.rfl
theorem Kl {te:TE}{g:TG}(k:∀Q:V->Hp->Prop,(∀x H1,g x σ H1 (u D)->Q x H1)->te σ H Q):jG (Bz te g) u D σ H:=k _ λ_ _ h=>h
theorem gv {te:TE}{i:Nat}(k:∀Q:V->Hp->Prop,(∀x H1,u D (σ.set i (some x)) H1->Q x H1)->te σ H Q):jG (Bz te (sI i)) u D σ H:=k _ λ_ _ h=>h
theorem Jk {te:TE}(k:∀Q:V->Hp->Prop,(∀x H1,D.rt x H1->Q x H1)->te σ H Q):EV te D σ H:=k _ λ_ _ h=>h
theorem bQ {A B:Hp->Prop}{Q:Bool->Hp->Prop}(e:Q=λb H1=>if b=true then A H1 else B H1):(∀H1,A H1->Q true H1)/\∀H1,B H1->Q false H1:=by
 subst e;show#[λ_ h=>eL h,λ_ h=>bJ h]
theorem cE {c:TT}(k:∀Q:Bool->Hp->Prop,(∀H1,t { D with nx:=r D } σ H1->Q true H1)->(∀H1,r D σ H1->Q false H1)->c σ H Q):jG (y6 c t uf) r D σ H:=k _ (bQ rfl).1 (bQ (A:=λH1=>t { D with nx:=r D } σ H1) rfl).2
theorem BP {c:TT}(k:∀Q:Bool->Hp->Prop,(∀H1,t D σ H1->Q true H1)->(∀H1,D.nx σ H1->Q false H1)->c σ H Q):y6 c t uf D σ H:=k _ (bQ rfl).1 (bQ (A:=λH1=>t D σ H1) rfl).2
theorem sY {Q:Bool->Hp->Prop}{b:Bool}{H:Hp}(t:b=true->Q true H) (f:¬ b=true->Q false H):Q b H:=by
 cases b
 .show f (by intro z;cases z)
 .show t rfl
theorem lg {t r:uk}{R:XR}{c:TT}(k:∀Q:Bool->Hp->Prop,(∀H1,t { D with nx:=r D R } R σ H1->Q true H1)->(∀H1,r D R σ H1->Q false H1)->c σ H Q):xA (Gw c t AB) r D R σ H:=k _ (bQ rfl).1 (bQ (A:=λH1=>t { D with nx:=r D R } R σ H1) rfl).2
theorem ip {c:TT}(G:St->Hp->Prop) (mk:(∀σ H,G σ H->r D σ H)->∀Q:Bool->Hp->Prop,(∀H1,t { D with nx:=r D } σ H1->Q true H1)->(∀H1,G σ H1->Q false H1)->c σ H Q) (h:∀σ H,G σ H->r D σ H):jG (y6 c t uf) r D σ H:=mk h _ (bQ rfl).1 λH1 p=>(bQ (A:=λH1=>t { D with nx:=r D } σ H1) rfl).2 H1 (h _ _ p)
noncomputable def Ev (te:TE) (σ:St) (H:Hp) (v:V):Prop:=∀Q:V->Hp->Prop,Q v H->te σ H Q
theorem bD {i:Nat}{v:V}(h:σ[i]?=some (some v)):Ev (C5 i) σ H v:=λ_ q=>#[_,h,q]
theorem bE {v:V}:Ev (tC v) σ H v:=λ_ q=>q
theorem eM {ta tb:TE}{x y:V}{Q:Bool->Hp->Prop}(a:Ev ta σ H x) (b:Ev tb σ H y) (s:Ce x y=true) (n:¬ x=y) (q:Q false H):zS (Gj JK ta tb) σ H Q:=a _ (b _ #[s,0,by rw[decide_eq_false n];show q])
theorem eqT {ta tb:TE}{x:V}{Q:Bool->Hp->Prop}(a:Ev ta σ H x) (b:Ev tb σ H x) (s:Ce x x=true) (q:Q true H):zS (Gj JK ta tb) σ H Q:=a _ (b _ #[s,0,by rw[decide_eq_true rfl];show q])
theorem share (I:St->Hp->Prop) (mk:∀G,(∀σ H,I σ H->G D σ H)->jG t G D σ H) (h:∀σ H,I σ H->u D σ H):jG t u D σ H:=mk u h
end
section
variable {κ:Type} [DecidableEq κ]
noncomputable def dP (kvs:List (κ×V)) (k:κ):Option V:=(kvs.find? λG=>decide (G.1=k)).map (·.2)
noncomputable def putK (kvs:List (κ×V)) (k:κ) (v:V):List (κ×V):=
 if (kvs.any λG=>decide (G.1=k))=true then kvs.map (λG=>if G.1=k then(G.1,v)else G)else kvs++[(k,v)]
noncomputable def m4 (kvs:List (κ×V)) (k:κ):List (κ×V):=kvs.filter λG=>decide (G.1≠k)
theorem eK {p:κ×V}{r:List (κ×V)}{k:κ}(e:p.1=k):dP (p::r) k=some p.2:=by simp[dP,NQ,e]
theorem ck {p:κ×V}{r:List (κ×V)}{k:κ}(e:¬ p.1=k):dP (p::r) k=dP r k:=by simp[dP,NQ,e]
theorem jI (k:κ):∀kvs:List (κ×V),(kvs.any λG=>decide (G.1=k))=(dP kvs k).isSome
 | []=>rfl
 |p::r=>by
  rw[Pe];by_cases e:p.1=k
  .simp only[eK e,decide_eq_true e,Bool.true_or,Option.isSome_some]
  .rw[ck e,decide_eq_false e,Bool.false_or];show jI k r
theorem fV (kvs:List (κ×V)) (k:κ) (v:V):(putK kvs k v).length<=kvs.length+1:=by
 unfold putK;split
 .rw[BY];omega
 .rw[Li,Lo,PF];omega
theorem jM {kvs:List (κ×V)}{k:κ}(v:V) (h:dP kvs k=none):putK kvs k v=kvs++[(k,v)]:=by
 unfold putK;rw[jI,h];show QZ av
theorem gi.gu {o:Option V}{u:Option Value}(r:gi o u):o.isSome=u.isSome:=by
 cases o with
 |none=>cases u with
  |none=>rfl
  |some _=>show(show False from r).elim
 |some _=>cases u with
  |none=>show(show False from r).elim
  |some _=>rfl
theorem gi.getD {o:Option V}{u:Option Value}{d:V}{d':Value}(r:gi o u) (rd:RelV d d'):RelV (o.getD d) (u.getD d'):=by
 cases o with
 |none=>cases u with
  |none=>show rd
  |some _=>show(show False from r).elim
 |some _=>cases u with
  |none=>show(show False from r).elim
  |some _=>show r
theorem KV.val {kvs:List (κ×V)}{vs:List (κ×Value)}(r:KV kvs vs) (k:κ):gi (dP kvs k) (OW vs k):=by
 unfold KV at r
 induction r with
 |nil=>show Mn
 | @cons p q ps G h t J =>
  let#[h1,h2]:=h;by_cases e:p.1=k
  .have I:q.1=k:=h1.symm.trans e;have b:OW (q::G) k=some q.2:=(by simp[OW,NQ,I]);rw[eK e,b];show h2
  .have I:¬ q.1=k:=λz=>e (h1.trans z);have b:OW (q::G) k=OW G k:=(by simp[OW,NQ,I]);rw[ck e,b];show J
theorem KV.any {kvs:List (κ×V)}{vs:List (κ×Value)}(r:KV kvs vs) (k:κ):(kvs.any λG=>decide (G.1=k))=vs.any λG=>decide (G.1=k):=by
 unfold KV at r
 induction r with
 |nil=>rfl
 |cons h t I=>rw[Pe,Pe,I,h.1]
theorem KV.ER {kvs:List (κ×V)}{vs:List (κ×Value)}(r:KV kvs vs) (k:κ) {y:V}{u:Value}(J:RelV y u) :
  KV (kvs.map λG=>if G.1=k then(G.1,y)else G) (vs.map λG=>if G.1=k then(G.1,u)else G):=by
 unfold KV at r ⊢
 induction r with
 |nil=>show .nil
 | @cons p q ps L h t I =>
  rw[Mm,Mm];show .cons ?_ I;let#[h1,h2]:=h;by_cases e:p.1=k
  .rw[Q0 e,Q0 (h1.symm.trans e)];show#[h1,J]
  .rw[QZ e,QZ (λz=>e (h1.trans z))];show#[h1,h2]
theorem KV.put {kvs:List (κ×V)}{vs:List (κ×Value)}(r:KV kvs vs) (k:κ) {y:V}{u:Value}(G:RelV y u):KV (putK kvs k y) (stored vs k u):=by
 unfold putK stored;rw[r.any k];by_cases e:(vs.any λI=>decide (I.1=k))=true
 .rw[Q0 e,Q0 e];show r.ER k G
 .rw[QZ e,QZ e];show Paired.snoc r #[rfl,G]
theorem KV.drop {kvs:List (κ×V)}{vs:List (κ×Value)}(r:KV kvs vs) (k:κ):KV (m4 kvs k) (without vs k):=by
 unfold KV at r ⊢;unfold m4 without
 induction r with
 |nil=>show .nil
 | @cons p q ps J h t G =>
  let#[h1,h2]:=h;rw[Mw,Mw];by_cases e:p.1=k
  .have a:¬ decide (p.1≠k)=true:=(by simp[e]);have b:¬ decide (q.1≠k)=true:=(by simp[h1.symm.trans e]);rw[QZ a,QZ b];show G
  .have I:¬ q.1=k:=λz=>e (h1.trans z);have a:decide (p.1≠k)=true:=(by simp[e]);have b:decide (q.1≠k)=true:=(by simp[I]);rw[Q0 a,Q0 b];show .cons #[h1,h2] G
theorem KV.keys {kvs:List (κ×V)}{vs:List (κ×Value)}(r:KV kvs vs):kvs.map (·.1)=vs.map (·.1):=by
 unfold KV at r
 induction r with
 |nil=>rfl
 |cons h t G=>rw[Mm,Mm,G,h.1]
theorem KV.length {kvs:List (κ×V)}{vs:List (κ×Value)}(r:KV kvs vs):kvs.length=vs.length:=Paired.length r
theorem Ay (kvs:List (κ×V)) (k:κ):(m4 kvs k).length<=kvs.length:=Nq _ _
end
theorem iW {P:IF}{w:Ll}{k:Key}{u:Value}(r:RelV (kV k) u):(bu P w).is k u=true:=by
 cases k with
 |inl i=>let#[t,e]:=(show ∃t,u=Value.int i t from r);subst e;show sE P w i t
 |inr x=>let#[t,e]:=(show ∃t,u=Value.str x t from r);subst e;show ue P w x t
theorem pj {P:IF}{w:Ll}:∀{ks:List Key}{us:List Value},Vals (ks.map kV) us->ItemsAre (bu P w) ks us
 | [],_,r=>by rw[Qg]at r;cases r;show .nil
 |k::ks,_,r=>by
  rw[Mm]at r;cases r with
  |cons h t=>show .cons (iW h) (pj t)
noncomputable abbrev KT (H:Hp):List (List Key×V)->List (List Key×Addr×Value)->Prop:=Paired λp q=>p.1=q.1/\H q.2.1=some (.tup (p.1.map kV))/\RelV p.2 q.2.2
theorem KT.val {H:Hp}{kvs:List (List Key×V)}{xs:List (List Key×Addr×Value)}(r:KT H kvs xs) (k:List Key):gi (dP kvs k) ((Qb xs k).map (·.2)):=by
 induction r with
 |nil=>show Mn
 | @cons p q ps G h t J =>
  let#[h1,_,h2]:=h;by_cases e:p.1=k
  .have I:q.1=k:=h1.symm.trans e;have b:Qb (q::G) k=some q.2:=(by simp[Qb,NQ,I]);rw[eK e,b];show h2
  .have I:¬ q.1=k:=λz=>e (h1.trans z);have b:Qb (q::G) k=Qb G k:=(by simp[Qb,NQ,I]);rw[ck e,b];show J
theorem KT.ER {H:Hp}{kvs:List (List Key×V)}{xs:List (List Key×Addr×Value)}(r:KT H kvs xs) (k:List Key) {y:V}{u:Value}(L:RelV y u) :
  KT H (kvs.map λG=>if G.1=k then(G.1,y)else G) (xs.map (putAt k u)):=by
 induction r with
 |nil=>show .nil
 | @cons p q ps N h t I =>
  rw[Mm,Mm];show .cons ?_ I;let#[h1,h2,J]:=h;unfold putAt;by_cases e:p.1=k
  .rw[Q0 e,Q0 (h1.symm.trans e)];show#[h1,h2,L]
  .rw[QZ e,QZ (λz=>e (h1.trans z))];show#[h1,h2,J]
theorem KT.put {H:Hp}{kvs:List (List Key×V)}{xs:List (List Key×Addr×Value)}(r:KT H kvs xs) (k:List Key) {b:Addr}{y:V}{u:Value}(I:H b=some (.tup (k.map kV))) (G:RelV y u) :
  KT H (putK kvs k y) (storedH xs k b u):=by
 have e:(kvs.any λJ=>decide (J.1=k))=(Qb xs k).isSome:=by
  rw[jI,(r.val k).gu,N7]
 unfold putK storedH;rw[e];by_cases q:(Qb xs k).isSome=true
 .rw[Q0 q,Q0 q];show r.ER k G
 .rw[QZ q,QZ q];show Paired.snoc r #[rfl,I,G]
theorem KT.keeps {H H':Hp}{kvs:List (List Key×V)}{xs:List (List Key×Addr×Value)}(r:KT H kvs xs) (G:∀b ys,H b=some (.tup ys)->H' b=some (.tup ys)):KT H' kvs xs :=
 Paired.Br r λ_ _ z=>#[z.1,G _ _ z.2.1,z.2.2]
section
variable {P:IF}{w:Ll}{H:Hp}{h:Heap}{a:Addr}
theorem DU {u:HO}(ok:iX P w H h) (e:Rd H a u):bT P w H h a u:=e.ok ok
theorem jQ {kvs:List (Key×V)}(ok:iX P w H h) (e:Rd H a (.dK kvs)):kvs.length<=sizeLine/\(a==MW)=false/\∃vs,KV kvs vs/\h.DictOf (bu P w) a vs :=
 show bT P w H h a (.dK kvs)from DU ok e
theorem gY {kvs:List (Key×V)}(ok:iX P w H h) (e:H a=some (.dK kvs)):kvs.length<=sizeLine/\(a==MW)=false/\∃vs,KV kvs vs/\h.DictOf (bu P w) a vs:=jQ ok (.inl e)
theorem ju {ks:List Key}(ok:iX P w H h) (e:H a=some (.tup (ks.map kV))):(N3 (bu P w)).is h ks a:=by
 let#[_,its,r,o,h1,h2,n,G]:=(show bT P w H h a (.tup (ks.map kV))from ok a _ e);show#[o,its.toArray,n,h1,h2,G,by simpa using pj r]
theorem lj {kvs:List (List Key×V)}(ok:iX P w H h) (e:Rd H a (.dT kvs)):kvs.length<=sizeLine/\(a==MW)=false /\
  ∃xs,KT H kvs xs/\h.DictOfH (N3 (bu P w)) a xs:=by
 let#[z,y,xs,r,o,es,ep,h1,h2,O,L,N]:=(show bT P w H h a (.dT kvs)from DU ok e);show#[z,y,xs,r,o,es,ep,h1,h2,O,L,λx G=>?_,N];have all:∀{l:List (List Key×V)}{m:List (List Key×Addr×Value)},KT H l m->∀x∈m,(N3 (bu P w)).is h x.1 x.2.1:=by
  intro l m q
  induction q with
  |nil=>intro x G;show nomatch G
  | @cons p q ps R I t J =>
   intro x G;rcases List.mem_cons.mp G with e|G
   .subst e;show ju ok (by rw[<-I.1];show I.2.1)
   .show J x G
 show all r x G
theorem Hk {kvs:List (List Key×V)}(ok:iX P w H h) (e:H a=some (.dT kvs)):kvs.length<=sizeLine/\(a==MW)=false /\
  ∃xs,KT H kvs xs/\h.DictOfH (N3 (bu P w)) a xs:=lj ok (.inl e)
end
noncomputable def dB (H:Hp) (a:Addr) (y:V) (r:Option V):Prop :=
 (∃kvs k,Rd H a (.dK kvs)/\y=kV k/\r=dP kvs k)\/∃kvs k b,Rd H a (.dT kvs)/\y=.ref b/\H b=some (.tup (k.map kV))/\r=dP kvs k
noncomputable def gB (H:Hp) (a:Addr) (y v:V) (H':Hp):Prop :=
 (∃kvs k,H a=some (.dK kvs)/\y=kV k/\kvs.length<sizeLine/\H'=upd H a (.dK (putK kvs k v))) \/
 ∃kvs k b,H a=some (.dT kvs)/\y=.ref b/\H b=some (.tup (k.map kV))/\kvs.length<sizeLine/\H'=upd H a (.dT (putK kvs k v))
theorem dB.k {H:Hp}{a:Addr}{kvs:List (Key×V)}{k:Key}(e:H a=some (.dK kvs)):dB H a (kV k) (dP kvs k):=.inl #[kvs,k,.inl e,1]
theorem gB.k {H:Hp}{a:Addr}{kvs:List (Key×V)}{k:Key}{v:V}(e:H a=some (.dK kvs)) (G:kvs.length<sizeLine):gB H a (kV k) v (upd H a (.dK (putK kvs k v))):=.inl #[kvs,k,e,rfl,G,rfl]
section
variable {X:Cx}{pins:List (Addr×Obj)}{σ:St}{H:Hp}{s:By}{a:Addr}{y v:V}{u r:Value}{o:Option V}{A:Lq}{E:Value->By->Prop}
theorem Inv.big (I:Inv X pins σ H s):MW<s.heap.objs.size:=by
 have h:LS<s.heap.objs.size:=(I.mod.glob.keeps I.bk).lt;show Nat.lt_trans av h
theorem yi {Q:Value->By->Prop}(S:A.units+1<NG) (I:Inv X pins σ H s) (g:dB H a y (some v)) (R:RelV y u) (h:∀G s',Inv X pins σ H s'->RelV v G->Q G s') :
  wpAny (model X.prog X.w) A (NS (.ref a) u) Q E s:=by
 rcases g with⟨kvs,k,e,L,l⟩|⟨kvs,k,b,e,L,Y,l⟩
 .subst L;let#[z,hd,vs,J,dd]:=jQ I.bC e;let#[G,N,O]:=gi.some_of (v:=v) (o:=OW vs k) (by rw[l];show J.val k);show wpAny_getItem_of (iW R) dd.mapOf N (h G _ (I.tok _) O)
 .subst L;cases(show u=Value.ref b from R);let#[z,hd,xs,J,dd]:=lj I.bC e;let#[G,N,O]:=gi.some_of (v:=v) (o:=(Qb xs k).map (·.2)) (by rw[l];show J.val k);let#[p,U,ab]:=Option.map_eq_some_iff.mp N;show wpAny_getItem_heap (ME S) (ju I.bC Y) dd U ?_;rw[ab];show h G _ (I.tok _) O
theorem Kb {Q:Value->By->Prop}(N:A.units+1<NG) (I:Inv X pins σ H s) (g:dB H a y o) (L:RelV y u) (h:∀s',Inv X pins σ H s'->Q (.bool o.isSome) s') :
  wpAny (model X.prog X.w) A (Ms .In u (.ref a)) Q E s:=by
 rcases g with⟨kvs,k,e,J,l⟩|⟨kvs,k,b,e,J,O,l⟩
 .subst J;let#[z,hd,vs,G,dd]:=jQ I.bC e;show wpAny_in_of (iW L) hd dd.mapOf ?_;rw[<-(G.val k).gu, <-l];show h _ (I.tok _)
 .subst J;cases(show u=Value.ref b from L);let#[z,hd,xs,G,dd]:=lj I.bC e;show wpAny_in_heap (ME N) (ju I.bC O) hd dd ?_;have q:=(G.val k).gu;rw[N7]at q;rw[<-q, <-l];show h _ (I.tok _)
theorem DA {Q:Value->By->Prop}(N:A.units+1<NG) (I:Inv X pins σ H s) (g:dB H a y o) (L:RelV y u) (h:∀s',Inv X pins σ H s'->Q (.bool (!o.isSome)) s') :
  wpAny (model X.prog X.w) A (Ms .NotIn u (.ref a)) Q E s:=by
 rcases g with⟨kvs,k,e,J,l⟩|⟨kvs,k,b,e,J,O,l⟩
 .subst J;let#[z,hd,vs,G,dd]:=jQ I.bC e;show wpAny_notIn_of (iW L) hd dd.mapOf ?_;rw[<-(G.val k).gu, <-l];show h _ (I.tok _)
 .subst J;cases(show u=Value.ref b from L);let#[z,hd,xs,G,dd]:=lj I.bC e;show wpAny_notIn_heap (ME N) (ju I.bC O) hd dd ?_;have q:=(G.val k).gu;rw[N7]at q;rw[<-q, <-l];show h _ (I.tok _)
theorem jK {h':Heap}{t':Nat}{ob:HO}(I:Inv X pins σ H s) (J:Ht (H a)) (hs:Heap.SameBut a s.heap h') (G:∃q,h'.get? a=some q) (new:bT X.prog X.w (upd H a ob) h' a ob) :
  Inv X pins σ (upd H a ob) { s with heap:=h',toks:=t' }:=
 I.write (x:=a) (e:=a) J (.inl rfl) (λb q L z=>(hs.2 b L).trans z) G new
theorem mE {P:IF}{w:Ll}{H':Hp}{h':Heap}{kvs:List (Key×V)}{vs:List (Key×Value)}(z:kvs.length<=sizeLine) (hd:(a==MW)=false) (G:KV kvs vs) (dd:h'.DictOf (bu P w) a vs) :
  bT P w H' h' a (.dK kvs):=#[z,hd,vs,G,dd]
theorem o8 {H':Hp}{Q:Unit->By->Prop}(hu:A.units+1<NG) (I:Inv X pins σ H s) (g:gB H a y v H') (ry:RelV y u) (U:RelV v r) (h:∀s',Inv X pins σ H' s'->Q () s') :
  wpAny (model X.prog X.w) A (QI (.ref a) u r) Q E s:=by
 rcases g with⟨kvs,k,e,S,l,R⟩|⟨kvs,k,b,e,S,Y,l,R⟩
 .subst S R;let#[z,hd,vs,G,dd]:=gY I.bC e;have N:vs.length<=sizeLine:=(by rw[<-G.length];show z);have O:(putK kvs k v).length<=sizeLine:=(by have:=fV kvs k v;omega);show wpAny_setItem_pairs (hsz:=N) (iW ry) dd λh' L hs=>h _ ?_;have he:∃q,h'.get? a=some q:=let ⟨q,_,_,J,_⟩:=L;#[q,J];show jK I (by rw[e];show Mn) hs he (mE O hd (G.put k U) L)
 .subst S R;cases(show u=Value.ref b from ry);let#[z,hd,xs,G,dd]:=Hk I.bC e;have N:xs.length<=sizeLine:=(by rw[<-Paired.length G];show z);have O:(putK kvs k v).length<=sizeLine:=(by have:=fV kvs k v;omega);show wpAny_setItem_heap (hsz:=N) (ME hu) (ju I.bC Y) dd λh' L hs=>h _ ?_;let#[q,es,ep,J,h2,h3,h4,_,h5]:=L;show jK I (by rw[e];show Mn) hs #[q,J] #[O,hd,_,(G.put k Y U).keeps λc ys ec=>?_,q,es,ep,J,h2,h3,h4,h5];rw[ag (cJ ec e (λz=>nomatch z))];show ec
end
section
variable {X:Cx}{pins:List (Addr×Obj)}{σ:St}{H:Hp}{s:By}{a:Addr}{kvs:List (Key×V)}{k:Key}{u:Value}{A:Lq}{E:Value->By->Prop}
theorem IB {v:V}{J:List Value}{Q:Value->By->Prop}(I:Inv X pins σ H s) (e:H a=some (.dK kvs)) (N:RelV (kV k) u) (l:dP kvs k=some v) (O:J=[]\/∃x,J=[x])
  (h:∀G s',Inv X pins σ (upd H a (.dK (m4 kvs k))) s'->RelV v G->Q G s'):wpAny (model X.prog X.w) A (call (.builtin "dict.pop") (.ref a::u::J)) Q E s:=by
 let#[z,hd,vs,L,dd]:=gY I.bC e;let#[G,hw,ab]:=gi.some_of (v:=v) (o:=OW vs k) (by rw[<-l];show L.val k);have Y:(keyPart u).isSome=true:=by
  cases k with
  |inl i=>let#[t,q]:=(show ∃t,u=Value.int i t from N);subst q;rfl
  |inr x=>let#[t,q]:=(show ∃t,u=Value.str x t from N);subst q;rfl
 have ha:argsOk "dict.pop" #[.ref a::u::J,[]]:=by
  rcases O with q|⟨x,q⟩
  .subst q;show PySem.F.args_dict_pop_2 _ _
  .subst q;show PySem.F.args_dict_pop_3 _ _ _
 show Nb PySem.F.slot_dict_pop dd.typeIs PySem.F.entry_dict_pop ha (meets_dict_pop_there (bu X.prog X.w) a (iW N) J O Y)
  #[vs,G,dd,by rw[<-L.length];show z,hw,λh' R hs=>h G _ ?_ ab]
 have S:∃q,h'.get? a=some q:=let ⟨q,_,_,U,_⟩:=R;#[q,U];show jK I (by rw[e];show Mn) hs S (mE (Ly (Ay kvs k) z) hd (L.drop k) R)
theorem Gr {Q:Value->By->Prop}(I:Inv X pins σ H s) (e:Rd H a (.dK kvs)) (h:∀t s',Inv X pins σ H s'->Q (.int kvs.length t) s'):wpAny (model X.prog X.w) A (call (.builtin "len") [.ref a]) Q E s:=by
 let#[z,hd,vs,G,dd]:=jQ I.bC e;show call_len_dict hd dd (by rw[<-G.length];rw[Lh]at z;omega) ?_;rw[<-G.length];show h _ _ (I.tok _)
end
noncomputable def Iw (i:LC):Prop:=∀ov G,Pd i false ov G=operate [ov,G] (NS ov G)
theorem CQ {prog:IF}{w:Ll}{A:Lq}{E:Value->By->Prop}{s:By}{env:OE}{value G:LC}{pos:Nu}{T id:String}{Q:Value->By->Prop}
  (S:typeLookup (.type T) "__getitem__" = pure (some (.builtin id))) (hs:Iw G)
  (h:wpAny (model prog w) A (eval value env) (λo N=>wpAny (model prog w) A (eval G env) (λi I=>I.TypeIs o T/\wpAny (model prog w) A (NS o i) Q E I) E N) E s) :
  wpAny (model prog w) A (eval (.Subscript value G pos) env) Q E s:=by
 show Qs (L3 h (λo N Y=>L3 Y (λi I J=>?_) λ_ _ x=>x) λ_ _ x=>x);let#[R,J]:=J;unfold Pr;show DD ?_;rw[getitemInPython_of_ne R.not_modules];show DD (wpAny_specialOf R S ?_);have L:wpAny (model prog w) A (Pd G false o i) (λr O=>wpAny (model prog w) A (letTemporaryGo value o r>>=λ_=>pure r) Q E O) E I:=by
  rw[hs o i];show wpAny_operating (L3 J (λr O U=>DD (wpAny_letTemporaryGo (Lg U))) λ_ _ x=>x)
 first
  |show Lg (DD L)
  |show DD (Lg (DD L))
  |show DD L
theorem tj {X:Cx}{pins:List (Addr×Obj)}{σ:St}{H:Hp}{s:By}{a:Addr}{y:V}{o:Option V}(I:Inv X pins σ H s) (g:dB H a y o):s.TypeIs (.ref a) "dict" := by
 rcases g with⟨kvs,k,e,_,_⟩|⟨kvs,k,b,e,_,_,_⟩
 .let#[_,_,vs,_,dd]:=jQ I.bC e;show dd.typeIs
 .let#[_,_,xs,_,dd]:=lj I.bC e;show dd.typeIs
inductive BD (td ty:TE) (Q:VK) (x:V) (y:V) (H2:Hp):Prop
 |mk (a:_) (v:_) (_:x=.ref a) (_:dB H2 a y (some v)) (_:Q v H2):BD td ty Q x y H2
noncomputable def HX (td ty:TE):TE:=λσ H Q=>td σ H λx H1=>ty σ H1 λy H2=>BD td ty Q x y H2
inductive DT (ty td:TE) (Q:VK) (y:V) (x:V) (H2:Hp):Prop
 |mk (a:_) (o:_) (_:x=.ref a) (_:dB H2 a y o) (_:Q (.bl o.isSome) H2):DT ty td Q y x H2
noncomputable def JZ (ty td:TE):TE:=λσ H Q=>ty σ H λy H1=>td σ H1 λx H2=>DT ty td Q y x H2
inductive tZ (ty td:TE) (Q:VK) (y:V) (x:V) (H2:Hp):Prop
 |mk (a:_) (o:_) (_:x=.ref a) (_:dB H2 a y o) (_:Q (.bl (!o.isSome)) H2):tZ ty td Q y x H2
noncomputable def DE (ty td:TE):TE:=λσ H Q=>ty σ H λy H1=>td σ H1 λx H2=>tZ ty td Q y x H2
noncomputable def Hj (td ty tv:TE):TS:=λD σ H=>tv σ H λv H1=>td σ H1 λx H2=>ty σ H2 λy H3=>Bb λa H4=>sj (x=.ref a) (gB H3 a y v H4) (D.nx σ H4)
section
variable {X:Cx}{o i e value:LC}{pos pos' tpos:Nu}{td ty tv:TE}
theorem a9 (U:X.A.units+1<NG) (ho:PE X o td) (hi:PE X i ty) (hs:Iw i):PE X (.Subscript o i pos) (HX td ty):=by
 intro pins s σ H Q I h;show CQ PySem.F.slot_dict_getitem.lookup hs (bS (ho pins s σ H _ I h) λu L S=>?_);let#[x,H1,I1,R,J]:=S;show bS (hi pins L σ H1 _ I1 J) λiv s2 ab=>?_;let#[y,H2,G,ry,a,v,ex,g,Y]:=ab;subst ex;obtain rfl:u=Value.ref a:=R;show#[tj G g,yi U G g ry λw' s3 O N=>#[v,H2,O,N,Y]]
theorem kL (N:X.A.units+1<NG) (hi:PE X i ty) (ho:PE X o td):PC X .In i o (JZ ty td):=by
 intro pins s σ H Q I h;show bS (hi pins s σ H _ I h) λiv R O=>?_;let#[y,H1,U,ry,L]:=O;show bS (ho pins R σ H1 _ U L) λu s2 S=>?_;let#[x,H2,I2,J,a,ov,ex,g,Y]:=S;subst ex;obtain rfl:u=Value.ref a:=J;show Kb N I2 g ry λs3 G=>#[.bl ov.isSome,H2,G,rfl,Y]
theorem eg (N:X.A.units+1<NG) (hi:PE X i ty) (ho:PE X o td):PC X .NotIn i o (DE ty td):=by
 intro pins s σ H Q I h;show bS (hi pins s σ H _ I h) λiv R O=>?_;let#[y,H1,S,ry,L]:=O;show bS (ho pins R σ H1 _ S L) λu s2 U=>?_;let#[x,H2,I2,J,a,ov,ex,g,Y]:=U;subst ex;obtain rfl:u=Value.ref a:=J;show DA N I2 g ry λs3 G=>#[.bl (!ov.isSome),H2,G,rfl,Y]
theorem jx (hu:X.A.units+1<NG) (ho:PE X o td) (hi:PE X i ty) (hv:PE X value tv) (hs:Ov value (some (.Subscript o i pos')) pos.line X.env=pure false) :
  PS X (.Assign [.Subscript o i pos'] value pos) (Hj td ty tv):=by
 intro pins s σ H D I h;show wpAny_Assign_Subscript (bS (hv pins s σ H _ I h) λr N S=>?_) hs;let#[v,H1,I1,G,J]:=S;show bS (ho pins N σ H1 _ I1 J) λu s2 ab=>?_;let#[x,H2,I2,Y,q2]:=ab;show bS (hi pins s2 σ H2 _ I2 q2) λiv s3 L=>?_;let#[y,H3,U,ry,a,H4,ex,g,R]:=L;subst ex;obtain rfl:u=Value.ref a:=Y;show o8 hu U g ry G λs4 O=>#[σ,H4,O,R]
end
theorem tf {P:IF}{w:Ll}{H:Hp}(h:Heap) (G:MW<h.objs.size):bT P w H (h.push { cls:=.type "dict",data:=.dict ([].toArray) }) h.objs.size (.dK []):=
 #[LD _,beq_eq_false_iff_ne.mpr (G0 (LM G)),[],.nil,Heap.DictOf.new h]
noncomputable def Fj:TE:=λ_ H Q=>∀p,H p=none->Q (.ref p) (upd H p (.dK []))
section
variable {X:Cx}{pos:Nu}
theorem dr:PE X (.Dict [] [] pos) Fj:=λpins s σ H Q I h =>
 wpAny_Dict_empty #[.ref s.heap.objs.size,_,I.laid (a:=s.heap.objs.size) (o:=.dK []) (t':=s.toks) (λ_ _ q=>Heap.get?_push_of_some _ q) (HC _) (tf s.heap I.big),rfl,h _ (I.bC.fresh (HC _))]
end
noncomputable def uW:List (TE×TE)->St->Hp->(List (V×V)->Hp->Prop)->Prop
 | [],_,H,Q=>Q [] H
 |(tk,tv)::r,σ,H,Q=>tk σ H λx H1=>tv σ H1 λy H2=>uW r σ H2 λps H3=>Q ((x,y)::ps) H3
noncomputable abbrev VV:List (V×V)->List (Value×Value)->Prop:=Paired λp q=>RelV p.1 q.1/\RelV p.2 q.2
noncomputable def Jf (X:Cx) (pos:Nu) (keys:List (Option LC)) (values:List LC) (G:List (TE×TE)):Prop :=
 ∀(pins:List (Addr×Obj)) (s:By) (σ:St) (H:Hp) (Q:List (V×V)->Hp->Prop),Inv X pins σ H s->uW G σ H Q ->
  wpAny (model X.prog X.w) X.A (evalPairs (pairTrees keys values X.env pos)) (λvs s'=>∃ps H',Inv X pins σ H' s'/\VV ps vs/\Q ps H') X.xe s
theorem C6 {X:Cx}{pos:Nu}:Jf X pos [] [] []:=λpins s σ H Q I h=>pairTrees_nil_walk #[[],H,I,.nil,h]
theorem jT {X:Cx}{pos:Nu}{k v:LC}{ks:List (Option LC)}{vs:List LC}{tk tv:TE}{G:List (TE×TE)}(U:PE X k tk) (hv:PE X v tv) (O:Jf X pos ks vs G) :
  Jf X pos (some k::ks) (v::vs) ((tk,tv)::G):=λpins s σ H Q I h =>
 pairTrees_cons_walk (bS (U pins s σ H _ I h) λu L ⟨x,H1,I1,R,J⟩=>bS (hv pins L σ H1 _ I1 J) λw2 s2 ⟨y,H2,I2,ry,q2⟩ =>
  bS (O pins s2 σ H2 _ I2 q2) λws s3 ab=>by let#[ps,H3,S,Y,N]:=ab;show#[(x,y)::ps,H3,S,.cons #[R,ry] Y,N])
noncomputable def kA (kvs J:List (Key×V)):List (Key×V):=J.foldl (λI G=>putK I G.1 G.2) kvs
theorem KV.merge:∀{G:List (Key×V)}{I:List (Key×Value)}{kvs:List (Key×V)}{vs:List (Key×Value)},KV G I->KV kvs vs->KV (kA kvs G) (merged vs I):=by
 intro G I kvs vs r;unfold KV at r
 induction r generalizing kvs vs with
 |nil=>intro q;show q
 | @cons p q ps N h t J =>
  intro L;have e:KV (putK kvs p.1 p.2) (stored vs q.1 q.2):=by
   have:=L.put p.1 h.2;rw[<-h.1];show this
  show J e
theorem iZ:∀(G kvs:List (Key×V)),(kA kvs G).length<=kvs.length+G.length
 | [],kvs=>by change kvs.length<=kvs.length+0;omega
 |p::r,kvs=>by
  have h1:=iZ r (putK kvs p.1 p.2);have h2:=fV kvs p.1 p.2;change(kA (putK kvs p.1 p.2) r).length<=_;rw[Lo];omega
theorem lX {P:IF}{w:Ll}:∀{kvs:List (Key×V)}{ws:List (Value×Value)},VV (kvs.map λI=>(kV I.1,I.2)) ws->∃G,Carries (bu P w) ws G/\KV kvs G
 | [],_,r=>by rw[Qg]at r;cases r;show#[[],Mn,.nil]
 |p::kvs,_,r=>by
  rw[Mm]at r;cases r with
  | @cons a b L bs h t =>
   let#[G,c,q]:=lX (P:=P) (w:=w) t;let#[N,J]:=b;show#[(p.1,J)::G,#[iW h.1,rfl,c],.cons #[rfl,h.2] q]
noncomputable def HM (I:List (TE×TE)):TE:=λσ H Q=>∀p,H p=none->uW I σ (upd H p (.dK [])) λps H2=>H2 p=some (.dK [])/\∃kvs:List (Key×V),ps=kvs.map (λG=>(kV G.1,G.2))/\kvs.length<=15/\Q (.ref p) (upd H2 p (.dK (kA [] kvs)))
theorem CC {X:Cx}{pos:Nu}{keys:List (Option LC)}{values:List LC}{G:List (TE×TE)}(h:Jf X pos keys values G) (R:keys.all (·.isSome)=true) (Y:keys.length=values.length) (N:keys≠[])
  (ac:keys.length<=15):PE X (.Dict keys values pos) (HM G):=by
 intro pins s σ H Q I q;have hn:=I.bC.fresh (HC s.heap.objs.size);have I1:=I.laid (a:=s.heap.objs.size) (o:=.dK []) (h':=s.heap.push { cls:=.type "dict",data:=.dict ([].toArray) }) (t':=s.toks) (λ_ _ q=>Heap.get?_push_of_some _ q) (HC _) (tf s.heap I.big);show wpAny_Dict_walk (knd:=bu X.prog X.w) R Y N ac (bS (h pins _ σ _ _ I1 (q _ hn)) λws s2 O=>?_);let#[ps,H2,J,ab,e,kvs,ep,lk,q2]:=O;subst ep;let#[U,c,rk]:=lX (P:=X.prog) (w:=X.w) ab;let#[z,hd,am,r0,dd]:=gY J.bC e;cases r0;show#[U,c,dd,λh' L hs=>#[.ref s.heap.objs.size,_,?_,rfl,q2]];have S:(kA [] kvs).length<=sizeLine:=by
  have h1:=iZ kvs [];rw[PF]at h1;rw[Lh];omega
 have he:∃q,h'.get? s.heap.objs.size=some q:=let ⟨q,_,_,hq,_⟩:=L;#[q,hq];show jK J (by rw[e];show Mn) hs he (mE S hd (rk.merge .nil) L)
structure M1 (X:Cx) (o:LC) (m:Str) (apos:Nu) (e:LC) (cpos:Nu):Prop where
 base:Nh o m X.env (eval o X.env)=eval o X.env
 Hi:((backTo cpos (starEach [e] X.env)).all (λx => !x.1)&&(NX cpos (MZ [] X.env)).all (λx=>x.1.isSome)
  && decide (([e]:List LC).length+([]:List Pm).length+(if ([]:List Pm).isEmpty then 0 else 1)<30))=true
 line:(apos.endLine==cpos.line)=true
 trees:backTo cpos (starEach [e] X.env)=[(false,eval e X.env)]
structure M2 (X:Cx) (o:LC) (m:Str) (apos:Nu) (e f:LC) (cpos:Nu):Prop where
 base:Nh o m X.env (eval o X.env)=eval o X.env
 Hi:((backTo cpos (starEach [e,f] X.env)).all (λx => !x.1)&&(NX cpos (MZ [] X.env)).all (λx=>x.1.isSome)
  && decide (([e,f]:List LC).length+([]:List Pm).length+(if ([]:List Pm).isEmpty then 0 else 1)<30))=true
 line:(apos.endLine==cpos.line)=true
 trees:backTo cpos (starEach [e,f] X.env)=[(false,eval e X.env),(false,eval f X.env)]
noncomputable def II (H:Hp) (a:Addr):Prop:=(∃kvs,Rd H a (.dK kvs))\/∃kvs,Rd H a (.dT kvs)
theorem kP {X:Cx}{pins:List (Addr×Obj)}{σ:St}{H:Hp}{s:By}{a:Addr}(I:Inv X pins σ H s) (d:II H a) :
  s.TypeIs (.ref a) "dict" /\ (∀b,Value.ref a=.ref b->∃ob,s.heap.get? b=some ob/\ob.dict=none)/\(a==MW)=false:=by
 rcases d with⟨kvs,e⟩|⟨kvs,e⟩
 .let#[_,hd,vs,_,dd]:=jQ I.bC e;show#[dd.typeIs,λb q=>?_,hd];cases q;let#[ob,_,_,h1,h2,_]:=dd;show#[ob,h1,h2.2.1]
 .let#[_,hd,xs,_,dd]:=lj I.bC e;show#[dd.typeIs,λb q=>?_,hd];cases q;let#[ob,_,_,h1,h2,_]:=dd;show#[ob,h1,h2.2.1]
section
variable {X:Cx}{pins:List (Addr×Obj)}{σ:St}{H:Hp}{s:By}{a:Addr}{y d:V}{u r:Value}{o:Option V}{A:Lq}{E:Value->By->Prop}
theorem FU {Q:Value->By->Prop}(O:A.units+1<NG) (I:Inv X pins σ H s) (g:dB H a y o) (N:RelV y u) (h:∀L s',Inv X pins σ H s'->RelV (o.getD .non) L->Q L s') :
  wpAny (model X.prog X.w) A (call (.builtin "dict.get") [.ref a,u]) Q E s:=by
 rcases g with⟨kvs,k,e,J,l⟩|⟨kvs,k,b,e,J,R,l⟩
 .subst J;let#[z,hd,vs,G,dd]:=jQ I.bC e;show Nb Nw dd.typeIs N8 (PySem.F.args_dict_get_2 _ _) (meets_dict_get (bu X.prog X.w) a (iW N) hd) #[_,dd.mapOf,h _ _ (I.tok _) ?_];rw[l];show(G.val k).getD rfl
 .subst J;cases(show u=Value.ref b from N);let#[z,hd,xs,G,dd]:=lj I.bC e;show Nb Nw dd.typeIs N8 (PySem.F.args_dict_get_2 _ _) (meetsH_dict_get (N3 (bu X.prog X.w)) a b hd) #[ME O,k,xs,ju I.bC R,dd,h _ _ (I.tok _) ?_];rw[l];show(G.val k).getD rfl
theorem FV {Q:Value->By->Prop}(O:A.units+1<NG) (I:Inv X pins σ H s) (g:dB H a y o) (N:RelV y u) (rd:RelV d r) (h:∀L s',Inv X pins σ H s'->RelV (o.getD d) L->Q L s') :
  wpAny (model X.prog X.w) A (call (.builtin "dict.get") [.ref a,u,r]) Q E s:=by
 rcases g with⟨kvs,k,e,J,l⟩|⟨kvs,k,b,e,J,R,l⟩
 .subst J;let#[z,hd,vs,G,dd]:=jQ I.bC e;show Nb Nw dd.typeIs N8 (PySem.F.args_dict_get_3 _ _ _) (meets_dict_get_default (bu X.prog X.w) a (iW N) hd r) #[_,dd.mapOf,h _ _ (I.tok _) ?_];rw[l];show(G.val k).getD rd
 .subst J;cases(show u=Value.ref b from N);let#[z,hd,xs,G,dd]:=lj I.bC e;show Nb Nw dd.typeIs N8 (PySem.F.args_dict_get_3 _ _ _) (meetsH_dict_get_default (N3 (bu X.prog X.w)) a b hd r) #[ME O,k,xs,ju I.bC R,dd,h _ _ (I.tok _) ?_];rw[l];show(G.val k).getD rd
end
inductive xk (td ty:TE) (σ:St) (Q:VK) (x:V) (H1:Hp):Prop
 |mk (a:_) (_:x=.ref a) (_:II H1 a) (_:ty σ H1 λy H2=>∃o,dB H2 a y o/\Q (o.getD .non) H2):xk td ty σ Q x H1
noncomputable def Fe (td ty:TE):TE:=λσ H Q=>td σ H λx H1=>xk td ty σ Q x H1
inductive xy (td ty tx:TE) (σ:St) (Q:VK) (x:V) (H1:Hp):Prop
 |mk (a:_) (_:x=.ref a) (_:II H1 a) (_:ty σ H1 λy H2=>tx σ H2 λz H3=>∃o,dB H3 a y o/\Q (o.getD z) H3):xy td ty tx σ Q x H1
noncomputable def FI (td ty tx:TE):TE:=λσ H Q=>td σ H λx H1=>xy td ty tx σ Q x H1
inductive wJ (td ty:TE) (σ:St) (Q:VK) (x:V) (H1:Hp):Prop
 |mk (a:_) (_:x=.ref a) (_:II H1 a) (_:ty σ H1 λy H2=>∃kvs k v,H2 a=some (.dK kvs)/\y=kV k/\dP kvs k=some v/\Q v (upd H2 a (.dK (m4 kvs k)))):wJ td ty σ Q x H1
noncomputable def Gd (td ty:TE):TE:=λσ H Q=>td σ H λx H1=>wJ td ty σ Q x H1
section
variable {X:Cx}{o e f:LC}{apos cpos:Nu}{td ty tx:TE}
theorem zx (hu:X.A.units+1<NG) (ho:PE X o td) (Y:PE X e ty) (m:M1 X o "get" apos e cpos):PE X (.Call (.Attribute o "get" apos) [e] [] cpos) (Fe td ty):=by
 intro pins s σ H Q I h;show NH m.base m.Hi m.line Ng Nw PySem.F.type_dict_get (bS (ho pins s σ H _ I h) λu L R=>?_);let#[x,H1,G,rx,a,ex,d,J]:=R;subst ex;obtain rfl:u=Value.ref a:=rx;let#[O,t2,_]:=kP G d;show#[O,t2,?_];rw[m.trees];show Calls.callWith_builtin rfl (Calls.evalArgs_plain (Calls.spliced_cons (bS (Y pins L σ H1 _ G J) λiv s2 N=>?_)));let#[y,H2,I2,ry,ov,g,q2]:=N;show Calls.spliced_nil ?_;show FU hu I2 g ry λw' s3 U S=>#[_,H2,U,S,q2]
theorem tO (hu:X.A.units+1<NG) (ho:PE X o td) (he:PE X e ty) (hf:PE X f tx) (m:M2 X o "get" apos e f cpos):PE X (.Call (.Attribute o "get" apos) [e,f] [] cpos) (FI td ty tx):=by
 intro pins s σ H Q I h;show NH m.base m.Hi m.line Ng Nw PySem.F.type_dict_get (bS (ho pins s σ H _ I h) λu L N=>?_);let#[x,H1,G,rx,a,ex,d,J]:=N;subst ex;obtain rfl:u=Value.ref a:=rx;let#[R,t2,_]:=kP G d;show#[R,t2,?_];rw[m.trees];show Calls.callWith_builtin rfl (Calls.evalArgs_plain (Calls.spliced_cons (bS (he pins L σ H1 _ G J) λiv s2 ⟨y,H2,I2,ry,q2⟩ =>
  Calls.spliced_cons (bS (hf pins s2 σ H2 _ I2 q2) λfv s3 ⟨z,H3,I3,S,ov,g,Y⟩=>Calls.spliced_nil ?_))))
 show FV hu I3 g ry S λw' s4 O U=>#[_,H3,O,U,Y]
theorem eG (ho:PE X o td) (S:PE X e ty) (m:M1 X o "pop" apos e cpos):PE X (.Call (.Attribute o "pop" apos) [e] [] cpos) (Gd td ty):=by
 intro pins s σ H Q I h;show NH m.base m.Hi m.line Ng PySem.F.slot_dict_pop PySem.F.type_dict_pop (bS (ho pins s σ H _ I h) λu L ab=>?_);let#[x,H1,G,U,a,ex,d,J]:=ab;subst ex;obtain rfl:u=Value.ref a:=U;let#[N,t2,_]:=kP G d;show#[N,t2,?_];rw[m.trees];show Calls.callWith_builtin rfl (Calls.evalArgs_plain (Calls.spliced_cons (bS (S pins L σ H1 _ G J) λiv s2 ac=>?_)));let#[y,H2,I2,ry,kvs,k,v,Y,ey,l,q2]:=ac;show Calls.spliced_nil ?_;subst ey;show IB I2 Y ry l (.inl rfl) λw' s3 R O=>#[v,_,R,O,q2]
end
section
variable {X:Cx}{pins:List (Addr×Obj)}{σ:St}{H:Hp}{s:By}{a:Addr}{kvs:List (Key×V)}{A:Lq}{E:Value->By->Prop}
end
section
variable {X:Cx}{pins:List (Addr×Obj)}{σ:St}{H:Hp}{s:By}{a:Addr}{y:V}{u:Value}{A:Lq}{E:Value->By->Prop}
end
section
variable {X:Cx}
theorem fG:dG X (.builtin "len") (λxs H Q=>∃a kvs,xs=[V.ref a]/\H a=some (.dK kvs)/\Q (.int kvs.length) H):=by
 intro pins s σ H xs us Q I r h;let#[a,kvs,rfl,L,q]:=h;let#[u,rfl,J]:=vals1 r;cases J;show Gr I (.inl L) λt s' G=>#[.int kvs.length,H,G,#[t,rfl],q]
end
section
variable {κ:Type} [DecidableEq κ]
theorem fQ:∀{l:List κ}{k:κ},l.Nodup->¬ k∈l->(l++[k]).Nodup
 | [],k,_,_=>by simp
 |a::r,k,h,G=>by
  let#[h1,h2]:=List.nodup_cons.mp h;change(a::(r++[k])).Nodup;show List.nodup_cons.mpr #[λm=>?_,fQ h2 λm=>G (List.mem_cons.mpr (OU m))];rcases List.mem_append.mp m with q|q
  .show h1 q
  .show G (List.mem_cons.mpr (Lc (List.mem_singleton.mp q).symm))
end
section
variable {X:Cx}{pins:List (Addr×Obj)}{σ:St}{H:Hp}{s:By}{a:Addr}{kvs:List (Key×V)}{k:Key}{u r:Value}{d:V}{A:Lq}{E:Value->By->Prop}
theorem EK {Q:Value->By->Prop}(I:Inv X pins σ H s) (e:H a=some (.dK kvs)) (ry:RelV (kV k) u) (rd:RelV d r) (hl:kvs.length<sizeLine)
  (h1:∀v J s',dP kvs k=some v->Inv X pins σ H s'->RelV v J->Q J s') (h2:∀s',dP kvs k=none->Inv X pins σ (upd H a (.dK (putK kvs k d))) s'->Q r s') :
  wpAny (model X.prog X.w) A (call (.builtin "dict.setdefault") [.ref a,u,r]) Q E s:=by
 let#[z,hd,vs,G,dd]:=gY I.bC e;show Nb PySem.F.slot_dict_setdefault dd.typeIs PySem.F.entry_dict_setdefault (PySem.F.args_dict_setdefault_3 _ _ _) (kt_meets_setdefault (bu X.prog X.w) a (iW ry) hd r)
  #[vs,dd,by rw[<-G.length];show z,λv L=>?_,λY h' O hs=>?_]
 .have q:=G.val k;cases l:dP kvs k with
  |none=>rw[l]at q;rw[gi.none_of q]at L;cases L
  |some y =>
   rw[l]at q;let#[J,N,U]:=gi.some_of q;rw[L]at N;cases N;show h1 y v _ l (I.tok _) U
 .have l:dP kvs k=none:=by
   cases l:dP kvs k with
   |none=>rfl
   |some y =>
    have q:=G.val k;rw[l,Y]at q;cases q
  have R:∃q,h'.get? a=some q:=let ⟨q,_,_,S,_⟩:=O;#[q,S];show h2 _ l (jK I (by rw[e];show Mn) hs R (mE (by have:=fV kvs k d;omega) hd (G.put k rd) O))
end
inductive xg (td ty tx:TE) (σ:St) (Q:VK) (x:V) (H1:Hp):Prop
 |mk (a:_) (_:x=.ref a) (_:II H1 a) (_:ty σ H1 λy H2=>tx σ H2 λz H3=>∃kvs k,H3 a=some (.dK kvs)/\y=kV k/\kvs.length<sizeLine/\(∀v,dP kvs k=some v->Q v H3)/\(dP kvs k=none->Q z (upd H3 a (.dK (putK kvs k z))))):xg td ty tx σ Q x H1
noncomputable def Fo (td ty tx:TE):TE:=λσ H Q=>td σ H λx H1=>xg td ty tx σ Q x H1
section
variable {X:Cx}{o e f:LC}{apos cpos:Nu}{td ty tx:TE}
theorem An (ho:PE X o td) (he:PE X e ty) (hf:PE X f tx) (m:M2 X o "setdefault" apos e f cpos):PE X (.Call (.Attribute o "setdefault" apos) [e,f] [] cpos) (Fo td ty tx):=by
 intro pins s σ H Q I h;show NH m.base m.Hi m.line Ng PySem.F.slot_dict_setdefault PySem.F.type_dict_setdefault (bS (ho pins s σ H _ I h) λu O ab=>?_);let#[x,H1,L,rx,a,ex,d,N]:=ab;subst ex;obtain rfl:u=Value.ref a:=rx;let#[S,t2,_]:=kP L d;show#[S,t2,?_];rw[m.trees];show Calls.callWith_builtin rfl (Calls.evalArgs_plain (Calls.spliced_cons (bS (he pins O σ H1 _ L N) λiv s2 ⟨y,H2,I2,ry,q2⟩ =>
  Calls.spliced_cons (bS (hf pins s2 σ H2 _ I2 q2) λfv s3 ⟨z,H3,I3,J,kvs,k,ea,ey,hl,Y,R⟩=>Calls.spliced_nil ?_))))
 subst ey;show EK I3 ea ry J hl (λv w' s4 l G U=>#[v,_,G,U,Y v l]) λs4 l G=>#[z,_,G,J,R l]
end
section
variable {X:Cx}{pins:List (Addr×Obj)}{σ:St}{H:Hp}{s:By}{a:Addr}{o:Obj}{u:HO}{kvs:List (Key×V)}
theorem Inv.swap {w:HO}(I:Inv X pins σ H s) (h:H a=some u) (h1:∀o G,X.H₀ a≠some (.cH o G)) (h2:∀xs,u≠.tup xs) (h3:∀ps,u≠.tbl ps) (Y:∀x,u≠.own x) (new:bT X.prog X.w (upd H a w) s.heap a w):Inv X pins σ (upd H a w) s:=by
 have J:∀b,H b=none->b≠a:=λb q z=>(by rw[z,h]at q;cases q);show#[I.ok,I.os,I.bare,#[I.base.keep,I.base.slot,λb o q O R=>?_,I.base.there,λb xs q=>?_,λb o G q=>?_,λb ps q=>?_],I.loc,I.cell,?_,λy c q=>?_,λp S=>?_,λb v q=>?_,I.len]
 .have z:=I.base.free b o q O R;rw[ag (J b z)];show z
 .have z:=I.base.mf b xs q;rw[ag (λe=>h2 xs (by rw[e,h]at z;show Option.some.inj z))];show z
 .have z:=I.base.ly b o G q;rw[ag (λe=>h1 o G (by rw[<-e];show q))];show z
 .let#[ab,z]:=I.base.mS b ps q;show#[ab,by rw[ag (λe=>h3 _ (by rw[e,h]at z;show Option.some.inj z))];show z]
 .rw[ag (J _ I.free)];show I.free
 .rw[ag (J _ (I.eX y c q))];show I.eX y c q
 .let#[a1,N,U]:=I.pin p S;show#[a1,by rw[ag (J _ N)];show N,U]
 .by_cases L:b=a
  .subst L;rw[ae]at q;cases q;show new
  .rw[ag L]at q;show(I.bC b v q).iV (λ_ _ _ z=>z) (λc z=>by rw[ag (λe=>Y b (by rw[e,h]at z;show Option.some.inj z))];show z) λc xs z=>by rw[ag (λe=>h2 xs (by rw[e,h]at z;show Option.some.inj z))];show z
theorem Inv.freeze (I:Inv X pins σ H s) (h:H a=some (.dK kvs)) (J:s.heap.get? a=some o) (h1:∀o G,X.H₀ a≠some (.cH o G)):Inv X pins σ (upd H a (.cH o (.dK kvs))) s :=
 I.swap h h1 (λ_ z=>nomatch z) (λ_ z=>nomatch z) (λ_ z=>nomatch z) #[J,(show bT X.prog X.w H s.heap a (.dK kvs)from I.bC a _ h)]
theorem Inv.Fn (I:Inv X pins σ H s) (h:H a=some (.cH o (.dK kvs))) (h1:∀o G,X.H₀ a≠some (.cH o G)):Inv X pins σ (upd H a (.dK kvs)) s :=
 I.swap h h1 (λ_ z=>nomatch z) (λ_ z=>nomatch z) (λ_ z=>nomatch z) (show bT X.prog X.w H s.heap a (.cH o (.dK kvs))from I.bC a _ h).2
end
noncomputable def za (o:Obj):Nat:=match o.data with
 |.dict _ ep=>ep
 |_=>0
noncomputable def Fx (a:Addr) (o:Obj) (kvs:List (Key×V)):It :=
 #[λi H=>H a=some (.cH o (.dK kvs))/\i<kvs.length,λi H x H'=>H'=H/\∃k v,kvs[i]?=some (k,v)/\x=kV k,λi H=>H a=some (.cH o (.dK kvs))/\kvs.length<=i]
theorem rO {P:IF}{w:Ll}{k:Key}{u:Value}(h:(bu P w).is k u=true):RelV (kV k) u:=by
 rcases cp (show mX k u=true from h)with⟨i,t,rfl,rfl⟩|⟨x,t,rfl,rfl⟩
 .show#[t,rfl]
 .show#[t,rfl]
theorem kR {P:IF}{w:Ll}{H:Hp}{h:Heap}{a:Addr}{o:Obj}{kvs:List (Key×V)}(ok:iX P w H h) (e:H a=some (.cH o (.dK kvs))):(a==MW)=false/\∃vs,KV kvs vs/\h.DictAt (bu P w) a vs (za o):=by
 let#[I,_,hd,vs,r,o',es,ep,h1,h2,G,L]:=(show bT P w H h a (.cH o (.dK kvs))from ok a _ e);rw[I]at h1;cases h1;have J:za o=ep:=(by unfold za;rw[G]);show#[hd,vs,r,o,es,I,h2,by rw[J];show G,L]
theorem yG {P:IF}{w:Ll}{K:PySem.W.Frag}{tg:LC}(a G:Addr) (a0:a≠G) (o:Obj) (kvs:List (Key×V)):Turn P w K tg (Fx a o kvs) [G] G (λi h=>h.IsKeyIter G a i kvs.length (za o)) where
 mem:=by simp
 obj:=λi h st b J=>by
  have e:b=G:=(by simpa using J);subst e;let#[ob,h1,_,h3]:=st;show#[ob,h1,λv z=>by rw[h3]at z;cases z]
 keep:=λi h h' st k=>st.at λo e=>k G (by simp) o e
 item:=by
  intro X S Y R hc i pins s σ H E I L st N;subst S Y R;let#[ac,am]:=N;let#[U,f1,f2,f3,f4,O]:=L G (by simp);let#[hd,vs,r,da]:=kR I.bC ac;have ab:=r.length;obtain⟨⟨k,x⟩,hx⟩:∃p,vs[i]?=some p:=#[vs[i]'af,by simp];have as:∃v,kvs[i]?=some (k,v):=by
   have hi:i<kvs.length:=am;show#[(kvs[i]).2,?_];have e:=r.keys;have e1:(kvs.map (·.1))[i]?=(vs.map (·.1))[i]?:=(by rw[e]);rw[K4,K4,hx,Lb hi]at e1;have e2:kvs[i].1=k:=Option.some.inj e1;rw[Lb hi, <-e2]
  let#[v,hv]:=as;rw[ab]at st ⊢;show wpAny_pyNext_dict_item st da hx λa1 h' aT ap aB=>?_;have I1:Inv X pins σ H { s with heap:=h',toks:=s.toks }:=I.turned (λb o J e=>(aB.2 b J).trans e) U f1 f3 f4 O;let#[ob,h1,h2,h3]:=id ap;show#[0,ph (s:={ s with heap:=h' }) (n := "dict_keyiterator") h1 h2 h3 av #[kV k,H,I1,rO aT,#[rfl,k,v,hv,rfl],ap,λb J=>(L b J).1]]
 done:=by
  intro X S Y R hc i pins s σ H E I L st N;subst S Y R;let#[ac,am]:=N;let#[U,f1,f2,f3,f4,O]:=L G (by simp);let#[hd,vs,r,da]:=kR I.bC ac;have ab:=r.length;rw[ab]at st;show wpAny_pyNext_dict_end (I.ok.hd hc) st da (by simp;omega) λh' eb=>#[rfl,I.turned (t':=s.toks) (λb o J e=>eb b o J e) U f1 f3 f4 O]
 self:=λ_ _ _ _ _ st h=>wpAny_pyIter_keyiter st h
noncomputable def IJ (H₀:Hp) (td:TE):TI:=λσ H R=>td σ H λx H1=>Bb λa kvs=>Ia (x=.ref a) (H1 a=some (.dK kvs)) ((∀o G,H₀ a≠some (.cH o G))) (∀o,R (Fx a o kvs) (upd H1 a (.cH o (.dK kvs))))
section
variable {X:Cx}{tg:LC}
theorem qp {l:LC}{td:TE}(Y:PE X l td):PI X tg l (IJ X.H₀ td):=by
 intro pins s σ H R I h;show bS (Y pins s σ H _ I h) λv G ac=>?_;let#[x,H1,N,U,a,kvs,e,L,hn,q]:=ac;subst e;cases U;let#[_,hd,vs,ab,dd]:=gY N.bC L;let#[ob,es,ep,h1,h2,S,h4]:=id dd;have J:=N.freeze L h1 hn;have lt:a<G.heap.objs.size:=Heap.lt_size h1;have da:G.heap.DictAt (bu X.prog X.w) a vs (za ob):=#[ob,es,h1,h2,by unfold za;rw[S],h4];show wpAny_pyIter_dict hd da ?_;show#[G.heap.objs.size,[G.heap.objs.size],_,Fx a ob kvs,0,J.kept (t':=G.toks) λb o e=>Heap.get?_push_of_some _ e,yG a _ (LM lt) ob kvs,#[_,Heap.get?_push_size _ rfl,4],λb O=>?_,q ob]
 .rw[ab.length];rfl
 .have e:b=G.heap.objs.size:=(by simpa using O);subst e;show J.j5 (HC _) (J.bC.fresh (HC _))
noncomputable def HZ (H₀:Hp) (t:TS):TS:=λD σ H=>t { D with
 nx:=λI H'=>∃a o kvs,H' a=some (.cH o (.dK kvs))/\(∀o G,H₀ a≠some (.cH o G))/\D.nx I (upd H' a (.dK kvs))
 rt:=λv H'=>∃a o kvs,H' a=some (.cH o (.dK kvs))/\(∀o G,H₀ a≠some (.cH o G))/\D.rt v (upd H' a (.dK kvs)) } σ H
theorem lP {st:LI}{t:TS}(h:PS X st t):PS X st (HZ X.H₀ t):=by
 intro pins s σ H D I q;show bS (h pins s σ H _ I q) λf S G=>?_;cases f with
 |next =>
  let#[L,H',N,a,o,kvs,O,R,J]:=G;show#[L,_,N.Fn O R,J]
 |ret u =>
  let#[v,L,H',N,r,a,o,kvs,O,R,J]:=G;show#[v,L,_,N.Fn O R,r,J]
 |brk=>show G
 |cont=>show G
end
theorem tV {a:Addr}{o:Obj}{kvs:List (Key×V)}{g:TG}{tb:TS}{D:Ends}{σ:St}{H:Hp}(Pv:Nat->St->Hp->Prop) (O:Pv 0 σ H) (S:∀i σ H,i<=kvs.length->Pv i σ H->H a=some (.cH o (.dK kvs)))
  (hs:∀i k v σ H,kvs[i]?=some (k,v)->Pv i σ H->g (kV k) σ H λI H2=>tb { D with nx:=Pv (i+1),ct:=Pv (i+1),bk:=D.nx } I H2) (hd:∀σ H,Pv kvs.length σ H->D.nx σ H) :
  ∃W:Nat->Nat->St->Hp->Prop,(∃m,W 0 m σ H)/\∀i m σ H,W i m σ H ->
   ((Fx a o kvs).stop i H/\D.nx σ H)\/((Fx a o kvs).go i H/\∃N:St->Hp->Prop,(∀G H',N G H'->∃L,L<m/\W (i+1) L G H')/\∀x H',(Fx a o kvs).DJ i H x H'->g x σ H' λI H2=>tb { D with nx:=N,ct:=N,bk:=D.nx } I H2):=by
 show#[λi m σ H=>m=kvs.length-i/\i<=kvs.length/\Pv i σ H,#[kvs.length,by simp,LD _,O],?_];rintro i m σ H ⟨rfl,hi,p⟩;have q:=S i σ H hi p;by_cases J:i<kvs.length
 .show .inr #[#[q,J],Pv (i+1),λG H' R=>#[kvs.length-(i+1),af,rfl,J,R],λx H' y=>?_];let#[e,k,v,U,ex]:=y;subst e ex;show hs i k v σ _ U p
 .have e:i=kvs.length:=af;subst e;show .inl #[#[q,HC _],hd σ H p]
section
variable {X:Cx}
inductive HI (K:PySem.W.Frag) (x:V) (y:V) (H:Hp) (Q:VK):Prop
 |mk (p:_) (q:_) (xs:_) (ys:_) (_:x=.ref p) (_:y=.ref q) (_:bA K H p xs) (_:bA K H q ys) (_:xs.all eI=true) (_:ys.all eI=true) (_:Q (.bl (!jh xs ys)) H):HI K x y H Q
theorem E6 (U:X.A.units<NG):lC X (Ms .NotEq) (HI X.K):=by
 intro pins s σ H x y v u Q I rx ry h;let#[p,q,xs,ys,rfl,rfl,hx,hy,fx,fy,S]:=h;cases rx;cases ry;let#[its,r,pl,hz]:=I.list hx;let#[O,L,N,ap]:=I.list hy;have R:=r.length;have ab:=L.length;by_cases e:xs.length=ys.length
 .show PySem.SeqAt.RcNeAt.lists (e:=λj=>lN (xs.getD j .non) (ys.getD j .non)) pl.isList N.isList (by rw[G1,G1];omega) U (λj h1 h2=>?_) _ _ _ _ #[.bl (!jh xs ys),H,I,?_,S]
  .have G:j<xs.length:=(by rw[G1]at h1;omega);have J:j<ys.length:=af;let#[a,ea,ra]:=r.get (i:=j) (x:=xs[j]) (by simp[G]);let#[b,eb,Y]:=L.get (i:=j) (x:=ys[j]) (by simp[J]);let#[_,ac]:=List.getElem?_eq_some_iff.mp ea;let#[_,am]:=List.getElem?_eq_some_iff.mp eb;have g1:xs.getD j .non=xs[j]:=(by simp[G]);have g2:ys.getD j .non=ys[j]:=(by simp[J]);change OT _ _ its.toArray[j] O.toArray[j] (lN (xs.getD j .non) (ys.getD j .non));rw[g1,g2];have f1:eI xs[j]=true:=List.all_eq_true.mp fx _ (MB G);have f2:eI ys[j]=true:=List.all_eq_true.mp fy _ (MB J);have z:=rW (A:=X.A.in1) (s:=s) ra Y f1 f2;have a1:its.toArray[j]=a:=(by simpa using ac);have a2:O.toArray[j]=b:=(by simpa using am);rw[a1,a2];show z
  .change Value.bool _=Value.bool _;rw[G1, <-R,jo e]
 .show PySem.SeqAt.RcNeAt.lists_lengths pl.isList N.isList ?_ U _ _ _ _ #[.bl (!jh xs ys),H,I,?_,S]
  .rw[G1,G1, <-R, <-ab];show bne_iff_ne.mpr e
  .change Value.bool _=Value.bool _;rw[mi e];rfl
end
noncomputable def Ge (lo st:Int) (n:Nat):It:=#[λi _=>i<n,λi H x H'=>H'=H/\x=.int (lo+i*st),λi _=>n<=i]
theorem tI {P:IF}{w:Ll}{K:PySem.W.Frag}{tg:LC}(G:Addr) (lo st:Int) (n:Nat):Turn P w K tg (Ge lo st n) [G] G (λi h=>Pa h G (lo+(i:Nat)*st) ((n:Int)-(i:Nat)) st) where
 mem:=by simp
 obj:=λi h st b J=>by
  have e:b=G:=(by simpa using J);subst e;show#[_,st,λv z=>by
   have z':NV _=NO v:=z;cases z']
 keep:=λi h h' st k=>k G (by simp) _ st
 item:=by
  intro X U hw S hc i pins s σ H E I L O N;subst U hw S;let#[Y,f1,f2,f3,f4,R]:=L G (by simp);have W:=QP (prog:=X.prog) (w:=X.w) (I.ok.hd hc) G lo st n;show W.item i s _ _ N O λv h' tk hv ab kk=>?_;let#[t,rfl]:=hv;have I1:Inv X pins σ H { s with heap:=h',toks:=tk }:=I.turned (λb o J e=>kk b o (by simpa using J) e) Y f1 f3 f4 R;show#[0,ph (s:={ s with heap:=h',toks:=tk }) (n := "range_iterator") ab rfl rfl av #[.int (lo+i*st),H,I1,#[t,rfl],#[1],ab,λb J=>(L b J).1]]
 done:=by
  intro X U hw S hc i pins s σ H E I L O N;subst U hw S;let#[Y,f1,f2,f3,f4,R]:=L G (by simp);show OH (I.ok.hd hc) O (by have:n<=i:=N;omega) λh' eb=>#[rfl,I.turned (t':=s.toks) (λb o J e=>eb b o J e) Y f1 f3 f4 R]
 self:=λ_ _ _ _ _ st h=>OI st h
noncomputable def Io (ta:TA):TI:=λσ H R=>ta σ H λvs H1=>∃(i j st:Int) (n:Nat),vs=[.int i,.int j,.int st]/\Builtin.Range.small i j st=true/\Builtin.Range.rangeSize i j st=(n:Int)/\st≠0/\Builtin.divisionGoesByPylong (j-i) st=false/\R (Ge i st n) H1
section
variable {X:Cx}{tg:LC}
theorem y8 {a b c:LC}{ta:TA}{p pos:Nu}(S:Gl X "range") (hm:X.mg "range" = none) (ha:PA X [a,b,c] ta) (hs:starEach [a,b,c] X.env=[(false,eval a X.env),(false,eval b X.env),(false,eval c X.env)]:=by rfl) (O:starEach [b,c] X.env=[(false,eval b X.env),(false,eval c X.env)]:=by rfl) :
  PI X tg (.Call (.Name "range" p) [a,b,c] [] pos) (Io ta):=by
 intro pins s σ H R I h;show Call_ (hU I S hm Qm (LZ (bS (ha pos pins s σ H _ I h) λus J ⟨vs,H1,I1,r1,L⟩=>?_) (by rw[hs,O]) (by rw[O];rfl)));let#[i,j,st,n,e,L,q2,q3,q4,q]:=L;subst e;cases r1 with
 |cons r G =>
  cases G with
  |cons r' G =>
   cases G with
   |cons ac G =>
    cases G;let#[t,rfl]:=r;let#[t',rfl]:=r';let#[ab,rfl]:=ac;show call_range_3 q3 ?_ (.inl q4);show Pz (QR ..) L ?_;have N:Inv X pins σ H1 { J with heap:=J.heap.push { cls:=.type "range",data:=.fields ([.int i t,.int j t',.int st ab].toArray) },toks:=J.toks }:=I1.kept λb o e=>Heap.get?_push_of_some _ e;show#[_,[_],2,H1,rfl,N.kept (t':=J.toks) λb o e=>Heap.get?_push_of_some _ e,tI _ i st n,?_,λb U=>?_,q]
    .have Y:i+((0:Nat):Int)*st=i:=(by simp);have e2:(n:Int)-((0:Nat):Int)=Builtin.Range.rangeSize i j st:=(by rw[q2];omega);change Pa _ _ (i+((0:Nat):Int)*st) ((n:Int)-((0:Nat):Int)) st;rw[Y,e2];show Heap.get?_push_size _ rfl
    .have e:=List.mem_singleton.mp U;subst e;show N.j5 (HC _) (N.bC.fresh (HC _))
end
theorem AE (K:PySem.W.Frag):Nz K (.type "int") (.type "tuple")=some false:=by with_unfolding_all rfl
theorem Bc (K:PySem.W.Frag):Nz K (.type "int") (.type "list")=some false:=by with_unfolding_all rfl
theorem AJ (K:PySem.W.Frag):Nz K (.type "int") (.type "dict")=some false:=by with_unfolding_all rfl
theorem AO (K:PySem.W.Frag):Nz K (.type "str") (.type "tuple")=some false:=by with_unfolding_all rfl
theorem Bg (K:PySem.W.Frag):Nz K (.type "str") (.type "list")=some false:=by with_unfolding_all rfl
theorem Af (K:PySem.W.Frag):Nz K (.type "str") (.type "dict")=some false:=by with_unfolding_all rfl
theorem As (K:PySem.W.Frag):Nz K (.type "NoneType") (.type "tuple")=some false:=by with_unfolding_all rfl
theorem Aj (K:PySem.W.Frag):Nz K (.type "NoneType") (.type "list")=some false:=by with_unfolding_all rfl
theorem zl (K:PySem.W.Frag):Nz K (.type "NoneType") (.type "dict")=some false:=by with_unfolding_all rfl
theorem Er (K:PySem.W.Frag):Nz K (.type "tuple") (.type "tuple")=some true:=rfl
end L2
namespace Srt
open PySem PyProof.Rows
structure SI (a₀:Array Lk) (st:LN):Prop where
 perm:(Lj st).Perm a₀
 kind:kindOf st=Nx
 failed:Ny st=none
structure Ks (a₀:Array Lk):Prop where
 ik:IntKeys a₀
 nd:(a₀.toList.map λp=>Na p.1).Nodup
noncomputable def kX (xs:Array Lk) (lo hi:Nat):Prop:=∀i j,lo<=i->i<=j->j<hi->K xs i<=K xs j
theorem SI.size {a₀:Array Lk}{st:LN}(h:SI a₀ st):(Lj st).size=a₀.size:=h.perm.size_eq
theorem vD {a₀ xs:Array Lk}(J:xs.Perm a₀) (k:Ks a₀) {i:Nat}(hi:i<xs.size):∃t q,xs[i]?=some (.int (K xs i) t,q):=by
 have G:xs[i]∈a₀.toList:=(MF.mp J).mem_iff.mp (by simp);let#[n,t,L]:=k.ik _ G;have e:xs[i]?=some xs[i]:=getElem?_pos _ i hi;have I:xs[i]=(.int n t,xs[i].2):=PX L rfl;show#[t,xs[i].2,?_];unfold K;rw[e,I];rfl
theorem key_ne {a₀ xs:Array Lk}(L:xs.Perm a₀) (k:Ks a₀) {i j:Nat}(hi:i<j) (G:j<xs.size):K xs i≠K xs j:=by
 have I:=(MF.mp L).map λp:Lk=>Na p.1;have J:(xs.toList.map λp=>Na p.1).Nodup:=I.nodup_iff.mpr k.nd;have h1:i<xs.size:=af;have a:=List.pairwise_iff_getElem.mp J i j (by simpa using h1) (by simpa using G) hi;unfold K;rw[getElem?_pos xs i h1,getElem?_pos xs j G];simpa using a
theorem SI.setArr {a₀:Array Lk}{st:LN}(h:SI a₀ st) {xs:Array Lk}(G:xs.Perm (Lj st)):SI a₀ (setArr st xs):=#[G.trans h.perm,h.kind,h.failed]
section
variable {prog:IF}{w:Ll}{A:Lq}{E:Value->By->Prop}{s:By}{a₀:Array Lk}
theorem rC {st:LN}{x y:Lk}{a b:Int}{t u:QW}{Q:Option Bool->LN->Prop}(G:kindOf st=Nx) (I:x.1=.int a t) (J:y.1=.int b u) (h:Q (some (decide (a<b))) st) :
  QN (model prog w) A E s (lt' x y) Q st:=by
 rw[lt'_eq];show DO (NJ ?_);rw[G,keyLt'_oneType,I,J];show DO (Ox (wpAny_attempt (oneLt_int #[rfl,D3 h])))
theorem bw {st:LN}{xs:Array Lk}{i:Nat}{p:Lk}{Q:Lk->LN->Prop}(hi:xs[i]?=some p) (h:Q p st):QN (model prog w) A E s (elem' xs i) Q st:=by
 rw[elem'_eq,hi];show D3 h
theorem pV {st:LN}{i j:Nat}{Q:Option Bool->LN->Prop}(S:SI a₀ st) (k:Ks a₀) (hi:i<a₀.size) (G:j<a₀.size) (h:Q (some (decide (K (Lj st) i<K (Lj st) j))) st) :
  QN (model prog w) A E s (ltAt' i j) Q st:=by
 let#[t,p,J]:=vD S.perm k (by rw[S.size];show hi);let#[u,q,I]:=vD S.perm k (by rw[S.size];show G);show wpS_ltAt S.kind J I h
structure Cut (a₀:Array Lk) (st st':LN) (lo:Nat):Prop where
 S:SI a₀ st'
 pre:∀i,i<lo->(Lj st')[i]?=(Lj st)[i]?
 pend:Lu st'=Lu st
theorem ze {st:LN}{lo nrem:Nat}{Q:Option Nat->LN->Prop}(S:SI a₀ st) (k:Ks a₀) (hn:lo+nrem<=a₀.size) (h1:1<=nrem)
  (h:∀m G,Cut a₀ st G lo->1<=m->m<=nrem->kX (Lj G) lo (lo+m)->Q (some m) G):QN (model prog w) A E s (countRun' lo nrem) Q st:=by
 rw[countRun'_eq];show DO (Mr (LQ (I:=λx c G=>sj (G=st) (c=(none,x)) (kX (Lj st) lo (lo+x))) (Q:=λc G=>G=st/\∃n,c=(none,n)/\1<=n/\n<=nrem/\kX (Lj st) lo (lo+n)/\(n=nrem\/K (Lj st) (lo+n)<K (Lj st) (lo+n-1))) ?_ ?_ ?_) ?_)
 .rintro x c G Y am ⟨rfl,rfl,hs⟩;dsimp only;show DO (pV S k af af ?_);by_cases c:K (Lj G) (lo+x)<K (Lj G) (lo+x-1)
  .simp only[c,decide_true,if_true];show D3 #[rfl,x,rfl,Y,af,hs,.inr c]
  .simp only[c,decide_false,Mt,if_false];show D3 #[1,λi j hi N R=>?_];by_cases z:j<lo+x
   .show hs i j hi N z
   .by_cases U:i=j
    .rw[U];show Int.le_refl _
    .have:=hs i (lo+x-1) hi af af;have O:j=lo+x:=af;rw[O];lia
 .rintro c G ⟨rfl,rfl,hs⟩;rw[show max 1 nrem=nrem by lia]at hs ⊢;show#[rfl,nrem,rfl,h1,HC _,hs,.inl rfl]
 .show#[1,λi j hi N R=>by rw[show i=j by lia];show Int.le_refl _]
 .rintro c G ⟨rfl,n,rfl,n1,n2,hs,ap⟩;dsimp only;by_cases e:n=nrem
  .rw[Q0 (by simpa using e)];show D3 (h n G #[S,λ_ _=>rfl,rfl] n1 n2 hs)
  .rw[QZ (by simpa using e)];have as:=ap.resolve_left e;by_cases g:n>1
   .rw[Q0 g];show DO (pV S k af af ?_);have r:K (Lj G) lo<K (Lj G) (lo+n-1):=by
     have a:=hs lo (lo+n-1) (HC _) af (by omega +splitNatSub);have b:=key_ne S.perm k (i:=lo) (j:=lo+n-1) (by omega +splitNatSub) (by rw[S.size];lia);lia
    simp only[r,decide_true,if_true];show D3 (h n G #[S,λ_ _=>rfl,rfl] n1 n2 hs)
   .rw[QZ g];have e1:n=1:=af;subst e1;show DO (Ox (NB #[4]));have aB:∀i j,lo<=i->i<=j->j<lo+2->K (Lj G) j<=K (Lj G) i:=λi j hi N R=>by
     by_cases z:i=j
     .rw[z];show Int.le_refl _
     .have ei:i=lo:=af;have O:j=lo+1:=af;rw[ei,O];show Int.le_of_lt as
    show DO (Mr (LQ (I:=λx c J=>sj (J=G) (c=(none,x,0)) (∀i j,lo<=i->i<=j->j<lo+x->K (Lj G) j<=K (Lj G) i)) (Q:=λc J=>J=G/\∃n,c=(none,n,0)/\2<=n/\n<=nrem/\∀i j,lo<=i->i<=j->j<lo+n->K (Lj G) j<=K (Lj G) i) ?_ ?_ ?_) ?_)
    .rintro x c J Y am ⟨rfl,rfl,hd⟩;dsimp only;show DO (pV S k af af ?_);by_cases c:K (Lj J) (lo+x)<K (Lj J) (lo+x-1)
     .simp only[c,decide_true,if_true];rw[QZ af];show D3 #[1,λi j hi N R=>?_];by_cases z:j<lo+x
      .show hd i j hi N z
      .by_cases U:i=j
       .rw[U];show Int.le_refl _
       .have:=hd i (lo+x-1) hi af af;have O:j=lo+x:=af;rw[O];lia
     .simp only[c,decide_false,Mt,if_false];show DO (pV S k af af ?_);have r:K (Lj J) (lo+x-1)<K (Lj J) (lo+x):=by
       have b:=key_ne S.perm k (i:=lo+x-1) (j:=lo+x) (by omega +splitNatSub) (by rw[S.size];lia);lia
      simp only[r,decide_true,if_true];show D3 #[rfl,x,rfl,Y,af,hd]
    .rintro c J ⟨rfl,rfl,hd⟩;rw[show max (1+1) nrem=nrem by lia]at hd ⊢;show#[rfl,nrem,rfl,af,HC _,hd]
    .show#[1,aB]
    .rintro c J ⟨rfl,n,rfl,m1,m2,hd⟩;dsimp only;rw[QZ af];show DO (wpS_reverse ?_);have hsz:lo+n<=(Lj J).size:=(by rw[S.size];lia);have S3:=S.setArr (mirror_perm (Lj J) lo (lo+n) ((lo+n-lo)/2));have C3:Cut a₀ J (setArr J (Qx (Lj J) lo (lo+n) ((lo+n-lo)/2))) lo:=by
      show#[S3,λi hi=>?_,rfl];change(Qx (Lj J) lo (lo+n) ((lo+n-lo)/2))[i]?=_;rw[getElem?_mirror_all hsz,QZ af]
     have ac:kX (Lj (setArr J (Qx (Lj J) lo (lo+n) ((lo+n-lo)/2)))) lo (lo+n):=λi j hi N R=>by
      change K (Qx (Lj J) lo (lo+n) ((lo+n-lo)/2)) i<=K (Qx (Lj J) lo (lo+n) ((lo+n-lo)/2)) j;rw[K_mirror hsz,K_mirror hsz,Q0 af,Q0 af];show hd _ _ (by omega +splitNatSub) (by omega +splitNatSub) (by omega +splitNatSub)
     generalize setArr J (Qx (Lj J) lo (lo+n) ((lo+n-lo)/2))=ab at S3 C3 ac ⊢;show DO (Mr (LQ (I:=λx c L=>sj (L=ab) (c=(none,x)) (kX (Lj ab) lo (lo+x))) (Q:=λc L=>L=ab/\∃m,c=(none,m)/\1<=m/\m<=nrem/\kX (Lj ab) lo (lo+m)) ?_ ?_ ?_) ?_)
     .rintro x c L Y am ⟨rfl,rfl,hs⟩;dsimp only;show DO (pV S3 k af af ?_);by_cases c:K (Lj L) (lo+x)<K (Lj L) (lo+x-1)
      .simp only[c,decide_true,if_true];show D3 #[rfl,x,rfl,af,af,hs]
      .simp only[c,decide_false,Mt,if_false];show D3 #[1,λi j hi N R=>?_];by_cases z:j<lo+x
       .show hs i j hi N z
       .by_cases U:i=j
        .rw[U];show Int.le_refl _
        .have:=hs i (lo+x-1) hi af af;have O:j=lo+x:=af;rw[O];lia
     .rintro c L ⟨rfl,rfl,hs⟩;rw[show max n nrem=nrem by lia]at hs ⊢;show#[rfl,nrem,rfl,h1,HC _,hs]
     .show#[1,ac]
     .rintro c L ⟨rfl,m,rfl,q1,q2,hs⟩;show D3 (h m L C3 q1 q2 hs)
theorem Ar {st:LN}{lo n ok:Nat}{Q:Bool->LN->Prop}(S:SI a₀ st) (k:Ks a₀) (hn:lo+n<=a₀.size) (h1:1<=ok) (bC:ok<=n) (hs:kX (Lj st) lo (lo+ok))
  (h:∀G,Cut a₀ st G lo->kX (Lj G) lo (lo+n)->Q true G):QN (model prog w) A E s (binarySort' lo n ok) Q st:=by
 rw[binarySort'_eq];show DO (Mr (LQ (I:=λx c G=>sj (c=(none,())) (Cut a₀ st G lo) (kX (Lj G) lo (lo+x))) (Q:=λc G=>sj (c=(none,())) (Cut a₀ st G lo) (kX (Lj G) lo (lo+n))) ?_ ?_ ?_) ?_)
 .rintro x c G as aB ⟨rfl,C,L⟩;have U:lo+x<(Lj G).size:=(by rw[C.S.size];lia);show DO (Mr (LQ (I:=λy c J=>J=G/\∃l r,c=(none,l,r)/\l<=r/\r<=x/\r-l<=x-y/\(∀i,lo<=i->i<lo+l->K (Lj G) i<=K (Lj G) (lo+x))/\∀i,lo+r<=i->i<lo+x->K (Lj G) (lo+x)<K (Lj G) i)
   (Q:=λc J=>J=G/\∃l,c=(none,l,l)/\l<=x/\(∀i,lo<=i->i<lo+l->K (Lj G) i<=K (Lj G) (lo+x))/\∀i,lo+l<=i->i<lo+x->K (Lj G) (lo+x)<K (Lj G) i) ?_ ?_ ?_) ?_)
  .rintro y c J am ap ⟨rfl,l,r,rfl,lr,Y,hm,O,N⟩;dsimp only;by_cases g:l>=r
   .rw[Q0 g];obtain rfl:l=r:=af;show D3 #[rfl,l,rfl,Y,O,N]
   .rw[QZ g];show DO (pV C.S k af af ?_);by_cases c:K (Lj J) (lo+x)<K (Lj J) (lo+(l+r)/2)
    .simp only[c,decide_true,if_true];show D3 #[rfl,l,(l+r)/2,rfl,af,af,by omega +splitNatSub,O,λi hi ac=>?_];have:=L (lo+(l+r)/2) i af hi (by omega +splitNatSub);lia
    .simp only[c,decide_false,Mt,if_false];show D3 #[rfl,(l+r)/2+1,r,rfl,af,by omega +splitNatSub,by omega +splitNatSub,λi hi ac=>?_,N];have:=L i (lo+(l+r)/2) hi af af;lia
  .rintro c J ⟨rfl,l,r,rfl,lr,Y,hm,O,N⟩;obtain rfl:l=r:=af;show#[rfl,l,rfl,Y,O,N]
  .show#[rfl,(0),x,rfl,af,af,af,λi hi ab=>by lia,λi hi ab=>by lia]
  .rintro c J ⟨rfl,l,rfl,lx,O,N⟩;dsimp only;rw[moveDown'_eq];show DO (Nc (D3 #[rfl,#[C.S.setArr (bubble_perm _ _ _),λi hi=>?_,C.pend],λi j hi aT hj=>?_]))
   .change(bubble (Lj J) (lo+x) (lo+x-(lo+l)))[i]?=_;rw[getElem?_bubble U _ (by omega +splitNatSub),QZ (by omega +splitNatSub),QZ (by omega +splitNatSub)];show C.pre i hi
   .change K (bubble (Lj J) (lo+x) (lo+x-(lo+l))) i<=K (bubble (Lj J) (lo+x) (lo+x-(lo+l))) j;rw[K_bubble U af,K_bubble U af,show lo+x-(lo+x-(lo+l))=lo+l by lia];by_cases c1:i=lo+l
    .rw[Q0 c1];by_cases R:j=lo+l
     .rw[Q0 R];show Int.le_refl _
     .rw[QZ R,Q0 af];have:=N (j-1) af af;lia
    .rw[QZ c1];by_cases R:j=lo+l
     .rw[Q0 R,QZ af];show O i hi af
     .rw[QZ R];by_cases c3:lo+l<i/\i<=lo+x
      .rw[Q0 c3,Q0 af];show L _ _ af (by omega +splitNatSub) (by omega +splitNatSub)
      .rw[QZ c3];by_cases c4:lo+l<j/\j<=lo+x
       .rw[Q0 c4];show L _ _ (by omega +splitNatSub) af af
       .rw[QZ c4];show L _ _ (by omega +splitNatSub) (by omega +splitNatSub) af
 .rintro c G ⟨rfl,C,L⟩;rw[show max (max ok 1) n=n by lia]at L;show#[rfl,C,L]
 .rw[show max ok 1=ok by lia];show#[rfl,#[S,λ_ _=>rfl,rfl],hs]
 .rintro c G ⟨rfl,C,L⟩;show D3 (h G C L)
end
noncomputable def Co:Bool->Lk->Array Lk->Nat->Nat->Nat->StateT LN Om (Option Nat):=sortPriv% PySem.Builtin.gallop
noncomputable def gj (left:Bool) (a:Int) (xs:Array Lk) (base i:Nat):Bool:=if left then decide (K xs (base+i)<a)else !decide (a<K xs (base+i))
section
variable {prog:IF}{w:Ll}{A:Lq}{E:Value->By->Prop}{s:By}{a₀:Array Lk}
noncomputable def qt (left:Bool) (G:Lk) (xs:Array Lk) (base i:Nat):StateT LN Om (Option Bool):=
 bind (elem' xs (base+i)) λx=>ite (left=true) (lt' x G) (bind (lt' G x) λr=>pure (Option.map (λb => !b) r))
theorem Fy {st:LN}{left:Bool}{I:Lk}{a:Int}{t u:QW}{q:Value}{xs:Array Lk}{base i:Nat}{Q:Option Bool->LN->Prop}(G:kindOf st=Nx) (J:I.1=.int a t) (L:xs[base+i]?=some (.int (K xs (base+i)) u,q))
  (h:Q (some (gj left a xs base i)) st):QN (model prog w) A E s (qt left I xs base i) Q st:=by
 unfold qt;show DO (bw L ?_);unfold gj at h;cases left with
 |true=>show rC G rfl J h
 |false=>show DO (rC G J rfl (D3 h))
theorem iz {left:Bool}{a:Int}{xs:Array Lk}{base n i j:Nat}(hs:kX xs base (base+n)) (I:i<=j) (G:j<n) (h:gj left a xs base j=true):gj left a xs base i=true:=by
 have:=hs (base+i) (base+j) af af af;unfold gj at h ⊢;cases left with
 |true =>
  have z:K xs (base+j)<a:=of_decide_eq_true h;show decide_eq_true af
 |false =>
  have z:¬ a<K xs (base+j):=of_decide_eq_false (by simpa using h);change(!decide (a<K xs (base+i)))=true;rw[decide_eq_false af];rfl
theorem iP {left:Bool}{a:Int}{xs:Array Lk}{base n i j:Nat}(hs:kX xs base (base+n)) (I:i<=j) (G:j<n) (h:gj left a xs base i=false):gj left a xs base j=false:=by
 cases e:gj left a xs base j with
 |false=>rfl
 |true=>rw[iz hs I G e]at h;cases h
theorem dH {st:LN}{left:Bool}{ab:Lk}{a:Int}{t:QW}{xs:Array Lk}{base n hint:Nat}{Q:Option Nat->LN->Prop}(hk:kindOf st=Nx) (aT:ab.1=.int a t) (hx:∀i,i<n->∃t q,xs[base+i]?=some (.int (K xs (base+i)) t,q))
  (hs:kX xs base (base+n)) (hh:hint<n) (h:∀r,r<=n->(∀i,i<r->gj left a xs base i=true)->(∀i,r<=i->i<n->gj left a xs base i=false)->Q (some r) st) :
  QN (model prog w) A E s (Co left ab xs base n hint) Q st:=by
 have B:∀{i:Nat}{Q:Option Bool->LN->Prop},i<n->Q (some (gj left a xs base i)) st->QN (model prog w) A E s (qt left ab xs base i) Q st:=λhi q=>by
  let#[u,v,e]:=hx _ hi;show Fy hk aT e q
 show DO (B hh ?_);cases c:gj left a xs base hint with
 |true =>
  dsimp only;rw[Q0 rfl];show DO (Mr (LQ (I:=λx c G=>G=st/\∃l o,c=(none,l,o)/\l<o/\x+1<=o/\hint+l<n/\gj left a xs base (hint+l)=true) (Q:=λc G=>G=st/\∃l o,c=(none,l,o)/\l<o/\hint+l<n/\gj left a xs base (hint+l)=true/\(n-hint<=o\/(hint+o<n/\gj left a xs base (hint+o)=false))) ?_ ?_ ?_) ?_)
  .rintro x c G ac ap ⟨rfl,l,o,rfl,lo,xo,S,O⟩;dsimp only;by_cases g:o>=n-hint
   .rw[Q0 g];show D3 #[rfl,l,o,rfl,lo,S,O,.inl g]
   .rw[QZ g];show DO (B (i:=hint+o) af ?_);cases U:gj left a xs base (hint+o)with
    |true=>show D3 #[rfl,o,2*o+1,rfl,af,af,af,U]
    |false=>show D3 #[rfl,l,o,rfl,lo,S,O,.inr #[af,U]]
  .rintro c G ⟨rfl,l,o,rfl,lo,xo,S,O⟩;show#[rfl,l,o,rfl,lo,S,O,.inl af]
  .show#[rfl,(0),(1),rfl,af,af,hh,c]
  .rintro c G ⟨rfl,l,o,rfl,lo,S,O,am⟩;dsimp only;have f1:∀i,i<hint+l+1->gj left a xs base i=true:=λi hi=>iz hs (j:=hint+l) af S O;have f2:∀i,hint+min o (n-hint)<=i->i<n->gj left a xs base i=false:=λi hi Y=>by
    rcases am with g|⟨g1,g2⟩
    .omega +splitNatSub
    .show iP hs (i:=hint+o) af Y g2
   have f3:hint+l+1<=hint+min o (n-hint):=(by omega +splitNatSub);have f4:hint+min o (n-hint)<=n:=(by omega +splitNatSub);generalize hint+l+1=aB at f1 f3 ⊢;generalize hint+min o (n-hint)=as at f2 f3 f4 ⊢;show DO (Mr (LQ (I:=λx c R=>R=G/\∃l r,c=(none,l,r)/\l<=r/\r<=n/\r-l<=n-x/\(∀i,i<l->gj left a xs base i=true)/\∀i,r<=i->i<n->gj left a xs base i=false) (Q:=λc R=>R=G/\∃r,c=(none,r,r)/\r<=n/\(∀i,i<r->gj left a xs base i=true)/\∀i,r<=i->i<n->gj left a xs base i=false) ?_ ?_ ?_) ?_)
   .rintro x c R ac ap ⟨rfl,l,r,rfl,lr,J,hm,N,L⟩;dsimp only;by_cases g:l>=r
    .rw[Q0 g];obtain rfl:l=r:=af;show D3 #[rfl,l,rfl,J,N,L]
    .rw[QZ g];show DO (B (i:=l+(r-l)/2) af ?_);cases U:gj left a xs base (l+(r-l)/2)with
     |true=>show D3 #[rfl,l+(r-l)/2+1,r,rfl,af,J,by omega +splitNatSub,λi hi=>iz hs (j:=l+(r-l)/2) af af U,L]
     |false=>show D3 #[rfl,l,l+(r-l)/2,rfl,af,af,af,N,λi hi Y=>iP hs hi Y U]
   .rintro c R ⟨rfl,l,r,rfl,lr,J,hm,N,L⟩;obtain rfl:l=r:=af;show#[rfl,l,rfl,J,N,L]
   .show#[rfl,aB,as,rfl,f3,f4,af,f1,f2]
   .rintro c R ⟨rfl,r,rfl,J,N,L⟩;show D3 (h r J N L)
 |false =>
  dsimp only;rw[QZ av];show DO (Mr (LQ (I:=λx c G=>G=st/\∃l o,c=(none,l,o)/\l<o/\x+1<=o/\l<=hint/\gj left a xs base (hint-l)=false) (Q:=λc G=>G=st/\∃l o,c=(none,l,o)/\l<o/\l<=hint/\gj left a xs base (hint-l)=false/\(hint+1<=o\/(o<=hint/\gj left a xs base (hint-o)=true))) ?_ ?_ ?_) ?_)
  .rintro x c G ac ap ⟨rfl,l,o,rfl,lo,xo,S,O⟩;dsimp only;by_cases g:o>=hint+1
   .rw[Q0 g];show D3 #[rfl,l,o,rfl,lo,S,O,.inl g]
   .rw[QZ g];show DO (B (i:=hint-o) af ?_);cases U:gj left a xs base (hint-o)with
    |true=>show D3 #[rfl,l,o,rfl,lo,S,O,.inr #[af,U]]
    |false=>show D3 #[rfl,o,2*o+1,rfl,af,af,af,U]
  .rintro c G ⟨rfl,l,o,rfl,lo,xo,S,O⟩;show#[rfl,l,o,rfl,lo,S,O,.inl af]
  .show#[rfl,(0),(1),rfl,af,af,LD _,c]
  .rintro c G ⟨rfl,l,o,rfl,lo,S,O,am⟩;dsimp only;have f1:∀i,i<hint+1-min o (hint+1)->gj left a xs base i=true:=λi hi=>by
    rcases am with g|⟨g1,g2⟩
    .omega +splitNatSub
    .show iz hs (j:=hint-o) (by omega +splitNatSub) (by omega +splitNatSub) g2
   have f2:∀i,hint-l<=i->i<n->gj left a xs base i=false:=λi hi Y=>iP hs hi Y O;have f3:hint+1-min o (hint+1)<=hint-l:=(by omega +splitNatSub);have f4:hint-l<=n:=af;generalize hint+1-min o (hint+1)=aB at f1 f3 ⊢;generalize hint-l=as at f2 f3 f4 ⊢;show DO (Mr (LQ (I:=λx c R=>R=G/\∃l r,c=(none,l,r)/\l<=r/\r<=n/\r-l<=n-x/\(∀i,i<l->gj left a xs base i=true)/\∀i,r<=i->i<n->gj left a xs base i=false) (Q:=λc R=>R=G/\∃r,c=(none,r,r)/\r<=n/\(∀i,i<r->gj left a xs base i=true)/\∀i,r<=i->i<n->gj left a xs base i=false) ?_ ?_ ?_) ?_)
   .rintro x c R ac ap ⟨rfl,l,r,rfl,lr,J,hm,N,L⟩;dsimp only;by_cases g:l>=r
    .rw[Q0 g];obtain rfl:l=r:=af;show D3 #[rfl,l,rfl,J,N,L]
    .rw[QZ g];show DO (B (i:=l+(r-l)/2) af ?_);cases U:gj left a xs base (l+(r-l)/2)with
     |true=>show D3 #[rfl,l+(r-l)/2+1,r,rfl,af,J,by omega +splitNatSub,λi hi=>iz hs (j:=l+(r-l)/2) af af U,L]
     |false=>show D3 #[rfl,l,l+(r-l)/2,rfl,af,af,af,N,λi hi Y=>iP hs hi Y U]
   .rintro c R ⟨rfl,l,r,rfl,lr,J,hm,N,L⟩;obtain rfl:l=r:=af;show#[rfl,l,rfl,J,N,L]
   .show#[rfl,aB,as,rfl,f3,f4,af,f1,f2]
   .rintro c R ⟨rfl,r,rfl,J,N,L⟩;show D3 (h r J N L)
end
noncomputable def le (p q:Lk):Prop:=Na p.1<=Na q.1
structure Up (a:Array Lk):Prop where
 ik:IntKeys a
 up:a.toList.Pairwise le
theorem Up.at {a:Array Lk}(u:Up a) {i:Nat}(hi:i<a.size):∃t q,a[i]?=some (.int (K a i) t,q):=by
 let#[n,t,I]:=u.ik a[i] (by simp);have e:a[i]?=some a[i]:=getElem?_pos _ i hi;have G:a[i]=(.int n t,a[i].2):=PX I rfl;show#[t,a[i].2,?_];unfold K;rw[e,G];rfl
theorem Up.I0 {a:Array Lk}(u:Up a):kX a 0 a.size:=λi j _ I G=>by
 by_cases e:i=j
 .rw[e];show Int.le_refl _
 .have hi:i<a.size:=af;have z:=List.pairwise_iff_getElem.mp u.up i j (by simpa using hi) (by simpa using G) af;rw[K_eq hi,K_eq G];simpa[le]using z
theorem kX.sub {a:Array Lk}{lo hi I G:Nat}(h:kX a lo hi) (h1:lo<=I) (h2:G<=hi):kX a I G:=λi j hi J L=>h i j af J af
structure MI (a b out:Array Lk) (ia ib:Nat):Prop where
 la:ia<=a.size
 lb:ib<=b.size
 pm:(out.toList++a.toList.drop ia++b.toList.drop ib).Perm (a.toList++b.toList)
 up:out.toList.Pairwise le
 ba:∀p∈out.toList,∀q∈a.toList.drop ia,le p q
 bb:∀p∈out.toList,∀q∈b.toList.drop ib,le p q
theorem MI.sz {a b out:Array Lk}{I G:Nat}(m:MI a b out I G):out.size+(a.size-I)+(b.size-G)=a.size+b.size:=by
 have:=m.pm.length_eq;simp at this;lia
theorem MI.sZ {a b out R:Array Lk}{G O:Nat}(m:MI a b out G O) (U:Up a) {k:Nat}(Y:G+k<=a.size) (L:R.toList=out.toList++(a.toList.drop G).take k) (h:∀p∈(a.toList.drop G).take k,∀q∈b.toList.drop O,le p q):MI a b R (G+k) O:=by
 have hd:a.toList.drop (G+k)=(a.toList.drop G).drop k:=(by rw[List.drop_drop]);have N:(a.toList.drop G).Pairwise le:=U.up.sublist (N1 _ _);have S:=N;rw[<-Mu k (a.toList.drop G)]at S;let#[p1,p2,p3]:=List.pairwise_append.mp S;show#[Y,m.lb,3,λp J q I=>?_,λp J q I=>?_]
 .rw[L,hd,LJ out.toList,Mu];show m.pm
 .rw[L,Ma];show#[m.up,p1,λp N q I=>m.ba p N q (List.mem_of_mem_take I)]
 .rw[hd]at I;rw[L]at J;rcases List.mem_append.mp J with z|z
  .show m.ba p z q (List.mem_of_mem_drop I)
  .show p3 p z q I
 .rw[L]at J;rcases List.mem_append.mp J with z|z
  .show m.bb p z q I
  .show h p z q I
theorem MI.tq {a b out R:Array Lk}{N G:Nat}(m:MI a b out N G) (U:Up b) {k:Nat}(Y:G+k<=b.size) (L:R.toList=out.toList++(b.toList.drop G).take k) (h:∀p∈(b.toList.drop G).take k,∀q∈a.toList.drop N,le p q):MI a b R N (G+k):=by
 have hd:b.toList.drop (G+k)=(b.toList.drop G).drop k:=(by rw[List.drop_drop]);have O:(b.toList.drop G).Pairwise le:=U.up.sublist (N1 _ _);have S:=O;rw[<-Mu k (b.toList.drop G)]at S;let#[p1,p2,p3]:=List.pairwise_append.mp S;show#[m.la,Y,3,λp J q I=>?_,λp J q I=>?_]
 .show List.Perm.trans ?_ m.pm;rw[L,hd];have e:b.toList.drop G=(b.toList.drop G).take k++(b.toList.drop G).drop k:=(Mu _ _).symm
  conv=>rhs;rw[e]
  generalize (b.toList.drop G).take k=T;generalize (b.toList.drop G).drop k=D;rw[LJ,LJ,LJ];show List.Perm.append_left _ ?_;rw[<-LJ, <-LJ];show List.Perm.append_right _ Nr
 .rw[L,Ma];show#[m.up,p1,λp O q I=>m.bb p O q (List.mem_of_mem_take I)]
 .rw[L]at J;rcases List.mem_append.mp J with z|z
  .show m.ba p z q I
  .show h p z q I
 .rw[hd]at I;rw[L]at J;rcases List.mem_append.mp J with z|z
  .show m.bb p z q (List.mem_of_mem_drop I)
  .show p3 p z q I
noncomputable def Good (a b R:Array Lk):Prop:=R.toList.Perm (a.toList++b.toList)/\R.toList.Pairwise le
theorem dJ {a:Array Lk}{i:Nat}{q:Lk}(h:q∈a.toList.drop i):∃j,i<=j/\j<a.size/\Na q.1=K a j:=by
 let#[n,I,e]:=List.mem_iff_getElem.mp h;have G:i+n<a.size:=by
  rw[Mv]at I;simp at I;omega +splitNatSub
 show#[i+n,af,G,?_];rw[K_eq G, <-e,List.getElem_drop];simp
theorem dN {a:Array Lk}{i k:Nat}{q:Lk}(h:q∈(a.toList.drop i).take k):∃j,j<k/\i+j<a.size/\Na q.1=K a (i+j):=by
 let#[n,I,e]:=List.mem_iff_getElem.mp h;rw[Lp,Mv]at I;simp at I;have G:i+n<a.size:=(by omega +splitNatSub);show#[n,by omega +splitNatSub,G,?_];rw[K_eq G, <-e,NK,List.getElem_drop];simp
theorem MI.gU {a b out:Array Lk}{G I:Nat}(m:MI a b out G I) (L:Up a) (Y:Up b) (hi:G<a.size) {p:Lk}(J:a[G]?=some p) (h:∀j,I<=j->j<b.size->K a G<=K b j):MI a b (out.push p) (G+1) I:=by
 have ep:a[G]=p:=(by rw[getElem?_pos a G hi]at J;show Option.some.inj J);show m.sZ L (k:=1) af ?_ λx N q O=>?_
 .rw[Oi,MQ (by simpa using hi)];simp[ep]
 .let#[j,hj,_,e]:=dN N;let#[U,h2,S,R]:=dJ O;have:j=0:=af;subst this;change Na x.1<=Na q.1;rw[e,R];show h U h2 S
theorem MI.k7 {a b out:Array Lk}{I G:Nat}(m:MI a b out I G) (Y:Up a) (L:Up b) (hi:G<b.size) {p:Lk}(J:b[G]?=some p) (h:∀j,I<=j->j<a.size->K b G<=K a j):MI a b (out.push p) I (G+1):=by
 have ep:b[G]=p:=(by rw[getElem?_pos b G hi]at J;show Option.some.inj J);show m.tq L (k:=1) af ?_ λx N q O=>?_
 .rw[Oi,MQ (by simpa using hi)];simp[ep]
 .let#[j,hj,_,e]:=dN N;let#[U,h2,S,R]:=dJ O;have:j=0:=af;subst this;change Na x.1<=Na q.1;rw[e,R];show h U h2 S
theorem tH {a:Array Lk}{i k:Nat}:(a.extract i (i+k)).toList=(a.toList.drop i).take k:=by
 rw[N9,List.extract_eq_take_drop];congr 1;lia
theorem jN {a:Array Lk}{i:Nat}:(a.extract i a.size).toList=a.toList.drop i:=by
 rw[N9,List.extract_eq_take_drop];show L0 ?_;rw[Mv];simp
theorem MI.pK {a b out:Array Lk}{I G:Nat}(m:MI a b out I G) (J:Up a) (h:G=b.size):Good a b (out++a.extract I a.size++b.extract G b.size):=by
 have e:(out++a.extract I a.size++b.extract G b.size).toList=out.toList++a.toList.drop I++b.toList.drop G:=by
  rw[Mg,Mg,jN,jN]
 show#[by rw[e];show m.pm,?_];rw[e,h,List.drop_of_length_le (l:=b.toList) (by simp),OL,Ma];show#[m.up,J.up.sublist (N1 _ _),λp N q L=>m.ba p N q L]
theorem MI.last {a b out:Array Lk}{G I:Nat}(m:MI a b out G I) (N:Up a) (O:Up b) (hi:G+1=a.size) (h:∀j,I<=j->j<b.size->K b j<=K a G):Good a b (out++b.extract I b.size++a.extract G a.size):=by
 have e:(out++b.extract I b.size++a.extract G a.size).toList=out.toList++b.toList.drop I++a.toList.drop G:=by
  rw[Mg,Mg,jN,jN]
 show#[3]
 .rw[e];show List.Perm.trans ?_ m.pm;rw[LJ,LJ];show List.Perm.append_left _ Nr
 .rw[e,Ma,Ma];show#[#[m.up,O.up.sublist (N1 _ _),λp L q J=>m.bb p L q J],N.up.sublist (N1 _ _),λp L q J=>?_];rcases List.mem_append.mp L with z|z
  .show m.ba p z q J
  .let#[j,h1,h2,R]:=dJ z;let#[U,h3,Y,S]:=dJ J;have:U=G:=af;subst this;change Na p.1<=Na q.1;rw[R,S];show h j h1 h2
theorem MI.FN {a b out:Array Lk}{G I:Nat}(m:MI a b out G I) (J:Up a) {k:Nat}(L:G+k<=a.size) (h:∀i j,i<k->I<=j->j<b.size->K a (G+i)<=K b j):MI a b (out++a.extract G (G+k)) (G+k) I :=
 m.sZ J L (by rw[Mg,tH]) λp R q N=>by
  let#[j,h1,h2,O]:=dN R;let#[j2,Y,S,U]:=dJ N;change Na p.1<=Na q.1;rw[O,U];show h j j2 h1 Y S
theorem MI.Bi {a b out:Array Lk}{I G:Nat}(m:MI a b out I G) (J:Up b) {k:Nat}(L:G+k<=b.size) (h:∀i j,i<k->I<=j->j<a.size->K b (G+i)<=K a j):MI a b (out++b.extract G (G+k)) I (G+k):=
 m.tq J L (by rw[Mg,tH]) λp R q N=>by
  let#[j,h1,h2,O]:=dN R;let#[j2,Y,S,U]:=dJ N;change Na p.1<=Na q.1;rw[O,U];show h j j2 h1 Y S
theorem zO {a:Int}{xs:Array Lk}{base n r:Nat}(I:∀i,i<r->gj false a xs base i=true) (G:∀i,r<=i->i<n->gj false a xs base i=false):(∀i,i<r->K xs (base+i)<=a)/\∀j,base+r<=j->j<base+n->a<K xs j:=by
 show#[λi hi=>?_,λj J L=>?_]
 .have:=I i hi;unfold gj at this;simpa using this
 .have:=G (j-base) af af;unfold gj at this;rw[show base+(j-base)=j by lia]at this;simpa using this
theorem sQ {a:Int}{xs:Array Lk}{base n r:Nat}(I:∀i,i<r->gj true a xs base i=true) (G:∀i,r<=i->i<n->gj true a xs base i=false):(∀i,i<r->K xs (base+i)<a)/\∀j,base+r<=j->j<base+n->a<=K xs j:=by
 show#[λi hi=>?_,λj J L=>?_]
 .have:=I i hi;unfold gj at this;simpa using this
 .have:=G (j-base) af af;unfold gj at this;rw[show base+(j-base)=j by lia]at this;simpa using this
theorem MI.grow {a b out O:Array Lk}{L J I B:Nat}(m:MI a b out L J) (G:MI a b O I B) (h1:L<=I) (h2:J<=B):out.size<=O.size:=by
 have N:=m.sz;have R:=G.sz;have:=G.la;have:=G.lb;lia
noncomputable def BJ:Array Lk->Array Lk->StateT LN Om (Array Lk):=sortPriv% PySem.Builtin.mergeLo
structure uh (st st':LN):Prop where
 arr:Lj st'=Lj st
 kind:kindOf st'=kindOf st
 failed:Ny st'=Ny st
 pend:Lu st'=Lu st
section
variable {prog:IF}{w:Ll}{A:Lq}{E:Value->By->Prop}{s:By}{a₀:Array Lk}
theorem aQ {α:Type}{c:Prop} [Decidable c] {m n:StateT LN Om α}{Q:α->LN->Prop}{st:LN}(h1:c->QN (model prog w) A E s m Q st) (h2:¬ c->QN (model prog w) A E s n Q st):QN (model prog w) A E s (if c then m else n) Q st:=by
 by_cases z:c
 .rw[Q0 z];show h1 z
 .rw[QZ z];show h2 z
noncomputable def EJ:Nat->StateT LN Om Unit:=sortPriv% PySem.Builtin.setMinGallop
theorem wQ {G st:LN}{g:Nat}{Q:Unit->LN->Prop}(k:uh G st) (h:∀I,uh G I->Q () I):QN (model prog w) A E s (EJ g) Q st :=
 Nc (h _ #[k.arr,k.kind,k.failed,k.pend])
theorem uS {st:LN}{a b:Array Lk}{Q:Array Lk->LN->Prop}(hk:kindOf st=Nx) (L:Up a) (N:Up b) (na:1<=a.size) (nb:1<=b.size) (h0:K b 0<K a 0) (hl:∀j,j<b.size->K b j<K a (a.size-1))
  (h:∀R ab,Good a b R->uh st ab->Q R ab):QN (model prog w) A E s (BJ a b) Q st:=by
 show DO (Ox (NB #[4]));let#[t0,q0,e0]:=N.at (i:=0) af;show DO (bw e0 ?_);have sa:=L.I0;have sb:=N.I0;have M0:MI a b ([(Value.int (K b 0) t0,q0)].toArray) 0 1:=by
  have M:MI a b ([].toArray) 0 0:=#[LD _,LD _,by simp,List.Pairwise.nil,(λp hp=>by cases hp),(λp hp=>by cases hp)];show M.k7 L N af e0 λj _ hj=>by
   have:=sa 0 j af af hj;omega
 show aQ (λg=>?_) (λg=>?_)
 .show D3 (h _ _ (M0.pK L (by simpa using g)) #[1,1])
 have g1:¬ 1=b.size:=(by simpa using g);show aQ (λg=>?_) (λg=>?_)
 .have g':0+1=a.size:=(by simpa using g);show D3 (h _ _ (M0.last L N g' λj _ hj=>?_) #[1,1]);have:=hl j hj;rw[<-g']at this;show Int.le_of_lt this
 have g2:¬ 0+1=a.size:=(by simpa using g);show DO (NJ ?_);show DO (Mr (LQ (I:=λx c ab=>Jc λout G J mg=>xU (c=(none,out,G,J,mg)) (MI a b out G J) (G+1<a.size) (J<b.size) (x+1<=out.size) (uh st ab)) (Q:=λc ab=>∃R,sj (Good a b R) (c.1=some R) (uh st ab)) ?_ ?_ ?_) ?_)
 .rintro x c a4 bn bz ⟨out,G,J,mg,rfl,M,la,S,lo,K1⟩;show DO (Mr (LQ (I:=λy c ab=>BX λO G J ac bc=>xU (c=(none,O,G,J,ac,bc)) (MI a b O G J) (G+1<a.size) (J<b.size) (out.size+y<=O.size) (uh st ab))
   (Q:=λc ab=>uh st ab/\((∃R,Good a b R/\c.1=some R)\/(BX λO G J ac bc=>FD (c=(none,O,G,J,ac,bc)) (MI a b O G J) (G+1<a.size) (J<b.size) (out.size+1<=O.size)))) ?_ ?_ ?_) ?_)
  .rintro y c a2 bb be ⟨O,G,J,ac,bc,rfl,M,la,S,a5,K2⟩;have bd:kindOf a2=Nx:=K2.kind.trans hk;let#[tb,qb,eb]:=N.at S;let#[ta,qa,Y]:=L.at (i:=G) af;show DO (bw eb (DO (bw Y (DO (rC bd rfl rfl ?_)))));by_cases c:K b J<K a G
   .rw[decide_eq_true c];show DO (bw eb ?_);have M2:=M.k7 L N S eb λj h1 h2=>by
     have:=sa G j af h1 h2;omega
    show aQ (λg=>?_) (λg=>?_)
    .show D3 #[K2,.inl #[_,M2.pK L (by simpa using g),rfl]]
    .have g':¬ J+1=b.size:=(by simpa using g);have sz:(O.push (Value.int (K b J) tb,qb)).size=O.size+1:=Oy ..;show aQ (λg=>?_) (λg=>?_)
     .show D3 #[K2,.inr #[O.push (Value.int (K b J) tb,qb),G,J+1,_,0,M2,la,af,af]]
     .show D3 #[O.push (Value.int (K b J) tb,qb),G,J+1,_,0,M2,la,af,af,K2]
   .rw[decide_eq_false c];show DO (bw Y ?_);have M2:=M.gU L N af Y λj h1 h2=>by
     have:=sb J j af h1 h2;omega
    show aQ (λg=>?_) (λg=>?_)
    .have g':G+1+1=a.size:=(by simpa using g);show D3 #[K2,.inl #[_,M2.last L N g' (λj h1 h2=>?_),rfl]];have:=hl j h2;rw[show a.size-1=G+1 by omega]at this;show Int.le_of_lt this
    .have g':¬ G+1+1=a.size:=(by simpa using g);have sz:(O.push (Value.int (K a G) ta,qa)).size=O.size+1:=Oy ..;show aQ (λg=>?_) (λg=>?_)
     .show D3 #[K2,.inr #[O.push (Value.int (K a G) ta,qa),G+1,J,_,0,M2,af,S,af]]
     .show D3 #[O.push (Value.int (K a G) ta,qa),G+1,J,_,0,M2,af,S,af,K2]
  .rintro c a2 ⟨O,G,J,ac,bc,rfl,M,la,S,a5,K2⟩;show#[K2,.inr #[2,2,0,M,la,S,af]]
  .show#[out,G,J,_,0,M,la,S,af,K1]
  .rintro c a2 ⟨K2,⟨R,hR,e⟩|⟨O,G,J,ac,bc,rfl,M,la,S,a5⟩⟩
   .let#[c1,c2]:=c;cases e;show D3 #[R,hR,rfl,K2]
   .show DO (Ox (NB #[4]));show DO (Mr (LQ (I:=λy c ab=>Hh λap G J mg ac bc=>xU (c=(none,ap,G,J,mg,ac,bc)) (MI a b ap G J) (G+1<a.size) (J<b.size) (O.size<=ap.size) (uh st ab))
     (Q:=λc ab=>uh st ab/\((∃R,Good a b R/\c.1=some R)\/(Hh λap G J mg ac bc=>FD (c=(none,ap,G,J,mg,ac,bc)) (MI a b ap G J) (G+1<a.size) (J<b.size) (O.size<=ap.size)))) ?_ ?_ ?_) ?_)
    .rintro y c ba bb be ⟨ap,G,J,a7,ac,bc,rfl,M,la,S,am,K3⟩;show aQ (λg=>?_) (λg=>?_)
     all_goals
      show DO (wQ K3 λa6 U=>?_);have a0:kindOf a6=Nx:=U.kind.trans hk;let#[tb,qb,eb]:=N.at S;show DO (bw eb (DO (dH (base:=G) (n:=a.size-G) (hint:=0) a0 rfl (λi hi=>L.at af) (sa.sub (LD _) af) af λr hr r1 r2=>?_)));let#[R1,R2]:=zO r1 r2;rw[show G+(a.size-G)=a.size by omega]at R2;have bx:G+r<a.size:=by
       by_cases z:G+r<a.size
       .show z
       .have a1:=R1 (a.size-1-G) af;rw[show G+(a.size-1-G)=a.size-1 by omega]at a1;have:=hl J S;omega
      have M1:=M.FN L (k:=r) af λi j hi h1 h2=>Int.le_trans (R1 i hi) (sb J j (LD _) h1 h2);show aQ (λg2=>?_) (λg2=>?_)
      .show aQ (λg3=>?_) (λg3=>?_)
       .have g':G+r+1=a.size:=(by simpa using g3);show D3 #[U,.inl #[_,M1.last L N g' (λj h1 h2=>?_),rfl]];have:=hl j h2;rw[show a.size-1=G+r by omega]at this;show Int.le_of_lt this
       .have bv:¬ G+r+1=a.size:=(by simpa using g3);show aQ (λg4=>?_) (λg4=>?_)
        .have g':G+r=a.size:=(by simpa using g4);omega
        .clear g4;have M2:=M1.k7 L N S eb λj h1 h2=>Int.le_of_lt (R2 j af h2);show DO (bw eb ?_);show aQ (λg5=>D3 #[U,.inl #[_,M2.pK L (by simpa using g5),rfl]]) (λg5=>?_);have bl:¬ J+1=b.size:=(by simpa using g5);let#[ta,qa,Y]:=L.at (i:=G+r) af;show DO (bw Y (DO (dH (base:=J+1) (n:=b.size-(J+1)) (hint:=0) a0 rfl (λi hi=>N.at af) (sb.sub (LD _) af) af λr' bi a3 aB=>?_)));let#[T1,T2]:=sQ a3 aB;rw[show J+1+(b.size-(J+1))=b.size by omega]at T2;have M3:=M2.Bi N (k:=r') af λi j hi h1 h2=>Int.le_of_lt (Int.lt_of_lt_of_le (T1 i hi) (sa _ j (LD _) h1 h2));show aQ (λg6=>?_) (λg6=>?_)
         .show aQ (λg7=>D3 #[U,.inl #[_,M3.pK L (by simpa using g7),rfl]]) (λg7=>?_);have bm:¬ J+1+r'=b.size:=(by simpa using g7);show DO (bw Y ?_);have M4:=M3.gU L N af Y λj h1 h2=>T2 j af h2;show aQ (λg8=>?_) (λg8=>?_)
          .have as:G+r+1+1=a.size:=(by simpa using g8);show D3 #[U,.inl #[_,M4.last L N as (λj h1 h2=>?_),rfl]];have:=hl j h2;rw[show a.size-1=G+r+1 by omega]at this;show Int.le_of_lt this
          .have as:¬ G+r+1+1=a.size:=(by simpa using g8);show aQ (λg9=>D3 #[U,.inr #[_,G+r+1,J+1+r',2,0,M4,af,af,Ly am (M.grow M4 af af)]]) (λg9=>D3 #[_,G+r+1,J+1+r',2,0,M4,af,af,Ly am (M.grow M4 af af),U])
         .have aT:r'=0:=af;subst aT;show DO (bw Y ?_);have M4:=M2.gU L N af Y λj h1 h2=>T2 j af h2;show aQ (λg8=>?_) (λg8=>?_)
          .have as:G+r+1+1=a.size:=(by simpa using g8);show D3 #[U,.inl #[_,M4.last L N as (λj h1 h2=>?_),rfl]];have:=hl j h2;rw[show a.size-1=G+r+1 by omega]at this;show Int.le_of_lt this
          .have as:¬ G+r+1+1=a.size:=(by simpa using g8);show aQ (λg9=>D3 #[U,.inr #[_,G+r+1,J+1,2,0,M4,af,af,Ly am (M.grow M4 af af)]]) (λg9=>D3 #[_,G+r+1,J+1,2,0,M4,af,af,Ly am (M.grow M4 af af),U])
      .have r0:r=0:=af;subst r0;have M2:=M.k7 L N S eb λj h1 h2=>Int.le_of_lt (R2 j af h2);show DO (bw eb ?_);show aQ (λg5=>D3 #[U,.inl #[_,M2.pK L (by simpa using g5),rfl]]) (λg5=>?_);have bl:¬ J+1=b.size:=(by simpa using g5);let#[ta,qa,Y]:=L.at (i:=G) af;show DO (bw Y (DO (dH (base:=J+1) (n:=b.size-(J+1)) (hint:=0) a0 rfl (λi hi=>N.at af) (sb.sub (LD _) af) af λr' bi a3 aB=>?_)));let#[T1,T2]:=sQ a3 aB;rw[show J+1+(b.size-(J+1))=b.size by omega]at T2;have M3:=M2.Bi N (k:=r') af λi j hi h1 h2=>Int.le_of_lt (Int.lt_of_lt_of_le (T1 i hi) (sa _ j (LD _) h1 h2));show aQ (λg6=>?_) (λg6=>?_)
       .show aQ (λg7=>D3 #[U,.inl #[_,M3.pK L (by simpa using g7),rfl]]) (λg7=>?_);have bm:¬ J+1+r'=b.size:=(by simpa using g7);show DO (bw Y ?_);have M4:=M3.gU L N af Y λj h1 h2=>T2 j af h2;show aQ (λg8=>?_) (λg8=>?_)
        .have as:G+1+1=a.size:=(by simpa using g8);show D3 #[U,.inl #[_,M4.last L N as (λj h1 h2=>?_),rfl]];have:=hl j h2;rw[show a.size-1=G+1 by omega]at this;show Int.le_of_lt this
        .have as:¬ G+1+1=a.size:=(by simpa using g8);show aQ (λg9=>D3 #[U,.inr #[_,G+1,J+1+r',2,0,M4,af,af,Ly am (M.grow M4 af af)]]) (λg9=>D3 #[_,G+1,J+1+r',2,0,M4,af,af,Ly am (M.grow M4 af af),U])
       .have aT:r'=0:=af;subst aT;show DO (bw Y ?_);have M4:=M2.gU L N af Y λj h1 h2=>T2 j af h2;show aQ (λg8=>?_) (λg8=>?_)
        .have as:G+1+1=a.size:=(by simpa using g8);show D3 #[U,.inl #[_,M4.last L N as (λj h1 h2=>?_),rfl]];have:=hl j h2;rw[show a.size-1=G+1 by omega]at this;show Int.le_of_lt this
        .have as:¬ G+1+1=a.size:=(by simpa using g8);show aQ (λg9=>D3 #[U,.inr #[_,G+1,J+1,2,0,M4,af,af,Ly am (M.grow M4 af af)]]) (λg9=>D3 #[_,G+1,J+1,2,0,M4,af,af,Ly am (M.grow M4 af af),U])
    .rintro c ba ⟨ap,G,J,a7,ac,bc,rfl,M,la,S,am,K3⟩;show#[K3,.inr #[2,2,_,0,M,la,S,am]]
    .show#[O,G,J,2,0,M,la,S,HC _,K2]
    .rintro c ba ⟨K3,⟨R,hR,e⟩|⟨ap,G,J,a7,ac,bc,rfl,M,la,S,am⟩⟩
     .let#[c1,c2]:=c;cases e;show D3 #[R,hR,rfl,K3]
     .show DO (wQ K3 λa6 U=>?_);show D3 #[ap,G,J,0,M,la,S,af,U]
 .rintro c a4 ⟨out,G,J,mg,rfl,M,la,S,lo,K1⟩;exfalso;have:=M.sz;omega
 .show#[2,_,0,M0,af,af,HC _,#[1,1]]
 .rintro c a4 ⟨R,hR,e,K1⟩;let#[c1,c2]:=c;cases e;show D3 (h R a4 hR K1)
end
noncomputable def seg (a:Array Lk) (k n:Nat):List Lk:=(a.toList.drop k).take (n-k)
theorem iS {a:Array Lk}{k n:Nat}(h:k<=n):a.toList.take n=a.toList.take k++seg a k n:=by
 unfold seg;have e:a.toList.take k=(a.toList.take n).take k:=(by rw[List.take_take,Oj h]);rw[e, <-List.drop_take,Mu]
theorem lJ {a:Array Lk}{k n:Nat}{q:Lk}(h:q∈seg a k n):∃j,k<=j/\j<n/\j<a.size/\Na q.1=K a j:=by
 let#[j,h1,h2,e]:=dN h;show#[k+j,af,af,h2,e]
theorem lG {a:Array Lk}{n:Nat}{q:Lk}(h:q∈a.toList.take n):∃j,j<n/\j<a.size/\Na q.1=K a j:=by
 have:q∈(a.toList.drop 0).take n:=(by rw[List.drop_zero];show h);let#[j,h1,h2,e]:=dN this;rw[Qy]at h2 e;show#[j,h1,h2,e]
theorem gJ {a:Array Lk}{k n:Nat}:(a.extract k n).toList=seg a k n:=by
 unfold seg;rw[N9,List.extract_eq_take_drop]
theorem lF {a:Array Lk}{n:Nat}:(a.extract 0 n).toList=a.toList.take n:=by
 rw[N9,List.extract_eq_take_drop];simp
theorem xF {a:Array Lk}{k:Nat}(h:k<a.size):seg a k (k+1)=[a[k]]:=by
 unfold seg;rw[MQ (by simpa using h)];simp
structure MH (a b out:Array Lk) (na nb:Nat):Prop where
 la:na<=a.size
 lb:nb<=b.size
 pm:(a.toList.take na++b.toList.take nb++out.toList.reverse).Perm (a.toList++b.toList)
 up:out.toList.reverse.Pairwise le
 ab:∀p∈a.toList.take na,∀q∈out.toList,le p q
 bb:∀p∈b.toList.take nb,∀q∈out.toList,le p q
theorem MH.sz {a b out:Array Lk}{G I:Nat}(m:MH a b out G I):out.size+G+I=a.size+b.size:=by
 have:=m.pm.length_eq;have h1:=m.la;have h2:=m.lb;simp at this;omega
theorem MH.grow {a b out O:Array Lk}{J G I B:Nat}(m:MH a b out J G) (L:MH a b O I B) (h1:I<=J) (h2:B<=G):out.size<=O.size:=by
 have N:=m.sz;have R:=L.sz;omega
theorem lE {out:Array Lk}{l r:List Lk}{q:Lk}(h:out.toList.reverse=l++r.reverse) (G:q∈out.toList):q∈l\/q∈r:=by
 have:q∈out.toList.reverse:=List.mem_reverse.mpr G;rw[h]at this;rcases List.mem_append.mp this with z|z
 .show .inl z
 .show .inr (List.mem_reverse.mp z)
theorem MH.sZ {a b out S:Array Lk}{G N k:Nat}(m:MH a b out G N) (U:Up a) (Y:k<=G) (O:S.toList.reverse=seg a k G++out.toList.reverse) (h:∀i j,i<N->i<b.size->k<=j->j<G->K b i<=K a j):MH a b S k N:=by
 have R:=iS (a:=a) Y;have L:(a.toList.take G).Pairwise le:=U.up.sublist (Nl _ _);rw[R]at L;let#[p1,p2,p3]:=List.pairwise_append.mp L;have ac:=m.la;show#[af,m.lb,3,λp J q I=>?_,λp J q I=>?_]
 .show List.Perm.trans ?_ m.pm;rw[O,R];generalize seg a k G=T;generalize a.toList.take k=D;generalize b.toList.take N=B;rw[LJ,LJ,LJ];show List.Perm.append_left _ ?_;rw[<-LJ, <-LJ];show List.Perm.append_right _ Nr
 .rw[O,Ma];show#[p2,m.up,λp L q I=>m.ab p ?_ q (List.mem_reverse.mp I)];rw[R];show LF _ L
 .rcases lE O I with z|z
  .show p3 p J q z
  .show m.ab p ?_ q z;rw[R];show Mh _ J
 .rcases lE O I with z|z
  .let#[i,i1,i2,e1]:=lG J;let#[j,j1,j2,j3,e2]:=lJ z;change Na p.1<=Na q.1;rw[e1,e2];show h i j i1 i2 j1 j2
  .show m.bb p J q z
theorem MH.tq {a b out S:Array Lk}{R G k:Nat}(m:MH a b out R G) (U:Up b) (Y:k<=G) (N:S.toList.reverse=seg b k G++out.toList.reverse) (h:∀i j,i<R->i<a.size->k<=j->j<G->K a i<=K b j):MH a b S R k:=by
 have O:=iS (a:=b) Y;have L:(b.toList.take G).Pairwise le:=U.up.sublist (Nl _ _);rw[O]at L;let#[p1,p2,p3]:=List.pairwise_append.mp L;have ac:=m.lb;show#[m.la,af,3,λp J q I=>?_,λp J q I=>?_]
 .show List.Perm.trans ?_ m.pm;rw[N,O];generalize seg b k G=T;generalize b.toList.take k=D;generalize a.toList.take R=B;rw[LJ,LJ,LJ]
 .rw[N,Ma];show#[p2,m.up,λp L q I=>m.bb p ?_ q (List.mem_reverse.mp I)];rw[O];show LF _ L
 .rcases lE N I with z|z
  .let#[i,i1,i2,e1]:=lG J;let#[j,j1,j2,j3,e2]:=lJ z;change Na p.1<=Na q.1;rw[e1,e2];show h i j i1 i2 j1 j2
  .show m.ab p J q z
 .rcases lE N I with z|z
  .show p3 p J q z
  .show m.bb p ?_ q z;rw[O];show Mh _ J
theorem MH.gU {a b out:Array Lk}{G I:Nat}(m:MH a b out G I) (L:Up a) (R:1<=G) {p:Lk}(J:a[G-1]?=some p) (h:∀i,i<I->i<b.size->K b i<=K a (G-1)):MH a b (out.push p) (G-1) I:=by
 have N:=m.la;have hi:G-1<a.size:=af;have ep:a[G-1]=p:=(by rw[getElem?_pos a _ hi]at J;show Option.some.inj J);show m.sZ L af ?_ λi j h1 h2 O S=>?_
 .have:=xF hi;rw[show G-1+1=G by omega]at this;rw[this,Oi,NL,ep];rfl
 .rw[show j=G-1 by omega];show h i h1 h2
theorem MH.k7 {a b out:Array Lk}{I G:Nat}(m:MH a b out I G) (L:Up b) (R:1<=G) {p:Lk}(J:b[G-1]?=some p) (h:∀i,i<I->i<a.size->K a i<=K b (G-1)):MH a b (out.push p) I (G-1):=by
 have N:=m.lb;have hi:G-1<b.size:=af;have ep:b[G-1]=p:=(by rw[getElem?_pos b _ hi]at J;show Option.some.inj J);show m.tq L af ?_ λi j h1 h2 O S=>?_
 .have:=xF hi;rw[show G-1+1=G by omega]at this;rw[this,Oi,NL,ep];rfl
 .rw[show j=G-1 by omega];show h i h1 h2
theorem MH.FN {a b out:Array Lk}{G I k:Nat}(m:MH a b out G I) (J:Up a) (L:k<=G) (h:∀i j,i<I->i<b.size->k<=j->j<G->K b i<=K a j):MH a b (out++(a.extract k G).reverse) k I :=
 m.sZ J L (by rw[Mg,NL,Oa,List.reverse_reverse,gJ]) h
theorem MH.Bi {a b out:Array Lk}{I G k:Nat}(m:MH a b out I G) (J:Up b) (L:k<=G) (h:∀i j,i<I->i<a.size->k<=j->j<G->K a i<=K b j):MH a b (out++(b.extract k G).reverse) I k :=
 m.tq J L (by rw[Mg,NL,Oa,List.reverse_reverse,gJ]) h
theorem MH.done {a b out:Array Lk}{I G:Nat}(m:MH a b out I G) (N:Up a) (O:Up b) (h:I=0\/G=0):Good a b (a.extract 0 I++b.extract 0 G++out.reverse):=by
 have e:(a.extract 0 I++b.extract 0 G++out.reverse).toList=a.toList.take I++b.toList.take G++out.toList.reverse:=by
  rw[Mg,Mg,lF,lF,Oa]
 show#[by rw[e];show m.pm,?_];rw[e];rcases h with h|h
 .rw[h,Po,List.nil_append,Ma];show#[O.up.sublist (Nl _ _),m.up,λp L q J=>m.bb p L q (List.mem_reverse.mp J)]
 .rw[h,Po,OL,Ma];show#[N.up.sublist (Nl _ _),m.up,λp L q J=>m.ab p L q (List.mem_reverse.mp J)]
theorem MH.first {a b out:Array Lk}{J G:Nat}(m:MH a b out J G) (N:Up a) (O:Up b) (hn:G=1) (h:∀j,j<a.size->K b 0<=K a j):Good a b (b.extract 0 G++a.extract 0 J++out.reverse):=by
 have e:(b.extract 0 G++a.extract 0 J++out.reverse).toList=b.toList.take G++a.toList.take J++out.toList.reverse:=by
  rw[Mg,Mg,lF,lF,Oa]
 show#[3]
 .rw[e];show(List.Perm.append_right _ Nr).trans m.pm
 .rw[e,Ma,Ma];show#[#[O.up.sublist (Nl _ _),N.up.sublist (Nl _ _),λp L q I=>?_],m.up,λp L q I=>?_]
  .let#[i,i1,i2,R]:=lG L;let#[j,Y,U,S]:=lG I;change Na p.1<=Na q.1;rw[R,S,show i=0 by omega];show h j U
  .rcases List.mem_append.mp L with z|z
   .show m.bb p z q (List.mem_reverse.mp I)
   .show m.ab p z q (List.mem_reverse.mp I)
noncomputable def zQ:Array Lk->Array Lk->StateT LN Om (Array Lk):=sortPriv% PySem.Builtin.mergeHi
section
variable {prog:IF}{w:Ll}{A:Lq}{E:Value->By->Prop}{s:By}{a₀:Array Lk}
theorem u0 {st:LN}{a b:Array Lk}{Q:Array Lk->LN->Prop}(hk:kindOf st=Nx) (L:Up a) (N:Up b) (J:1<=a.size) (G:1<=b.size) (h0:K b 0<K a 0) (hl:∀j,j<b.size->K b j<K a (a.size-1))
  (h:∀R ab,Good a b R->uh st ab->Q R ab):QN (model prog w) A E s (zQ a b) Q st:=by
 show DO (Ox (NB #[4]));have sa:=L.I0;have sb:=N.I0;have aB:∀j,j<a.size->K b 0<=K a j:=λj hj=>by
  have:=sa 0 j (LD _) (LD _) hj;omega
 let#[t0,q0,e0]:=L.at (i:=a.size-1) (by omega +splitNatSub);show DO (bw e0 ?_);have M0:MH a b ([(Value.int (K a (a.size-1)) t0,q0)].toArray) (a.size-1) b.size:=by
  have M:MH a b ([].toArray) a.size b.size:=#[HC _,HC _,(by rw[L0 (l:=a.toList) (by simp),L0 (l:=b.toList) (by simp)];simp),List.Pairwise.nil,(λp _ q hq=>by cases hq),(λp _ q hq=>by cases hq)];show M.gU L J e0 λi h1 h2=>Int.le_of_lt (hl i h2)
 show aQ (λg=>D3 (h _ _ (M0.done L N (.inl (by simpa using g))) #[1,1])) (λg=>?_);have g1:¬ a.size-1=0:=(by simpa using g);show aQ (λg=>D3 (h _ _ (M0.first L N (by simpa using g) aB) #[1,1])) (λg=>?_);have g2:¬ b.size=1:=(by simpa using g);show DO (NJ ?_);show DO (Mr (LQ (I:=λx c ab=>Jc λJ G out mg=>xU (c=(none,J,G,out,mg)) (MH a b out J G) (1<=J) (2<=G) (x+1<=out.size) (uh st ab)) (Q:=λc ab=>∃R,sj (Good a b R) (c.1=some R) (uh st ab)) ?_ ?_ ?_) ?_)
 .rintro x c a5 bz bY ⟨J,G,out,mg,rfl,M,la,lb,lo,K1⟩;show DO (Mr (LQ (I:=λy c ab=>BX λJ G O ac bc=>xU (c=(none,J,G,O,ac,bc)) (MH a b O J G) (1<=J) (2<=G) (out.size+y<=O.size) (uh st ab))
   (Q:=λc ab=>uh st ab/\((∃R,Good a b R/\c.1=some R)\/(BX λJ G O ac bc=>FD (c=(none,J,G,O,ac,bc)) (MH a b O J G) (1<=J) (2<=G) (out.size+1<=O.size)))) ?_ ?_ ?_) ?_)
  .rintro y c a3 be bl ⟨J,G,O,ac,bc,rfl,M,la,lb,a6,K2⟩;have bi:kindOf a3=Nx:=K2.kind.trans hk;have lA:=M.la;have lB:=M.lb;let#[tb,qb,eb]:=N.at (i:=G-1) af;let#[ta,qa,U]:=L.at (i:=J-1) af;show DO (bw eb (DO (bw U (DO (rC bi rfl rfl ?_)))));by_cases c:K b (G-1)<K a (J-1)
   .rw[decide_eq_true c];show DO (bw U ?_);have M2:=M.gU L (by omega +splitNatSub) U λi h1 h2=>Int.le_of_lt (Int.lt_of_le_of_lt (sb i (G-1) (LD _) af af) c);show aQ (λg=>D3 #[K2,.inl #[_,M2.done L N (.inl (by simpa using g)),rfl]]) (λg=>?_);have g':¬ J-1=0:=(by simpa using g);have sz:(O.push (Value.int (K a (J-1)) ta,qa)).size=O.size+1:=Oy ..;show aQ (λg=>D3 #[K2,.inr #[J-1,G,O.push (Value.int (K a (J-1)) ta,qa),_,0,M2,af,lb,af]]) (λg=>D3 #[J-1,G,O.push (Value.int (K a (J-1)) ta,qa),_,0,M2,af,lb,af,K2])
   .rw[decide_eq_false c];show DO (bw eb ?_);have M2:=M.k7 N af eb λi h1 h2=>Int.le_trans (sa i (J-1) (LD _) af af) (Int.not_lt.mp c);show aQ (λg=>D3 #[K2,.inl #[_,M2.first L N (by simpa using g) aB,rfl]]) (λg=>?_);have g':¬ G-1=1:=(by simpa using g);have sz:(O.push (Value.int (K b (G-1)) tb,qb)).size=O.size+1:=Oy ..;show aQ (λg=>D3 #[K2,.inr #[J,G-1,O.push (Value.int (K b (G-1)) tb,qb),_,0,M2,la,af,af]]) (λg=>D3 #[J,G-1,O.push (Value.int (K b (G-1)) tb,qb),_,0,M2,la,af,af,K2])
  .rintro c a3 ⟨J,G,O,ac,bc,rfl,M,la,lb,a6,K2⟩;show#[K2,.inr #[J,G,O,_,0,M,la,lb,af]]
  .show#[J,G,out,_,0,M,la,lb,af,K1]
  .rintro c a3 ⟨K2,⟨R,hR,e⟩|⟨J,G,O,ac,bc,rfl,M,la,lb,a6⟩⟩
   .let#[c1,c2]:=c;cases e;show D3 #[R,hR,rfl,K2]
   .show DO (Ox (NB #[4]));show DO (Mr (LQ (I:=λy c ab=>Hh λJ G am mg ac bc=>xU (c=(none,J,G,am,mg,ac,bc)) (MH a b am J G) (1<=J) (2<=G) (O.size<=am.size) (uh st ab))
     (Q:=λc ab=>uh st ab/\((∃R,Good a b R/\c.1=some R)\/(Hh λJ G am mg ac bc=>FD (c=(none,J,G,am,mg,ac,bc)) (MH a b am J G) (1<=J) (2<=G) (O.size<=am.size)))) ?_ ?_ ?_) ?_)
    .rintro y c bb be bl ⟨J,G,am,ba,ac,bc,rfl,M,la,lb,ap,K3⟩;show aQ (λg=>?_) (λg=>?_)
     all_goals
      show DO (wQ K3 λa7 S=>?_);have a2:kindOf a7=Nx:=S.kind.trans hk;have lA:=M.la;have lB:=M.lb;let#[tb,qb,eb]:=N.at (i:=G-1) af;show DO (bw eb (DO (dH (base:=0) (n:=J) (hint:=J-1) a2 rfl (λi hi=>L.at af) (sa.sub (LD _) af) af λr hr r1 r2=>?_)));let#[R1,R2]:=zO r1 r2;simp only[Qy]at R1 R2;have M1:=M.FN L (k:=r) (by omega +splitNatSub) λi j h1 h2 h3 h4=>Int.le_of_lt (Int.lt_of_le_of_lt (sb i (G-1) (LD _) af af) (R2 j h3 h4));show aQ (λg2=>?_) (λg2=>?_)
      .show aQ (λg3=>D3 #[S,.inl #[_,M1.done L N (.inl (by simpa using g3)),rfl]]) (λg3=>?_);have bI:¬ r=0:=(by simpa using g3);have M2:=M1.k7 N af eb λi h1 h2=>R1 i (by omega +splitNatSub);show DO (bw eb ?_);show aQ (λg5=>D3 #[S,.inl #[_,M2.first L N (by simpa using g5) aB,rfl]]) (λg5=>?_);have bv:¬ G-1=1:=(by simpa using g5);let#[ta,qa,U]:=L.at (i:=r-1) af;show DO (bw U (DO (dH (base:=0) (n:=G-1) (hint:=G-1-1) a2 rfl (λi hi=>N.at af) (sb.sub (LD _) af) af λr' bn a4 aT=>?_)));let#[T1,T2]:=sQ a4 aT;simp only[Qy]at T1 T2;have M3:=M2.Bi N (k:=r') (by omega +splitNatSub) λi j h1 h2 h3 h4=>Int.le_trans (sa i (r-1) (LD _) af af) (T2 j h3 h4);show aQ (λg6=>?_) (λg6=>?_)
       .show aQ (λg7=>D3 #[S,.inl #[_,M3.first L N (by simpa using g7) aB,rfl]]) (λg7=>?_);have bx:¬ r'=1:=(by simpa using g7);show aQ (λas=>D3 #[S,.inl #[_,M3.done L N (.inr (by simpa using as)),rfl]]) (λas=>?_);have bd:¬ r'=0:=(by simpa using as);show DO (bw U ?_);have M4:=M3.gU L af U λi h1 h2=>Int.le_of_lt (T1 i (by omega +splitNatSub));show aQ (λY=>D3 #[S,.inl #[_,M4.done L N (.inl (by simpa using Y)),rfl]]) (λY=>?_);have a1:¬ r-1=0:=(by simpa using Y);show aQ (λg9=>D3 #[S,.inr #[r-1,r',2,_,0,M4,af,af,Ly ap (M.grow M4 af af)]]) (λg9=>D3 #[r-1,r',2,_,0,M4,af,af,Ly ap (M.grow M4 af af),S])
       .have bm:¬ G-1-r'>0:=g6;have a0:r'=G-1:=af;subst a0;show DO (bw U ?_);have M4:=M2.gU L af U λi h1 h2=>Int.le_of_lt (T1 i (by omega +splitNatSub));show aQ (λY=>D3 #[S,.inl #[_,M4.done L N (.inl (by simpa using Y)),rfl]]) (λY=>?_);have a1:¬ r-1=0:=(by simpa using Y);show aQ (λg9=>D3 #[S,.inr #[r-1,G-1,2,_,0,M4,af,af,Ly ap (M.grow M4 af af)]]) (λg9=>D3 #[r-1,G-1,2,_,0,M4,af,af,Ly ap (M.grow M4 af af),S])
      .have bC:¬ J-r>0:=g2;have r0:r=J:=af;subst r0;have M2:=M.k7 N af eb λi h1 h2=>R1 i (by omega +splitNatSub);show DO (bw eb ?_);show aQ (λg5=>D3 #[S,.inl #[_,M2.first L N (by simpa using g5) aB,rfl]]) (λg5=>?_);have bv:¬ G-1=1:=(by simpa using g5);let#[ta,qa,U]:=L.at (i:=r-1) af;show DO (bw U (DO (dH (base:=0) (n:=G-1) (hint:=G-1-1) a2 rfl (λi hi=>N.at af) (sb.sub (LD _) af) af λr' bn a4 aT=>?_)));let#[T1,T2]:=sQ a4 aT;simp only[Qy]at T1 T2;have M3:=M2.Bi N (k:=r') (by omega +splitNatSub) λi j h1 h2 h3 h4=>Int.le_trans (sa i (r-1) (LD _) af af) (T2 j h3 h4);show aQ (λg6=>?_) (λg6=>?_)
       .show aQ (λg7=>D3 #[S,.inl #[_,M3.first L N (by simpa using g7) aB,rfl]]) (λg7=>?_);have bx:¬ r'=1:=(by simpa using g7);show aQ (λas=>D3 #[S,.inl #[_,M3.done L N (.inr (by simpa using as)),rfl]]) (λas=>?_);have bd:¬ r'=0:=(by simpa using as);show DO (bw U ?_);have M4:=M3.gU L (by omega +splitNatSub) U λi h1 h2=>Int.le_of_lt (T1 i (by omega +splitNatSub));show aQ (λY=>D3 #[S,.inl #[_,M4.done L N (.inl (by simpa using Y)),rfl]]) (λY=>?_);have a1:¬ r-1=0:=(by simpa using Y);show aQ (λg9=>D3 #[S,.inr #[r-1,r',2,_,0,M4,af,af,Ly ap (M.grow M4 af af)]]) (λg9=>D3 #[r-1,r',2,_,0,M4,af,af,Ly ap (M.grow M4 af af),S])
       .have bm:¬ G-1-r'>0:=g6;have a0:r'=G-1:=af;subst a0;show DO (bw U ?_);have M4:=M2.gU L (by omega +splitNatSub) U λi h1 h2=>Int.le_of_lt (T1 i (by omega +splitNatSub));show aQ (λY=>D3 #[S,.inl #[_,M4.done L N (.inl (by simpa using Y)),rfl]]) (λY=>?_);have a1:¬ r-1=0:=(by simpa using Y);show aQ (λg9=>D3 #[S,.inr #[r-1,G-1,2,_,0,M4,af,af,Ly ap (M.grow M4 af af)]]) (λg9=>D3 #[r-1,G-1,2,_,0,M4,af,af,Ly ap (M.grow M4 af af),S])
    .rintro c bb ⟨J,G,am,ba,ac,bc,rfl,M,la,lb,ap,K3⟩;show#[K3,.inr #[J,G,am,2,0,M,la,lb,ap]]
    .show#[J,G,O,2,0,M,la,lb,HC _,K2]
    .rintro c bb ⟨K3,⟨R,hR,e⟩|⟨J,G,am,ba,ac,bc,rfl,M,la,lb,ap⟩⟩
     .let#[c1,c2]:=c;cases e;show D3 #[R,hR,rfl,K3]
     .show DO (wQ K3 λa7 S=>?_);show D3 #[J,G,am,0,M,la,lb,af,S]
 .rintro c a5 ⟨J,G,out,mg,rfl,M,la,lb,lo,K1⟩;exfalso;have:=M.sz;omega
 .show#[2,_,0,M0,af,af,HC _,#[1,1]]
 .rintro c a5 ⟨R,hR,e,K1⟩;let#[c1,c2]:=c;cases e;show D3 (h R a5 hR K1)
end
noncomputable def putAll (a:Array Lk) (o n:Nat) (l:List Lk):Array Lk:=(l.zipIdx n).foldl (λa (p,j)=>a.setIfInBounds (o+j) p) a
theorem jd (o:Nat):∀(l:List Lk) (n:Nat) (a:Array Lk),o+n+l.length<=a.size->∀i,(putAll a o n l)[i]?=if o+n<=i/\i<o+n+l.length then l[i-(o+n)]? else a[i]?
 | [],n,a,_,i=>by
  rw[QZ (by rw[PF];omega)];rfl
 |p::l,n,a,h,i=>by
  rw[Lo]at h;change(putAll (a.setIfInBounds (o+n) p) o (n+1) l)[i]?=_;rw[jd o l (n+1) _ (by rw[Array.size_setIfInBounds];omega),Lo,Array.getElem?_setIfInBounds];by_cases c:o+(n+1)<=i/\i<o+(n+1)+l.length
  .rw[Q0 c,Q0 af,show i-(o+n)=(i-(o+(n+1)))+1 by omega];simp
  .rw[QZ c];by_cases d:o+n=i
   .rw[Q0 d,Q0 af,Q0 af, <-d];simp
   .rw[QZ d,QZ af]
theorem tK {a:Array Lk}{o:Nat}{l:List Lk}(h:o+l.length<=a.size):(putAll a o 0 l).toList=a.toList.take o++l++a.toList.drop (o+l.length):=by
 apply Nd;intro i;have e:=jd o l 0 a af i;rw[My,e,LJ];by_cases G:i<o
 .rw[QZ af,L4 (by rw[Lp];simp;omega),Ot];simp[G]
 .rw[LY (by rw[Lp];omega)];have I:(a.toList.take o).length=o:=(by rw[Lp];simp;omega);rw[I];by_cases J:i<o+l.length
  .rw[Q0 af,L4 af];rfl
  .rw[QZ af,LY af,Ou,My];congr 1;omega
theorem sD {a:Array Lk}{lo hi i:Nat}(h:i<hi-lo) (hs:hi<=a.size):K (a.extract lo hi) i=K a (lo+i):=by
 show Qh ?_;rw[Array.getElem?_extract];rw[Q0 af]
theorem mq {a:Array Lk}{lo hi:Nat}(hs:hi<=a.size):(a.extract lo hi).size=hi-lo:=by
 rw[Array.size_extract];omega
theorem zI {a₀ a:Array Lk}(N:a.Perm a₀) (k:Ks a₀) {lo hi:Nat}(hs:hi<=a.size) (h:kX a lo hi):Up (a.extract lo hi):=by
 show#[λp J=>k.ik p ((MF.mp N).mem_iff.mp ?_),List.pairwise_iff_getElem.mpr λi j R L U=>?_]
 .rw[gJ]at J;show List.mem_of_mem_drop (List.mem_of_mem_take J)
 .have sz:=mq (a:=a) (lo:=lo) hs;have O:i<(a.extract lo hi).size:=(by rw[<-Mj];show R);have S:j<(a.extract lo hi).size:=(by rw[<-Mj];show L);have G:=K_eq O;have I:=K_eq S;rw[sD af hs]at G I;have z:=h (lo+i) (lo+j) af af af;rw[G,I]at z;simpa[le]using z
theorem parts {a:Array Lk}{lo mid hi:Nat}(h1:lo<=mid) (h2:mid<=hi):a.toList=a.toList.take lo++(seg a lo mid++seg a mid hi)++a.toList.drop hi:=by
 have G:=iS (a:=a) h1;have I:=iS (a:=a) h2;rw[<-LJ, <-G, <-I,Mu]
theorem xc {a R:Array Lk}{lo mid hi:Nat}(h1:lo<=mid) (h2:mid<=hi) (h3:hi<=a.size) (G:Good (a.extract lo mid) (a.extract mid hi) R) :
  R.size=hi-lo/\(putAll a lo 0 R.toList).Perm a/\(∀i,¬ (lo<=i/\i<hi)->(putAll a lo 0 R.toList)[i]?=a[i]?)/\kX (putAll a lo 0 R.toList) lo hi/\∀i,lo<=i->i<hi->∃j,lo<=j/\j<hi/\K (putAll a lo 0 R.toList) i=K a j:=by
 let#[J,g2]:=G;have sz:R.size=hi-lo:=by
  have:=J.length_eq;simp only[Li,Mj]at this;rw[mq af,mq h3]at this;omega
 have hl:R.toList.length=hi-lo:=(by rw[Mj];show sz);have get:=jd lo R.toList 0 a af;have L:∀i,lo<=i->i<hi->∃(h:i-lo<R.size),K (putAll a lo 0 R.toList) i=Na (R[i-lo]).1:=λi S N=>by
  have Y:i-lo<R.size:=af;show#[Y,?_];have e:=get i;rw[Q0 af]at e;unfold K;rw[e,My,Nat.add_zero,getElem?_pos R (i-lo) Y]
 show#[sz,?_,λi hi=>?_,λi j hi ab hj=>?_,λi S N=>?_]
 .rw[MF,tK af]
  conv=>rhs;rw[parts (a:=a) h1 h2]
  rw[hl,show lo+(hi-lo)=hi by omega];show List.Perm.append_right _ (List.Perm.append_left _ ?_);rw[<-gJ, <-gJ];show J
 .rw[get i,QZ af]
 .let#[a1,I]:=L i hi af;let#[a2,e2]:=L j af hj;rw[I,e2];by_cases z:i=j
  .subst z;show Int.le_refl _
  .have:=List.pairwise_iff_getElem.mp g2 (i-lo) (j-lo) (by simpa using a1) (by simpa using a2) af;simpa[le]using this
 .let#[a1,I]:=L i S N;have hm:R[i-lo]∈(a.extract lo mid).toList++(a.extract mid hi).toList:=J.mem_iff.mp (by simp);rw[I];rcases List.mem_append.mp hm with z|z
  .rw[gJ]at z;let#[j,O,U,j3,e]:=lJ z;show#[j,O,af,e]
  .rw[gJ]at z;let#[j,O,U,j3,e]:=lJ z;show#[j,af,U,e]
structure Fh (a₀:Array Lk) (st st':LN) (i lo n:Nat) (pw:Nat):Prop where
 S:SI a₀ st'
 out:∀j,¬ (lo<=j/\j<lo+n)->(Lj st')[j]?=(Lj st)[j]?
 up:kX (Lj st') lo (lo+n)
 pend:Lu st'=((Lu st).setIfInBounds i (lo,n,pw)).eraseIdxIfInBounds (i+1)
section
variable {prog:IF}{w:Ll}{A:Lq}{E:Value->By->Prop}{s:By}{a₀:Array Lk}
theorem EX {st x:LN}{Q:PUnit->LN->Prop}(h:Q #[] x):QN (model prog w) A E s (set x:StateT LN Om PUnit) Q st:=by
 unfold QN;rw[StateT.run_set];show Lg #[rfl,h]
theorem Ao {st:LN}{i I J pw nb ap:Nat}{Q:Bool->LN->Prop}(S:SI a₀ st) (k:Ks a₀) (h1:(Lu st)[i]?=some (I,J,pw)) (h2:(Lu st)[i+1]?=some (I+J,nb,ap)) (n1:1<=J) (n2:1<=nb) (hsz:I+J+nb<=a₀.size)
  (u1:kX (Lj st) I (I+J)) (Y:kX (Lj st) (I+J) (I+J+nb)) (h:∀ac,Fh a₀ st ac i I (J+nb) pw->Q true ac):QN (model prog w) A E s (mergeAt' i) Q st:=by
 show DO (NJ ?_);have hs:=S.size;have ka:∀{j:Nat},j<(Lj st).size->∃t q,(Lj st)[j]?=some (.int (K (Lj st) j) t,q):=λhj=>vD S.perm k hj;rw[h1,h2];show DO (EX ?_);let#[tb,qb,eb]:=ka (j:=I+J) af;show DO (bw eb (DO (dH (base:=I) (n:=J) (hint:=0) S.kind rfl (λi hi=>ka af) u1 af λr hr r1 r2=>?_)));let#[R1,R2]:=zO r1 r2;show aQ (λg=>?_) (λg=>?_)
 .have g':J-r=0:=(by simpa using g);show D3 (h _ #[#[S.perm,S.kind,S.failed],λ_ _=>rfl,λi j hi N hj=>?_,rfl]);change K (Lj st) i<=K (Lj st) j;by_cases c1:j<I+J
  .show u1 i j hi N c1
  .by_cases O:i<I+J
   .have U:=R1 (i-I) af;rw[show I+(i-I)=i by omega]at U;show Int.le_trans U (Y (I+J) j (HC _) af af)
   .show Y i j af N af
 have g':¬ J-r=0:=(by simpa using g);let#[ta,qa,ea]:=ka (j:=I+r+(J-r)-1) af;show DO (bw ea (DO (dH (base:=I+J) (n:=nb) (hint:=nb-1) S.kind rfl (λi hi=>ka af) Y af λL aT as am=>?_)));let#[T1,T2]:=sQ as am;show aQ (λg=>?_) (λg=>?_)
 .have aB:L=0:=(by simpa using g);show D3 (h _ #[#[S.perm,S.kind,S.failed],λ_ _=>rfl,λi j hi N hj=>?_,rfl]);change K (Lj st) i<=K (Lj st) j;by_cases c1:j<I+J
  .show u1 i j hi N c1
  .by_cases O:i<I+J
   .show Int.le_trans (u1 i (I+r+(J-r)-1) hi af af) (T2 j af af)
   .show Y i j af N af
 have g2:¬ L=0:=(by simpa using g);have ux:Up ((Lj st).extract (I+r) (I+J)):=zI S.perm k af λi j hi N hj=>u1 i j af N hj;have uy:Up ((Lj st).extract (I+J) (I+J+L)):=zI S.perm k af λi j hi N hj=>Y i j hi N af;have sx:((Lj st).extract (I+r) (I+J)).size=J-r:=(by rw[mq af];omega);have sy:((Lj st).extract (I+J) (I+J+L)).size=L:=(by rw[mq af];omega);have x0:K ((Lj st).extract (I+J) (I+J+L)) 0<K ((Lj st).extract (I+r) (I+J)) 0:=by
  rw[sD af af,sD af af];show R2 (I+r) (HC _) af
 have xl:∀j,j<((Lj st).extract (I+J) (I+J+L)).size->K ((Lj st).extract (I+J) (I+J+L)) j<K ((Lj st).extract (I+r) (I+J)) (((Lj st).extract (I+r) (I+J)).size-1):=λj hj=>by
  rw[sD af af,sD af af,sx,show I+r+(J-r-1)=I+r+(J-r)-1 by omega];show T1 j af
 show aQ (λg=>?_) (λg=>?_)
 .show DO (uS S.kind ux uy (by rw[sx];omega) (by rw[sy];omega) x0 xl λR QU G KC=>?_);let#[z1,z2,z3,z4,z5]:=xc (a:=Lj st) (lo:=I+r) (mid:=I+J) (hi:=I+J+L) af af af G;show DO (Nc (DO (NJ (D3 ?_))));have hf:Ny QU=none:=KC.failed.trans S.failed;have hc:Lj QU=Lj st:=KC.arr;change Q (Ny QU).isNone (PH (kindOf QU) (putAll (Lj QU) (I+r) 0 R.toList) (Lu QU) (gallopOf QU) (Ny QU));rw[hf,hc];show h _ #[#[z2.trans S.perm,KC.kind.trans S.kind,rfl],λj hj=>z3 j af,λi j hi N hj=>?_,KC.pend];change K (putAll (Lj st) (I+r) 0 R.toList) i<=K (putAll (Lj st) (I+r) 0 R.toList) j;have out:∀i,¬ (I+r<=i/\i<I+J+L)->K (putAll (Lj st) (I+r) 0 R.toList) i=K (Lj st) i:=λi hi=>Qh (z3 i hi);by_cases c1:i<I+r
  .rw[out i af];have ab:∀j,I+r<=j->j<I+J+nb->K (Lj st) i<=K (Lj st) j:=λj h1 h2=>by
    by_cases c:j<I+J
    .show u1 i j hi af c
    .have U:=R1 (i-I) af;rw[show I+(i-I)=i by omega]at U;show Int.le_trans U (Y (I+J) j (HC _) af h2)
   by_cases O:I+r<=j/\j<I+J+L
   .let#[j',q1,q2,e]:=z5 j O.1 O.2;rw[e];show ab j' q1 af
   .rw[out j O];by_cases c3:j<I+r
    .show u1 i j hi N af
    .show ab j af af
  .by_cases O:i<I+J+L
   .by_cases c3:j<I+J+L
    .show z4 i j af N c3
    .rw[out j af];let#[i',q1,q2,e]:=z5 i af O;rw[e];by_cases c4:i'<I+J
     .have U:=T2 j af af;show Int.le_trans (u1 i' (I+r+(J-r)-1) af af af) U
     .show Y i' j af af af
   .rw[out i af,out j af];show Y i j af N af
 .show DO (u0 S.kind ux uy (by rw[sx];omega) (by rw[sy];omega) x0 xl λR QU G KC=>?_);let#[z1,z2,z3,z4,z5]:=xc (a:=Lj st) (lo:=I+r) (mid:=I+J) (hi:=I+J+L) af af af G;show DO (Nc (DO (NJ (D3 ?_))));have hf:Ny QU=none:=KC.failed.trans S.failed;have hc:Lj QU=Lj st:=KC.arr;change Q (Ny QU).isNone (PH (kindOf QU) (putAll (Lj QU) (I+r) 0 R.toList) (Lu QU) (gallopOf QU) (Ny QU));rw[hf,hc];show h _ #[#[z2.trans S.perm,KC.kind.trans S.kind,rfl],λj hj=>z3 j af,λi j hi N hj=>?_,KC.pend];change K (putAll (Lj st) (I+r) 0 R.toList) i<=K (putAll (Lj st) (I+r) 0 R.toList) j;have out:∀i,¬ (I+r<=i/\i<I+J+L)->K (putAll (Lj st) (I+r) 0 R.toList) i=K (Lj st) i:=λi hi=>Qh (z3 i hi);by_cases c1:i<I+r
  .rw[out i af];have ab:∀j,I+r<=j->j<I+J+nb->K (Lj st) i<=K (Lj st) j:=λj h1 h2=>by
    by_cases c:j<I+J
    .show u1 i j hi af c
    .have U:=R1 (i-I) af;rw[show I+(i-I)=i by omega]at U;show Int.le_trans U (Y (I+J) j (HC _) af h2)
   by_cases O:I+r<=j/\j<I+J+L
   .let#[j',q1,q2,e]:=z5 j O.1 O.2;rw[e];show ab j' q1 af
   .rw[out j O];by_cases c3:j<I+r
    .show u1 i j hi N af
    .show ab j af af
  .by_cases O:i<I+J+L
   .by_cases c3:j<I+J+L
    .show z4 i j af N c3
    .rw[out j af];let#[i',q1,q2,e]:=z5 i af O;rw[e];by_cases c4:i'<I+J
     .have U:=T2 j af af;show Int.le_trans (u1 i' (I+r+(J-r)-1) af af af) U
     .show Y i' j af af af
   .rw[out i af,out j af];show Y i j af N af
end
noncomputable def Chain (xs:Array Lk):Nat->List (Nat×Nat×Nat)->Nat->Prop
 |s,[],e=>s=e
 |s,(t,n,_)::r,e=>t=s/\1<=n/\kX xs s (s+n)/\Chain xs (s+n) r e
theorem Chain.le {xs:Array Lk}:∀{s:Nat}{l:List (Nat×Nat×Nat)}{e:Nat},Chain xs s l e->s+l.length<=e
 |s,[],e,h=>Nat.le_of_eq h
 |s,(t,n,p)::r,e,⟨_,h2,_,G⟩=>by
  have:=Chain.le G;rw[Lo];omega
theorem Chain.app {xs:Array Lk}:∀{s:Nat}{l G:List (Nat×Nat×Nat)}{e:Nat},Chain xs s (l++G) e↔∃m,Chain xs s l m/\Chain xs m G e
 |s,[],G,e=>#[λh=>#[s,rfl,h],λ⟨m,h1,h2⟩=>by rw[show s=m from h1];show h2]
 |s,(t,n,p)::r,G,e=>by
  constructor
  .rintro⟨h1,h2,L,N⟩;let#[m,I,J]:=Chain.app.mp N;show#[m,#[h1,h2,L,I],J]
  .rintro⟨m,⟨h1,h2,L,I⟩,J⟩;show#[h1,h2,L,Chain.app.mpr #[m,I,J]]
theorem kX.congr {xs ys:Array Lk}{lo hi:Nat}(h:kX xs lo hi) (e:∀i,lo<=i->i<hi->ys[i]?=xs[i]?):kX ys lo hi:=λi j hi I G=>by
 rw[Qh (e i hi af),Qh (e j af G)];show h i j hi I G
theorem Chain.congr {xs ys:Array Lk}:∀{s:Nat}{l:List (Nat×Nat×Nat)}{e:Nat},Chain xs s l e->(∀i,s<=i->i<e->ys[i]?=xs[i]?)->Chain ys s l e
 |s,[],e,h,_=>h
 |s,(t,n,p)::r,e,⟨h1,h2,I,G⟩,q=>by
  have:=Chain.le G;show#[h1,h2,I.congr λi a b=>q i a af,G.congr λi a b=>q i af b]
structure RI (a₀:Array Lk) (st:LN) (lo:Nat):Prop where
 S:SI a₀ st
 ch:Chain (Lj st) 0 (Lu st).toList lo
 le:lo<=a₀.size
theorem EC {α:Type}{l:List α}{i:Nat}(h:i+1<l.length):∃G x y I,l=G++x::y::I/\G.length=i:=by
 show#[l.take i,l[i],l[i+1],l.drop (i+2),3]
 .rw[<-MQ af, <-MQ af,Mu]
 .rw[Lp];omega
theorem oX {p:Array (Nat×Nat×Nat)}{G I:List (Nat×Nat×Nat)}{x y z:Nat×Nat×Nat}{i:Nat}(h:p.toList=G++x::y::I) (hi:G.length=i):((p.setIfInBounds i z).eraseIdxIfInBounds (i+1)).toList=G++z::I:=by
 let#[l]:=p;subst h;subst hi;simp;rw[List.eraseIdx_append_of_length_le af];simp
theorem Dg {c:Bool}{n:Nat}(h:¬ n<=1):(if c=true then n-2-1 else n-2)+1<n:=by
 cases c
 .rw[QZ av];omega
 .rw[Q0 rfl];omega
theorem wm {α G:Type}{l:List α}{i:Nat}{f:α->α}{g:α->G}(h:∀x,g (f x)=g x):(l.modify i f).map g=l.map g:=by
 apply Nd;intro j;rw[K4,K4,List.getElem?_modify];cases l[j]? with
 |none=>rfl
 |some x =>
  by_cases c:i=j
  .simp[c,h]
  .simp[c]
theorem Chain.same {xs:Array Lk}:∀{s:Nat}{l G:List (Nat×Nat×Nat)}{e:Nat},Chain xs s l e->G.map (λx=>(x.1,x.2.1))=l.map (λx=>(x.1,x.2.1))->Chain xs s G e
 |s,[],G,e,h,q=>by
  cases G with
  |nil=>show h
  |cons x r=>cases q
 |s,(t,n,p)::r,G,e,⟨h1,h2,S,N⟩,q=>by
  cases G with
  |nil=>cases q
  |cons x U =>
   let#[t',O,Y]:=x;rw[Mm,Mm]at q;let#[L,R]:=List.cons.inj q;let#[J,I]:=Ol L;have J:t'=t:=J;have I:O=n:=I;subst J;subst I;show#[h1,h2,S,N.same R]
theorem RI.push {a₀:Array Lk}{st:LN}{lo n p:Nat}(R:RI a₀ st lo) (I:1<=n) (G:lo+n<=a₀.size) (u:kX (Lj st) lo (lo+n)):RI a₀ (setPending st ((Lu st).push (lo,n,p))) (lo+n):=by
 show#[#[R.S.perm,R.S.kind,R.S.failed],?_,G];change Chain (Lj st) 0 ((Lu st).push (lo,n,p)).toList (lo+n);rw[Oi];show Chain.app.mpr #[lo,R.ch,rfl,I,u,rfl]
theorem RI.last {a₀:Array Lk}{st:LN}{lo:Nat}(R:RI a₀ st lo) {f:Nat×Nat×Nat->Nat×Nat×Nat}(G:∀x,((f x).1,(f x).2.1)=(x.1,x.2.1)) (i:Nat):RI a₀ (setPending st ((Lu st).modify i f)) lo:=by
 show#[#[R.S.perm,R.S.kind,R.S.failed],?_,R.le];change Chain (Lj st) 0 ((Lu st).modify i f).toList lo;show R.ch.same ?_;rw[Array.toList_modify];show wm G
section
variable {prog:IF}{w:Ll}{A:Lq}{E:Value->By->Prop}{s:By}{a₀:Array Lk}
theorem jg {st:LN}{lo i:Nat}{Q:Bool->LN->Prop}(R:RI a₀ st lo) (k:Ks a₀) (hi:i+1<(Lu st).size)
  (h:∀I,RI a₀ I lo->(∀j,lo<=j->(Lj I)[j]?=(Lj st)[j]?)->(Lu I).size+1=(Lu st).size->Q true I):QN (model prog w) A E s (mergeAt' i) Q st:=by
 let#[Y,x,y,l2,e,N]:=EC (l:=(Lu st).toList) (i:=i) (by simpa using hi);let#[G,J,O]:=x;let#[sb,L,U]:=y;have ch:=R.ch;rw[e]at ch;let#[m,c1,e1,n1,u1,e2,n2,u2,c2]:=Chain.app.mp ch;subst e1;subst e2;have b1:=c1.le;have b2:=c2.le;have ab:=R.le;have g1:(Lu st)[i]?=some (G,J,O):=by
  rw[<-My,e, <-N];simp
 have g2:(Lu st)[i+1]?=some (G+J,L,U):=by
  rw[<-My,e, <-N];simp
 show Ao R.S k g1 g2 n1 n2 af u1 u2 λI M=>h I #[M.S,?_,R.le] (λj hj=>M.out j af) ?_
 .rw[M.pend,oX e N];show Chain.app.mpr #[G,c1.congr λj _ hj=>M.out j af,rfl,af,M.up,?_];rw[show G+(J+L)=G+J+L by omega];show c2.congr λj hj _=>M.out j af
 .have p1:(Lu I).toList.length=(Y++(G,J+L,O)::l2).length:=(by rw[M.pend,oX e N]);have p2:(Lu st).toList.length=(Y++(G,J,O)::(G+J,L,U)::l2).length:=(by rw[e]);simp only[Mj,Li,Lo]at p1 p2;omega
theorem ym {st:LN}{Q:Unit->LN->Prop}(k:Ks a₀) (S:SI a₀ st) (hp:Lu st = ([].toArray)) (h2:2<=a₀.size) (h:∀O,(Lj O).Perm a₀->Ny O=none->SortedTo (Lj O) a₀.size->Q () O):QN (model prog w) A E s sortRuns' Q st:=by
 rw[sortRuns'_eq];show DO (NJ ?_);have hsz:=S.size;have a3:(Lj st).size=a₀.size:=hsz;dsimp only;rw[hsz];show DO (Mr (LQ (I:=λx c O=>∃lo,sj (c=(none,lo)) (RI a₀ O lo) (x<=lo)) (Q:=λc O=>c=(none,a₀.size)/\RI a₀ O a₀.size) ?_ ?_ ?_) ?_)
 .rintro x c a4 aB a0 ⟨lo,rfl,R,hx⟩;have ac:=R.le;show aQ (λg=>?_) (λg=>?_)
  .have g':a₀.size<=lo:=g;obtain rfl:lo=a₀.size:=af;show D3 #[rfl,R]
  have g':¬ a₀.size<=lo:=g;show DO (ze R.S k (lo:=lo) (nrem:=a₀.size-lo) af af λm J C m1 m2 us=>?_);dsimp only;show aQ (λgm=>?_) (λgm=>?_)
  .show DO (Ox (NB #[4]));generalize hf:min (a₀.size-lo) (minRun' a₀.size a₀.size 0)=n;show DO (Ar C.S k (lo:=lo) (n:=n) (ok:=m) af m1 af us λab C3 am=>?_);have U:RI a₀ ab lo:=#[C3.S,by
    rw[C3.pend,C.pend];show R.ch.congr λi _ hi=>(C3.pre i hi).trans (C.pre i hi),R.le]
   show DO (NJ ?_);cases e:(Lu ab).back? with
   |none=>show DO (Nc (D3 #[lo+n,rfl,U.push af af am,af]))
   |some t =>
    let#[s1,n1,p1]:=t;show DO (Mr (LQ (I:=λy c G=>sj (c=(none,())) (RI a₀ G lo) (∀j,lo<=j->(Lj G)[j]?=(Lj ab)[j]?)) (Q:=λc G=>sj (c=(none,())) (RI a₀ G lo) (∀j,lo<=j->(Lj G)[j]?=(Lj ab)[j]?)) ?_ ?_ ?_) ?_)
    .rintro y c G as aT ⟨rfl,L,N⟩;show DO (NJ ?_);by_cases g:(Lu G).size>1
     .rw[Q0 g,getElem?_pos (Lu G) ((Lu G).size-2) af];show aQ (λ_=>D3 #[rfl,L,N]) (λ_=>?_);show DO (jg L k af λap R5 o5 _=>D3 #[rfl,R5,λj Y=>(o5 j Y).trans (N j Y)])
     .rw[QZ g];show D3 #[rfl,L,N]
    .show λc G q=>q
    .show#[rfl,U,λ_ _=>rfl]
    .rintro c G ⟨rfl,L,N⟩;show DO (Nc (DO (Nc (D3 #[lo+n,4,af]))));show RI.push (L.last (f:=λx=>(x.fst,x.2.fst,power' a₀.size (2*s1+n1) (2*s1+n1+n1+n) a₀.size)) (λx=>rfl) _) af af (am.congr λi h1 _=>N i h1)
  .have U:RI a₀ J lo:=#[C.S,by
    rw[C.pend];show R.ch.congr λi _ hi=>C.pre i hi,R.le]
   show DO (NJ ?_);cases e:(Lu J).back? with
   |none=>show DO (Nc (D3 #[lo+m,rfl,U.push af af us,af]))
   |some t =>
    let#[s1,n1,p1]:=t;show DO (Mr (LQ (I:=λy c G=>sj (c=(none,())) (RI a₀ G lo) (∀j,lo<=j->(Lj G)[j]?=(Lj J)[j]?)) (Q:=λc G=>sj (c=(none,())) (RI a₀ G lo) (∀j,lo<=j->(Lj G)[j]?=(Lj J)[j]?)) ?_ ?_ ?_) ?_)
    .rintro y c G as aT ⟨rfl,L,N⟩;show DO (NJ ?_);by_cases g:(Lu G).size>1
     .rw[Q0 g,getElem?_pos (Lu G) ((Lu G).size-2) af];show aQ (λ_=>D3 #[rfl,L,N]) (λ_=>?_);show DO (jg L k af λap R5 o5 _=>D3 #[rfl,R5,λj Y=>(o5 j Y).trans (N j Y)])
     .rw[QZ g];show D3 #[rfl,L,N]
    .show λc G q=>q
    .show#[rfl,U,λ_ _=>rfl]
    .rintro c G ⟨rfl,L,N⟩;show DO (Nc (DO (Nc (D3 #[lo+m,4,af]))));show RI.push (L.last (f:=λx=>(x.fst,x.2.fst,power' a₀.size (2*s1+n1) (2*s1+n1+n1+m) a₀.size)) (λx=>rfl) _) af af (us.congr λi h1 _=>N i h1)
 .rintro c O ⟨lo,rfl,R,hx⟩;have:=R.le;obtain rfl:lo=a₀.size:=af;show#[rfl,R]
 .show#[(0),rfl,#[S,by rw[hp];rfl,LD _],HC _]
 .rintro c O ⟨rfl,R⟩;dsimp only;show DO (Mr (LQ (I:=λx c J=>sj (c=(none,())) (RI a₀ J a₀.size) ((Lu J).size+x<=a₀.size)) (Q:=λc J=>sj (c=(none,())) (RI a₀ J a₀.size) ((Lu J).size<=1)) ?_ ?_ ?_) ?_)
  .rintro x c J aB a0 ⟨rfl,R2,ac⟩;show DO (NJ ?_);show aQ (λg=>D3 #[rfl,R2,g]) (λg=>?_);show DO (jg R2 k ?_ λab U _ a2=>?_)
   .show Dg g
   .show D3 #[rfl,U,af]
  .rintro c J ⟨rfl,R2,ac⟩;show#[rfl,R2,af]
  .show#[rfl,R,?_];have:=R.ch.le;simpa using this
  .rintro c J ⟨rfl,R2,ac⟩;show D3 (h J R2.S.perm R2.S.failed ?_);have ch:=R2.ch;cases e:(Lu J).toList with
   |nil =>
    rw[e]at ch;have:0=a₀.size:=ch;omega
   |cons x r =>
    have hr:r=[]:=by
     have z:(Lu J).toList.length=r.length+1:=(by rw[e];rfl);rw[Mj]at z;show List.length_eq_zero_iff.mp af
    subst hr;let#[t,n,p]:=x;rw[e]at ch;let#[_,_,u,e2]:=ch;have e3:0+n=a₀.size:=e2;rw[e3]at u;show λi j a1 Y=>u i j (LD _) a1 Y
end
theorem HQ {vs:List Value}{ns:List Int}(G:Np vs ns) (I:ns.Nodup):Ks (OX vs):=by
 show#[G.intKeys,?_];have e:((OX vs).toList.map λp=>Na p.1)=ns:=by
  rw[pairsOf_toList, <-G.nums]
  conv=>rhs;rw[<-List.map_fst_zip (l₁:=vs) (l₂:=vs) (HC _)]
  rw[Me];rfl
 rw[e];show I
section
variable {prog:IF}{w:Ll}{A:Lq}{E:Value->By->Prop}{s:By}
theorem pW {a:Addr}{vs:List Value}{ns:List Int}{n:Nat}{P:Fin->By->Prop}(R:s.heap.get? a=some (seqObj "list" vs.toArray n)) (U:Np vs ns) (hn:ns.Nodup) (hz:vs.length<=1000)
  (k:∀(out:Array Value) (ns':List Int),Np out.toList ns'->ns'.Perm ns->ns'.Pairwise (· <= ·)->P (.done (.ret .none)) { s with heap:=sortedHeap s.heap a vs out }):wpAny (model prog w) A (Builtin.«list.sort» #[[.ref a],[]]) P E s:=by
 have lz:sizeLine=16777216:=Lh;rw[list_sort_plain];have lt:=Heap.lt_size R;show DD (listItems_at R rfl (DD (Pt R rfl ?_ (by simp only[G1];omega))));obtain⟨ep,Y⟩:∃ep,(s.heap.update a (Obj.mapSeq λ_ => ([].toArray))).get? a=some (seqObj "list" ([].toArray) ep):=#[_,get?_update_seq R λ_ => ([].toArray)];show DD (Qc Y rfl (DD (wpAny_newTuple (DD (Pu (Mz ?_))))));have at2:(((s.heap.update a (Obj.mapSeq λ_ => ([].toArray))).push (seqObj "tuple" vs.toArray 0)).push (seqObj "list" ([].toArray) 0)).get? a=some (seqObj "list" ([].toArray) ep):=by
  have l1:a<((s.heap.update a (Obj.mapSeq λ_ => ([].toArray))).push (seqObj "tuple" vs.toArray 0)).objs.size:=(by rw[Qz,Heap.size_update];show NT lt);rw[Heap.get?_push_ne _ _ _ (LM l1),Heap.get?_push_ne _ _ _ (by rw[Heap.size_update];show LM lt)];show Y
 have done:∀G:LN,(Lj G).Perm (OX vs)->SortedTo (Lj G) (OX vs).size->P (.done (.ret .none)) { s with heap:=sortedHeap s.heap a vs ((Lj G).map (·.2)) }:=λG N O=>by
  let#[ns',w1,w2,w3]:=sorted_out U N O;show k _ ns' w1 w2 w3
 change wpAny (model prog w) A _ P E { s with heap:=((s.heap.update a (Obj.mapSeq λ_ => ([].toArray))).push (seqObj "tuple" vs.toArray 0)).push (seqObj "list" ([].toArray) 0) };dsimp only;by_cases L:vs.toArray.size<2
 .rw[Q0 L,Q0 L];show DD (Lg ?_);rw[StateT.run_pure];show DD (Lg (DD (Qc at2 rfl (DD (Pt at2 rfl ?_ (LD _) ?_)))))
  .simp only[bne_self_eq_false,Mt,if_false];show Lg (done (PH general' (vs.toArray.zip vs.toArray) ([].toArray) 7 none) (Qe _) λi j ab hj=>?_);rw[OY]at hj;rw[G1]at L;rw[show i=j by omega];show Int.le_refl _
  .change(Array.map (λx:Lk=>x.2) (vs.toArray.zip vs.toArray)).size<=sizeLine+1;rw[QA];change(OX vs).size<=sizeLine+1;rw[OY];omega
 .rw[QZ L,QZ L];rw[G1]at L;obtain⟨J,v2,I,rfl⟩:∃J v2 I,vs=J::v2::I:=by
   match vs,L with
   | [],z=>show absurd av z
   | [_],z=>show absurd (by rw[Mb];decide) z
   |J::v2::I,_=>show#[J,v2,I,rfl]
  rw[keyKind_ints U];have sr:=ym (prog:=prog) (w:=w) (A:=A) (E:=E) (s:={ s with heap:=((s.heap.update a (Obj.mapSeq λ_ => ([].toArray))).push (seqObj "tuple" (J::v2::I).toArray 0)).push (seqObj "list" ([].toArray) 0) }) (HQ U hn)
   (st:=PH Nx (OX (J::v2::I)) ([].toArray) 7 none) (Q:=λ_ G=>sj ((Lj G).Perm (OX (J::v2::I))) (Ny G=none) (SortedTo (Lj G) (OX (J::v2::I)).size)) #[Qe _,1] rfl (by rw[OY];omega) λG N O S=>#[N,O,S]
  show DD (Lg (DD (L3 sr ?_ λ_ _ e=>e)));rintro⟨⟨⟩,G⟩ s' ⟨rfl,N,O,S⟩;dsimp only;show DD (Qc at2 rfl (DD (Pt at2 rfl ?_ (LD _) ?_)))
  .rw[O];simp only[bne_self_eq_false,Mt,if_false];show Lg (done G N S)
  .change(Array.map (λx:Lk=>x.2) (Lj G)).size<=sizeLine+1;rw[QA,N.size_eq,OY];omega
theorem uo {l:Addr}{vs:List Value}{ns:List Int}{Q:Value->By->Prop}(S:s.heap.IsList l vs.toArray) (L:Np vs ns) (U:ns.Nodup) (R:vs.length<=1000)
  (k:∀(out:Array Value) (ns':List Int),Np out.toList ns'->ns'.Perm ns->ns'.Pairwise (· <= ·)->Q (.ref (s.heap.objs.size+1)) { s with heap:=sortedAll s.heap vs out }):wpAny (model prog w) A (call (.builtin "sorted") [.ref l]) Q E s:=by
 have Y:sizeLine=16777216:=Lh;show Calls.call_function_entry kind_sorted plain_sorted entry_sorted (args_sorted1 _) ?_;show DD (m:=checkCount "sorted" 1 1 _) (Lg (DD (collect_list S (DD (Pu ?_)) af)));have I:((s.heap.push (seqObj "list" ([].toArray) 0)).update s.heap.objs.size (Obj.mapSeq (· ++ vs.toArray))).objs.size=s.heap.objs.size+1:=(by rw[Heap.size_update,Qz]);have G:=Heap.get?_push_size ((s.heap.push (seqObj "list" ([].toArray) 0)).update s.heap.objs.size (Obj.mapSeq (· ++ vs.toArray))) (o:=seqObj "list" vs.toArray 0) rfl;rw[I]at G;change wpAny _ _ _ _ _ { s with heap:=((s.heap.push (seqObj "list" ([].toArray) 0)).update s.heap.objs.size (Obj.mapSeq (· ++ vs.toArray))).push (seqObj "list" vs.toArray 0) };rw[I];show DD (Mz (Nm slot_list_sort #[_,G,rfl] entry_list_sort (pW G L U R λout ns' N O J=>#[0,Lg #[0,k out ns' N O J]]) (args_list_sort _)))
end
theorem xa:∀{vs:List Value}{ns:List Int},vs.length=ns.length->(∀(j:Nat) (v:Value),vs[j]?=some v->∃(m:Int) (t:QW),ns[j]?=some m/\v=.int m t)->Np vs ns
 | [],[],_,_=>.nil
 |v::vs,n::ns,G,h=>by
  let#[m,t,e,rfl]:=h 0 v rfl;cases e;show .cons n t (xa (by simpa using G) λj u I=>by simpa using h (j+1) u (by simpa using I))
 | [],_::_,G,_=>by simp at G
 |_::_,[],G,_=>by simp at G
section
variable {prog:IF}{w:Ll}{A:Lq}{E:Value->By->Prop}{s:By}{T:String}{r d:Addr}{n:Nat}{P:Nat->Value->Prop}{OK:Heap->Prop}
theorem uO {ns:List Int}{Q:Value->By->Prop}(S:KdlSrc prog w T r d n P OK) (U:A.handled=none) (bC:OK s.heap) (R:∀(i:Nat) (v:Value),P i v->∃(m:Int) (t:QW),ns[i]?=some m/\v=.int m t) (hl:ns.length=n) (hn:ns.Nodup) (hz:n<=1000)
  (k:∀(h1 h':Heap) (tk:Nat) (out:Array Value) (ns':List Int) (e:Nat),(∀b o,s.heap.get? b=some o->h1.get? b=some o)->(∀b o,h1.get? b=some o->h'.get? b=some o)->h'.get? h1.objs.size=some (seqObj "list" out e)->Np out.toList ns'->ns'.Perm ns->ns'.Pairwise (· <= ·)->Q (.ref h1.objs.size) { s with heap:=h',toks:=tk }) :
  wpAny (model prog w) A (call (.builtin "sorted") [.ref r]) Q E s:=by
 have lz:sizeLine=16777216:=Lh;show Calls.call_function_entry kind_sorted plain_sorted entry_sorted (args_sorted1 _) ?_;show DD (m:=checkCount "sorted" 1 1 _) (Lg (DD (PySem.W.kdu_collect (A:=A.in1) S U bC af λh1 tk G k1 L=>?_)));have ln:G.toList.length=n:=(by rw[Mj];show L.1);show DD (Pu ?_ af);have hI:Np G.toList ns:=xa af λj v e=>R j v (L.2 j v (by rw[<-My];show e));have I:=Heap.get?_push_size h1 (o:=seqObj "list" G.toList.toArray 0) rfl;change wpAny _ _ _ _ _ { s with heap:=h1.push (seqObj "list" G.toList.toArray 0),toks:=tk };show DD (Mz (Nm slot_list_sort #[_,I,rfl] entry_list_sort (pW I hI hn af λout ns' O w2 N=>#[0,Lg #[0,?_]]) (args_list_sort _)));let#[e,Y]:=sortedHeap_at (vs:=G.toList) (out:=out) I;show k h1 _ tk out ns' e k1 (λb o J=>?_) Y O w2 N;have lt:=Heap.lt_size J;rw[sortedHeap_old (LM lt) (by rw[Qz];show NT lt),Heap.get?_push_ne _ _ _ (LM lt)];show J
end
end Srt
namespace L2
open PySem PySem.Spec PyProof.Rows
section
variable {X:Cx}
theorem qz:dG X (.builtin "sorted") (λxs H Q=>∃(p:Addr) (ns:List Int),xs=[.ref p]/\bA X.K H p (ns.map V.int)/\ns.Nodup/\ns.length<=1000/\∀(l:Addr) (ns':List Int),H l=none->ns'.Perm ns->ns'.Pairwise (· <= ·)->Q (.ref l) (upd H l (.lst (ns'.map V.int)))):=by
 intro pins s σ H xs us Q I r h;let#[p,ns,rfl,R,Y,hn,q]:=h;let#[u,rfl,U]:=vals1 r;cases U;let#[its,G,pl,hz]:=I.list R;have O:=intsAre_of G;have L:=G.length;rw[BY]at L;show Srt.uo pl.isList O Y af λout ns' a1 J S=>?_;let#[e,N]:=sortedAll_at s.heap its out;have hs:sizeLine=16777216:=Lh;show#[.ref (s.heap.objs.size+1),_,I.laid (t':=s.toks) (λb o e=>sortedAll_old e) (ON _) (show bT X.prog X.w _ _ _ (.lst (ns'.map V.int))from#[by rw[BY,J.length_eq];omega,out.toList,e,iL a1,by simpa using N]),rfl,q _ ns' (I.bC.fresh (ON _)) J S]
end
end L2
namespace Srt
open PySem PyProof.Rows
theorem sP {prog:IF}{w:Ll}{A:Lq}{I:Addr}{fp wr:List Addr}{G:Array PL->Array PL->Prop}{n:Nat}{P:Nat->Value->Prop}{St:Nat->By->Prop}(W:WalksS prog w A I fp wr G n P St) (m:Nat) (O:Nat->Value->Prop) :
  WalksS prog w A I fp wr G (m+n) (λj v=>(j<m/\O j v)\/(m<=j/\P (j-m) v)) (λi s=>m<=i/\St (i-m) s) where
 sub:=W.sub
 grefl:=W.grefl
 gtrans:=W.gtrans
 frame:=λi s h' tk st J S=>#[st.1,W.frame (i-m) s h' tk st.2 J S]
 item:=λi s Q E hi st h=>W.item (i-m) s Q E (by have:=st.1;omega) st.2 λv s' R L N=>h v s' (.inr #[st.1,R]) #[by have:=st.1;omega,by rw[show i+1-m=i-m+1 by have:=st.1;omega];show L] N
 done:=λs Q E st h=>W.done s Q E (by have:=st.2;rwa [show m+n-m=n by omega]at this) h
 self:=λi s Q E st h=>W.self (i-m) s Q E st.2 h
section
variable {prog:IF}{w:Ll}{A:Lq}{s:By}{T:String}{r d:Addr}{n:Nat}{P:Nat->Value->Prop}{OK:Heap->Prop}
theorem uu {R:Result->By->Prop}(Z:KdlSrc prog w T r d n P OK) (hh:A.handled=none) (Y:OK s.heap) (S:Addr) (sr:S≠r) (sd:S≠d) (res:Value) (G:Array Value) (c:Nat) (hS:s.heap.get? S=some { cls:=.type "list",data:=.seq G c }) (hz:G.size+n<sizeLine)
  (k:∀h' tk O J,(∀b o,b≠S->s.heap.get? b=some o->h'.get? b=some o)->h'.get? S=some { cls:=.type "list",data:=.seq O J }->ItemsOf (λj v=>(j<G.size/\G[j]?=some v)\/(G.size<=j/\P (j-G.size) v)) O (G.size+n)->R (.ok (.ret res)) { s with heap:=h',toks:=tk }) :
  wpAny (model prog w) A.in1 (Builtin.List.listExtendWith (.ref S) (.ref r) res) (λaB s'=>match aB with|.done f=>R (.ok f) s' |.again J=>J.quiet=true/\NZ (model prog w) A J R s') (λe s'=>R (.error e) s') s:=by
 have nI:S≠s.heap.objs.size:=LM (Heap.lt_size hS);let#[oI,St,as,W,am]:=Z.iter A.in1 s hh Y;have ab:S∉[s.heap.objs.size,d]:=λz=>by
  rcases List.mem_cons.mp z with e|z
  .show nI e
  .show sd (List.mem_singleton.mp z)
 have ac:∀(h:Heap) (c1 tk:Nat),St 0 h->(∀b o,b≠S->s.heap.get? b=some o->h.get? b=some o)->h.get? S=some { cls:=.type "list",data:=.seq G c1 } ->
   NZ (model prog w) A (.builtin "list.extend.loop" #[[.ref S,.ref s.heap.objs.size,res],[]]) R { s with heap:=h,toks:=tk }:=by
  intro h c1 tk q0 L N;have WS:=sP W.toS G.size λj v=>G[j]?=some v;show codeAny_extend_loopS WS (Qk hz) S ab res n G.size _ G c1 af af #[HC _,by rw[Nat.sub_self];show q0] N #[rfl,λj v e=>.inl #[?_,e]] λs' O J mv e1 e2=>?_
  .show(N6.mp e).1
  .rw[Moved.eq_with mv];show k s'.heap s'.toks O J (λb o I e=>mv.heap b o (λz=>?_) (L b o I e)) e1 e2;rcases List.mem_cons.mp z with z|z
   .show I z
   .show Nk _ (List.mem_singleton.mp z▸Heap.lt_size e)
 unfold Builtin.List.listExtendWith;show DD (OQ (T:=T) (Z.type s Y) ?_);have ns:Builtin.List.listSameRef (.ref S) (.ref r)=false:=(by simp[Builtin.List.listSameRef,sr]);simp only[ns,Z.notList,Z.notTuple,Bool.or_false,Mt,if_false];show DD (as _ _ ?_);have U:=Heap.get?_push_of_some oI hS;show DD (Mz (Z.hint _ _ _ _ (Z.keep _ _ Y λb _ o e=>Heap.get?_push_of_some _ e) ?_));show wpAny_ite_split (λ_=>?_) (λ_=>Lg #[plainId_quiet PySem.F.plain_extend_loop _,ac _ c _ am (λb o _ e=>Heap.get?_push_of_some _ e) U]);show DD (NB (DD ?_));change wpAny _ _ (updateSeq S (·.push .none)>>=λ_=>updateSeq S (·.pop)) _ _ _;have L:=PySem.IsL.update U (·.push Value.none);have N:=PySem.IsL.update L (·.pop);have ep:(G.push Value.none).pop=G:=Array.pop_push ..;show DD (wpAny_updateSeq U rfl (wpAny_updateSeq L rfl (Lg #[plainId_quiet PySem.F.plain_extend_loop _,?_]) ?_ ?_) ?_ ?_)
 .rw[ep]at N;show ac _ _ _ (W.frame 0 _ _ am λb I o e=>?_) (λb o I e=>?_) N
  .have ap:b≠S:=λz=>ab (z▸I);show(Heap.get?_update_other _ _ (G0 ap)).trans ((Heap.get?_update_other _ _ (G0 ap)).trans e)
  .show(Heap.get?_update_other _ _ (G0 I)).trans ((Heap.get?_update_other _ _ (G0 I)).trans (Heap.get?_push_of_some _ e))
 .change(G.push Value.none).size<=sizeLine;rw[Oy];omega
 .change((G.push Value.none).pop).size<=sizeLine+1;rw[ep];omega
 .omega
 .change(G.push Value.none).size<=sizeLine+1;rw[Oy];omega
end
end Srt
namespace L2
open PySem PySem.Spec PyProof.Rows
theorem qL:∀{xs:List V}{vs:List Value},xs.length=vs.length->(∀(j:Nat) (x:V) (v:Value),xs[j]?=some x->vs[j]?=some v->RelV x v)->Vals xs vs
 | [],[],_,_=>.nil
 |x::xs,v::vs,G,h=>.cons (h 0 x v rfl rfl) (qL (by simpa using G) λj a b J I=>h (j+1) a b (by simpa using J) (by simpa using I))
 | [],_::_,G,_=>by simp at G
 |_::_,[],G,_=>by simp at G
section
variable {X:Cx}
inductive tJ (x:V) (vs:List V) (H:Hp) (Q:VK):Prop
 |mk (l:_) (d:_) (xs:_) (kvs:_) (_:x=.ref l) (_:vs=[.ref d]) (_:H l=some (.lst xs)) (_:H d=some (.dK kvs)) (_:xs.length+kvs.length<sizeLine) (_:Q .non (upd H l (.lst (xs++kvs.map λkv=>kV kv.1)))):tJ x vs H Q
theorem uB (hc:X.calm=true):ED X "list.extend" tJ:=by
 intro pins s σ H x vs v us Q I rx rv h;let#[l,d,xs,kvs,rfl,rfl,N,hD,hz,q]:=h;cases rx;let#[u,rfl,ru]:=rv.one;cases ru;let#[z,its,n,r,hl,e]:=I.ny N;let#[_,hd,vs,ab,dd]:=gY I.bC hD;let#[ep,ac]:=dd.dictAt;have ap:=ab.length;have U:l≠d:=λz=>(by rw[z,hD]at N;cases N);show PB (codeAny_call_builtin PySem.F.slot_list_extend.plain PySem.F.entry_list_extend (PySem.F.slot_list_extend.check _ _ _ _ _ _ _ _ #[_,e,rfl] (PySem.F.args_list_extend_2 _ _) ?_));change wpAny _ _ (Builtin.List.listExtendWith (.ref l) (.ref d) .none) _ _ s;show Srt.uu (R:=λr s'=>match r with|.ok (.ret v)=>EP X pins σ Q v s' |.ok _=>False|.error e=>X.xe e s') (kdl_dict (knd:=bu X.prog X.w) (kvs:=vs) (ep:=ep) hd) (I.ok.hd hc) ac l U U .none its.toArray n e (by rw[G1];omega) λh' tk L c' k1 k2 k3=>#[.non,_,?_,rfl,q];let#[sz,it]:=k3;have sz:L.size=its.length+vs.length:=(by rw[sz,G1]);show I.write (x:=l) (e:=l) (by rw[N];show trivial) (.inl rfl) k1 #[_,k2] (show bT X.prog X.w _ _ _ (.lst _)from#[?_,L.toList,c',qL ?_ λj x v G hv=>?_,by simpa using k2])
 .rw[Li,BY];omega
 .have al:L.toList.length=L.size:=Mj;rw[Li,BY];omega
 .have am:L[j]?=some v:=(by rw[<-My];show hv);rcases it j v am with⟨S,O⟩|⟨S,O⟩
  .rw[G1]at S;rw[L4 af]at G;let#[b,eb,rb]:=r.get G;have:its[j]?=some v:=(by simpa using O);rw[this]at eb;cases eb;show rb
  .rw[G1]at S O;let#[k,y,e1,e2]:=O;rw[LY af,K4]at G;have J:(vs.map (·.1))[j-its.length]?=some k:=(by rw[K4,e1];rfl);rw[<-ab.keys,K4]at J;rw[show j-xs.length=j-its.length by omega]at G;cases e4:kvs[j-its.length]? with
   |none=>rw[e4]at J;cases J
   |some Y =>
    rw[e4]at J G;obtain rfl:Y.1=k:=Option.some.inj J;obtain rfl:kV Y.1=x:=Option.some.inj G;show rO e2
noncomputable def JB (K:PySem.W.Frag):R2:=λx y H Q=>∃p q xs ys,x=.ref p/\y=.ref q/\cy K H p xs/\cy K H q ys/\xs.all eI=true/\ys.all eI=true/\Q (.bl (jh xs ys)) H
theorem pC:∀{xs ys:List V},((List.range (min xs.length ys.length)).all (λj=>lN (xs.getD j .non) (ys.getD j .non))&&xs.length==ys.length)=jh xs ys:=by
 intro xs ys;by_cases e:xs.length=ys.length
 .rw[e,Nat.min_self,beq_self_eq_true,Bool.and_true, <-jo e,e]
 .rw[mi e,beq_eq_false_iff_ne.mpr e,Pf]
theorem zF (hu:X.A.units<NG):lC X (Ms .Eq) (JB X.K):=by
 intro pins s σ H x y v u Q I rx ry h;let#[p,q,xs,ys,rfl,rfl,hx,hy,fx,fy,hq]:=h;cases rx;cases ry;let#[its,r,pl,hz]:=I.tuple hx;let#[N,L,ab,am]:=I.tuple hy;have hl:=r.length;have R:=L.length;show SeqAt.eq_tupleAt (e:=λj=>lN (xs.getD j .non) (ys.getD j .non)) pl ab hu (λj h1 h2=>?_) #[.bl (jh xs ys),H,I,?_,hq]
 .rw[G1]at h1 h2;have G:j<xs.length:=af;have J:j<ys.length:=af;let#[a,ea,Y]:=r.get (i:=j) (x:=xs[j]) (by simp[G]);let#[b,eb,O]:=L.get (i:=j) (x:=ys[j]) (by simp[J]);let#[_,U]:=List.getElem?_eq_some_iff.mp ea;let#[_,ac]:=List.getElem?_eq_some_iff.mp eb;have S:xs.getD j .non=xs[j]:=(by simp[G]);have g2:ys.getD j .non=ys[j]:=(by simp[J]);change OT _ _ its.toArray[j] N.toArray[j] (lN (xs.getD j .non) (ys.getD j .non));have a1:its.toArray[j]=a:=(by simpa using U);have a2:N.toArray[j]=b:=(by simpa using ac);rw[S,g2,a1,a2];show rW Y O (List.all_eq_true.mp fx _ (MB G)) (List.all_eq_true.mp fy _ (MB J))
 .change Value.bool _=Value.bool _;rw[G1,G1, <-hl, <-R,pC]
end
section
variable {X:Cx}{pins:List (Addr×Obj)}{σ:St}{H:Hp}{s:By}
end
section
variable {X:Cx}
end
end L2
namespace PySem
open PySem.Sem (wp)
section
variable {prog:IF}{w:Ll}{A:Lq}{E:Value->By->Prop}{h:Heap}{g:Array PL}{d:Drawn}{t:Nat}{os:OsState}{a:Addr}{its:Array Value}{n:Nat}
end
open PyProof.Rows
namespace F
end F
section
variable {prog:IF}{w:Ll}{K:Type} [DecidableEq K] {knd:KeyKind prog w K}{A:Lq}{E:Value->By->Prop}
end
end PySem
namespace L2
open PySem PySem.Spec PyProof.Rows
section
variable {X:Cx}{scope:Od}{cl:List (Str×Addr)}{t:Str×Str}{caps:List (Str×Nat)}{pins:List (Addr×Obj)}{σ:St}{H:Hp}{s:By}{C:Addr}{fp:List Addr}
end
section
variable {X:Cx}{scope:Od}{cl:List (Str×Addr)}{t:Str×Str}{caps:List (Str×Nat)}{elt iter:LC}{ifs:List LC}{px pos:Nu}{es:List LC}{kx:Nat}{g:TG}{wi:TI}{tt:TT}{te:TE}
end
theorem EY:LK "zip" = some (.type "zip"):=ao
theorem qy:LK "enumerate" = some (.type "enumerate"):=ao
theorem vo:LK "all" = some (.builtin "all"):=ao
section
variable {X:Cx}{pins:List (Addr×Obj)}{σ:St}{H:Hp}{s:By}{h':Heap}
theorem Inv.j8 {t':Nat}{ch:List Addr}(I:Inv X pins σ H s) (k:∀b o,b∉ch->s.heap.get? b=some o->h'.get? b=some o) (J:∀b∈ch,gy X pins H b):Inv X pins σ H { s with heap:=h',toks:=t' }:=by
 have L:∀b u,H b=some u->b∉ch:=λb u e z=>(by rw[(J b z).1]at e;cases e);show I.step (g':=s.gens) (d':=s.drawn) (ch:=ch) (λb O=>?_) (λb o _ _ G e _=>k b o G e) (λb o _ _ G e _=>#[o.slots,k b o G e]) (λ_ _ _ _ n=>n)
  (λb o G e=>#[o,k b o G e]) (λ_ _ e=>e) (λ_ _ _ e=>e) (λb ps e=>#[([].toArray),by rw[e];simp]) (λm R=>?_) (λb u e=>?_) I.bare
 .let#[_,N,f2,Y,U,S]:=J b O;show#[Y,N,U,S]
 .let#[o,es,ep,ho,r]:=R;show#[o,es,ep,k _ o (λz=>(J _ z).2.1 rfl) ho,r]
 .show(I.bC b u e).iV (λc v G q=>k c v ?_ q) (λ_ q=>q) λ_ _ q=>q;rcases G with z|z
  .rw[z];show L b u e
  .show L c _ z
theorem Inv.vQ {D:Addr}{ys:List V}{its:List Value}(I:Inv X pins σ H s) (f:gy X pins H D) (e:IsTup s.heap D its.toArray) (r:Vals ys its) (Y:ys.length<=sizeLine) :
  Inv X pins σ (upd H D (.tup ys)) s:=by
 let#[J,L,f2,U,S,R]:=f;let#[N,g,d,tk,os]:=s;show I.step (g':=g) (d':=d) (t':=tk) (h':=N) (ch:=[D]) (λb G=>?_) (λb o _ _ _ e _=>e) (λb o _ _ _ e _=>#[o.slots,e]) (λb o G _ n=>?_) (λb o _ e=>#[o,e]) (λb xs q=>?_) (λb o u q=>?_) (λb ps q=>#[([].toArray),?_]) (λm O=>O) (λb u q=>?_) I.bare
 .have z:b=D:=(by simpa using G);subst z;show#[U,L,S,R]
 .rw[ag (λz=>G (by simp[z]))];show n
 .rw[ag (aq q J)];show q
 .rw[ag (aq q J)];show q
 .rw[ag (aq q J),q];simp
 .by_cases G:b=D
  .subst G;rw[ae]at q;cases q;show#[Y,its,r,e]
  .rw[ag G]at q;show(I.bC b u q).iV (λ_ _ _ z=>z) (λc z=>by rw[ag (aq z J)];show z) λc xs z=>by rw[ag (aq z J)];show z
end
noncomputable def Hn (K:PySem.W.Frag) (G I:Addr):It :=
 #[λi H=>∃xs ys x y,bA K H G xs/\bA K H I ys/\xs[i]?=some x/\ys[i]?=some y,
  λi H v H'=>∃T x y,v=.ref T/\H T=none/\H'=upd H T (.tup [x,y])/\(∀xs,bA K H G xs->xs[i]?=some x)/\∀ys,bA K H I ys->ys[i]?=some y,
  λi H=>∃xs ys,bA K H G xs/\bA K H I ys/\(xs.length<=i\/ys.length<=i)]
noncomputable def KN (z TI TO I G J L:Addr) (i:Nat) (h:Heap):Prop:=IsZip h z TI TO .none/\IsPair h TI (.ref I) (.ref G)/\(∃a b,IsPair h TO a b)/\h.IsListIter I J i/\h.IsListIter G L i
theorem vN:2<=sizeLine:=by rw[Lh];decide
theorem Ag {P:IF}{w:Ll}{K:PySem.W.Frag}{es:List LC}{kx:Nat}{px:Nu}{z TI TO S L l1 l2:Addr}(D:ZipApart z TI TO S L l1 l2):Turn P w K (.Tuple es kx px) (Hn K l1 l2) [z,TI,TO,S,L] z (KN z TI TO S L l1 l2) where
 mem:=by simp
 obj:=by
  rintro i h ⟨N,J,⟨a,b',R⟩,h1,h2⟩ b G;simp only[LO,Lm,or_false]at G;rcases G with rfl|rfl|rfl|rfl|rfl
  .show#[_,N,λv q=>by cases(show NV _=NO v from q)]
  .show#[_,J,λv q=>by cases(show Qu _ _=NO v from q)]
  .show#[_,R,λv q=>by cases(show Qu _ _=NO v from q)]
  .let#[o,e,c,d]:=h1;show#[o,e,λv q=>by rw[d]at q;cases q]
  .let#[o,e,c,d]:=h2;show#[o,e,λv q=>by rw[d]at q;cases q]
 keep:=λi h h' ⟨N,J,⟨a,b,R⟩,h1,h2⟩ k=>#[k z (by simp) _ N,k TI (by simp) _ J,#[a,b,k TO (by simp) _ R],h1.at λo e=>k S (by simp) o e,h2.at λo e=>k L (by simp) o e]
 item:=by
  intro X hP hw hK hc i pins s σ H E I Y st hg;subst hP hw hK;let#[N,J,#[a,b,R],h1,h2]:=st;let#[xs,ys,x,y,q1,q2,e1,e2]:=hg;let#[aB,ab,p1,_]:=I.list q1;let#[ap,am,p2,_]:=I.list q2;let#[u1,a5,a0]:=ab.get e1;let#[u2,aT,a3]:=am.get e2;have f4:∀b∈[z,TO,S,L],gy X pins H b:=λb G=>Y b (by simp only[LO,Lm,or_false]at G ⊢;rcases G with h|h|h|h<;>simp[h]);show wpAny_pyNext_zip_item D N J R h1 h2 p1.isList p2.isList (x:=u1) (y:=u2) (by simpa using a5) (by simpa using aT) λh' z' a4 a1 a2 pT sz kk=>?_;have I1:Inv X pins σ H { s with heap:=h' }:=I.j8 (t':=s.toks) (ch:=[z,TO,S,L]) (λb o G e=>kk b o (λq=>G (by simp[q])) (λq=>G (by simp[q])) (λq=>G (by simp[q])) (λq=>G (by simp[q])) e) f4;show#[0,wpAny_letOwnedTupleGo_zip z' λU z2 O=>?_];replace O:Heap.SameBut z h' U:=O;have I2:Inv X pins σ H { s with heap:=U }:=I1.j8 (s:={ s with heap:=h' }) (h':=U) (t':=s.toks) (ch:=[z]) (λb o G e=>(O.2 b (λq=>G (by simp[q]))).trans e) λb G=>Y b (by simp only[NU]at G;simp[G]);have fT:gy X pins H s.heap.objs.size:=I.j5 (HC _) (I.bC.fresh (HC _));have nz:s.heap.objs.size≠z:=PQ (Heap.lt_size N);have as:IsPair U s.heap.objs.size u1 u2:=O.extBut _ _ nz pT;have I3:Inv X pins σ (upd H s.heap.objs.size (.tup [x,y])) { s with heap:=U }:=I2.vQ (its:=[u1,u2]) fT #[_,as,rfl,0] (.cons a0 (.cons a3 .nil)) vN;show#[.ref s.heap.objs.size,_,I3,rfl,#[_,x,y,rfl,fT.1,rfl,λzs ac=>by rw[I.jy ac q1];show e1,λzs ac=>by rw[I.jy ac q2];show e2],#[z2,O.extBut _ _ D.TIz (kk _ _ D.TIz D.TITO D.TIi1 D.TIi2 J),#[2,O.extBut _ _ D.TOz a4],a1.extBut O.extBut D.i1z,a2.extBut O.extBut D.i2z],λb G=>?_];have nb:b≠s.heap.objs.size:=by
   intro q;simp only[LO,Lm,or_false]at G;let#[o1,g1,_]:=h1;let#[o2,g2,_]:=h2;rcases G with e|e|e|e|e<;>rw[e]at q
   .show nz q.symm
   .show LM (Heap.lt_size J) q
   .show LM (Heap.lt_size R) q
   .show LM (Heap.lt_size g1) q
   .show LM (Heap.lt_size g2) q
  rw[ag nb];show(Y b G).1
 done:=by
  intro X hP hw hK hc i pins s σ H E I Y st hg;subst hP hw hK;let#[N,J,#[a,b,R],h1,h2]:=st;let#[xs,ys,q1,q2,e]:=hg;let#[aB,ab,p1,_]:=I.list q1;let#[ap,am,p2,_]:=I.list q2;have a7:=ab.length;have a6:=am.length;have f4:∀b∈[z,TO,S,L],gy X pins H b:=λb G=>Y b (by simp only[LO,Lm,or_false]at G ⊢;rcases G with h|h|h|h<;>simp[h]);show wpAny_pyNext_zip_end (I.ok.hd hc) D N J R h1 h2 p1.isList p2.isList (e.elim (λe=>.inl (by simp;omega)) λe=>.inr (by simp;omega)) λh' kk=>#[rfl,I.j8 (t':=s.toks) (ch:=[z,TO,S,L]) (λb o G e=>kk b o (λq=>G (by simp[q])) (λq=>G (by simp[q])) (λq=>G (by simp[q])) (λq=>G (by simp[q])) e) f4]
 self:=λ_ _ _ _ _ st h=>P6 st.1 h
section
variable {X:Cx}
noncomputable def JE (K:PySem.W.Frag) (ta:TA):TI:=λσ H R=>ta σ H λvs H1=>Bb λG I=>Ia (vs=[.ref G,.ref I]) ((∃xs,bA K H1 G xs)) ((∃ys,bA K H1 I ys)) (R (Hn K G I) H1)
theorem Fz {es:List LC}{kx:Nat}{px:Nu}{a b:LC}{ta:TA}{p pos:Nu}(hg:Gl X "zip") (hm:X.mg "zip" = none) (ha:PA X [a,b] ta) (hs:starEach [a,b] X.env=[(false,eval a X.env),(false,eval b X.env)]:=by rfl) (Y:starEach [b] X.env=[(false,eval b X.env)]:=by rfl) :
  PI X (.Tuple es kx px) (.Call (.Name "zip" p) [a,b] [] pos) (JE X.K ta):=by
 intro pins s σ H R I h;show Call_ (hU I hg hm EY (LZ (bS (ha pos pins s σ H _ I h) λus G ⟨vs,H1,J,r1,q1⟩=>?_) (by rw[hs,Y]) (by rw[Y];rfl)));let#[L,U,rfl,#[xs,g1],#[ys,g2],q]:=q1;let#[u1,u2,rfl,e1,e2]:=vals2 r1;obtain rfl:u1=Value.ref L:=e1;obtain rfl:u2=Value.ref U:=e2;let#[a2,a0,S,_]:=J.list g1;let#[a1,aT,p2,_]:=J.list g2;have aB:L<G.heap.objs.size:=let ⟨_,e,_⟩:=S.isList;Heap.lt_size e;have ac:U<G.heap.objs.size:=let ⟨_,e,_⟩:=p2.isList;Heap.lt_size e;show call_zip_2 S.isList p2.isList λh' O am as ap ab hsz hk=>?_;show P6 O ?_;show#[G.heap.objs.size+4,[G.heap.objs.size+4,G.heap.objs.size+2,G.heap.objs.size+3,G.heap.objs.size,G.heap.objs.size+1],2,H1,rfl,J.kept (t':=G.toks) hk,Ag (zipApart_new aB ac),#[O,am,#[2,as],ap,ab],λb N=>?_,q];have le:G.heap.objs.size<=b:=by
  simp only[LO,Lm,or_false]at N;rcases N with e|e|e|e|e<;>rw[e]<;>first|show HC _|show Nat.le_add_right _ _
 show J.j5 le (J.bC.fresh le)
noncomputable def GN (K:PySem.W.Frag) (l:Addr):It :=
 #[λi H=>∃xs x,bA K H l xs/\xs[i]?=some x,
  λi H v H'=>∃T x,v=.ref T/\H T=none/\H'=upd H T (.tup [.int i,x])/\∀xs,bA K H l xs->xs[i]?=some x,
  λi H=>∃xs,bA K H l xs/\xs.length<=i]
noncomputable def K9 (e G l:Addr) (i:Nat) (h:Heap):Prop:=(∃I,IsEnum h e G i I)/\h.IsListIter G l i
theorem yc {P:IF}{w:Ll}{K:PySem.W.Frag}{es:List LC}{kx:Nat}{px:Nu}{e L l:Addr}(D:e≠L):Turn P w K (.Tuple es kx px) (GN K l) [e,L] e (K9 e L l) where
 mem:=by simp
 obj:=by
  rintro i h ⟨⟨U,J⟩,h1⟩ b G;simp only[LO,Lm,or_false]at G;rcases G with rfl|rfl
  .show#[_,J,λv q=>by cases(show NV _=NO v from q)]
  .let#[o,e,c,d]:=h1;show#[o,e,λv q=>by rw[d]at q;cases q]
 keep:=λi h h' ⟨⟨U,J⟩,h1⟩ k=>#[#[U,k e (by simp) _ J],h1.at λo q=>k L (by simp) o q]
 item:=by
  intro X hP hw hK hc i pins s σ H E I O st Y;subst hP hw hK;let#[#[U,J],h1]:=st;let#[xs,x,R,e1]:=Y;let#[am,ab,p1,_]:=I.list R;let#[u1,aB,as]:=ab.get e1;show wpAny_pyNext_enum_item J h1 p1.isList (x:=u1) (by simpa using aB) D λh' eo a1 pT sz kk=>?_;have I1:Inv X pins σ H { s with heap:=h',toks:=s.toks+1 }:=I.j8 (t':=s.toks+1) (ch:=[e,L]) (λb o G q=>kk b o (λz=>G (by simp[z])) (λz=>G (by simp[z])) q) O;show#[0,wpAny_letOwnedTupleGo_enum eo λS e2 N=>?_];replace N:Heap.SameBut e h' S:=N;have I2:Inv X pins σ H { s with heap:=S,toks:=s.toks+1 }:=I1.j8 (s:={ s with heap:=h',toks:=s.toks+1 }) (h':=S) (t':=s.toks+1) (ch:=[e]) (λb o G q=>(N.2 b (λz=>G (by simp[z]))).trans q) λb G=>O b (by simp only[NU]at G;simp[G]);have fT:gy X pins H s.heap.objs.size:=I.j5 (HC _) (I.bC.fresh (HC _));have ne:s.heap.objs.size≠e:=PQ (Heap.lt_size J);have ac:=N.extBut _ _ ne pT;have I3:Inv X pins σ (upd H s.heap.objs.size (.tup [.int i,x])) { s with heap:=S,toks:=s.toks+1 }:=I2.vQ (its:=[.int i s.toks,u1]) fT #[_,ac,rfl,0] (.cons #[0] (.cons as .nil)) vN;show#[.ref s.heap.objs.size,_,I3,rfl,#[_,x,rfl,fT.1,rfl,λzs ap=>by rw[I.jy ap R];show e1],#[#[u1,?_],a1.extBut N.extBut (G0 D)],λb G=>?_]
  .have ec:((i+1:Nat):Int)=(i:Int)+1:=(by push_cast;rfl);rw[ec];show e2
  .have nb:b≠s.heap.objs.size:=by
    intro q;simp only[LO,Lm,or_false]at G;let#[o1,g1,_]:=h1;rcases G with z|z<;>rw[z]at q
    .show ne q.symm
    .show LM (Heap.lt_size g1) q
   rw[ag nb];show(O b G).1
 done:=by
  intro X hP hw hK hc i pins s σ H E I O st Y;subst hP hw hK;let#[#[U,J],h1]:=st;let#[xs,R,e1]:=Y;let#[am,ab,p1,_]:=I.list R;have aT:=ab.length;let#[f0,f1,f2,f3,f4,f5]:=O L (by simp);show wpAny_pyNext_enum_end (I.ok.hd hc) J h1 p1.isList (by simp;omega) λh' eb=>#[rfl,I.turned (t':=s.toks) (λb o G q=>eb b o G q) f0 f1 f3 f4 f5]
 self:=λ_ _ _ _ _ st h=>let ⟨⟨_,J⟩,_⟩:=st;P4 J h
noncomputable def HD (K:PySem.W.Frag) (ta:TA):TI:=λσ H R=>ta σ H λvs H1=>∃l,vs=[.ref l]/\(∃xs,bA K H1 l xs)/\R (GN K l) H1
theorem C8 {es:List LC}{kx:Nat}{px:Nu}{a:LC}{ta:TA}{p pos:Nu}(O:Gl X "enumerate") (hm:X.mg "enumerate" = none) (ha:PA X [a] ta) (hs:starEach [a] X.env=[(false,eval a X.env)]:=by rfl) :
  PI X (.Tuple es kx px) (.Call (.Name "enumerate" p) [a] [] pos) (HD X.K ta):=by
 intro pins s σ H R I h;show Call_ (hU I O hm qy (LZ (bS (ha pos pins s σ H _ I h) λus G ab=>?_) hs rfl));let#[vs,H1,J,r1,S]:=ab;let#[l,rfl,#[xs,U],q]:=S;let#[u1,rfl,Y]:=vals1 r1;obtain rfl:u1=Value.ref l:=Y;let#[am,ac,p1,_]:=J.list U;show call_enumerate_list p1.isList λh' N hi hsz hk=>?_;show P4 N ?_;show#[G.heap.objs.size+1,[G.heap.objs.size+1,G.heap.objs.size],2,H1,rfl,J.kept (t':=G.toks) hk,yc (l:=l) (Nat.succ_ne_self _),#[#[_,N],hi],λb L=>?_,q];have le:G.heap.objs.size<=b:=by
  simp only[LO,Lm,or_false]at L;rcases L with e|e<;>rw[e]<;>first|show HC _|show Nat.le_add_right _ _
 show J.j5 le (J.bC.fresh le)
theorem qZ:∀{bs:List Bool}{its:List Value},Vals (bs.map V.bl) its->its=bs.map Value.bool
 | [],_,.nil=>rfl
 |b::bs,_,.cons r t=>by rw[qZ t,show _=Value.bool b from r];rfl
theorem kI (hc:X.calm=true):dG X (.builtin "all") (λxs H Q=>∃(l:Addr) (bs:List Bool),xs=[.ref l]/\bA X.K H l (bs.map V.bl)/\Q (.bl (bs.all id)) H):=by
 intro pins s σ H xs us Q I r h;let#[l,bs,rfl,S,q]:=h;let#[u,rfl,Y]:=vals1 r;obtain rfl:u=Value.ref l:=Y;let#[its,O,p,_]:=I.list S;have ei:=qZ O;subst ei;have J:=p.isList;have ab:l<s.heap.objs.size:=let ⟨_,e,_⟩:=J;Heap.lt_size e;show call_all_walk (Of J ?_);show#[s.heap.objs.size,[s.heap.objs.size,l],[s.heap.objs.size],(bs.map Value.bool).toArray.size,2,λi=>(bs[i]?).getD true,rfl,QY (A:=X.A.in1) (I.ok.hd hc) _ l (LM ab) (bs.map Value.bool).toArray,
  #[#[_,Heap.get?_push_size _ rfl,1],J.push _],λi v s' Q' E' R N=>?_,λh' tk U=>?_]
 .have ac:(bs.map Value.bool).toArray[i]?=some v:=R;have G:(bs.map Value.bool)[i]?=some v:=(by simpa using ac);rw[K4]at G;cases L:bs[i]? with
  |none=>rw[L]at G;cases G
  |some b =>
   rw[L]at G;have e2:Value.bool b=v:=Option.some.inj G;subst e2;simp only[L,P7]at N;show Ml N
 .have e:((List.range (bs.map Value.bool).toArray.size).all λi=>(bs[i]?).getD true)=bs.all id:=by
   rw[G1,BY];show LSm.range_all bs
  rw[e];show#[.bl _,H,I.kept (QB U),rfl,q]
end
theorem zL {K:PySem.W.Frag}{a:Addr}{xs:List V}{g:TG}{tb:TS}{D:Ends}{σ:St}{H:Hp}(Pv:Nat->St->Hp->Prop) (R:Pv 0 σ H) (hl:∀i σ H,i<=xs.length->Pv i σ H->bA K H a xs)
  (hs:∀i x σ H T,xs[i]?=some x->H T=none->Pv i σ H->g (.ref T) σ (upd H T (.tup [.int i,x])) λJ H2=>tb { D with nx:=Pv (i+1),ct:=Pv (i+1),bk:=D.nx } J H2) (hd:∀σ H,Pv xs.length σ H->D.nx σ H) :
  ∃W:Nat->Nat->St->Hp->Prop,(∃m,W 0 m σ H)/\∀i m σ H,W i m σ H ->
   ((GN K a).stop i H/\D.nx σ H)\/((GN K a).go i H/\∃N:St->Hp->Prop,(∀G H',N G H'->∃O,O<m/\W (i+1) O G H')/\∀x H',(GN K a).DJ i H x H'->g x σ H' λJ H2=>tb { D with nx:=N,ct:=N,bk:=D.nx } J H2):=by
 show#[λi m σ H=>m=xs.length-i/\i<=xs.length/\Pv i σ H,#[xs.length,by simp,LD _,R],?_];rintro i m σ H ⟨rfl,hi,p⟩;have I:=hl i σ H hi p;by_cases L:i<xs.length
 .show .inr #[#[xs,xs[i],I,by simp[L]],Pv (i+1),λG H' U=>#[xs.length-(i+1),af,rfl,L,U],?_];rintro v H' ⟨T,x,rfl,Y,rfl,S⟩;show hs i x σ H T (S xs I) Y p
 .have e:i=xs.length:=af;subst e;show .inl #[#[xs,I,HC _],hd σ H p]
section
variable {X:Cx}
theorem dY (hc:X.calm=true):dG X (.builtin "sorted") (λxs H Q=>∃(a:Addr) (kvs:List (Key×V)) (ns:List Int),xs=[.ref a]/\H a=some (.dK kvs)/\kvs.map (·.1)=ns.map Sum.inl/\ns.Nodup/\ns.length<=1000 /\
  ∀(l:Addr) (ns':List Int),H l=none->ns'.Perm ns->ns'.Pairwise (· <= ·)->Q (.ref l) (upd H l (.lst (ns'.map V.int)))):=by
 intro pins s σ H xs us Q I r h;let#[a,kvs,ns,rfl,ha,hk,ac,hn,q]:=h;let#[u,rfl,ru]:=vals1 r;cases ru;let#[_,hd,vs,ab,dd]:=gY I.bC ha;let#[ep,S]:=dd.dictAt;have O:vs.map (·.1)=ns.map Sum.inl:=(by rw[<-ab.keys];show hk);have ll:ns.length=vs.length:=by
  have:=congrArg List.length O;simpa using this.symm
 have hs:sizeLine=16777216:=Lh;show Srt.uO (kdl_dict (knd:=bu X.prog X.w) (kvs:=vs) (ep:=ep) (d:=a) hd) (I.ok.hd hc) S (ns:=ns) (λi w' U=>?_) ll ac af λh1 h' tk out ns' e k1 k2 he a1 L a3=>?_
 .let#[k,x,R,Y]:=U;have G:(vs.map (·.1))[i]?=some k:=(by rw[K4,R];rfl);rw[O,K4]at G;cases J:ns[i]? with
  |none=>rw[J]at G;cases G
  |some m =>
   rw[J]at G;obtain rfl:Sum.inl m=k:=Option.some.inj G;let#[t,rfl]:=rO Y;show#[m,t,1]
 .have N:Inv X pins σ H { s with heap:=h1,toks:=tk }:=I.kept k1;show#[.ref h1.objs.size,_,N.laid (t':=tk) k2 (HC _) (show bT X.prog X.w _ _ _ (.lst (ns'.map V.int))from#[by rw[BY,L.length_eq];omega,out.toList,e,iL a1,by simpa using he]),rfl,q _ ns' (N.bC.fresh (HC _)) L a3]
inductive wV (H₀:Hp) (t:TE) (Q:VK) (v:V) (H':Hp):Prop
 |mk (a:_) (o:_) (kvs:_) (_:H' a=some (.cH o (.dK kvs))) (_:(∀o u',H₀ a≠some (.cH o u'))) (_:Q v (upd H' a (.dK kvs))):wV H₀ t Q v H'
noncomputable def FP (H₀:Hp) (t:TE):TE:=λσ H Q=>t σ H λv H'=>wV H₀ t Q v H'
theorem xD {e:LC}{t:TE}(h:PE X e t):PE X e (FP X.H₀ t):=by
 intro pins s σ H Q I q;show bS (h pins s σ H _ I q) λu R N=>?_;let#[v,H',J,r,a,o,kvs,L,O,G]:=N;show#[v,_,J.Fn L O,r,G]
end
theorem mK:entryFor table "dict_itemiterator.__iter__" = some Builtin.«dict_keyiterator.__iter__» :=
 entryFor_alias (id' := "dict_keyiterator.__iter__") (by kernel_rfl) (by first|rfl|decide +kernel|(unfold String.splitOn;simp +decide [String.splitOnAux])) ao (by kernel_rfl)
theorem gZ {prog:IF}{w:Ll}{A:Lq}{E:Value->By->Prop}{s:By}{G d:Addr}{i n ep:Nat}{ok ov:Value}{Q:Value->By->Prop}(J:IsItemIter s.heap G d i n ep ok ov) (h:Q (.ref G) s):wpAny (model prog w) A (pyIter (.ref G)) Q E s:=by
 have I:s.TypeIs (.ref G) "dict_itemiterator" := #[_,J,rfl];show wpAny_pyIter_slot I PySem.F.slot_dict_itemiterator_iter (Nm PySem.F.slot_dict_itemiterator_iter I mK ?_ (PySem.F.args_dict_itemiterator_iter_1 _));change wpAny _ _ (ret (.ref G)) _ _ s;show Lg #[0,"dict_itemiterator",_,I,PySem.F.slot_dict_itemiterator_next.lookup,h]
noncomputable def Gn (a:Addr) (o:Obj) (kvs:List (Key×V)):It :=
 #[λi H=>H a=some (.cH o (.dK kvs))/\i<kvs.length,λi H x H'=>∃T k v,x=.ref T/\H T=none/\kvs[i]?=some (k,v)/\H'=upd H T (.tup [kV k,v]),λi H=>H a=some (.cH o (.dK kvs))/\kvs.length<=i]
theorem BF:∀{kvs:List (Key×V)}{vs:List (Key×Value)},Paired (λ(p:Key×V) (q:Key×Value)=>p.1=q.1/\RelV p.2 q.2) kvs vs->∀{i:Nat},i<kvs.length->∃k v x,kvs[i]?=some (k,v)/\vs[i]?=some (k,x)/\RelV v x
 |_,_,.nil,_,h=>by simp at h
 |p::_,L::_,.cons q _,0,_=>#[p.1,p.2,L.2,rfl,by rw[q.1];rfl,q.2]
 |_::_,_::_,.cons _ t,i+1,h=>by
  let#[k,v,x,J,G,I]:=BF t (i:=i) (by simpa using h);show#[k,v,x,by simpa using J,by simpa using G,I]
theorem Eh {kvs:List (Key×V)}{vs:List (Key×Value)}(r:KV kvs vs) {i:Nat}(hi:i<kvs.length):∃k v x,kvs[i]?=some (k,v)/\vs[i]?=some (k,x)/\RelV v x:=BF r hi
theorem u6 {P:IF}{w:Ll}{K:PySem.W.Frag}{es:List LC}{kx:Nat}{px:Nu}(a G:Addr) (aT:a≠G) (o:Obj) (kvs:List (Key×V)):Turn P w K (.Tuple es kx px) (Gn a o kvs) [G] G (λi h=>∃ok ov,IsItemIter h G a i kvs.length (za o) ok ov) where
 mem:=by simp
 obj:=λi h st b J=>by
  have e:b=G:=(by simpa using J);subst e;let#[ok,ov,st]:=st;show#[_,st,λv q=>by cases(show NV _=NO v from q)]
 keep:=λi h h' st k=>let ⟨ok,ov,st⟩:=st;#[ok,ov,k G (by simp) _ st]
 item:=by
  intro X hP hw hK hc i pins s σ H E I hf st hg;subst hP hw hK;let#[ac,am]:=hg;let#[U,L,f2,N,Y,S]:=hf G (by simp);let#[hd,vs,r,da]:=kR I.bC ac;have ab:=r.length;let#[k,v,x,e1,e2,e3]:=Eh r am;let#[ok,ov,st]:=st;rw[ab]at st ⊢;show wpAny_pyNext_items_item st da e2 λas h' aB ho hT hsz hk=>?_;have I1:Inv X pins σ H { s with heap:=h',toks:=s.toks }:=I.turned (λb o J e=>hk b o J e) U L N Y S;show#[0,wpAny_letOwnedTupleGo_items ho λR e4 O=>?_];replace O:Heap.SameBut G h' R:=O;have I2:Inv X pins σ H { s with heap:=R,toks:=s.toks }:=I1.turned (s:={ s with heap:=h',toks:=s.toks }) (h':=R) (t':=s.toks) (λb o J e=>(O.2 b J).trans e) U L N Y S;have fT:gy X pins H s.heap.objs.size:=I.j5 (HC _) (I.bC.fresh (HC _));have ne:s.heap.objs.size≠G:=PQ (Heap.lt_size st);have ap:=O.extBut _ _ ne hT;have I3:Inv X pins σ (upd H s.heap.objs.size (.tup [kV k,v])) { s with heap:=R,toks:=s.toks }:=I2.vQ (its:=[as,x]) fT #[_,ap,rfl,0] (.cons (rO aB) (.cons e3 .nil)) vN;show#[.ref s.heap.objs.size,_,I3,rfl,#[_,k,v,rfl,fT.1,e1,rfl],#[2,e4],λb J=>?_];have nb:b≠s.heap.objs.size:=λq=>ne (by rw[<-q];simpa using J);rw[ag nb];show(hf b J).1
 done:=by
  intro X hP hw hK hc i pins s σ H E I hf st hg;subst hP hw hK;let#[ac,am]:=hg;let#[U,L,f2,N,Y,S]:=hf G (by simp);let#[hd,vs,r,da]:=kR I.bC ac;have ab:=r.length;let#[ok,ov,st]:=st;rw[ab]at st;show wpAny_pyNext_items_end (I.ok.hd hc) st da (by simp;omega) λh' eb=>#[rfl,I.turned (t':=s.toks) (λb o J e=>eb b o J e) U L N Y S]
 self:=λ_ _ _ _ _ st h=>by
  let#[ok,ov,st]:=st;show gZ st h
section
variable {X:Cx}
noncomputable def EM (H₀:Hp) (td:TE):TI:=λσ H R=>td σ H λx H1=>Bb λa kvs=>Ia (x=.ref a) (H1 a=some (.dK kvs)) ((∀o G,H₀ a≠some (.cH o G))) (∀o,R (Gn a o kvs) (upd H1 a (.cH o (.dK kvs))))
theorem t5 {es:List LC}{kx:Nat}{px:Nu}{o:LC}{apos cpos:Nu}{td:TE}(ho:PE X o td) (aB:Nh o "items" X.env (eval o X.env)=eval o X.env:=by rfl) (ac:(apos.endLine==cpos.line)=true:=by rfl):PI X (.Tuple es kx px) (.Call (.Attribute o "items" apos) [] [] cpos) (EM X.H₀ td):=by
 intro pins s σ H R I h;show Oz aB ac (bS (ho pins s σ H _ I h) λu G as=>?_);let#[x,H1,O,rx,a,kvs,ex,J,hn,q]:=as;subst ex;obtain rfl:u=Value.ref a:=rx;let#[Y,t2,hd]:=kP O (.inl #[kvs,.inl J]);let#[_,_,vs,a0,dd]:=gY O.bC J;show#["dict","dict.items",Ng,PySem.F.slot_dict_items,PySem.F.type_dict_items,Y,t2,Calls.callWith_builtin rfl (PySem.evalArgs_none ?_)];show Nb PySem.F.slot_dict_items dd.typeIs PySem.F.entry_dict_items (PySem.F.args_dict_items_1 _) (meets_dict_items (bu X.prog X.w) a hd) #[#[vs,dd],?_];have nw:=Heap.get?_push_size G.heap (o:={ cls:=.type "dict_items",data:=.fields ([.ref a].toArray) }) rfl;have S:Inv X pins σ H1 { G with heap:=G.heap.push { cls:=.type "dict_items",data:=.fields ([.ref a].toArray) },toks:=G.toks }:=O.kept λb o e=>Heap.get?_push_of_some _ e;let#[_,aT,ab,am,zb]:=gY S.bC J;let#[ob,ap,ep,L,g2,g3,g4]:=id zb;have N:=S.freeze J L hn;have lt:a<(G.heap.push { cls:=.type "dict_items",data:=.fields ([.ref a].toArray) }).objs.size:=Heap.lt_size L;have da:(G.heap.push { cls:=.type "dict_items",data:=.fields ([.ref a].toArray) }).DictAt (bu X.prog X.w) a ab (za ob):=#[ob,ap,L,g2,by unfold za;rw[g3],g4];show wpAny_pyIter_items #[_,nw,1] da ?_;show#[(G.heap.push { cls:=.type "dict_items",data:=.fields ([.ref a].toArray) }).objs.size,[(G.heap.push { cls:=.type "dict_items",data:=.fields ([.ref a].toArray) }).objs.size],_,Gn a ob kvs,0,N.kept (t':=G.toks) λb o e=>Heap.get?_push_of_some _ e,u6 a _ (LM lt) ob kvs,#[.none,.none,?_],λb U=>?_,q ob]
 .rw[am.length];show Heap.get?_push_size _ rfl
 .have e:b=(G.heap.push { cls:=.type "dict_items",data:=.fields ([.ref a].toArray) }).objs.size:=(by simpa using U);subst e;show N.j5 (HC _) (N.bC.fresh (HC _))
end
noncomputable def IV (a:Addr) (o:Obj) (kvs:List (Key×V)):It :=
 #[λi H=>H a=some (.cH o (.dK kvs))/\i<kvs.length,λi H x H'=>H'=H/\∃k,kvs[i]?=some (k,x),λi H=>H a=some (.cH o (.dK kvs))/\kvs.length<=i]
theorem yu {P:IF}{w:Ll}{K:PySem.W.Frag}{tg:LC}(a G:Addr) (aB:a≠G) (o:Obj) (kvs:List (Key×V)):Turn P w K tg (IV a o kvs) [G] G (λi h=>h.IsValIter G a i kvs.length (za o)) where
 mem:=by simp
 obj:=λi h st b J=>by
  have e:b=G:=(by simpa using J);subst e;let#[ob,h1,_,L]:=st;show#[ob,h1,λv z=>by rw[L]at z;cases z]
 keep:=λi h h' ⟨ob,h1,h2,L⟩ k=>#[ob,k G (by simp) _ h1,h2,L]
 item:=by
  intro X U hw S hc i pins s σ H E I N st O;subst U hw S;let#[ac,am]:=O;let#[Y,f1,f2,f3,f4,R]:=N G (by simp);let#[hd,vs,r,da]:=kR I.bC ac;have ab:=r.length;let#[k,v,x,e1,e2,e3]:=Eh r am;rw[ab]at st ⊢;show wpAny_pyNext_values_item st da e2 λh' ap as=>?_;have I1:Inv X pins σ H { s with heap:=h',toks:=s.toks }:=I.turned (λb o J e=>(as.2 b J).trans e) Y f1 f3 f4 R;let#[ob,h1,h2,L]:=id ap;show#[0,ph (s:={ s with heap:=h' }) (n := "dict_valueiterator") h1 h2 L av #[v,H,I1,e3,#[rfl,k,e1],ap,λb J=>(N b J).1]]
 done:=by
  intro X U hw S hc i pins s σ H E I N st O;subst U hw S;let#[ac,am]:=O;let#[Y,f1,f2,f3,f4,R]:=N G (by simp);let#[hd,vs,r,da]:=kR I.bC ac;have ab:=r.length;rw[ab]at st;show wpAny_pyNext_values_end (I.ok.hd hc) st da (by simp;omega) λh' eb=>#[rfl,I.turned (t':=s.toks) (λb o J e=>eb b o J e) Y f1 f3 f4 R]
 self:=λ_ _ _ _ _ st h=>wpAny_pyIter_valiter st h
section
variable {X:Cx}{tg:LC}
noncomputable def Gz (H₀:Hp) (td:TE):TI:=λσ H R=>td σ H λx H1=>Bb λa kvs=>Ia (x=.ref a) (H1 a=some (.dK kvs)) ((∀o G,H₀ a≠some (.cH o G))) (∀o,R (IV a o kvs) (upd H1 a (.cH o (.dK kvs))))
theorem Cn {o:LC}{apos cpos:Nu}{td:TE}(ho:PE X o td) (aB:Nh o "values" X.env (eval o X.env)=eval o X.env:=by rfl) (ac:(apos.endLine==cpos.line)=true:=by rfl):PI X tg (.Call (.Attribute o "values" apos) [] [] cpos) (Gz X.H₀ td):=by
 intro pins s σ H R I h;show Oz aB ac (bS (ho pins s σ H _ I h) λu G as=>?_);let#[x,H1,O,rx,a,kvs,ex,J,hn,q]:=as;subst ex;obtain rfl:u=Value.ref a:=rx;let#[Y,t2,hd]:=kP O (.inl #[kvs,.inl J]);let#[_,_,vs,a0,dd]:=gY O.bC J;show#["dict","dict.values",Ng,PySem.F.slot_dict_values,PySem.F.type_dict_values,Y,t2,Calls.callWith_builtin rfl (PySem.evalArgs_none ?_)];show Nb PySem.F.slot_dict_values dd.typeIs PySem.F.entry_dict_values (PySem.F.args_dict_values_1 _) (meets_dict_values (bu X.prog X.w) a hd) #[#[vs,dd],?_];have nw:=Heap.get?_push_size G.heap (o:={ cls:=.type "dict_values",data:=.fields ([.ref a].toArray) }) rfl;have S:Inv X pins σ H1 { G with heap:=G.heap.push { cls:=.type "dict_values",data:=.fields ([.ref a].toArray) },toks:=G.toks }:=O.kept λb o e=>Heap.get?_push_of_some _ e;let#[_,aT,ab,am,zb]:=gY S.bC J;let#[ob,ap,ep,L,g2,g3,g4]:=id zb;have N:=S.freeze J L hn;have lt:a<(G.heap.push { cls:=.type "dict_values",data:=.fields ([.ref a].toArray) }).objs.size:=Heap.lt_size L;have da:(G.heap.push { cls:=.type "dict_values",data:=.fields ([.ref a].toArray) }).DictAt (bu X.prog X.w) a ab (za ob):=#[ob,ap,L,g2,by unfold za;rw[g3],g4];show wpAny_pyIter_values #[_,nw,1] da ?_;show#[(G.heap.push { cls:=.type "dict_values",data:=.fields ([.ref a].toArray) }).objs.size,[(G.heap.push { cls:=.type "dict_values",data:=.fields ([.ref a].toArray) }).objs.size],_,IV a ob kvs,0,N.kept (t':=G.toks) λb o e=>Heap.get?_push_of_some _ e,yu a _ (LM lt) ob kvs,?_,λb U=>?_,q ob]
 .rw[am.length];show#[_,Heap.get?_push_size _ rfl,1]
 .have e:b=(G.heap.push { cls:=.type "dict_values",data:=.fields ([.ref a].toArray) }).objs.size:=(by simpa using U);subst e;show N.j5 (HC _) (N.bC.fresh (HC _))
end
end L2
namespace Srt
open PySem PyProof.Rows
section
variable {prog:IF}{w:Ll}{A:Lq}{E:Value->By->Prop}{s:By}{a₀:Array Lk}
end
section
variable {prog:IF}{w:Ll}{A:Lq}{E:Value->By->Prop}{s:By}
end
section
variable {prog:IF}{w:Ll}{A:Lq}{E:Value->By->Prop}{s:By}{T:String}{r d:Addr}{n:Nat}{P:Nat->Value->Prop}{OK:Heap->Prop}
end
end Srt
namespace L2
open PySem PySem.Spec PyProof.Rows
section
variable {X:Cx}
end
end L2
namespace Sp
open PySem PySem.StrLaws PySem.Builtin PySem.Builtin.Str
end Sp
namespace L2
open PySem PySem.Spec PyProof.Rows PySem.Builtin PySem.Builtin.Str
section
variable {X:Cx}
theorem ma (U:X.calm=true):dG X (.builtin "sum") (λxs H Q=>∃(p:Addr) (ns:List Int),xs=[.ref p]/\bA X.K H p (ns.map V.int)/\Q (.int ns.sum) H):=by
 intro pins s σ H xs us Q I r h;let#[p,ns,rfl,O,q]:=h;let#[u,rfl,S]:=vals1 r;cases S;let#[its,L,pl,Y]:=I.list O;have J:=intsAre_of L;have R:=J.numsOf;let#[ys,e]:=J.allInts.items;have G:=pl.isList;rw[e]at G;show sum_intListG (I.ok.hd U) G λh' tk t' N=>?_;have hs:preSum (numAt ys) ys.size=ns.sum:=by
  rw[preSum_eq,L0 (by simp), <-nums_intItems, <-e];rw[show its.toArray.toList=its from rfl,R]
 show#[.int ns.sum,H,I.kept N,#[_,by rw[hs]],q]
end
section
variable {X:Cx}
theorem yL:dG X (.type "range") (λxs H Q=>∃i j:Int,xs=[.int i,.int j]/\∀p,H p=none->Q (.ref p) (upd H p (.rng i j))):=by
 intro pins s σ H xs us Q I r h;let#[i,j,rfl,q]:=h;let#[u,G,rfl,#[t,rfl],#[t',rfl]]:=vals2 r;show call_range_2 #[.ref s.heap.objs.size,_,I.laid (λb o e=>Heap.get?_push_of_some _ e) (HC _) ?_,rfl,q _ (I.bC.fresh (HC _))];show#[2,_,Heap.get?_push_size s.heap rfl]
end
section
variable {X:Cx}
noncomputable def xH (K:PySem.W.Frag):List V->Hp->VK->Prop:=λxs H Q=>∃p ys,xs=[.ref p]/\(bA K H p ys\/cy K H p ys)/\Q (.int (ys.length:Nat)) H
theorem yW:dG X (.builtin "len") (xH X.K):=bo
end
section
variable {X:Cx}
theorem mH (hc:X.calm=true):dG X (.type "list") (λxs H Q=>∃(p:Addr) (i:Int) (n:Nat),xs=[.ref p]/\H p=some (.rng i (i+n))/\n<=1000 /\ -1000<=i/\i<=1000/\∀l,H l=none->Q (.ref l) (upd H l (.lst ((List.range n).map λk:Nat=>V.int (i+k))))):=by
 intro pins s σ H xs us Q I r h;let#[p,i,n,rfl,O,hn,i0,i1,q]:=h;let#[u,rfl,ru]:=vals1 r;cases ru;have hs:sizeLine=16777216:=Lh;let#[t,u,v,e]:=(show bT X.prog X.w H s.heap p (.rng i (i+n))from I.bC p _ O);show call_list_range (n:=n) (I.ok.hd hc) e (small_one af af af af) (by rw[rangeSize_one];split<;>omega) af λh' tk J Y L S it=>?_;have N:Vals ((List.range n).map λk:Nat=>V.int (i+k)) J.toList:=by
  let#[h1,h2]:=it;show qL ?_ λj x v G hv=>?_
  .rw[BY,LV];simpa using h1.symm
  .rw[K4]at G;let#[k,U,rfl]:=Option.map_eq_some_iff.mp G;have R:k=j:=by
    have:=List.getElem?_eq_some_iff.mp U;let#[_,e]:=this;simpa using e.symm
   let#[t,e]:=h2 j v (by simpa using hv);show#[t,by rw[e,R];congr 1;omega]
 show#[.ref s.heap.objs.size,_,I.laid L (HC _) (show bT X.prog X.w _ h' _ (.lst ((List.range n).map λk:Nat=>V.int (i+k)))from#[by rw[BY,LV];omega,J.toList,Y,N,by simpa using S]),rfl,q _ (I.bC.fresh (HC _))]
end
theorem vM {a:Addr}{o:Obj}{kvs:List (Key×V)}{caps:List (Str×Nat)}{te:TE}{σ:St}{H:Hp}{J:List V->Hp->Prop}(Pv:Nat->List V->Hp->Prop) (O:Pv 0 [] H)
  (L:∀i zs H,i<=kvs.length->Pv i zs H->H a=some (.cH o (.dK kvs)))
  (hs:∀i k v zs H,kvs[i]?=some (k,v)->Pv i zs H->te (gg caps σ (some (kV k))) H (λz H3=>zs.length<sizeLine/\Pv (i+1) (zs++[z]) H3))
  (hd:∀zs H,Pv kvs.length zs H->J zs H):∃W:Nat->Nat->List V->Hp->Prop,(∃m,W 0 m [] H)/\iA caps oJ te σ (Fx a o kvs) J W:=by
 show#[λi m zs H=>m=kvs.length-i/\i<=kvs.length/\Pv i zs H,#[kvs.length,by simp,LD _,O],?_];rintro i m zs H ⟨rfl,hi,p⟩;have G:=L i zs H hi p;by_cases I:i<kvs.length
 .show .inr #[#[G,I],Pv (i+1),λS H' R=>#[kvs.length-(i+1),af,rfl,I,R],?_];rintro x H' ⟨rfl,k,v,N,rfl⟩;unfold oJ;dsimp only;rw[Q0 rfl];show hs i k v zs _ N p
 .have e:i=kvs.length:=af;subst e;show .inl #[#[G,HC _],hd zs H p]
theorem rD {caps:List (Str×Nat)}{te:TE}{σ:St}{H:Hp}{lo st:Int}{n:Nat}{I:List V->Hp->Prop}(Pv:Nat->List V->Hp->Prop) (J:Pv 0 [] H)
  (hs:∀i ys H,i<n->Pv i ys H->te (gg caps σ (some (.int (lo+i*st)))) H (λy H3=>ys.length<sizeLine/\Pv (i+1) (ys++[y]) H3))
  (hd:∀ys H,Pv n ys H->I ys H):∃W:Nat->Nat->List V->Hp->Prop,(∃m,W 0 m [] H)/\iA caps oJ te σ (Ge lo st n) I W:=by
 show#[λi m ys H=>m=n-i/\i<=n/\Pv i ys H,#[n,by simp,LD _,J],?_];rintro i m ys H ⟨rfl,hi,p⟩;by_cases G:i<n
 .show .inr #[G,Pv (i+1),λN H' L=>#[n-(i+1),af,rfl,G,L],λx H' y=>?_];let#[e,y]:=y;subst e y;unfold oJ;dsimp only;rw[Q0 rfl];show hs i ys _ G p
 .have e:i=n:=af;subst e;show .inl #[HC _,hd ys H p]
theorem Ca {K:PySem.W.Frag}{a b:Addr}{xs ys:List V}{g:TG}{tb:TS}{D:Ends}{σ:St}{H:Hp}(Pv:Nat->St->Hp->Prop) (U:Pv 0 σ H) (he:xs.length=ys.length)
  (hl:∀i σ H,i<=xs.length->Pv i σ H->bA K H a xs/\bA K H b ys)
  (hs:∀i x y σ H T,xs[i]?=some x->ys[i]?=some y->H T=none->Pv i σ H->g (.ref T) σ (upd H T (.tup [x,y])) λL H2=>tb { D with nx:=Pv (i+1),ct:=Pv (i+1),bk:=D.nx } L H2)
  (hd:∀σ H,Pv xs.length σ H->D.nx σ H) :
  ∃W:Nat->Nat->St->Hp->Prop,(∃m,W 0 m σ H)/\∀i m σ H,W i m σ H ->
   ((Hn K a b).stop i H/\D.nx σ H)\/((Hn K a b).go i H/\∃N:St->Hp->Prop,(∀G H',N G H'->∃R,R<m/\W (i+1) R G H')/\∀x H',(Hn K a b).DJ i H x H'->g x σ H' λL H2=>tb { D with nx:=N,ct:=N,bk:=D.nx } L H2):=by
 show#[λi m σ H=>m=xs.length-i/\i<=xs.length/\Pv i σ H,#[xs.length,by simp,LD _,U],?_];rintro i m σ H ⟨rfl,hi,p⟩;let#[I,J]:=hl i σ H hi p;by_cases O:i<xs.length
 .have S:i<ys.length:=af;show .inr #[#[xs,ys,xs[i],ys[i],I,J,by simp[O],by simp[S]],Pv (i+1),λG H' p'=>#[xs.length-(i+1),af,rfl,O,p'],?_];rintro v H' ⟨T,x,y,rfl,hT,rfl,Y,e2⟩;show hs i x y σ H T (Y _ I) (e2 _ J) hT p
 .have e:i=xs.length:=af;subst e;show .inl #[#[xs,ys,I,J,.inl (HC _)],hd σ H p]
inductive Md (P:IF) (w:Ll) (K:PySem.W.Frag) (mg:Str->Option Value) (base:Heap) (cx:ui) (k:Nat) (C:Addr) (m:Str) (sp:Sp):Prop
 |mk (f:Addr) (fd:GX) (ps:List Str) (_:a8 P w K mg base cx k f fd ps sp) (_:Binds K fd ps []) (_:Meth K C m f):Md P w K mg base cx k C m sp
inductive Df (P:IF) (w:Ll) (K:PySem.W.Frag) (mg:Str->Option Value) (base:Heap) (cx:ui) (k:Nat) (x:Str) (sp:Sp):Prop
 |mk (f:Addr) (fd:GX) (ps:List Str) (_:a8 P w K mg base cx k f fd ps sp) (_:Binds K fd ps []) (_:mg x=some (.ref f)) (_:OJ K (.ref f)=true):Df P w K mg base cx k x sp
section
variable {X:Cx}{CX:ui}{k j:Nat}{C:Addr}{sp:Sp}{E:XK}{x m:Str}{p pos apos:Nu}{e o:LC}{es:List LC}{ta:TE}{t:TA}
theorem pm {pl:Om Bool}(I:PE X o ta) (c:pG X.K C) (F:Md X.prog X.w X.K X.mg X.base CX k C m sp) (G:cZ j X.A) (J:Passes CX X E) (R:PA X (e::es) t) (L:k<=j:=by decide)
  (O:starEach (e::es) X.env=(false,eval e X.env)::starEach es X.env:=by rfl) (S:(backTo pos (starEach es X.env)).any (·.1)=false:=by rfl)
  (N:eval (.Call (.Attribute o m apos) (e::es) [] pos) X.env=(do
   let ov <-eval o X.env
   OG apos.atName
   let (f,first) <-NR [ov] (NP ov m pl)
   Pb pos f first (backTo pos (starEach (e::es) X.env)) (NX pos (MZ [] X.env))):=by rfl) :
  PE X (.Call (.Attribute o m apos) (e::es) [] pos) (wW C m sp [] E ta t):=by
 let#[f,fd,_,g,b,q]:=F;show DF I c q g (G.mono L) b .nil J R O S N
theorem qx {pl:Om Bool}(I:PE X o ta) (c:pG X.K C) (F:Md X.prog X.w X.K X.mg X.base CX k C m sp) (G:cZ j X.A) (J:Passes CX X E) (L:k<=j:=by decide)
  (N:eval (.Call (.Attribute o m apos) [] [] pos) X.env=(do
   let ov <-eval o X.env
   OG apos.atName
   let (f,first) <-NR [ov] (NP ov m pl)
   Pb pos f first (backTo pos (starEach [] X.env)) (NX pos (MZ [] X.env))):=by rfl) :
  PE X (.Call (.Attribute o m apos) [] [] pos) (wW C m sp [] E ta C1):=by
 let#[f,fd,_,g,b,q]:=F;show AL I c q g (G.mono L) b .nil J N
theorem pc (F:Df X.prog X.w X.K X.mg X.base CX k x sp) (G:cZ j X.A) (J:Passes CX X E) (O:PA X (e::es) t) (L:Gl X x:=by rfl) (N:k<=j:=by decide)
  (S:(x==("__debug__" : Str))=false:=by decide) (I:starEach (e::es) X.env=(false,eval e X.env)::starEach es X.env:=by rfl) (R:(backTo pos (starEach es X.env)).any (·.1)=false:=by rfl) :
  PE X (.Call (.Name x p) (e::es) [] pos) (DY sp [] E t):=by
 let#[f,fd,_,g,b,q,r]:=F;show De g (G.mono N) L q r b .nil J O S I R
end
end L2
namespace St
open PySem L2
noncomputable def top (i:Nat):LI:=PySem.Challenge.pw_ownroom_k18_held_and_no_room.main.body.getD i (.Pass #[(0),(0),(0),(0)])
noncomputable abbrev mU:LI:=inClass (top 10) 0
noncomputable abbrev Ah:LI:=inClass (top 10) 1
noncomputable abbrev AM:LI:=inClass (top 10) 3
noncomputable abbrev AS:LI:=inClass (top 10) 2
noncomputable abbrev Bf:LI:=inClass (top 10) 7
noncomputable abbrev vP:LI:=inClass (top 10) 4
noncomputable abbrev vi:LI:=inClass (top 10) 5
noncomputable abbrev Eu:LI:=inClass (top 10) 6
noncomputable abbrev qr:LI:=inClass (top 10) 8
theorem kc:¬ (("owners" : Str) = "contents"):=ao
noncomputable def jS (ow co:Addr):List (Str×V):=bj "contents" (.ref co) (bj "owners" (.ref ow) [])
theorem fP (ow co:Addr):(jS ow co).lookup ("owners" : Str)=some (.ref ow):=by
 unfold jS;rw[aE,QZ kc,aE,Q0 rfl]
theorem pY (ow co:Addr):(jS ow co).lookup ("contents" : Str)=some (.ref co):=by
 unfold jS;rw[aE,Q0 rfl]
theorem aW (ow co:Addr) {m:Str}(h1:¬ m = "contents") (h2:¬ m = "owners"):(jS ow co).lookup m=none:=by
 unfold jS;rw[aE,QZ h1,aE,QZ h2]
 all_goals rfl
noncomputable def dS (H:Hp) (M:Addr->Prop):V->Option (List Int)->Prop
 |.non,none=>True
 |.ref a,some ns=>¬ M a/\H a=some (.lst (ns.map V.int))
 |_,_=>False
structure aR (C:Addr) (H:Hp) (M:Addr->Prop) (p ow co:Addr) (os:List Int) (pg:List (Option (List Int))):Prop where
 ob:∃dx,H p=some (.ins C dx (jS ow co))
 hw:H ow=some (.lst (os.map V.int))
 hc:∃cs,H co=some (.lst cs)/\Paired (dS H M) cs pg
noncomputable def Off (B:Addr->Prop) (H H':Hp):Prop:=∀b o,H b=some o->¬ B b->H' b=some o
theorem dS.off {B M:Addr->Prop}{H H':Hp}(h:Off B H H') (G:∀b,B b->M b):∀{v:V}{x:Option (List Int)},dS H M v x->dS H' M v x
 |.non,none,_=>trivial
 |.ref a,some ns,⟨h1,h2⟩=>#[h1,h a _ h2 λz=>h1 (G a z)]
theorem iQ {B M:Addr->Prop}{H H':Hp}(h:Off B H H') (G:∀b,B b->M b) {cs:List V}{pg:List (Option (List Int))}(q:Paired (dS H M) cs pg):Paired (dS H' M) cs pg :=
 Paired.Br q λ_ _ z=>z.off h G
theorem nD {α G:Type}{F:α->G->Prop}:∀{xs:List α}{ys:List G}{i:Nat}{y:G},Paired F xs ys->ys[i]?=some y->∃x,xs[i]?=some x/\F x y
 |_,_,_,_,.nil,e=>by simp at e
 |_,_,0,_,.cons r _,e=>by simp at e;subst e;show#[0,r]
 |_,_,i+1,y,.cons _ t,e=>by
  let#[u,h1,h2]:=nD (i:=i) (y:=y) t (by simpa using e);show#[u,by simpa using h1,h2]
theorem jv {α G:Type}{F:α->G->Prop}{x:α}{y:G}(r:F x y):∀{xs:List α}{ys:List G}(i:Nat),Paired F xs ys->Paired F (xs.set i x) (ys.set i y)
 |_,_,_,.nil=>.nil
 |_,_,0,.cons _ t=>.cons r t
 |_,_,i+1,.cons q t=>.cons q (jv r i t)
theorem mh {α G:Type}{F:α->G->Prop}{x:α}{y:G}(r:F x y):∀n:Nat,Paired F (replicate n x) (replicate n y)
 |0=>.nil
 |n+1=>.cons r (mh r n)
structure Txt (K:PySem.W.Frag) (mg:Str->Option Value) (C:Addr):Prop where
 cl:pG K C
 nO:dg K C "owners"
 nC:dg K C "contents"
 len:mg "len" = none
 list:mg "list" = none
 pc:∃u,mg "PAGE_CELLS" = some u/\RelV (.int 8) u
inductive iq (C:Addr) (vs:List V) (H:Hp) (Q:VK) (e3:XK):Prop
 |mk (p dx:Addr) (n:Nat) (_:vs=[.ref p,.int n]) (_:n<=60) (_:H p=some (.ins C dx [])) (_:∀(ow co:Addr) (H':Hp),H ow=none->H co=none->ow≠co->(∀M,aR C H' M p ow co (replicate n 0) (replicate n none))->Off (· = p) H H'->Q .non H'):iq C vs H Q e3
noncomputable def dR (os:List Int) (n:Int):Int:=if n<0\/(os.length:Int)<=n then 0 else os.getD n.toNat 0
theorem lT {os:List Int}{n:Int}(h:dR os n≠0):0<=n/\n.toNat<os.length/\n<os.length/\n=(n.toNat:Int):=by
 unfold dR at h;by_cases z:n<0\/(os.length:Int)<=n
 .rw[Q0 z]at h;show absurd rfl h
 .omega
theorem uT {os:List Int}{j:Nat}(h:j<os.length):dR os (j:Int)=os.getD j 0:=by
 unfold dR;rw[QZ af];simp
inductive gQ (C:Addr) (vs:List V) (H:Hp) (Q:VK) (e3:XK):Prop
 |mk (p ow co:Addr) (M:Addr->Prop) (os:List Int) (pg:List (Option (List Int))) (n:Int) (_:vs=[.ref p,.int n]) (_:aR C H M p ow co os pg) (_:os.length<=60) (_:Q (.int (dR os n)) H):gQ C vs H Q e3
inductive gA (C:Addr) (vs:List V) (H:Hp) (Q:VK) (e3:XK):Prop
 |mk (p ow co:Addr) (M:Addr->Prop) (os:List Int) (pg:List (Option (List Int))) (n:Int) (_:vs=[.ref p,.int n]) (_:aR C H M p ow co os pg) (_:os.length<=60) (_:dR os n≠0) (_:Q .non H):gA C vs H Q e3
inductive u3 (C:Addr) (vs:List V) (H:Hp) (Q:VK) (e3:XK):Prop
 |mk (p ow co:Addr) (M:Addr->Prop) (os:List Int) (pg:List (Option (List Int))) (_:vs=[.ref p]) (_:aR C H M p ow co os pg) (_:M ow) (_:M co) (_:(∀b,M b->H b≠none)) (_:ow≠co) (_:os.length=pg.length) (_:os.length<=60) (_:(¬ (0:Int)∈os->Q .non H)) (_:((0:Int)∈os->∀H',aR C H' M p ow co (os.set (os.idxOf 0) 1) (pg.set (os.idxOf 0) (some (replicate 8 0)))->Off (λb=>b=ow\/b=co) H H'->Q (.int (os.idxOf 0:Nat)) H')):u3 C vs H Q e3
inductive rT (C:Addr) (vs:List V) (H:Hp) (Q:VK) (e3:XK):Prop
 |mk (p ow co:Addr) (M:Addr->Prop) (os:List Int) (pg:List (Option (List Int))) (n:Int) (_:vs=[.ref p,.int n]) (_:aR C H M p ow co os pg) (_:M ow) (_:M co) (_:ow≠co) (_:os.length<=60) (_:dR os n≠0) (_:∀H',aR C H' M p ow co (os.set n.toNat (dR os n-1)) pg->Off (λb=>b=ow\/b=co) H H'->Q .non H'):rT C vs H Q e3
inductive sg (C:Addr) (vs:List V) (H:Hp) (Q:VK) (e3:XK):Prop
 |mk (p ow co:Addr) (M:Addr->Prop) (os:List Int) (pg:List (Option (List Int))) (n:Int) (_:vs=[.ref p,.int n]) (_:aR C H M p ow co os pg) (_:M ow) (_:M co) (_:ow≠co) (_:os.length<=60) (_:dR os n≠0) (_:∀H',aR C H' M p ow co (os.set n.toNat (dR os n+1)) pg->Off (λb=>b=ow\/b=co) H H'->Q .non H'):sg C vs H Q e3
inductive p5 (C:Addr) (vs:List V) (H:Hp) (Q:VK) (e3:XK):Prop
 |mk (p ow co:Addr) (M:Addr->Prop) (os:List Int) (pg:List (Option (List Int))) (_:vs=[.ref p]) (_:aR C H M p ow co os pg) (_:Q (.int (os.count 0:Nat)) H):p5 C vs H Q e3
inductive lO (C:Addr) (vs:List V) (H:Hp) (Q:VK) (e3:XK):Prop
 |mk (p ow co:Addr) (M:Addr->Prop) (os:List Int) (pg:List (Option (List Int))) (n:Int) (ns:List Int) (_:vs=[.ref p,.int n]) (_:aR C H M p ow co os pg) (_:os.length<=60) (_:dR os n≠0) (_:pg[n.toNat]?=some (some ns)) (_:∀l,H l=none->Q (.ref l) (upd H l (.lst (ns.map V.int)))):lO C vs H Q e3
inductive xC (K:PySem.W.Frag) (C:Addr) (vs:List V) (H:Hp) (Q:VK) (e3:XK):Prop
 |mk (p ow co c:Addr) (M:Addr->Prop) (os:List Int) (pg:List (Option (List Int))) (n:Int) (ns:List Int) (_:vs=[.ref p,.int n,.ref c]) (_:aR C H M p ow co os pg) (_:M ow) (_:M co) (_:(∀b,M b->H b≠none)) (_:ow≠co) (_:os.length=pg.length) (_:os.length<=60) (_:dR os n≠0) (_:bA K H c (ns.map V.int)) (_:∀H',aR C H' M p ow co os (pg.set n.toNat (some ns))->Off (λb=>b=ow\/b=co) H H'->Q .non H'):xC K C vs H Q e3
section
variable {P:IF}{w:Ll}{K:PySem.W.Frag}{mg:Str->Option Value}{base:Heap}
theorem rep1 {α:Type}(x:α) (n:Nat):(replicate n [x]).flatten=replicate n x:=by
 induction n with
 |zero=>rfl
 |succ n G=>rw[MD,MO,G,MD];rfl
theorem JP:aC ["self","many"] ["self","many"] (aw mU):=L2.bG
theorem qG {f C:Addr}{fd:GX}(F:cM K "__init__" "Store.__init__" mU f fd) (T:Txt K mg C):a8 P w K mg base aS 1 f fd ["self","many"] (iq C):=by
 show F.ok JP (λvs H Q E h=>?_) (λa1 A outer s H vs Q E hr h=>?_)
 .let#[p,dx,n,rfl,_]:=h;rfl
 .let#[p,dx,n,rfl,hn,O,k]:=h;show#[_,ah (fM (pv 0) (aD lZ (cn (aa ak ai)) (pv 1)) rfl) (aj (fM (pv 0) (aD lZ (cn (aa mZ ai)) (pv 1)) rfl)),?_];have hs:sizeLine=16777216:=Lh;show#[av,λL ac=>?_];have a0:p≠L:=aq O ac;show#[0,L,n,0,rfl,ae,af,af,by rw[Mb];omega,λow J=>?_];have ap:ow≠L:=λz=>(by rw[z,ae]at J;cases J);rw[ag ap]at J;have S:p≠ow:=aq O J;show#[0,p,C,dx,[],rfl,by rw[ag S,ag a0];show O,T.cl,T.nO,av,?_];show#[av,λN I=>?_];have am:N≠p:=λz=>(by rw[z,ae]at I;cases I);rw[ag am]at I;have ab:N≠ow:=λz=>(by rw[z,ae]at I;cases I);rw[ag ab]at I;have as:N≠L:=λz=>(by rw[z,ae]at I;cases I);rw[ag as]at I;show#[0,N,n,0,rfl,ae,af,af,by rw[Mb];omega,λco G=>?_];have aB:co≠N:=λz=>(by rw[z,ae]at G;cases G);rw[ag aB]at G;have U:co≠p:=λz=>(by rw[z,ae]at G;cases G);rw[ag U]at G;have R:co≠ow:=λz=>(by rw[z,ae]at G;cases G);rw[ag R]at G;have aT:co≠L:=λz=>(by rw[z,ae]at G;cases G);rw[ag aT]at G;show#[0,p,C,dx,0,by rw[ag (G0 U),ag (G0 am),ae],T.cl,T.nC,by change 1<1000;decide,?_];rw[show((n:Int)).toNat=n by omega,rep1,rep1];show k ow co _ J G (G0 R) (λM=>#[#[dx,ae],?_,#[_,?_,mh (show dS _ M .non none from trivial) n]]) λb o e hb=>?_
  .rw[ag (G0 S),ag (G0 R),ag (G0 ab),ag (G0 S),ae,List.map_replicate]
  .rw[ag U,ae]
  .have Y:b≠p:=hb;rw[ag Y,ag (aq e G),ag (aq e I),ag Y,ag (aq e J),ag (aq e ac)];show e
theorem IU:aC ["self","n"] ["self","n"] (aw vP):=L2.bG
theorem Bj {f C:Addr}{fd:GX}(F:cM K "count" "Store.count" vP f fd) (T:Txt K mg C):a8 P w K mg base aS 1 f fd ["self","n"] (gQ C):=by
 show F.ok IU (λvs H Q E h=>?_) (λL A outer s H vs Q E O h=>?_)
 .let#[p,ow,co,M,os,pg,n,rfl,_]:=h;rfl
 .let#[p,ow,co,M,os,pg,n,rfl,S,N,k]:=h;let#[#[dx,h1],I,_]:=id S;show#[_,ah (aV (j7 (aA iu (pv 1) ak (aH _)) (jn (aA HV (pv 1) (aK bo (by rfl) T.len boot_len (aa (aL (pv 0) rfl) ai)) (aH _)))).pt (aj (aF ak)) aG)
   (aj (aF (bq cG (aL (pv 0) rfl) (pv 1) (λ_ _=>rfl)))),?_]
  show#[0,_,0,rfl,0,?_];show gf (λc=>?_) (λc=>?_)
  .show eL ?_;have J:n<0:=(by simpa using c);unfold dR at k;rw[Q0 (.inl J)]at k;show k
  .have J:¬ n<0:=(by simpa using c);show#[0,0,p,C,dx,_,0,h1,T.cl,T.nO,fP _ _,ow,0,.inl (bA.of I),_,0,rfl,0,?_];show gf (λd=>?_) (λd=>?_)
   .have d':(os.length:Int)<=n:=(by simpa using d);unfold dR at k;rw[Q0 (.inr d')]at k;show k
   .have d':¬ (os.length:Int)<=n:=(by simpa using d);obtain⟨j,rfl⟩:∃j:Nat,n=j:=#[n.toNat,af];have G:j<os.length:=af;rw[uT G]at k;show#[0,p,C,dx,_,0,h1,T.cl,T.nO,fP _ _,0,ow,_,j,.int (os.getD j 0),1,bA.of I,jW ?_,k];rw[K4,Lb G];simp[G]
theorem KL:aC ["self","n"] ["self","n"] (aw qr):=L2.bG
theorem y7 {f C:Addr}{fd:GX}(F:cM K "refuse_free" "Store.refuse_free" qr f fd) (T:Txt K mg C) (G:Md P w K mg base aS 1 C "count" (gQ C)) :
  a8 P w K mg base aS 2 f fd ["self","n"] (gA C):=by
 show F.ok KL (λvs H Q E h=>?_) (λO A outer s H vs Q E J h=>?_)
 .let#[p,ow,co,M,os,pg,n,rfl,_]:=h;rfl
 .let#[p,ow,co,M,os,pg,n,rfl,S,I,L,k]:=h;let#[#[dx,h1],N,_]:=id S;show#[_,aj (aV (aA bH (pm (pv 0) T.cl G J ax (aa (pv 1) ai)) ak (aH _)) (cw) aG),?_];show#[0,p,dx,0,h1,aW _ _ ao ao,0,p,ow,co,M,os,pg,n,rfl,S,I,rfl,0,?_];show gf (λc=>?_) (λc=>?_)
  .show absurd (by simpa using c) L
  .show k
theorem Je:aC ["self","n"] ["self","n"] (aw AM):=L2.bG
theorem gq {H:Hp}{M:Addr->Prop}{a:Addr}{o:HO}{cs:List V}{pg:List (Option (List Int))}(G:M a) (q:Paired (dS H M) cs pg):Paired (dS (upd H a o) M) cs pg :=
 iQ (B:=(· = a)) (λb u e I=>by rw[ag (show b≠a from I)];show e) (λb z=>by rw[show b=a from z];show G) q
theorem kO {H:Hp}{M:Addr->Prop}{a:Addr}{o:HO}{cs:List V}{pg:List (Option (List Int))}(G:H a=none) (q:Paired (dS H M) cs pg):Paired (dS (upd H a o) M) cs pg :=
 iQ (B:=λ_=>False) (λb u e _=>by rw[ag (aq e G)];show e) (λb z=>z.elim) q
theorem iI {H:Hp}{p a C dx:Addr}{fs:List (Str×V)}{xs:List V}(h:H p=some (.ins C dx fs)) (h':H a=some (.lst xs)):p≠a:=cJ h h' (by intro z;cases z)
theorem CV {f C:Addr}{fd:GX}(F:cM K "less" "Store.less" AM f fd) (T:Txt K mg C) (R:Md P w K mg base aS 2 C "refuse_free" (gA C)) :
  a8 P w K mg base aS 3 f fd ["self","n"] (rT C):=by
 show F.ok Je (λvs H Q E h=>?_) (λac A outer s H vs Q E hr h=>?_)
 .let#[p,ow,co,M,os,pg,n,rfl,_]:=h;rfl
 .let#[p,ow,co,M,os,pg,n,rfl,S,U,mc,L,Y,J,k]:=h;let#[#[dx,h1],I,cs,ab,O]:=id S;show#[_,ah (aM (pm (pv 0) T.cl R hr ax (aa (pv 1) ai)))
   (aj (xm (aL (pv 0) rfl) (pv 1) (tL) ak E8 set_list)),?_]
  show#[0,p,dx,0,h1,aW _ _ ao ao,0,p,ow,co,M,os,pg,n,rfl,S,Y,J,?_];let#[h0,G,hn,en]:=lT J;generalize n.toNat=j at *;subst en;show#[0,p,C,dx,_,0,h1,T.cl,T.nO,fP _ _,0,ow,_,j,.int (os.getD j 0),1,bA.of I,jW (by rw[K4,Lb G];simp[G]),_,0,rfl,ow,_,j,j,1,I,3]
  .unfold xu;rw[BY,Q0 af,Q0 af];simp
  .rw[uT G]at k;show k _ #[#[dx,by rw[ag (iI h1 I)];show h1],?_,#[cs,by rw[ag (G0 L)];show ab,gq U O]] λb o e N=>?_
   .rw[ae,QL]
   .rw[ag (λz=>N (.inl z))];show e
theorem K0:aC ["self","n"] ["self","n"] (aw vi):=L2.bG
theorem AA {f C:Addr}{fd:GX}(F:cM K "cells" "Store.cells" vi f fd) (T:Txt K mg C) (L:Md P w K mg base aS 2 C "refuse_free" (gA C)) :
  a8 P w K mg base aS 3 f fd ["self","n"] (lO C):=by
 show F.ok K0 (λvs H Q E h=>?_) (λab A outer s H vs Q E O h=>?_)
 .let#[p,ow,co,M,os,pg,n,ns,rfl,_]:=h;rfl
 .let#[p,ow,co,M,os,pg,n,ns,rfl,S,N,G,I,k]:=h;let#[#[dx,h1],hw,cs,R,J]:=id S;show#[_,ah (aM (pm (pv 0) T.cl L O ax (aa (pv 1) ai)))
   (aj (aF (cg dQ (by rfl) T.list eY (aa (bq cG (aL (pv 0) rfl) (pv 1) (λ_ _=>rfl)) ai)))),?_]
  show#[0,p,dx,0,h1,aW _ _ ao ao,0,p,ow,co,M,os,pg,n,rfl,S,N,G,?_];let#[h0,hj,hn,U]:=lT G;generalize n.toNat=j at *;subst U;let#[v,hv,cv]:=nD J I;obtain⟨a,rfl,Y⟩:∃a,v=.ref a/\H a=some (.lst (ns.map V.int)):=by
   cases v with
   |ref a=>show#[a,rfl,cv.2]
   |_=>show Mc cv
  show#[0,p,C,dx,_,0,h1,T.cl,T.nC,pY _ _,0,co,cs,j,0,rfl,bA.of R,jW hv,a,0,.inl (bA.of Y),k]
theorem Hq:aC ["self","n","cells"] ["self","n","cells"] (aw Eu):=L2.bG
theorem jq {α G:Type}{F:α->G->Prop}:∀{xs:List α}{ys:List G},Paired F xs ys->xs.length=ys.length
 |_,_,.nil=>rfl
 |_,_,.cons _ t=>by rw[Lo,Lo,jq t]
theorem Fv {f C:Addr}{fd:GX}(F:cM K "put" "Store.put" Eu f fd) (T:Txt K mg C) (Y:Md P w K mg base aS 2 C "refuse_free" (gA C)) :
  a8 P w K mg base aS 3 f fd ["self","n","cells"] (xC K C):=by
 show F.ok Hq (λvs H Q E h=>?_) (λab A outer s H vs Q E hr h=>?_)
 .let#[p,ow,co,c,M,os,pg,n,ns,rfl,_]:=h;rfl
 .let#[p,ow,co,c,M,os,pg,n,ns,rfl,S,mw,mc,mt,R,am,hl,O,hq,k]:=h;let#[#[dx,h1],N,cs,J,L]:=id S;show#[_,ah (aM (pm (pv 0) T.cl Y hr ax (aa (pv 1) ai)))
   (aj (cN (cg dQ (by rfl) T.list eY (aa (pv 2) ai)) (eh (aL (pv 0) rfl) (pv 1) set_list))),?_]
  show#[0,p,dx,0,h1,aW _ _ ao ao,0,p,ow,co,M,os,pg,n,rfl,S,hl,O,?_];let#[h0,hj,hn,en]:=lT O;generalize n.toNat=j at *;subst en;have ac:=jq L;show#[0,c,0,.inl hq,λl I=>?_];have G:∀{b:Addr}{o:HO},H b=some o->b≠l:=λe=>aq e I;show#[0,p,C,dx,_,0,by rw[ag (G h1)];show h1,T.cl,T.nC,pY _ _,0,co,cs,j,j,1,by rw[ag (G J)];show J,3]
  .unfold xu;rw[Q0 af,Q0 af];simp
  .have hM:¬ M l:=λz=>mt l z I;show k _ #[#[dx,by rw[ag (iI h1 J),ag (G h1)];show h1],by rw[ag R,ag (G N)];show N,#[_,ae,gq mc (jv #[hM,ae] j (kO I L))]] λb o e U=>?_;rw[ag (λz=>U (.inr z)),ag (G e)];show e
theorem Kp:aC ["self","n"] ["self"] (aw Ah):=L2.bG
theorem KO (os:List Int):Fs (.int 0) (os.map V.int)=decide ((0:Int)∈os):=by
 unfold Fs;rw[List.any_map,Nf,List.any_eq_true,decide_eq_true_iff];constructor
 .rintro⟨x,I,e⟩;have G:x=0:=by
   have:(x==(0:Int))=true:=e;simpa using this
  subst G;show I
 .intro h;show#[(0),h,rfl]
theorem CJ {f C:Addr}{fd:GX}(F:cM K "take" "Store.take" Ah f fd) (T:Txt K mg C):a8 P w K mg base aS 1 f fd ["self"] (u3 C):=by
 show F.ok Kp (λvs H Q E h=>?_) (λab A outer s H vs Q E hr h=>?_)
 .let#[p,ow,co,M,os,pg,rfl,_]:=h;rfl
 .let#[p,ow,co,M,os,pg,rfl,S,mw,mc,mt,R,am,hl,k0,k1]:=h;let#[#[dx,h1],I,cs,O,Y]:=id S;let#[u8,m8,r8]:=T.pc;have hs:sizeLine=16777216:=Lh;show#[_,ah (aV (aA jR ak (aL (pv 0) rfl) (by with_unfolding_all rfl)) (aj (aF mZ)) aG)
   (ah (aO (i:=1) Kp.nd rfl (Lc rfl) (iY Mi PySem.F.slot_list_index PySem.F.type_list_index BO (aL (pv 0) rfl) (aa ak ai)))
   (ah (cN ak (eh (aL (pv 0) rfl) (pv 1) set_list))
   (ah (cN (aD lZ (cn (aa ak ai)) (cB (by rfl) m8 r8)) (eh (aL (pv 0) rfl) (pv 1) set_list))
   (aj (aF (pv 1)))))),?_]
  show#[0,p,C,dx,_,0,h1,T.cl,T.nO,fP _ _,ow,0,.inl (bA.of I),rfl,gn _,0,?_];change if (!Fs (.int 0) (os.map V.int))=true then _ else _
  rw[KO];by_cases c:(0:Int)∈os
  .rw[decide_eq_true c];show bJ ?_;have hj:os.idxOf 0<os.length:=List.idxOf_lt_length_iff.mpr c;have ac:=jq Y;show#[0,p,C,dx,_,0,h1,T.cl,T.nO,fP _ _,.inl #[5,bA.of I],ow,os,(0),1,I,c,?_];have k2:=k1 c;generalize os.idxOf 0=j at *;show#[0,p,C,dx,_,0,h1,T.cl,T.nO,fP _ _,0,ow,_,j,j,1,I,3]
   .unfold xu;rw[BY,Q0 af,Q0 af];simp
   .show#[av,λl L=>?_];have lw:l≠ow:=λz=>(by rw[z,ae]at L;cases L);rw[ag lw]at L;show#[l,(8),0,rfl,ae,af,af,by rw[Mb];omega,λq G=>?_];have ql:q≠l:=λz=>(by rw[z,ae]at G;cases G);rw[ag ql]at G;have qw:q≠ow:=λz=>(by rw[z,ae]at G;cases G);rw[ag qw]at G;have J:∀{b:Addr}{o:HO},H b=some o->b≠l:=λe=>aq e L;have N:∀{b:Addr}{o:HO},H b=some o->b≠q:=λe=>aq e G;show#[0,p,C,dx,_,0,by rw[ag (N h1),ag (J h1),ag (iI h1 I)];show h1,T.cl,T.nC,pY _ _,0,co,cs,j,j,1,by rw[ag (N O),ag (J O),ag (G0 R)];show O,3]
    .unfold xu;rw[Q0 af,Q0 af];simp
    .show#[0,?_];have hM:¬ M q:=λz=>mt q z G;show k2 _ #[#[dx,by rw[ag (iI h1 O),ag (N h1),ag (J h1),ag (iI h1 I)];show h1],?_,#[_,ae,gq mc (jv #[hM,by rw[ae];rfl] j (kO (by rw[ag ql,ag qw];show G) (kO (by rw[ag lw];show L) (gq mw Y))))]] λb o e U=>?_
     .rw[ag R,ag (N I),ag (J I),ae,QL]
     .rw[ag (λz=>U (.inr z)),ag (N e),ag (J e),ag (λz=>U (.inl z))];show e
  .rw[decide_eq_false c];show k0 c
theorem JO:aC ["self","n"] ["self","n"] (aw AS):=L2.bG
theorem Dv {f C:Addr}{fd:GX}(F:cM K "more" "Store.more" AS f fd) (T:Txt K mg C) (R:Md P w K mg base aS 2 C "refuse_free" (gA C)) :
  a8 P w K mg base aS 3 f fd ["self","n"] (sg C):=by
 show F.ok JO (λvs H Q E h=>?_) (λac A outer s H vs Q E hr h=>?_)
 .let#[p,ow,co,M,os,pg,n,rfl,_]:=h;rfl
 .let#[p,ow,co,M,os,pg,n,rfl,S,U,mc,L,Y,J,k]:=h;let#[#[dx,h1],I,cs,ab,O]:=id S;show#[_,ah (aM (pm (pv 0) T.cl R hr ax (aa (pv 1) ai)))
   (aj (xm (aL (pv 0) rfl) (pv 1) (tL) ak Fm set_list)),?_]
  show#[0,p,dx,0,h1,aW _ _ ao ao,0,p,ow,co,M,os,pg,n,rfl,S,Y,J,?_];let#[h0,G,hn,en]:=lT J;generalize n.toNat=j at *;subst en;show#[0,p,C,dx,_,0,h1,T.cl,T.nO,fP _ _,0,ow,_,j,.int (os.getD j 0),1,bA.of I,jW (by rw[K4,Lb G];simp[G]),_,0,rfl,ow,_,j,j,1,I,3]
  .unfold xu;rw[BY,Q0 af,Q0 af];simp
  .rw[uT G]at k;show k _ #[#[dx,by rw[ag (iI h1 I)];show h1],?_,#[cs,by rw[ag (G0 L)];show ab,gq U O]] λb o e N=>?_
   .rw[ae,QL]
   .rw[ag (λz=>N (.inl z))];show e
theorem JV:aC ["self"] ["self"] (aw Bf):=L2.bG
theorem CD {f C:Addr}{fd:GX}(F:cM K "free" "Store.free" Bf f fd) (T:Txt K mg C):a8 P w K mg base aS 1 f fd ["self"] (p5 C):=by
 show F.ok JV (λvs H Q E h=>?_) (λJ A outer s H vs Q E I h=>?_)
 .let#[p,ow,co,M,os,pg,rfl,_]:=h;rfl
 .let#[p,ow,co,M,os,pg,rfl,S,k]:=h;let#[#[dx,h1],G,_]:=id S;show#[_,aj (aF (iY Mi PySem.F.slot_list_count PySem.F.type_list_count zy (aL (pv 0) rfl) (aa ak ai))),?_];show#[0,p,C,dx,_,0,h1,T.cl,T.nO,fP _ _,.inl #[5,bA.of G],ow,os,(0),1,G,k]
end
end St
namespace Tb
open PySem L2
noncomputable def top (i:Nat):LI:=PySem.Challenge.pw_ownroom_k18_held_and_no_room.main.body.getD i (.Pass #[(0),(0),(0),(0)])
noncomputable abbrev xq:LI:=top 29
noncomputable abbrev mU:LI:=inClass (top 30) 0
noncomputable abbrev Fu:LI:=inClass (top 30) 1
noncomputable abbrev Ex:LI:=inClass (top 30) 2
noncomputable abbrev vL:LI:=inClass (top 30) 3
noncomputable abbrev uR:LI:=inClass (top 30) 4
theorem ar {H:Hp}{l:Addr}{X:HO}(h:H l=none):bh H (upd H l X):=λb o e=>by rw[ag (aq e h)];show e
noncomputable def Off (B:Addr->Prop) (H H':Hp):Prop:=∀b o,H b=some o->¬ B b->H' b=some o
section
variable {α:Type}
noncomputable def look (l:List (Int×α)) (k:Int):Option α:=(l.find? λx=>decide (x.1=k)).map (·.2)
noncomputable def dk (f:α->V) (l:List (Int×α)):List (Key×V):=l.map λx=>(Sum.inl x.1,f x.2)
noncomputable def aU (l:List (Int×α)) (k:Int) (a:α):List (Int×α):=l.map λx=>if x.1=k then(k,a)else x
noncomputable def bg (l:List (Int×α)) (k:Int):List (Int×α):=l.filter λx=>decide (x.1≠k)
theorem ic (k:Int):look ([]:List (Int×α)) k=none:=rfl
theorem aP (x:Int×α) (l:List (Int×α)) (k:Int):look (x::l) k=if x.1=k then some x.2 else look l k:=by
 unfold look;rw[NQ];by_cases h:x.1=k
 .rw[decide_eq_true h,Q0 h];rfl
 .rw[decide_eq_false h,QZ h]
theorem cK (f:α->V) (k:Int):∀l:List (Int×α),dP (dk f l) (Sum.inl k)=(look l k).map f
 | []=>rfl
 |x::l=>by
  have G:=cK f k l;change dP ((Sum.inl x.1,f x.2)::dk f l) (Sum.inl k)=_;rw[aP];by_cases h:x.1=k
  .rw[Q0 h,eK (by rw[h])];rfl
  .rw[QZ h,ck (λe=>h (Sum.inl.inj e)),G]
theorem ay {l:List (Int×α)}{k:Int}{a:α}(h:look l k=some a):(k,a)∈l:=by
 unfold look at h;let#[x,G,e]:=Option.map_eq_some_iff.mp h;have h1:=List.mem_of_find?_eq_some G;have h2:x.1=k:=(by simpa using List.find?_some G);rw[<-h2, <-e];show h1
theorem bP {l:List (Int×α)}{k:Int}(h:look l k=none):¬ k∈l.map (·.1):=by
 unfold look at h;rw[Option.map_eq_none_iff,List.find?_eq_none]at h;rintro m;let#[x,G,e]:=List.mem_map.mp m;show h x G (decide_eq_true e)
theorem bK {l:List (Int×α)}{k:Int}{a:α}(I:(l.map (·.1)).Nodup) (h:(k,a)∈l):look l k=some a:=by
 induction l with
 |nil=>cases h
 |cons x l J =>
  rw[aP];let#[G,L]:=List.nodup_cons.mp (show(x.1::l.map (·.1)).Nodup from I);rcases List.mem_cons.mp h with e|m
  .rw[<-e,Q0 rfl]
  .have:¬ x.1=k:=λe=>G (e▸List.mem_map.mpr #[_,m,rfl]);rw[QZ this];show J L m
theorem EZ (f:α->V) (l:List (Int×α)) (k:Int):((dk f l).any λG=>decide (G.1=Sum.inl k))=(look l k).isSome:=by
 rw[jI,cK];cases look l k<;>rfl
theorem cF {f:α->V}{l:List (Int×α)}{k:Int}{a:α}(h:look l k=none):putK (dk f l) (Sum.inl k) (f a)=dk f (l++[(k,a)]):=by
 rw[jM _ (by rw[cK,h];rfl)];unfold dk;rw[Ln];rfl
theorem iC {f:α->V}{l:List (Int×α)}{k:Int}{a b:α}(h:look l k=some b):putK (dk f l) (Sum.inl k) (f a)=dk f (aU l k a):=by
 unfold putK;rw[Q0 (by rw[EZ,h];rfl)];unfold dk aU;rw[Me,Me];congr 1;funext x;change(if (Sum.inl x.1:Key)=Sum.inl k then((Sum.inl x.1:Key),f a)else(Sum.inl x.1,f x.2))=((Sum.inl (if x.1=k then(k,a)else x).1:Key),f (if x.1=k then(k,a)else x).2);by_cases e:x.1=k
 .rw[Q0 (by rw[e]),Q0 e,e]
 .rw[QZ (λz=>e (Sum.inl.inj z)),QZ e]
theorem eJ (f:α->V) (l:List (Int×α)) (k:Int):m4 (dk f l) (Sum.inl k)=dk f (bg l k):=by
 unfold m4 dk bg;rw[List.filter_map];congr 1;congr 1;funext x;change decide (¬ (Sum.inl x.1:Key)=Sum.inl k)=decide (¬ x.1=k);by_cases e:x.1=k
 .rw[e];simp
 .simp[e]
theorem br {l:List (Int×α)}{k:Int}{a:α}(j:Int) (h:look l k=none):look (l++[(k,a)]) j=if j=k then some a else look l j:=by
 induction l with
 |nil =>
  change look [(k,a)] j=_;rw[aP,ic];by_cases e:j=k
  .rw[Q0 e,Q0 e.symm]
  .rw[QZ e,QZ (G0 e)]
 |cons x l I =>
  rw[aP]at h;by_cases e:x.1=k
  .rw[Q0 e]at h;cases h
  .rw[QZ e]at h;change look (x::(l++[(k,a)])) j=_;rw[aP,aP,I h];by_cases G:x.1=j
   .rw[Q0 G,Q0 G,QZ (λz=>e (G.trans z))]
   .rw[QZ G,QZ G]
theorem bO {l:List (Int×α)}{k:Int}{a b:α}(j:Int) (h:look l k=some b):look (aU l k a) j=if j=k then some a else look l j:=by
 induction l with
 |nil=>cases h
 |cons x l I =>
  rw[aP]at h;change look ((if x.1=k then(k,a)else x)::aU l k a) j=_;by_cases e:x.1=k
  .rw[Q0 e,aP,aP];by_cases G:j=k
   .rw[Q0 G.symm,Q0 G]
   .rw[QZ (G0 G),QZ G,QZ (λz=>G (z.symm.trans e))];clear I h
    induction l with
    |nil=>rfl
    |cons y l I =>
     change look ((if y.1=k then(k,a)else y)::aU l k a) j=_;by_cases J:y.1=k
     .rw[Q0 J,aP,aP,QZ (G0 G),QZ (λz=>G (z.symm.trans J)),I]
     .rw[QZ J,aP,aP,I]
  .rw[QZ e]at h;rw[QZ e,aP,aP,I h];by_cases G:x.1=j
   .rw[Q0 G,Q0 G,QZ (λz=>e (G.trans z))]
   .rw[QZ G,QZ G]
theorem cj (l:List (Int×α)) (k j:Int):look (bg l k) j=if j=k then none else look l j:=by
 induction l with
 |nil =>
  change look [] j=if j=k then none else look [] j
  rw[ic];split<;>rfl
 |cons x l I =>
  unfold bg at *;rw[Mw];by_cases e:x.1=k
  .rw[QZ (by simp[e]),I,aP];by_cases G:j=k
   .rw[Q0 G,Q0 G]
   .rw[QZ G,QZ G,QZ (λz=>G (z.symm.trans e))]
  .rw[Q0 (by simp[e]),aP,aP,I];by_cases G:x.1=j
   .rw[Q0 G,Q0 G,QZ (λz=>e (G.trans z))]
   .rw[QZ G,QZ G]
theorem fN (l:List (Int×α)) (k:Int) (a:α):(aU l k a).map (·.1)=l.map (·.1):=by
 unfold aU;rw[Me];congr 1;funext x;change(if x.1=k then(k,a)else x).1=x.1;by_cases e:x.1=k
 .rw[Q0 e,e]
 .rw[QZ e]
theorem jA (l:List (Int×α)) (k:Int):(bg l k).map (·.1)=(l.map (·.1)).filter λx=>decide (x≠k):=by
 unfold bg;rw[List.filter_map];rfl
theorem gK (l:List (Int×α)) (k:Int) (a:α):(aU l k a).length=l.length:=by unfold aU;rw[BY]
theorem mem_set {l:List (Int×α)}{k:Int}{a:α}{x:Int×α}(h:x∈aU l k a):x=(k,a)\/(x∈l/\x.1≠k):=by
 unfold aU at h;let#[y,G,e]:=List.mem_map.mp h;by_cases c:y.1=k
 .rw[Q0 c]at e;show .inl e.symm
 .rw[QZ c]at e;subst e;show .inr #[G,c]
theorem cf {l:List (Int×α)}{k:Int}{x:Int×α}(h:x∈bg l k):x∈l/\x.1≠k:=by
 unfold bg at h;let#[h1,h2]:=List.mem_filter.mp h;show#[h1,of_decide_eq_true h2]
theorem bW (f:α->V) (l:List (Int×α)):(dk f l).length=l.length:=by unfold dk;rw[BY]
theorem lK {l:List (Int×α)}{k:Int}{a:α}(J:(l.map (·.1)).Nodup) (h:look l k=some a):(bg l k).length+1=l.length:=by
 induction l with
 |nil=>cases h
 |cons x l L =>
  let#[G,N]:=List.nodup_cons.mp (show(x.1::l.map (·.1)).Nodup from J);rw[aP]at h;unfold bg at *;rw[Mw];by_cases e:x.1=k
  .rw[QZ (by simp[e])];have:l.filter (λx=>decide (x.1≠k))=l:=by
    rw[Ob];intro y I;have:y.1≠k:=λz=>G (by rw[e, <-z];show List.mem_map.mpr #[_,I,rfl]);simpa using this
   rw[this,Lo]
  .rw[QZ e]at h;rw[Q0 (by simpa using e),Lo,Lo,L N h]
end
noncomputable abbrev um:=List (Int×(Addr×List V))
noncomputable abbrev jw:=List (Int×(Addr×um))
noncomputable def fS:Addr×List V->V:=λx=>.ref x.1
noncomputable def fF:Addr×um->V:=λx=>.ref x.1
noncomputable def zC:V->Bool
 |.int _=>true
 |.str _=>true
 |_=>false
noncomputable def nU (xs:List V):Bool:=xs.all zC&&decide (xs.length<1000)
theorem CF {xs:List V}(h:nU xs=true):xs.all zC=true:=(Pk.mp h).1
theorem Cq {xs:List V}(h:nU xs=true):xs.length<1000:=of_decide_eq_true (Pk.mp h).2
noncomputable def jS (fs:Addr):List (Str×V):=bj "first_step" (.ref fs) []
theorem kU (fs:Addr):(jS fs).lookup ("first_step" : Str)=some (.ref fs):=by
 unfold jS;rw[aE,Q0 rfl]
theorem aW (fs:Addr) {m:Str}(h:¬ m = "first_step"):(jS fs).lookup m=none:=by
 unfold jS;rw[aE,QZ h]
 all_goals rfl
structure gW (H:Hp) (k:Int) (sec:um):Prop where
 ht:∀y∈sec,H y.2.1=some (.tup y.2.2)/\nU y.2.2=true/\y.1/8=k/\0<=y.1/\y.1<64
 ns:(sec.map (·.1)).Nodup
 ne:sec≠[]
structure TabAt (C:Addr) (H:Hp) (p fs:Addr) (tb:jw):Prop where
 ob:∃dx,H p=some (.ins C dx (jS fs))
 hf:H fs=some (.dK (dk fF tb))
 hd:∀x∈tb,H x.2.1=some (.dK (dk fS x.2.2))
 hs:∀x∈tb,gW H x.1 x.2.2
 nk:(tb.map (·.1)).Nodup
 na:∀x∈tb,∀y∈tb,x.2.1=y.2.1->x.1=y.1
 nf:∀x∈tb,x.2.1≠fs
noncomputable def dh (tb:jw) (q:Int):Option (List V):=(look tb (q/8)).bind λx=>(look x.2 q).map (·.2)
noncomputable def eQ (fs:Addr) (tb:jw):Addr->Prop:=λb=>b=fs\/∃x∈tb,b=x.2.1
theorem gW.keep {H H':Hp}{k:Int}{I:um}(S:gW H k I) (h:∀b xs,H b=some (.tup xs)->H' b=some (.tup xs)):gW H' k I :=
 #[λy G=>#[h _ _ (S.ht y G).1,(S.ht y G).2],S.ns,S.ne]
theorem TabAt.same {C:Addr}{H H':Hp}{p fs:Addr}{tb:jw}(T:TabAt C H p fs tb) (s:bh H H'):TabAt C H' p fs tb:=by
 let#[#[dx,h1],h2,O,N,L,J,I]:=T;show#[#[dx,s _ _ h1],s _ _ h2,λx G=>s _ _ (O x G),λx G=>(N x G).keep λb xs e=>s _ _ e,L,J,I]
theorem TabAt.put {C:Addr}{H H':Hp}{p fs d:Addr}{tb:jw}{k:Int}{I sec':um}(T:TabAt C H p fs tb) (L:look tb k=some (d,I)) (o:Off (· = d) H H') (hd:H' d=some (.dK (dk fS sec'))) (S:gW H' k sec'):TabAt C H' p fs (aU tb k (d,sec')):=by
 let#[#[dx,h1],h2,Y,h4,h5,U,O]:=T;have J:=ay L;have ab:=Y _ J;have R:∀x∈tb,x.1≠k->x.2.1≠d:=λx G hk e=>hk (U x G _ J e);have same:dk fF (aU tb k (d,sec'))=dk fF tb:=by
  have e:=iC (f:=fF) (a:=(d,sec')) L;rw[<-e];have e2:=iC (f:=fF) (a:=(d,I)) L;have e3:fF (d,sec')=fF (d,I):=rfl;rw[e3,e2];unfold dk aU;rw[Me];show Mx λx G=>?_;change((Sum.inl (if x.1=k then(k,(d,I))else x).1:Key),fF (if x.1=k then(k,(d,I))else x).2)=(Sum.inl x.1,fF x.2);by_cases c:x.1=k
  .rw[Q0 c,c];have:look tb k=some x.2:=bK h5 (by rw[<-c];show G);rw[L]at this;rw[<-Option.some.inj this]
  .rw[QZ c]
 show#[#[dx,o _ _ h1 (cJ h1 ab (by intro z;cases z))],by rw[same];show o _ _ h2 (G0 (O _ J)),λx G=>?_,λx G=>?_,by rw[fN];show h5,λx G y N e=>?_,λx G=>?_]
 .rcases mem_set G with rfl|⟨G,c⟩
  .show hd
  .show o _ _ (Y x G) (R x G c)
 .rcases mem_set G with rfl|⟨G,c⟩
  .show S
  .show(h4 x G).keep λb xs e=>o _ _ e (cJ e ab (by intro z;cases z))
 .rcases mem_set G with rfl|⟨G,c⟩<;>rcases mem_set N with rfl|⟨N,c'⟩
  .rfl
  .show absurd e.symm (R y N c')
  .show absurd e (R x G c)
  .show U x G y N e
 .rcases mem_set G with rfl|⟨G,c⟩
  .show(O _ J:d≠fs)
  .show O x G
theorem TabAt.add {C:Addr}{H H':Hp}{p fs d:Addr}{tb:jw}{k:Int}{sec':um}(T:TabAt C H p fs tb) (R:look tb k=none) (J:H d=none) (o:Off (· = fs) H H') (Y:H' fs=some (.dK (dk fF (tb++[(k,(d,sec'))])))) (hd:H' d=some (.dK (dk fS sec'))) (S:gW H' k sec') :
  TabAt C H' p fs (tb++[(k,(d,sec'))]):=by
 let#[#[dx,h1],h2,O,h4,h5,U,L]:=T;have N:∀x∈tb,x.2.1≠d:=λx G=>aq (O x G) J;have ab:d≠fs:=λe=>(by rw[e,h2]at J;cases J);show#[#[dx,o _ _ h1 (cJ h1 h2 (by intro z;cases z))],Y,λx G=>?_,λx G=>?_,?_,λx G y I e=>?_,λx G=>?_]
 .rcases List.mem_append.mp G with G|G
  .show o _ _ (O x G) (L x G)
  .rw[List.mem_singleton.mp G];show hd
 .rcases List.mem_append.mp G with G|G
  .show(h4 x G).keep λb xs e=>o _ _ e (cJ e h2 (by intro z;cases z))
  .rw[List.mem_singleton.mp G];show S
 .rw[Ln];show fQ h5 (bP R)
 .rcases List.mem_append.mp G with G|G<;>rcases List.mem_append.mp I with I|I
  .show U x G y I e
  .rw[List.mem_singleton.mp I]at e;show absurd e (N x G)
  .rw[List.mem_singleton.mp G]at e;show absurd e.symm (N y I)
  .rw[List.mem_singleton.mp G,List.mem_singleton.mp I]
 .rcases List.mem_append.mp G with G|G
  .show L x G
  .rw[List.mem_singleton.mp G];show ab
theorem TabAt.del {C:Addr}{H H':Hp}{p fs d:Addr}{tb:jw}{k:Int}{S:um}(T:TabAt C H p fs tb) (R:look tb k=some (d,S)) (o:Off (λb=>b=d\/b=fs) H H') (U:H' fs=some (.dK (dk fF (bg tb k)))):TabAt C H' p fs (bg tb k):=by
 let#[#[dx,h1],h2,N,h4,Y,L,I]:=T;have J:=ay R;have O:=N _ J;show#[#[dx,o _ _ h1 λz=>z.elim (cJ h1 O (by intro z;cases z)) (cJ h1 h2 (by intro z;cases z))],U,λx G=>?_,λx G=>?_,?_,λx G y hy e=>L x (cf G).1 y (cf hy).1 e,λx G=>I x (cf G).1]
 .let#[G,c]:=cf G;show o _ _ (N x G) λz=>z.elim (λe=>c (L x G _ J e)) (I x G)
 .let#[G,c]:=cf G;show(h4 x G).keep λb xs e=>o _ _ e λz=>z.elim (cJ e O (by intro z;cases z)) (cJ e h2 (by intro z;cases z))
 .rw[jA];show Y.filter _
theorem BZ:∀(n:Nat) (a:Int) (l:List Int),l.Nodup->(∀x∈l,a<=x/\x<a+n)->l.length<=n
 |0,a,l,_,h=>by
  cases l with
  |nil=>show HC _
  |cons x r=>have:=h x Ls;omega
 |n+1,a,l,G,h=>by
  have J:=BZ n a (l.filter λx=>decide (x≠a+n)) (G.filter _) λx I=>by
   let#[h1,h2]:=List.mem_filter.mp I;have U:=h x h1;have S:x≠a+n:=of_decide_eq_true h2;omega
  have e:(l.filter λx=>decide (x≠a+n)).length+1>=l.length:=by
   clear J h
   induction l with
   |nil=>simp
   |cons x r N =>
    let#[O,L]:=List.nodup_cons.mp G;rw[Mw];by_cases c:x=a+n
    .rw[QZ (by simp[c])];have:r.filter (λx=>decide (x≠a+n))=r:=by
      rw[Ob];intro y R;have:y≠a+n:=λe=>O (by rw[c, <-e];show R);simpa using this
     rw[this];simp
    .rw[Q0 (by simpa using c)];have:=N L;rw[Lo,Lo];omega
  omega
theorem gW.len {H:Hp}{k:Int}{G:um}(S:gW H k G):G.length<=64:=by
 have:=BZ 64 0 (G.map (·.1)) S.ns λx I=>by
  let#[y,J,rfl]:=List.mem_map.mp I;have:=S.ht y J;omega
 rwa [BY]at this
theorem TabAt.kb {C:Addr}{H:Hp}{p fs:Addr}{tb:jw}(T:TabAt C H p fs tb):∀x∈tb,0<=x.1/\x.1<8:=λx G=>by
 have S:=T.hs x G;cases e:x.2.2 with
 |nil=>show absurd e S.ne
 |cons y r =>
  have:=S.ht y (by rw[e];show Ls);omega
theorem TabAt.len {C:Addr}{H:Hp}{p fs:Addr}{tb:jw}(T:TabAt C H p fs tb):tb.length<=8:=by
 have:=BZ 8 0 (tb.map (·.1)) T.nk λx G=>by
  let#[y,I,rfl]:=List.mem_map.mp G;have:=T.kb y I;omega
 rwa [BY]at this
theorem TabAt.xh {C:Addr}{H:Hp}{p fs:Addr}{tb:jw}(T:TabAt C H p fs tb) {q:Int}(h:dh tb q≠none):0<=q/\q<64:=by
 unfold dh at h;cases e:look tb (q/8)with
 |none=>rw[e]at h;show absurd rfl h
 |some a =>
  rw[e,MY]at h;cases G:look a.2 q with
  |none=>rw[G]at h;show absurd rfl h
  |some b =>
   have:=(T.hs _ (ay e)).ht _ (ay G);omega
end Tb
namespace L2
open PySem PySem.Spec PyProof.Rows
section
variable {X:Cx}
theorem pI {α G:Type}(f:α->G):∀(l:List α) (i:Nat),(l.map f).eraseIdx i=(l.eraseIdx i).map f
 | [],_=>rfl
 |_::_,0=>rfl
 |a::l,i+1=>by
  change f a::(l.map f).eraseIdx i=f a::(l.eraseIdx i).map f;rw[pI f l i]
inductive xO (x:V) (vs:List V) (H:Hp) (Q:VK):Prop
 |mk (l:Addr) (ns:List Int) (k:Int) (_:x=.ref l) (_:vs=[.int k]) (_:H l=some (.lst (ns.map V.int))) (_:k∈ns) (_:Q .non (upd H l (.lst ((ns.erase k).map V.int)))):xO x vs H Q
theorem oZ:ED X "list.remove" xO:=by
 intro pins s σ H x vs v us Q I rx O h;let#[l,ns,k,rfl,rfl,J,N,q]:=h;cases rx;let#[u,rfl,Y]:=O.one;let#[t,rfl]:=Y;let#[z,its,n,r,L,e]:=I.ny J;have hi:=intsAre_of r;have S:=hi.length;have ac:=L;rw[BY]at L z;have hs:sizeLine=16777216:=Lh;have G:ns.idxOf k<ns.length:=List.idxOf_lt_length_iff.mpr N;show NA OA #[_,e,rfl] PySem.F.entry_list_remove (PySem.F.args_list_remove_2 _ _)
  (MeetsSeq.list_remove l its.toArray n (.int k t) (QT k) (λy U=>eq_isInt k t hi y (by simpa using U)) (ns.idxOf k) (by simpa[S]using G) ?_ ?_ (by rw[G1];omega)) #[e,?_]
 .change QT k its[ns.idxOf k]=true;rw[Qw k hi _ af G];simpa using List.getElem_idxOf G
 .intro j R ab;change QT k its[j]=false;rw[Qw k hi j (by simpa using R) af];show ne_of_lt_idxOf ab _
 .show#[.non,_,I.Dn (its':=its.eraseIdx (ns.idxOf k)) J e ?_ ?_ ?_,?_,q]
  .change its.toArray.eraseIdxIfInBounds _=(its.eraseIdx _).toArray;rw[List.eraseIdxIfInBounds_toArray]
  .rw[List.erase_eq_eraseIdx_of_idxOf rfl, <-pI];show r.eraseIdx _
  .rw[BY];have:=List.length_erase_of_mem N;omega
  .trivial
end
noncomputable def jf (K:PySem.W.Frag) (H:Hp) (a:Addr) (xs:List V):Prop:=H a=some (.tup xs)\/cy K (λ_=>none) a xs
theorem jf.sq {K:PySem.W.Frag}{H:Hp}{a:Addr}{xs:List V}(h:jf K H a xs):cy K H a xs:=by
 rcases h with h|h
 .show cy.of h
 .rcases h with h|h
  .rcases h with h|⟨o,h⟩
   .cases h
   .cases h
  .show .inr h
theorem jf.keep {K:PySem.W.Frag}{H H':Hp}{a:Addr}{xs:List V}(h:jf K H a xs) (s:∀o,H a=some o->H' a=some o):jf K H' a xs:=by
 rcases h with h|h
 .show .inl (s _ h)
 .show .inr h
theorem jf.off {K:PySem.W.Frag}{H H':Hp}{a:Addr}{xs:List V}(h:jf K H a xs) (s:H a=some (.tup xs)->H' a=some (.tup xs)):jf K H' a xs:=by
 rcases h with h|h
 .show .inl (s h)
 .show .inr h
theorem yE {X:Cx}:dG X (.builtin "isinstance") (λxs H Q=>(∃x n t b,xs=[x,.ty n]/\jX X.K H x t/\Nz X.K t (.type n)=some b/\Q (.bl b) H)\/∃a ys,xs=[.ref a,.ty "tuple"]/\cy X.K H a ys/\Q (.bl true) H):=by
 intro pins s σ H xs us Q I r h;rcases h with h|⟨a,ys,rfl,G,q⟩
 .show d0 pins s σ H xs us Q I r h
 .let#[u,c,rfl,L,J]:=vals2 r;obtain rfl:c=Value.type "tuple" := J;cases(show u=Value.ref a from L);let#[its,_,#[o,h1,h2,_],_]:=I.tuple G;show NF kitx_tuple I.jk #[o,h1,h2] (Er _) (λz=>nomatch z) λtk=>#[.bl true,H,I.tok _,rfl,q]
end L2
namespace Tb
open PySem L2
structure AZ (mg:Str->Option Value):Prop where
 B0:mg "isinstance" = none
 tuple:mg "tuple" = none
 list:mg "list" = none
 dict:mg "dict" = none
 len:mg "len" = none
 sorted:mg "sorted" = none
noncomputable def zf:V->Bool
 |.int _=>true
 |.str _=>true
 |.non=>true
 |_=>false
inductive rA (vs:List V) (H:Hp) (Q:VK) (e3:XK):Prop
 |mk (v:_) (_:vs=[v]) (_:zf v=true) (_:Q v H):rA vs H Q e3
noncomputable def uX (K:PySem.W.Frag):Sp:=λvs H Q _=>(∃v,vs=[v]/\zf v=true/\Q v H)\/∃(a:Addr) (xs:List V),vs=[.ref a]/\jf K H a xs/\nU xs=true/\∀H' l,bh H H'->H l=none->H' l=some (.tup xs)->Q (.ref l) H'
theorem Dw:∀{v:V},zC v=true->zf v=true
 |.int _,_=>rfl
 |.str _,_=>rfl
section
variable {P:IF}{w:Ll}{K:PySem.W.Frag}{mg:Str->Option Value}{base:Heap}
theorem IU:aC ["value","copied","key"] ["value"] (aw xq):=L2.bG
theorem AY {f:Addr}{fd:GX}(F:cM K "own_copy" "own_copy" xq f fd) (T:AZ mg):a8 P w K mg base aS 1 f fd ["value"] rA:=by
 show F.ok IU (λvs H Q E h=>?_) (λJ A outer s H vs Q E I h=>?_)
 .let#[v,rfl,_]:=h;rfl
 .let#[v,rfl,G,k]:=h;show#[_,(ah (aV (fK (aK d0 (by rfl) T.B0 bV (aa (pv 0) (aa (fw (v:=.ty "tuple") (by rfl) T.tuple mT rfl) ai)))) (aj dX) aG)
   (ah (aV (fK (aK d0 (by rfl) T.B0 bV (aa (pv 0) (aa (fw (v:=.ty "list") (by rfl) T.list eY rfl) ai)))) (aj dX) aG)
   (ah (aV (fK (aK d0 (by rfl) T.B0 bV (aa (pv 0) (aa (fw (v:=.ty "dict") (by rfl) T.dict qR rfl) ai)))) (ah dX
   (ah dX
   (aj dX))) aG)
   (aj (aF (pv 0)))))),?_]
  cases v with
  |int i=>show#[0,.int i,"tuple",_,false,rfl,.int i,AE _,false,rfl,bJ #[0,.int i,"list",_,false,rfl,.int i,Bc _,false,rfl,bJ #[0,.int i,"dict",_,false,rfl,.int i,AJ _,false,rfl,bJ #[0,k]]]]
  |str i=>show#[0,.str i,"tuple",_,false,rfl,.str i,AO _,false,rfl,bJ #[0,.str i,"list",_,false,rfl,.str i,Bg _,false,rfl,bJ #[0,.str i,"dict",_,false,rfl,.str i,Af _,false,rfl,bJ #[0,k]]]]
  |non=>show#[0,.non,"tuple",_,false,rfl,.non,As _,false,rfl,bJ #[0,.non,"list",_,false,rfl,.non,Aj _,false,rfl,bJ #[0,.non,"dict",_,false,rfl,.non,zl _,false,rfl,bJ #[0,k]]]]
  |_=>cases G
theorem Ci {f:Addr}{fd:GX}(F:cM K "own_copy" "own_copy" xq f fd) (T:AZ mg) (O:Df P w K mg base aS 1 "own_copy" rA):a8 P w K mg base aS 2 f fd ["value"] (uX K):=by
 show F.ok IU (λvs H Q E h=>?_) (λap A outer s H vs Q E U h=>?_)
 .rcases h with⟨v,rfl,_⟩|⟨a,xs,rfl,_⟩
  .rfl
  .rfl
 .show#[_,(ah (aV (fK (aK yE (by rfl) T.B0 bV (aa (pv 0) (aa (fw (v:=.ty "tuple") (by rfl) T.tuple mT rfl) ai)))) (aj (aF (cg oH (by rfl) T.tuple mT (aa (iR (cl:=[]) (caps:=[]) #[rfl,ao,ao,rfl,by kernel_rfl,by intro p I;simp at I,by kernel_rfl,by intro p I;simp at I,ao] rfl (FC (pv 0)) (λ_ _ _ _=>gO) (λ_ _ _ _=>(pc O U ax (aa (pv 0) ai)))) ai)))) aG)
   (ah (aV (fK (aK d0 (by rfl) T.B0 bV (aa (pv 0) (aa (fw (v:=.ty "list") (by rfl) T.list eY rfl) ai)))) (aj dX) aG)
   (ah (aV (fK (aK d0 (by rfl) T.B0 bV (aa (pv 0) (aa (fw (v:=.ty "dict") (by rfl) T.dict qR rfl) ai)))) (ah dX
   (ah dX
   (aj dX))) aG)
   (aj (aF (pv 0)))))),?_]
  rcases h with⟨v,rfl,hv,k⟩|⟨a,xs,rfl,L,N,k⟩
  .cases v with
   |int i=>show#[0,.inl #[.int i,"tuple",_,false,rfl,.int i,AE _,false,rfl,bJ #[0,.int i,"list",_,false,rfl,.int i,Bc _,false,rfl,bJ #[0,.int i,"dict",_,false,rfl,.int i,AJ _,false,rfl,bJ #[0,k]]]]]
   |str i=>show#[0,.inl #[.str i,"tuple",_,false,rfl,.str i,AO _,false,rfl,bJ #[0,.str i,"list",_,false,rfl,.str i,Bg _,false,rfl,bJ #[0,.str i,"dict",_,false,rfl,.str i,Af _,false,rfl,bJ #[0,k]]]]]
   |non=>show#[0,.inl #[.non,"tuple",_,false,rfl,.non,As _,false,rfl,bJ #[0,.non,"list",_,false,rfl,.non,Aj _,false,rfl,bJ #[0,.non,"dict",_,false,rfl,.non,zl _,false,rfl,bJ #[0,k]]]]]
   |_=>cases hv
  .have hs:sizeLine=16777216:=Lh;have Y:=CF N;have hn:=Cq N;show#[0,.inr #[a,xs,rfl,L.sq,true,rfl,eL ?_]];show#[0,a,rfl,#[xs,L.sq],?_];show yN (xs:=xs) (λi ys H'=>H'=H/\ys=xs.take i) #[1] (λi ys H' _ p=>by rw[p.1];show L.sq) (λi x ys H' hi p=>?_) (λys H' p l S=>?_)
   .let#[rfl,rfl]:=p;let#[ac,ab]:=List.getElem?_eq_some_iff.mp hi;show#[0,x,rfl,Dw (List.all_eq_true.mp Y x (ab▸MB ac)),?_,4]
    .rw[Lp];omega
    .rw[List.take_succ,hi];rfl
   .let#[rfl,rfl]:=p;rw[Mq];show#[l,xs,rfl,.inl #[bA.of ae,λJ G=>?_]];have R:J≠l:=λz=>(by rw[z,ae]at G;cases G);have am:H' J=none:=(by rw[ag R]at G;show G);show k _ J ((ar S).trans (ar G)) am ae
end
structure Txt (K:PySem.W.Frag) (mg:Str->Option Value) (C:Addr):Prop where
 cl:pG K C
 nF:dg K C "first_step"
 sp:∃u,mg "STEP_PAGES" = some u/\RelV (.int 8) u
noncomputable def Ii (H:Hp) (v:V):Option (List V)->Prop
 |none=>v=.non
 |some xs=>∃t,v=.ref t/\H t=some (.tup xs)
inductive iq (C:Addr) (vs:List V) (H:Hp) (Q:VK) (e3:XK):Prop
 |mk (p dx:Addr) (_:vs=[.ref p]) (_:H p=some (.ins C dx [])) (_:∀(fs:Addr) (H':Hp),H fs=none->TabAt C H' p fs []->Off (· = p) H H'->Q .non H'):iq C vs H Q e3
inductive oW (C:Addr) (vs:List V) (H:Hp) (Q:VK) (e3:XK):Prop
 |mk (p fs:Addr) (tb:jw) (q:Int) (_:vs=[.ref p,.int q]) (_:TabAt C H p fs tb) (_:∀H' v,bh H H'->Ii H' v (dh tb q)->Q v H'):oW C vs H Q e3
inductive sJ (K:PySem.W.Frag) (C:Addr) (vs:List V) (H:Hp) (Q:VK) (e3:XK):Prop
 |mk (p fs t:Addr) (tb:jw) (q:Int) (xs:List V) (_:vs=[.ref p,.int q,.ref t]) (_:TabAt C H p fs tb) (_:0<=q) (_:q<64) (_:jf K H t xs) (_:nU xs=true) (_:∀H' tb',TabAt C H' p fs tb'->(∀j,dh tb' j=if j=q then some xs else dh tb j)->Off (eQ fs tb) H H'->(∀b,eQ fs tb' b->eQ fs tb b\/H b=none)->Q .non H'):sJ K C vs H Q e3
inductive rF (C:Addr) (vs:List V) (H:Hp) (Q:VK) (e3:XK):Prop
 |mk (p fs:Addr) (tb:jw) (q:Int) (_:vs=[.ref p,.int q]) (_:TabAt C H p fs tb) (_:∀H' tb',TabAt C H' p fs tb'->(∀j,dh tb' j=if j=q then none else dh tb j)->(tb'.length=tb.length\/tb'.length+1=tb.length)->Off (eQ fs tb) H H'->(∀b,eQ fs tb' b->eQ fs tb b\/H b=none)->Q .non H'):rF C vs H Q e3
noncomputable def fZ (tb:jw):List Int:=tb.flatMap λx=>x.2.2.map (·.1)
inductive dW (C:Addr) (vs:List V) (H:Hp) (Q:VK) (e3:XK):Prop
 |mk (p fs:Addr) (tb:jw) (_:vs=[.ref p]) (_:TabAt C H p fs tb) (_:∀H' l (ns:List Int),bh H H'->H l=none->H' l=some (.lst (ns.map V.int))->ns.Perm (fZ tb)->ns.Pairwise (· <= ·)->Q (.ref l) H'):dW C vs H Q e3
theorem sM {C:Addr}{H:Hp}{p fs:Addr}{tb:jw}(T:TabAt C H p fs tb) (q:Int):q∈fZ tb↔dh tb q≠none:=by
 unfold fZ;rw[List.mem_flatMap];constructor
 .rintro⟨x,G,L⟩;let#[y,J,rfl]:=List.mem_map.mp L;have S:=T.hs x G;unfold dh;rw[(S.ht y J).2.2.1,bK T.nk G,MY,bK S.ns J];simp
 .intro h;unfold dh at h;cases e:look tb (q/8)with
  |none=>rw[e]at h;show absurd rfl h
  |some a =>
   rw[e,MY]at h;cases I:look a.2 q with
   |none=>rw[I]at h;show absurd rfl h
   |some b=>show#[_,ay e,List.mem_map.mpr #[_,ay I,rfl]]
theorem jO {C:Addr}{H:Hp}{p fs:Addr}{tb:jw}(T:TabAt C H p fs tb):(fZ tb).Nodup:=by
 have hs:=T.hs;have N:=T.nk;clear T
 induction tb with
 |nil=>show MN
 |cons x r R =>
  let#[Y,S]:=List.nodup_cons.mp (show(x.1::r.map (·.1)).Nodup from N);change(x.2.2.map (·.1)++fZ r).Nodup;rw[List.nodup_append];show#[(hs x Ls).ns,R (λy I=>hs y (Lx _ I)) S,λa ha b G e=>Y ?_];let#[y,I,rfl]:=List.mem_map.mp ha;let#[z,L,G]:=List.mem_flatMap.mp G;let#[J,O,rfl]:=List.mem_map.mp G;have a1:=((hs x Ls).ht y I).2.2.1;have a2:=((hs z (Lx _ L)).ht J O).2.2.1;have U:y.1=J.1:=e;rw[<-a1,U,a2];show List.mem_map.mpr #[z,L,rfl]
theorem tT {C:Addr}{H:Hp}{p fs:Addr}{tb:jw}(T:TabAt C H p fs tb) (i:Nat):(fZ (tb.take i)).length<=64:=by
 have h1:(fZ tb).length<=64:=BZ 64 0 (fZ tb) (jO T) λx G=>by
  have:=T.xh ((sM T x).mp G);omega
 have h2:(fZ (tb.take i)).length<=(fZ tb).length:=by
  conv=>rhs;rw[<-Mu i tb]
  unfold fZ;rw[List.flatMap_append,Li];omega
 omega
theorem ug {tb:jw}{q:Int}{d:Addr}{G:um}(h:look tb (q/8)=some (d,G)):dh tb q=(look G q).map (·.2):=by
 unfold dh;rw[h,MY]
theorem sF {tb:jw}{q:Int}(h:look tb (q/8)=none):dh tb q=none:=by
 unfold dh;rw[h];rfl
theorem pR {tb:jw}{k q:Int}{d:Addr}{I sec':um}{o:Option (Addr×List V)}(G:look tb k=some (d,I)) (J:q/8=k) (h:∀j,look sec' j=if j=q then o else look I j) (j:Int) :
  dh (aU tb k (d,sec')) j=if j=q then o.map (·.2)else dh tb j:=by
 unfold dh;rw[bO (j/8) G];by_cases c:j/8=k
 .rw[Q0 c,MY,h j,c,G,MY];by_cases e:j=q
  .rw[Q0 e,Q0 e]
  .rw[QZ e,QZ e]
 .rw[QZ c,QZ (λe=>c (by rw[e];show J))]
theorem yd {tb:jw}{k q:Int}{d:Addr}{sec':um}{o:Option (Addr×List V)}(G:look tb k=none) (I:q/8=k) (h:∀j,look sec' j=if j=q then o else none) (j:Int) :
  dh (tb++[(k,(d,sec'))]) j=if j=q then o.map (·.2)else dh tb j:=by
 unfold dh;rw[br (j/8) G];by_cases c:j/8=k
 .rw[Q0 c,MY,h j,c,G];by_cases e:j=q
  .rw[Q0 e,Q0 e]
  .rw[QZ e,QZ e];rfl
 .rw[QZ c,QZ (λe=>c (by rw[e];show I))]
theorem yt {tb:jw}{k q:Int}{d:Addr}{G:um}(I:look tb k=some (d,G)) (J:q/8=k) (h:∀j,j≠q->look G j=none) (j:Int) :
  dh (bg tb k) j=if j=q then none else dh tb j:=by
 unfold dh;rw[cj];by_cases c:j/8=k
 .rw[Q0 c,c,I];by_cases e:j=q
  .rw[Q0 e];rfl
  .rw[QZ e,MY,h j e];rfl
 .rw[QZ c,QZ (λe=>c (by rw[e];show J))]
theorem Cm {H:Hp}{k q:Int}{I:um}{l:Addr}{xs:List V}(S:gW H k I) (J:H l=some (.tup xs)) (L:nU xs=true) (N:q/8=k) (O:0<=q) (h1:q<64) :
  ∃sec',putK (dk fS I) (Sum.inl q) (.ref l)=dk fS sec'/\(∀j,look sec' j=if j=q then some (l,xs)else look I j)/\gW H k sec':=by
 cases e:look I q with
 |none =>
  show#[I++[(q,(l,xs))],cF (f:=fS) (a:=(l,xs)) e,λj=>br j e,λy G=>?_,?_,by simp]
  .rcases List.mem_append.mp G with G|G
   .show S.ht y G
   .rw[List.mem_singleton.mp G];show#[J,L,N,O,h1]
  .rw[Ln];show fQ S.ns (bP e)
 |some b =>
  show#[aU I q (l,xs),iC (f:=fS) (a:=(l,xs)) e,λj=>bO j e,λy G=>?_,3]
  .rcases mem_set G with rfl|⟨G,_⟩
   .show#[J,L,N,O,h1]
   .show S.ht y G
  .rw[fN];show S.ns
  .intro z;have:=gK I q (l,xs);rw[z]at this;show S.ne (List.length_eq_zero_iff.mp this.symm)
theorem hV {B:Addr->Prop}{H H' G:Hp}(s:bh H H') (o:Off B H' G):Off B H G:=λb u e I=>o b u (s b u e) I
theorem sf {B:Addr->Prop}{H:Hp}{a:Addr}{X:HO}(h:B a):Off B H (upd H a X):=λb u e G=>by rw[ag (λz=>G (by rw[z];show h))];show e
theorem Off.mono {B G:Addr->Prop}{H H':Hp}(o:Off B H H') (h:∀b,B b->G b):Off G H H':=λb u e I=>o b u e λz=>I (h b z)
theorem FH {C:Addr}{H:Hp}{p fs:Addr}{tb:jw}(T:TabAt C H p fs tb):(dk fF tb).length<sizeLine:=by
 have h:=T.len;have hs:sizeLine=16777216:=Lh;rw[bW];omega
theorem FW {H:Hp}{k:Int}{G:um}(S:gW H k G):(dk fS G).length<sizeLine:=by
 have h:=S.len;have hs:sizeLine=16777216:=Lh;rw[bW];omega
theorem xf {fs d:Addr}{tb:jw}{k:Int}{I sec':um}(J:(k,(d,I))∈tb) {b:Addr}(h:eQ fs (aU tb k (d,sec')) b):eQ fs tb b:=by
 rcases h with h|⟨x,G,h⟩
 .show .inl h
 .rcases mem_set G with rfl|⟨G,_⟩
  .show .inr #[_,J,h]
  .show .inr #[x,G,h]
theorem CL {fs:Addr}{tb:jw}{k:Int}{b:Addr}(h:eQ fs (bg tb k) b):eQ fs tb b:=by
 rcases h with h|⟨x,G,h⟩
 .show .inl h
 .show .inr #[x,(cf G).1,h]
theorem kB (tb:jw) (k:Int):dP (dk fF tb) (Sum.inl k)=(look tb k).map fF:=cK fF k tb
theorem uF (G:um) (k:Int):dP (dk fS G) (Sum.inl k)=(look G k).map fS:=cK fS k G
section
variable {P:IF}{w:Ll}{K:PySem.W.Frag}{mg:Str->Option Value}{base:Heap}
theorem JP:aC ["self"] ["self"] (aw mU):=L2.bG
theorem qG {f C:Addr}{fd:GX}(F:cM K "__init__" "Table.__init__" mU f fd) (T:Txt K mg C):a8 P w K mg base aS 1 f fd ["self"] (iq C):=by
 show F.ok JP (λvs H Q E h=>?_) (λO A outer s H vs Q E N h=>?_)
 .let#[p,dx,rfl,_]:=h;rfl
 .let#[p,dx,rfl,J,k]:=h;show#[_,(aj (fM (pv 0) dr rfl)),?_];intro fs I;have np:p≠fs:=aq J I;show#[0,p,C,dx,[],rfl,by rw[ag np];show J,T.cl,T.nF,av,?_];show k fs _ I #[#[dx,by rw[ae];rfl],by rw[ag (G0 np),ae];rfl,λx G=>(Lm G).elim,λx G=>(Lm G).elim,.nil,λx G=>(Lm G).elim,λx G=>(Lm G).elim] λb u e L=>?_;rw[ag L,ag (aq e I)];show e
theorem Kz:aC ["self","page","second"] ["self","page"] (aw Fu):=L2.bG
theorem E9 {f C:Addr}{fd:GX}(F:cM K "get" "Table.get" Fu f fd) (T:Txt K mg C) (O:Df P w K mg base aS 2 "own_copy" (uX K)):a8 P w K mg base aS 3 f fd ["self","page"] (oW C):=by
 let#[u8,R,Y]:=T.sp;show F.ok Kz (λvs H Q E h=>?_) (λac A outer s H vs Q E I h=>?_)
 .let#[p,fs,tb,q,rfl,_]:=h;rfl
 .let#[p,fs,tb,q,rfl,TT,k]:=h;let#[dx,h1]:=TT.ob;show#[_,(ah (aO (i:=2) Kz.nd rfl (Lc rfl) (tO (aZ I) (aL (pv 0) rfl) (aD bZ (pv 1) (cB (by rfl) R Y)) dr #[1,1]))
   (aj (aF (pc O I ax (aa (zx (aZ I) (pv 2) (pv 1) #[1,1]) ai))))),?_]
  show#[0,p,C,dx,_,.ref fs,rfl,h1,T.cl,T.nF,kU fs,fs,rfl,.inl #[_,.inl TT.hf],0,_,0,rfl,#[av,av],λe U=>?_];have G:=ar (X:=.dK []) U;have L:=TT.same G;show#[_,dB.k (k:=.inl (q/8)) L.hf,?_];rw[kB];cases c:look tb (q/8)with
  |none =>
   show#[0,e,rfl,.inl #[_,.inl ae],0,_,dB.k (k:=.inl q) ae,.inl #[.non,1,k _ _ G ?_]];rw[sF c];rfl
  |some a =>
   let#[d,ab]:=a;have N:=ay c;have hd:=L.hd _ N;show#[0,d,rfl,.inl #[_,.inl hd],0,_,dB.k (k:=.inl q) hd,?_];rw[uF];have le:=ug c;cases J:look ab q with
   |none =>
    show .inl #[.non,1,k _ _ G ?_];rw[le,J];rfl
   |some b =>
    let#[t,xs]:=b;have hs:=(L.hs _ N).ht _ (ay J);show .inr #[t,xs,rfl,.inl hs.1,hs.2.1,λH' l s' am S=>k _ _ (G.trans s') ?_];rw[le,J];show#[l,rfl,S]
theorem Je:aC ["self","page","entry","second"] ["self","page","entry"] (aw Ex):=L2.bG
theorem En {f C:Addr}{fd:GX}(F:cM K "lay" "Table.lay" Ex f fd) (T:Txt K mg C) (GC:Df P w K mg base aS 2 "own_copy" (uX K)):a8 P w K mg base aS 3 f fd ["self","page","entry"] (sJ K C):=by
 let#[u8,m8,r8]:=T.sp;show F.ok Je (λvs H Q E h=>?_) (λap A outer s H vs Q E hr h=>?_)
 .let#[p,fs,t,tb,q,xs,rfl,_]:=h;rfl
 .let#[p,fs,t,tb,q,xs,rfl,TT,q0,q1,ht,G,k]:=h;let#[dx,h1]:=TT.ob;show#[_,(ah (aO (i:=3) Je.nd rfl (Lc rfl) (An (aL (pv 0) rfl) (aD bZ (pv 1) (cB (by rfl) m8 r8)) dr #[1,1]))
   (aj (jx (aZ hr) (pv 3) (pv 1) (pc GC hr ax (aa (pv 2) ai)) rfl))),?_]
  show#[0,p,C,dx,_,.ref fs,rfl,h1,T.cl,T.nF,kU fs,fs,rfl,.inl #[_,.inl TT.hf],0,_,0,rfl,#[av,av],λe N=>?_];have se:=ar (X:=.dK []) N;have T1:=TT.same se;show#[_,.inl (q/8),T1.hf,rfl,FH T1,λv I=>?_,λI=>?_]
  .rw[kB]at I;cases c:look tb (q/8)with
   |none=>rw[c]at I;cases I
   |some a =>
    let#[d,as]:=a;rw[c]at I;obtain rfl:V.ref d=v:=Option.some.inj I;have O:=ay c;show#[0,.inr #[t,xs,rfl,ht.keep λo e=>se _ _ e,G,λH2 l s2 am S=>?_]];have R:=T1.same s2;let#[sec',U,e2,S']:=Cm (R.hs _ O) S G rfl q0 q1;have hd:=R.hd _ O;show#[0,0,d,0,gB.k (k:=.inl q) hd (FW (R.hs _ O)),?_];rw[U];have L:Off (· = d) H2 (upd H2 d (.dK (dk fS sec'))):=sf rfl;show k _ _ (R.put c L ae (S'.keep λb ys J=>L _ _ J (cJ J hd (by intro z;cases z)))) (λj=>pR c rfl e2 j) (hV (se.trans s2) (L.mono λb z=>.inr #[_,O,z])) λb z=>.inl (xf O z)
  .rw[kB]at I;have c:look tb (q/8)=none:=by
    cases c:look tb (q/8)with
    |none=>rfl
    |some a=>rw[c]at I;cases I
   have ep:putK (dk fF tb) (Sum.inl (q/8)) (.ref e)=dk fF (tb++[(q/8,(e,[]))]):=cF (f:=fF) (a:=(e,[])) c;rw[ep];have ef:e≠fs:=λz=>aq TT.hf N z.symm;have hE:upd (upd H e (.dK [])) fs (.dK (dk fF (tb++[(q/8,(e,[]))]))) e=some (.dK []):=(by rw[ag ef,ae]);have o1:Off (· = fs) H (upd (upd H e (.dK [])) fs (.dK (dk fF (tb++[(q/8,(e,[]))])))):=λb u J Y=>(by rw[ag Y,ag (aq J N)];show J);show#[0,.inr #[t,xs,rfl,ht.off λe=>o1 _ _ e (cJ e TT.hf (by intro z;cases z)),G,λH2 l s2 am S=>?_]];have ab:=s2 _ _ hE;show#[0,0,e,0,gB.k (k:=.inl q) ab av,?_];have U:putK ([]:List (Key×V)) (Sum.inl q) (.ref l)=dk fS [(q,(l,xs))]:=rfl;rw[U];have L:Off (· = e) H2 (upd H2 e (.dK (dk fS [(q,(l,xs))]))):=sf rfl;have oA:Off (· = fs) H (upd H2 e (.dK (dk fS [(q,(l,xs))]))):=λb u J Y=>L b u (s2 _ _ (o1 b u J Y)) (aq J N);have ac:(upd H2 e (.dK (dk fS [(q,(l,xs))]))) l=some (.tup xs):=L _ _ S (cJ S ab (by intro z;cases z));show k _ _ (TT.add (sec':=[(q,(l,xs))]) c N oA ?_ ae #[λy hy=>?_,?_,by simp]) (λj=>yd (o:=some (l,xs)) c rfl (λj=>?_) j) (oA.mono λb z=>.inl z) λb z=>?_
   rotate_left 4
   .rcases z with z|⟨x,G,z⟩
    .show .inl (.inl z)
    .rcases List.mem_append.mp G with G|G
     .show .inl (.inr #[x,G,z])
     .rw[List.mem_singleton.mp G]at z;rw[z];show .inr N
   .show L _ _ (s2 _ _ ae) (G0 ef) |>.trans ?_;unfold dk;rw[Ln,Ln];rfl
   .rw[List.mem_singleton.mp hy];show#[ac,G,rfl,q0,q1]
   .simp
   .rw[aP,ic];by_cases z:j=q
    .rw[Q0 z,Q0 z.symm]
    .rw[QZ z,QZ (G0 z)]
theorem J0:aC ["self","page","k","second"] ["self","page"] (aw vL):=L2.bG
theorem Bh {f C:Addr}{fd:GX}(F:cM K "clear" "Table.clear" vL f fd) (T:Txt K mg C) (TP:AZ mg):a8 P w K mg base aS 1 f fd ["self","page"] (rF C):=by
 let#[u8,m8,r8]:=T.sp;have R:=T;show F.ok J0 (λvs H Q E h=>?_) (λap A outer s H vs Q E hr h=>?_)
 .let#[p,fs,tb,q,rfl,_]:=h;rfl
 .let#[p,fs,tb,q,rfl,TT,k]:=h;let#[dx,h1]:=TT.ob;replace T:=TP;show#[_,(ah (aO (i:=2) J0.nd rfl (Lc rfl) (aD bZ (pv 1) (cB (by rfl) m8 r8)))
   (ah (aO (i:=3) J0.nd rfl (Lc rfl) (tO (aZ hr) (aL (pv 0) rfl) (pv 2) dr #[1,1]))
   (ah (aV (gb (eg (aZ hr) (pv 1) (pv 3))) (aj r6) aG)
   (ah (aM (eG (pv 3) (pv 1) #[1,1]))
   (aj (aV (aA bH (aK fG (by rfl) T.len boot_len (aa (pv 3) ai)) ak (aH _)) (aj (aM (eG (aL (pv 0) rfl) (pv 2) #[1,1]))) aG)))))),?_]
  show#[0,_,0,rfl,#[av,av],?_];show#[0,p,C,dx,_,.ref fs,rfl,h1,R.cl,R.nF,kU fs,fs,rfl,.inl #[_,.inl TT.hf],0,λe he=>?_];have J:=ar (X:=.dK []) he;have I:=TT.same J;show#[_,dB.k (k:=.inl (q/8)) I.hf,?_];rw[kB];cases c:look tb (q/8)with
  |none =>
   show#[0,0,e,0,dB.k (k:=.inl q) ae,true,rfl,eL ?_];show k _ _ I (λj=>?_) (.inl rfl) (hV J λb u N _=>N) λb z=>.inl z;by_cases z:j=q
   .rw[Q0 z,z];show sF c
   .rw[QZ z]
  |some a =>
   let#[d,G]:=a;have L:=ay c;have hd:=I.hd _ L;have S:=I.hs _ L;show#[0,0,d,0,dB.k (k:=.inl q) hd,?_];rw[uF];cases c2:look G q with
   |none =>
    show#[true,rfl,eL ?_];show k _ _ I (λj=>?_) (.inl rfl) (hV J λb u N _=>N) λb z=>.inl z;by_cases z:j=q
    .rw[Q0 z,z,ug c,c2];rfl
    .rw[QZ z]
   |some b =>
    show#[false,rfl,bJ ?_];show#[0,d,rfl,.inl #[_,.inl hd],0,_,.inl q,fS b,hd,rfl,by rw[uF,c2];rfl,?_];rw[eJ];show#[0,d,0,ae,4];have O:Off (· = d) (upd H e (.dK [])) (upd (upd H e (.dK [])) d (.dK (dk fS (bg G q)))):=sf rfl;by_cases z:bg G q=[]
    .have Y:decide (V.int ((dk fS (bg G q)).length:Nat)=V.int 0)=true:=(by rw[z];rfl);rw[Y];show#[true,rfl,eL ?_];have am:d≠fs:=TT.nf _ L;have ab:(upd (upd H e (.dK [])) d (.dK (dk fS (bg G q)))) fs=some (.dK (dk fF tb)):=O _ _ I.hf (G0 am);have ac:(upd (upd H e (.dK [])) d (.dK (dk fS (bg G q)))) p=some (.ins C dx (jS fs)):=O _ _ (J _ _ h1) (cJ (J _ _ h1) hd (by intro z;cases z));show#[0,p,C,dx,_,.ref fs,rfl,ac,R.cl,R.nF,kU fs,fs,rfl,.inl #[_,.inl ab],0,_,.inl (q/8),fF (d,G),ab,rfl,by rw[kB,c];rfl,?_];rw[eJ];have o3:Off (λb=>b=d\/b=fs) (upd H e (.dK [])) (upd (upd (upd H e (.dK [])) d (.dK (dk fS (bg G q)))) fs (.dK (dk fF (bg tb (q/8))))):=λb u N hb=>by
      rw[ag λz=>hb (.inr z),ag λz=>hb (.inl z)];show N
     show k _ _ (I.del c o3 ae) (λj=>yt c rfl (λj hj=>?_) j) (.inr ?_) (hV J (o3.mono λb z=>z.elim (λz=>.inr #[_,L,z]) .inl)) λb z=>.inl (CL z)
     .have:=cj G q j;rw[z,ic,QZ hj]at this;show this.symm
     .show lK TT.nk c
    .have Y:decide (V.int ((dk fS (bg G q)).length:Nat)=V.int 0)=false:=decide_eq_false λy=>by
      injection y with y;rw[bW]at y;show z (List.length_eq_zero_iff.mp af)
     rw[Y];show#[false,rfl,bJ ?_];have S2:gW (upd (upd H e (.dK [])) d (.dK (dk fS (bg G q)))) (q/8) (bg G q):=#[λy hy=>?_,?_,z]
     .show k _ _ (I.put c O ae S2) (λj=>pR c rfl (λj=>cj G q j) j) (.inl (gK _ _ _)) (hV J (O.mono λb z=>.inr #[_,L,z])) λb z=>.inl (xf L z)
     .have U:=S.ht y (cf hy).1;show#[O _ _ U.1 (cJ U.1 hd (by intro z;cases z)),U.2]
     .rw[jA];show S.ns.filter _
theorem Hq:aC ["self","found","k"] ["self"] (aw uR):=L2.bG
theorem zM {f C:Addr}{fd:GX}(F:cM K "pages" "Table.pages" uR f fd) (L:Txt K mg C) (T:AZ mg):a8 P w K mg base aS 1 f fd ["self"] (dW C):=by
 show F.ok Hq (λvs H Q E h=>?_) (λaB A outer s H vs Q E hr h=>?_)
 .let#[p,fs,tb,rfl,_]:=h;rfl
 .let#[p,fs,tb,rfl,TT,k]:=h;let#[dx,h1]:=TT.ob;have J:=TT.hf;have hs:sizeLine=16777216:=Lh;show#[_,(ah (aO (i:=1) Hq.nd rfl (Lc rfl) (cn ai))
   (ah (lP (de Lr rfl (qp (aL (pv 0) rfl)) (aY (i:=2) Hq.nd rfl (Lc rfl)) (aj (aM (iY Mi OB OC (uB rfl) (pv 1) (aa (a9 (aZ hr) (aL (pv 0) rfl) (pv 2) (λ_ _=>rfl)) ai))))))
   (aj (aF (aK qz (by rfl) T.sorted fC (aa (pv 1) ai)))))),?_]
  have U:∀o S,H fs≠some (.cH o S):=λo S z=>(by rw[J]at z;cases z);show#[av,λl I=>?_];have sl:=ar (X:=.lst []) I;have O:l≠fs:=λz=>aq J I z.symm;have ac:p≠l:=aq h1 I;have am:p≠fs:=cJ h1 J (by intro z;cases z);show#[0,p,C,dx,_,.ref fs,rfl,sl _ _ h1,L.cl,L.nF,kU fs,fs,0,sl _ _ J,U,λo=>?_];show tV (kvs:=dk fF tb) (λi σ H'=>H'=upd (upd H l (.lst ((fZ (tb.take i)).map V.int))) fs (.cH o (.dK (dk fF tb)))/\∃v,σ=[some (.ref p),some (.ref l),v]) #[rfl,0] (λi σ H' _ h=>by rw[h.1,ae]) (λi k v σ H' hi h=>?_) (λσ H' h=>?_)
  .let#[rfl,v',rfl]:=h;unfold dk at hi;rw[K4]at hi;cases e:tb[i]? with
   |none=>rw[e]at hi;cases hi
   |some x =>
    rw[e]at hi;let#[rfl,rfl]:=Ol (Option.some.inj hi);have N:x∈tb:=Ld e;have hd:=TT.hd x N;have dl:x.2.1≠l:=aq hd I;have df:x.2.1≠fs:=TT.nf x N;have as:i<tb.length:=(List.getElem?_eq_some_iff.mp e).1;have BZ:=tT TT i;have bx:=(TT.hs x N).len;have Y:(upd (upd H l (.lst ((fZ (tb.take i)).map V.int))) fs (.cH o (.dK (dk fF tb)))) l=some (.lst ((fZ (tb.take i)).map V.int)):=(by rw[ag O,ae]);show#[0,.inl #[5,bA.of Y],0,p,C,dx,_,.ref fs,rfl,by rw[ag am,ag ac];show h1,L.cl,L.nF,kU fs,0,fs,.ref x.2.1,rfl,.inl #[dk fF tb,.inl x.1,.inr #[o,ae],4],l,x.2.1,_,dk fS x.2.2,1,Y,by rw[ag df,ag dl];show hd,3]
    .rw[kB,bK TT.nk N];rfl
    .rw[BY,bW];omega
    .show#[?_,0];rw[List.take_succ,e];funext b;by_cases z:b=l
     .rw[z,ae,ag O,ae];have ek:(dk fS x.2.2).map (λkv=>kV kv.1)=(x.2.2.map (·.1)).map V.int:=by
       unfold dk;rw[Me,Me];rfl
      rw[ek, <-Ln];unfold fZ;rw[List.flatMap_append];simp
     .rw[ag z];by_cases R:b=fs
      .rw[R,ae,ae]
      .rw[ag R,ag R,ag z,ag z]
  .let#[rfl,v',rfl]:=h;show#[fs,o,_,ae,U,?_];rw[bW,Mq];have e0:upd (upd (upd H l (.lst ((fZ tb).map V.int))) fs (.cH o (.dK (dk fF tb)))) fs (.dK (dk fF tb))=upd H l (.lst ((fZ tb).map V.int)):=by
    funext b;by_cases z:b=fs
    .rw[z,ae,ag (G0 O)];show J.symm
    .rw[ag z,ag z]
   rw[e0];have BZ:=tT TT tb.length;rw[Mq]at BZ;have ap:=ar (X:=.lst ((fZ tb).map V.int)) I;show#[0,l,fZ tb,rfl,bA.of ae,jO TT,af,λl2 ns' G hp hs=>?_];have ab:l2≠l:=λz=>(by rw[z,ae]at G;cases G);show k _ l2 ns' (ap.trans (ar G)) (by rw[ag ab]at G;show G) ae hp hs
end
end Tb
namespace Rm
open PySem L2
noncomputable def top (i:Nat):LI:=PySem.Challenge.pw_ownroom_k18_held_and_no_room.main.body.getD i (.Pass #[(0),(0),(0),(0)])
noncomputable abbrev jl:LI:=top 20
noncomputable abbrev kM:LI:=top 21
noncomputable abbrev uK:LI:=top 22
noncomputable abbrev rP:LI:=top 23
noncomputable abbrev mM:LI:=top 24
noncomputable abbrev qq:LI:=top 25
noncomputable abbrev Ax:LI:=top 26
theorem ar {H:Hp}{l:Addr}{X:HO}(h:H l=none):bh H (upd H l X):=λb o e=>by rw[ag (aq e h)];show e
structure Gb (K:PySem.W.Frag) (mg:Str->Option Value) (x:Str) (C:Addr):Prop where
 Ku:mg x=some (.ref C)
 KW:excIn K C Au "ValueError.__new__" = true
structure zV (mg:Str->Option Value):Prop where
 xh:∃u,mg "ROOM_PAGES" = some u/\RelV (.int 64) u
 cells:∃u,mg "PAGE_CELLS" = some u/\RelV (.int 8) u
 list:mg "list" = none
 range:mg "range" = none
 len:mg "len" = none
noncomputable def bU (p m:Int):Prop:=m<1\/p<0\/64<p+m
noncomputable def aN (p m:Int):List Int:=(List.range m.toNat).map λk:Nat=>p+k
inductive eE (vs:List V) (H:Hp) (Q:VK) (e3:XK):Prop
 |mk (p m:Int) (_:vs=[.int p,.int m]) (_:¬ bU p m) (_:∀(H':Hp) (l:Addr),bh H H'->H l=none->H' l=some (.lst ((aN p m).map V.int))->Q (.ref l) H'):eE vs H Q e3
theorem ng (q:Int):∀G:List Int,Fs (.int q) (G.map V.int)=decide (q∈G)
 | []=>rfl
 |m::G=>by
  have I:=ng q G;unfold Fs at I ⊢;rw[Mm,Pe,I];by_cases e:q=m
  .rw[e];simp[lN]
  .have J:m≠q:=G0 e;simp[lN,e,J]
inductive gT (vs:List V) (H:Hp) (Q:VK) (e3:XK):Prop
 |mk (a b:Addr) (ms ps:List Int) (_:vs=[.ref a,.ref b]) (_:H a=some (.lst (ms.map V.int))) (_:H b=some (.lst (ps.map V.int))) (_:(∀q∈ps,q∈ms)) (_:Q .non H):gT vs H Q e3
section
variable {P:IF}{w:Ll}{K:PySem.W.Frag}{mg:Str->Option Value}{base:Heap}
theorem JH:aC ["page","many"] ["page","many"] (aw jl):=L2.bG
theorem rN {f:Addr}{fd:GX}(F:cM K "pages_from" "pages_from" jl f fd) (T:zV mg):a8 P w K mg base aS 1 f fd ["page","many"] eE:=by
 let#[ac,ab,S]:=T.xh;show F.ok JH (λvs H Q E h=>?_) (λam A outer s H vs Q E hr h=>?_)
 .let#[p,m,rfl,_]:=h;rfl
 .let#[p,m,rfl,G,O]:=h;have hs:sizeLine=16777216:=Lh;have Y:¬ m<1:=λz=>G (.inl z);have N:¬ p<0:=λz=>G (.inr (.inl z));have R:¬ 64<p+m:=λz=>G (.inr (.inr z));show#[_,(ah (aV (PW.pt (j7 (aA iu (pv 1) ak (aH _)) (j7 (aA iu (pv 0) ak (aH _)) (jn (aA gz (aD bt (pv 0) (pv 1)) (cB (by rfl) ab S) (aH _)))))) cw aG)
   (aj (aF (cg (mH rfl) (by rfl) T.list eY (aa (cg yL (by rfl) T.range zJ (aa (pv 0) (aa (aD bt (pv 0) (pv 1)) ai))) ai))))),?_]
  show cE λ_ L je=>?_;clear L;show#[0,_,0,rfl,0,?_];show gf (λc=>absurd (of_decide_eq_true c) Y) (λ_=>?_);show#[0,_,0,rfl,0,?_];show gf (λc=>absurd (of_decide_eq_true c) N) (λ_=>?_);show#[0,0,_,0,5,0,rfl,0,?_];show sY (λc=>absurd (of_decide_eq_true c) R) (λ_=>je _ ?_);show#[0,0,0,_,0,rfl,p,p+m,rfl,λpr U=>?_];have J:=ar (X:=.rng p (p+m)) U;show#[pr,p,m.toNat,rfl,by rw[ae,Int.toNat_of_nonneg af],af,af,af,λl I=>?_];show O _ l (J.trans (ar I)) (J.free I) ?_;rw[ae];unfold aN;rw[Me];rfl
theorem Hw:aC ["mapped","pages","page"] ["mapped","pages"] (aw kM):=L2.bG
theorem sV {f:Addr}{fd:GX}(F:cM K "refuse_unmapped" "refuse_unmapped" kM f fd):a8 P w K mg base aS 1 f fd ["mapped","pages"] gT:=by
 show F.ok Hw (λvs H Q E h=>?_) (λY A outer s H vs Q E U h=>?_)
 .let#[a,b,L,ps,rfl,_]:=h;rfl
 .let#[a,b,L,ps,rfl,S,I,R,N]:=h;show#[_,(aj (de Lr rfl (eu (pv 1)) (aY (i:=2) Hw.nd rfl (Lc rfl)) (aj (aV (aA jR (pv 2) (pv 0) (by with_unfolding_all rfl)) cw aG)))),?_];show#[0,b,rfl,#[_,bA.of I],?_];show dZ (K:=K) (a:=b) (xs:=ps.map V.int) (λi σ H2=>∃v2:Option V,σ=[some (.ref a),some (.ref b),v2]/\H2=H) #[0,rfl] (λi σ H2 _ J=>by let#[_,_,e]:=J;rw[e];show bA.of I) ?_ ?_
  .rintro i x σ H2 G ⟨v2,rfl,rfl⟩;rw[K4]at G;let#[q,O,rfl]:=Option.map_eq_some_iff.mp G;show#[0,0,a,0,.inl (bA.of S),rfl,gn _,0,?_];rw[ng,decide_eq_true (R q (Ld O))];show bJ #[0,rfl]
  .rintro σ H2 ⟨v2,rfl,rfl⟩;show N
end
theorem xV {p m:Int}(h:¬ bU p m):∀q∈aN p m,0<=q/\q<64/\q.natAbs.log2<1920:=λq G=>by
 unfold aN at G;let#[k,I,rfl]:=List.mem_map.mp G;rw[List.mem_range]at I;have h1:¬ m<1:=λz=>h (.inl z);have h2:¬ p<0:=λz=>h (.inr (.inl z));have N:¬ 64<p+m:=λz=>h (.inr (.inr z));show#[af,af,?_];by_cases z:(p+(k:Int)).natAbs=0
 .rw[z];decide
 .rw[Nat.log2_lt z];have J:(p+(k:Int)).natAbs<64:=af;have L:(64:Nat)<2^1920:=ao;omega
inductive lH (vs:List V) (H:Hp) (Q:VK) (e3:XK):Prop
 |mk (a:Addr) (ms:List Int) (p m:Int) (_:vs=[.ref a,.int p,.int m]) (_:H a=some (.lst (ms.map V.int))) (_:¬ bU p m) (_:(∀q∈aN p m,¬ q∈ms)) (_:∀(H':Hp) (l:Addr),bh H H'->H l=none->H' l=some (.lst ((aN p m).map V.int))->Q (.ref l) H'):lH vs H Q e3
inductive mJ (vs:List V) (H:Hp) (Q:VK) (e3:XK):Prop
 |mk (a:Addr) (ms:List Int) (p m:Int) (_:vs=[.ref a,.int p,.int m]) (_:H a=some (.lst (ms.map V.int))) (_:¬ bU p m) (_:(∀q∈aN p m,q∈ms)) (_:∀(H':Hp) (l:Addr),bh H H'->H l=none->H' l=some (.lst ((aN p m).map V.int))->Q (.ref l) H'):mJ vs H Q e3
noncomputable def jJ (ad:Int):Int:=ad/8
noncomputable def iT (ad n:Int):Int:=(ad+n-1)/8-ad/8+1
noncomputable def dn (ad n:Int) (G:List Int):Prop:=n<0\/(0<n/\(bU (jJ ad) (iT ad n)\/¬ ∀q∈aN (jJ ad) (iT ad n),q∈G))
noncomputable def au (ad n:Int):List Int:=if n=0 then[]else aN (jJ ad) (iT ad n)
inductive iG (vs:List V) (H:Hp) (Q:VK) (e3:XK):Prop
 |mk (a:Addr) (ms:List Int) (ad n:Int) (_:vs=[.ref a,.int ad,.int n]) (_:H a=some (.lst (ms.map V.int))) (_:¬ dn ad n ms) (_:∀(H':Hp) (l:Addr),bh H H'->H l=none->H' l=some (.lst ((au ad n).map V.int))->Q (.ref l) H'):iG vs H Q e3
section
variable {P:IF}{w:Ll}{K:PySem.W.Frag}{mg:Str->Option Value}{base:Heap}
theorem FO:aC ["mapped","page","many","pages","wanted"] ["mapped","page","many"] (aw uK):=L2.bG
theorem Ae {f:Addr}{fd:GX}(F:cM K "pages_to_map" "pages_to_map" uK f fd) (GP:Df P w K mg base aS 1 "pages_from" eE):a8 P w K mg base aS 2 f fd ["mapped","page","many"] lH:=by
 show F.ok FO (λvs H Q E h=>?_) (λac A outer s H vs Q E S h=>?_)
 .let#[a,R,p,m,rfl,_]:=h;rfl
 .let#[a,R,p,m,rfl,ha,O,hn,Y]:=h;show#[_,(ah (aO (i:=3) FO.nd rfl (Lc rfl) (pc GP S ax (aa (pv 1) (aa (pv 2) ai))))
   (ah (de Lr rfl (eu (pv 3)) (aY (i:=4) FO.nd rfl (Lc rfl)) (aj (aV (aA yb (pv 4) (pv 0) (by with_unfolding_all rfl)) cw aG)))
   (aj (aF (pv 3))))),?_]
  show#[0,0,p,m,rfl,O,λH1 l J N G=>?_];show#[0,l,rfl,#[_,bA.of G],?_];show dZ (K:=K) (a:=l) (xs:=(aN p m).map V.int) (λi σ H2=>∃I:Option V,σ=[some (.ref a),some (.int p),some (.int m),some (.ref l),I]/\H2=H1) #[0,rfl] (λi σ H2 _ U=>by let#[_,_,e]:=U;rw[e];show bA.of G) ?_ ?_
  .rintro i x σ H2 L ⟨I,rfl,rfl⟩;rw[K4]at L;let#[q,ab,rfl]:=Option.map_eq_some_iff.mp L;show#[0,0,a,0,.inl (bA.of (J _ _ ha)),rfl,gn _,0,?_];rw[ng,decide_eq_false (hn q (Ld ab))];show bJ #[0,rfl]
  .rintro σ H2 ⟨I,rfl,rfl⟩;show#[0,Y _ l J N G]
theorem ID:aC ["mapped","page","many","pages"] ["mapped","page","many"] (aw rP):=L2.bG
theorem xS {f:Addr}{fd:GX}(F:cM K "pages_to_drop" "pages_to_drop" rP f fd) (Y:Df P w K mg base aS 1 "pages_from" eE) (N:Df P w K mg base aS 1 "refuse_unmapped" gT):a8 P w K mg base aS 2 f fd ["mapped","page","many"] mJ:=by
 show F.ok ID (λvs H Q E h=>?_) (λab A outer s H vs Q E G h=>?_)
 .let#[a,I,p,m,rfl,_]:=h;rfl
 .let#[a,I,p,m,rfl,U,S,hn,O]:=h;show#[_,(ah (aO (i:=3) ID.nd rfl (Lc rfl) (pc Y G ax (aa (pv 1) (aa (pv 2) ai))))
   (ah (aM (pc N G ax (aa (pv 0) (aa (pv 3) ai))))
   (aj (aF (pv 3))))),?_]
  show#[0,0,p,m,rfl,S,λH1 l J R L=>?_];show#[0,0,a,l,I,aN p m,rfl,J _ _ U,L,hn,#[0,O _ l J R L]]
theorem Cp:aC ["mapped","address","many","first","last","pages"] ["mapped","address","many"] (aw mM):=L2.bG
theorem wb {f:Addr}{fd:GX}(F:cM K "pages_of_cells" "pages_of_cells" mM f fd) (T:zV mg) (GP:Df P w K mg base aS 1 "pages_from" eE) (GU:Df P w K mg base aS 1 "refuse_unmapped" gT):a8 P w K mg base aS 2 f fd ["mapped","address","many"] iG:=by
 let#[u8,L,R]:=T.cells;show F.ok Cp (λvs H Q E h=>?_) (λab A outer s H vs Q E O h=>?_)
 .let#[a,I,ad,n,rfl,_]:=h;rfl
 .let#[a,I,ad,n,rfl,ha,G,S]:=h;show#[_,(ah (aV (aA bH (pv 2) ak (aH _)) (aj (aF (cn ai))) aG)
   (ah (aV (aA iu (pv 2) ak (aH _)) cw aG)
   (ah (aO (i:=3) Cp.nd rfl (Lc rfl) (aD bZ (pv 1) (cB (by rfl) L R)))
   (ah (aO (i:=4) Cp.nd rfl (Lc rfl) (aD bZ (aD nW (aD bt (pv 1) (pv 2)) ak) (cB (by rfl) L R)))
   (ah (aO (i:=5) Cp.nd rfl (Lc rfl) (pc GP O ax (aa (pv 3) (aa (aD bt (aD nW (pv 4) (pv 3)) ak) ai))))
   (ah (aM (pc GU O ax (aa (pv 0) (aa (pv 5) ai))))
   (aj (aF (pv 5))))))))),?_]
  show#[0,rfl,0,?_];show gf (λc=>?_) (λc=>?_)
  .have e:n=0:=V.int.inj (of_decide_eq_true c);show#[av,λl N=>?_];show S _ l (ar N) N ?_;rw[ae];unfold au;rw[Q0 e];rfl
  have ne:¬ n=0:=λz=>c (decide_eq_true (by rw[z]));have nn:¬ n<0:=λz=>G (.inl z);have Y:0<n:=af;have np:¬ bU (jJ ad) (iT ad n):=λz=>G (.inr #[Y,.inl z]);have ni:∀q∈aN (jJ ad) (iT ad n),q∈I:=Nt λz=>G (.inr #[Y,.inr z]);show#[0,_,0,rfl,0,?_];show gf (λc'=>absurd (of_decide_eq_true c') nn) (λ_=>?_);show#[0,_,0,rfl,#[av,av],0,0,_,0,5,0,5,0,rfl,#[av,av],?_];show#[0,0,0,_,0,5,0,rfl,jJ ad,iT ad n,rfl,np,λH1 l J nl U=>?_];show#[0,0,a,l,I,aN (jJ ad) (iT ad n),rfl,J _ _ ha,U,ni,#[0,S _ l J nl ?_]];unfold au;rw[QZ ne];show U
end
theorem qv {ws:List Int}{s n:Nat}:fL (ws.map V.int) (some (s:Int)) (some ((s:Int)+(n:Int)))=((ws.drop s).take n).map V.int:=by
 unfold fL;rw[BY,HT.lM,show((s:Int)+(n:Int))=((s+n:Nat):Int)by push_cast;rfl,HT.lM, <-List.map_drop, <-map_take];congr 1;by_cases h:s<=ws.length
 .rw[Oj h];by_cases h2:s+n<=ws.length
  .rw[Oj h2,show s+n-s=n by omega]
  .rw[N2 af,L0 (by rw[Mv];omega),L0 (by rw[Mv];omega)]
 .rw[N2 af,N2 af,List.drop_eq_nil_of_le (HC _),List.drop_eq_nil_of_le af];simp
theorem wo {ws:List Int}{s:Nat}:fL (ws.map V.int) none (some (s:Int))=(ws.take s).map V.int:=by
 unfold fL;rw[BY,HT.lM,show HT.di ws.length 0 none=0 from rfl,List.drop_zero,Nat.sub_zero, <-map_take];congr 1;by_cases h:s<=ws.length
 .rw[Oj h]
 .rw[N2 af,L0 (HC _),L0 af]
theorem yU {ws:List Int}{s:Nat}:fL (ws.map V.int) (some (s:Int)) none=(ws.drop s).map V.int:=by
 unfold fL;rw[BY,HT.lM,show HT.di ws.length ws.length none=ws.length from rfl, <-List.map_drop, <-map_take];congr 1;by_cases h:s<=ws.length
 .rw[Oj h,L0 (by rw[Mv];omega)]
 .rw[N2 af,List.drop_eq_nil_of_le (HC _),List.drop_eq_nil_of_le af];simp
theorem eR {K:PySem.W.Frag}{H H':Hp}{a:Addr}{xs:List V}(h:bA K H a xs) (s:∀o,H a=some o->H' a=some o):bA K H' a xs:=by
 rcases h with(h|⟨o,h⟩)|h
 .show .inl (.inl (s _ h))
 .show .inl (.inr #[o,s _ h])
 .show .inr h
theorem uV {α I:Type}{F G:α->I->Prop}(h:∀x y,F x y->G x y):∀{xs:List α}{ys:List I},Paired F xs ys->Paired G xs ys
 |_,_,.nil=>.nil
 |_,_,.cons q t=>.cons (h _ _ q) (uV h t)
theorem vG {α G:Type}{F:α->G->Prop}{xs I:List α}{ys J:List G}(p:Paired F xs ys) (h:Paired F I J):Paired F (xs++I) (ys++J):=by
 induction p with
 |nil=>show h
 |cons q _ L=>show .cons q L
theorem vF {α G:Type}{F:α->G->Prop}{x:α}{xs:List α}{ys:List G}(p:Paired F xs ys) (h:x∈xs):∃y,F x y:=by
 induction p with
 |nil=>cases h
 |cons q _ I =>
  rcases List.mem_cons.mp h with e|h
  .show#[_,e▸q]
  .show I h
inductive mO (vs:List V) (H:Hp) (Q:VK) (e3:XK):Prop
 |mk (a:Addr) (ws:List Int) (ad:Int) (n:Nat) (_:vs=[.ref a,.int ad,.int n]) (_:H a=some (.lst (ws.map V.int))) (_:∀(H':Hp) (l:Addr),bh H H'->H l=none->H' l=some (.lst (((ws.drop (ad%8).toNat).take n).map V.int))->Q (.ref l) H'):mO vs H Q e3
noncomputable def ed (ws:List Int) (s:Nat) (cs:List Int):List Int:=ws.take s++cs++ws.drop (s+cs.length)
noncomputable def gh (k:Nat) (ws:List Int):List (List Int):=(List.range k).map λi=>(ws.drop (8*i)).take 8
inductive uC (K:PySem.W.Frag) (vs:List V) (H:Hp) (Q:VK) (e3:XK):Prop
 |mk (a c:Addr) (ws cs:List Int) (ad:Int) (k:Nat) (_:vs=[.ref a,.int ad,.ref c]) (_:H a=some (.lst (ws.map V.int))) (_:bA K H c (cs.map V.int)) (_:ws.length<=600) (_:cs.length<=600) (_:k<=64) (_:(ed ws (ad%8).toNat cs).length=8*k) (_:∀(H':Hp) (l:Addr) (rs:List Addr),bh H H'->H l=none->H' l=some (.lst (rs.map V.ref))->Paired (λr (row:List Int)=>H' r=some (.lst (row.map V.int))) rs (gh k (ed ws (ad%8).toNat cs))->(∀r∈rs,H r=none)->rs.Nodup->Q (.ref l) H'):uC K vs H Q e3
theorem JT:∀k:Nat,k<65->Builtin.Range.small 0 (8*(k:Int)) 8=true/\Builtin.Range.rangeSize 0 (8*(k:Int)) 8=(k:Int)/\Builtin.divisionGoesByPylong (8*(k:Int)-0) 8=false:=ao
section
variable {P:IF}{w:Ll}{K:PySem.W.Frag}{mg:Str->Option Value}{base:Heap}
theorem HS:aC ["whole","address","many","start"] ["whole","address","many"] (aw qq):=L2.bG
theorem yo {f:Addr}{fd:GX}(F:cM K "run_within" "run_within" qq f fd) (T:zV mg):a8 P w K mg base aS 1 f fd ["whole","address","many"] mO:=by
 let#[S,O,I]:=T.cells;show F.ok HS (λvs H Q E h=>?_) (λU A outer s H vs Q E R h=>?_)
 .let#[a,ws,ad,n,rfl,_]:=h;rfl
 .let#[a,ws,ad,n,rfl,L,k]:=h;show#[_,(ah (aO (i:=3) HS.nd rfl (Lc rfl) (aD bN (pv 1) (cB (by rfl) O I)))
   (aj (aF (cX gH (pv 0) (cU (pv 3)) (cU (aD bt (pv 3) (pv 2))))))),?_]
  show#[0,_,0,rfl,(by change(0:Int)<8;decide),?_];have J:=MU ad (show(8:Int)≠0 by decide);show#[0,0,ad%8,rfl,0,0,_,0,rfl,ad%8+n,rfl,a,0,bA.of L,λl G=>?_];have e:ad%8=((ad%8).toNat:Int):=(Int.toNat_of_nonneg J).symm;have N:fL (ws.map V.int) (some (ad%8)) (some (ad%8+n))=((ws.drop (ad%8).toNat).take n).map V.int:=by
   rw[e];show qv
  show k _ l (ar G) G (by rw[ae,N])
theorem FX:aC ["whole","address","cells","start","changed"] ["whole","address","cells"] (aw Ax):=L2.bG
theorem Ck {f:Addr}{fd:GX}(F:cM K "pages_with" "pages_with" Ax f fd) (T:zV mg):a8 P w K mg base aS 1 f fd ["whole","address","cells"] (uC K):=by
 let#[u8,m8,r8]:=T.cells;show F.ok FX (λvs H Q E h=>?_) (λa5 A outer s H vs Q E hr h=>?_)
 .let#[a,c,ws,cs,ad,j,rfl,_]:=h;rfl
 .let#[a,c,ws,cs,ad,j,rfl,ha,hc,hw,a4,hj,aT,k]:=h;have hs:sizeLine=16777216:=Lh;show#[_,(ah (aO (i:=3) FX.nd rfl (Lc rfl) (aD bN (pv 1) (cB (by rfl) m8 r8)))
   (ah (aO (i:=4) FX.nd rfl (OU rfl) (aD rQ (aD rQ (cX gH (pv 0) fj (cU (pv 3))) (cg dQ (by rfl) T.list eY (aa (pv 2) ai))) (cX gH (pv 0) (cU (aD bt (pv 3) (aK bo (by rfl) T.len boot_len (aa (pv 2) ai)))) fj)))
   (aj (aF (iR (cl:=[("changed",s.heap.objs.size+1)]) (caps:=[("changed",4)]) #[rfl,ao,ao,rfl,by kernel_rfl,by intro p G;simp only[LO,Lm,or_false]at G;rcases G with rfl<;>first|rfl|show#[rfl,.inl rfl,.inl rfl]|show#[rfl,.inl rfl,.inr rfl],by kernel_rfl,by intro p G;simp only[LO,Lm,or_false]at G;rcases G with rfl<;>first|rfl|show#[rfl,.inl rfl,.inl rfl]|show#[rfl,.inl rfl,.inr rfl],ao] rfl (y8 (by rfl) T.range (aa ak (aa (aK bo (by rfl) T.len boot_len (aa (pv 4) ai)) (aa (cB (by rfl) m8 r8) ai)))) (λ_ _ _ _=>gO) (λ_ _ _ _=>(cX (show Ig _ (FG K)from gH) (pv 1) (cU (pv 0)) (cU (aD bt (pv 0) (cB (by rfl) m8 r8)))))))))),?_]
  show gv λ_ jt=>?_;show#[0,_,0,rfl,(by change(0:Int)<8;decide),?_];have m0:=MU ad (show(8:Int)≠0 by decide);have e:ad%8=((ad%8).toNat:Int):=(Int.toNat_of_nonneg m0).symm;show jt _ _ ?_;change jG _ _ _ [some (V.ref a),some (.int ad),some (.ref c),some (.int (ad%8)),none] H;rw[e];generalize (ad%8).toNat=st at *;clear e m0;show gv λ_ jt=>?_;show#[0,0,(st:Int),rfl,a,0,bA.of ha,λO a3=>?_];rw[wo];have s1:=ar (X:=.lst ((ws.take st).map V.int)) a3;have e1:(upd H O (.lst ((ws.take st).map V.int))) O=some (.lst ((ws.take st).map V.int)):=ae;show#[0,c,0,.inl (eR hc (s1 _)),λl2 aB=>?_];have s2:=ar (X:=.lst (cs.map V.int)) aB;show#[O,l2,_,0,rfl,s2 _ _ e1,ae,by rw[BY,BY,Lp];omega,λU a0=>?_];rw[<-Ln];have s3:=ar (X:=.lst ((ws.take st++cs).map V.int)) a0;have S3:=(s1.trans s2).trans s3;have e3:(upd (upd (upd H O (.lst ((ws.take st).map V.int))) l2 (.lst (cs.map V.int))) U (.lst ((ws.take st++cs).map V.int))) U=some (.lst ((ws.take st++cs).map V.int)):=ae;generalize upd (upd (upd H O (.lst ((ws.take st).map V.int))) l2 (.lst (cs.map V.int))) U (.lst ((ws.take st++cs).map V.int))=H3 at *;show#[0,0,0,c,0,.inl (eR hc (S3 _)),_,0,rfl,0,a,0,bA.of (S3 _ _ ha),λS a2=>?_];rw[show((st:Int)+((cs.map V.int).length:Nat))=((st+cs.length:Nat):Int)by rw[BY];push_cast;rfl,yU];have s4:=ar (X:=.lst ((ws.drop (st+cs.length)).map V.int)) a2;show#[U,S,_,0,rfl,s4 _ _ e3,ae,by rw[BY,BY,Li,Lp,Mv];omega,λN a1=>?_];rw[<-Ln,show ws.take st++cs++ws.drop (st+cs.length)=ed ws st cs from rfl];have Y:bh H (upd (upd H3 S (.lst ((ws.drop (st+cs.length)).map V.int))) N (.lst ((ed ws st cs).map V.int))):=(S3.trans s4).trans (ar a1);have e5:(upd (upd H3 S (.lst ((ws.drop (st+cs.length)).map V.int))) N (.lst ((ed ws st cs).map V.int))) N=some (.lst ((ed ws st cs).map V.int)):=ae;generalize upd (upd H3 S (.lst ((ws.drop (st+cs.length)).map V.int))) N (.lst ((ed ws st cs).map V.int))=H5 at *;generalize ed ws st cs=sp at *;let#[r1,r2,r3]:=JT j af;show jt _ _ (Jk λ_ jr=>?_);show#[0,N,0,.inl (bA.of e5),(0),8*(j:Int),(8),j,by rw[BY,aT];push_cast;rfl,r1,r2,av,r3,?_];show rD (lo:=0) (st:=8) (n:=j) (λi ys R=>∃I:List Addr,xU (ys=I.map V.ref) (I.length=i) (Paired (λr (ap:List Int)=>R r=some (.lst (ap.map V.int))) I (gh i sp)) (bh H5 R) ((∀r∈I,H5 r=none)) I.Nodup) #[[],1,.nil,bh.refl _,(λ_ h=>nomatch h),MN] ?_ ?_
  .rintro i ys R hi ⟨I,rfl,as,G,L,hn,nd⟩;show#[0,0,0,0,_,0,rfl,0,N,0,bA.of (L _ _ e5),λr ab=>?_];rw[show(0+(i:Int)*8)=((8*i:Nat):Int)by push_cast;omega,show(((8*i:Nat):Int)+8)=((8*i:Nat):Int)+((8:Nat):Int)from rfl,qv];have sr:=ar (X:=.lst (((sp.drop (8*i)).take 8).map V.int)) ab;show#[by rw[BY];omega,I++[r],by rw[Ln];rfl,by rw[Li,as];rfl,?_,L.trans sr,λx J=>?_,?_]
   .unfold gh at G ⊢;rw[Oc,Ln];show vG (uV (λx y h=>sr _ _ h) G) (.cons ae .nil)
   .rcases List.mem_append.mp J with J|J
    .show hn x J
    .rw[List.mem_singleton.mp J];show L.free ab
   .show List.nodup_append.mpr #[nd,List.nodup_cons.mpr #[by simp,MN],λx J y hy=>?_];rw[List.mem_singleton.mp hy];intro z;let#[ap,am]:=vF G J;rw[z,ab]at am;cases am
  .rintro ys R ⟨I,rfl,as,G,L,hn,nd⟩ l6 ac;have s7:=ar (X:=.lst (I.map V.ref)) ac;show jr _ _ (k _ l6 I ((Y.trans L).trans s7) ((Y.trans L).free ac) ae (uV (λx y h=>s7 _ _ h) G) (λr h=>Y.free (hn r h)) nd)
end
end Rm
namespace Pg
noncomputable def upd {α:Type}(f:Bool->α) (b:Bool) (v:α):Bool->α:=λc=>if c=b then v else f c
noncomputable def dA {α:Type}(f:Int->α) (k:Int) (v:α):Int->α:=λj=>if j=k then v else f j
theorem ae {α:Type}{f:Bool->α}{b:Bool}{v:α}:upd f b v b=v:=Q0 rfl
theorem aX {α:Type}{f:Bool->α}{b c:Bool}{v:α}(h:c≠b):upd f b v c=f c:=QZ h
theorem bp {α:Type}{f:Int->α}{b:Int}{v:α}:dA f b v b=v:=Q0 rfl
theorem aJ {α:Type}{f:Int->α}{b c:Int}{v:α}(h:c≠b):dA f b v c=f c:=QZ h
structure PS where
 ow:Bool->List Int
 co:Bool->List (Option (List Int))
 pl:Int->Option (Bool×Nat)
 ls:Int
 inf:List Int
noncomputable def Vw (s:PS) (k:Int) (cs:List Int) (c:Int):Prop:=∃b n,s.pl k=some (b,n)/\(s.co b)[n]?=some (some cs)/\(s.ow b)[n]?=some c
structure Good (s:PS):Prop where
 rg:∀k p,s.pl k=some p->1<=k/\k<=s.ls
 va:∀k b n,s.pl k=some (b,n)->∃cs c,(s.co b)[n]?=some (some cs)/\(s.ow b)[n]?=some c/\1<=c/\cs.length=8
 inj:∀k j p,s.pl k=some p->s.pl j=some p->k=j
 on:∀b n c,(s.ow b)[n]?=some c->c=0\/∃k,s.pl k=some (b,n)
 ln:∀b,(s.co b).length=(s.ow b).length
 nd:s.inf.Nodup
 fi:∀k,k∈s.inf↔∃n,s.pl k=some (true,n)
noncomputable def xE (s:PS) (b:Bool) (k:Int) (cs:List Int) (c:Int):PS :=
 { ow:=upd s.ow b ((s.ow b).set ((s.ow b).idxOf 0) c),co:=upd s.co b ((s.co b).set ((s.ow b).idxOf 0) (some cs)),pl:=dA s.pl k (some (b,(s.ow b).idxOf 0)),ls:=s.ls,inf:=if b=true then s.inf++[k]else s.inf }
noncomputable def oN (s:PS) (k:Int) (b:Bool) (n:Nat):PS :=
 { ow:=upd s.ow b ((s.ow b).set n 0),co:=s.co,pl:=dA s.pl k none,ls:=s.ls,inf:=s.inf.erase k }
noncomputable def cD (s:PS) (b:Bool) (n:Nat) (c:Int):PS:={ s with ow:=upd s.ow b ((s.ow b).set n c) }
noncomputable def write (s:PS) (b:Bool) (n:Nat) (cs:List Int):PS:={ s with co:=upd s.co b ((s.co b).set n (some cs)) }
theorem vg {l:List Int}(h:(0:Int)∈l):l[l.idxOf 0]?=some 0:=by
 have G:l.idxOf 0<l.length:=List.idxOf_lt_length_iff.mpr h;rw[Lb G,List.getElem_idxOf G]
theorem vY {l:List Int}(h:(0:Int)∈l):l.idxOf 0<l.length:=List.idxOf_lt_length_iff.mpr h
section
variable {s:PS}{b:Bool}{k:Int}{cs:List Int}{c:Int}{n:Nat}
theorem w9 (G:Good s) (h:(0:Int)∈s.ow b):∀j,s.pl j≠some (b,(s.ow b).idxOf 0):=by
 intro j e;let#[cs,c,_,h2,I,_]:=G.va _ _ _ e;rw[vg h]at h2;cases h2;omega
theorem nj (G:Good s) (h0:(0:Int)∈s.ow b) (Y:s.pl k=none) (h1:1<=k) (h2:k<=s.ls) (h3:1<=c) (h4:cs.length=8):Good (xE s b k cs c):=by
 have hl:=vY h0;have hf:=w9 G h0;have ac:(s.ow b).idxOf 0<(s.co b).length:=(by rw[G.ln b];show hl);show#[3,3,3,?_]
 .intro j p e;by_cases L:j=k
  .subst L;show#[h1,h2]
  .show G.rg j p (by rw[<-e];show(aJ L).symm)
 .intro j J U e;by_cases L:j=k
  .subst L;have e:some (b,(s.ow b).idxOf 0)=some (J,U):=(by rw[<-e];show bp.symm);cases e;show#[cs,c,3,h3,h4]
   .change(upd s.co b _ b)[_]?=_;rw[ae,LL ac]
   .change(upd s.ow b _ b)[_]?=_;rw[ae,LL hl]
  .have O:s.pl j=some (J,U):=(by rw[<-e];show(aJ L).symm);let#[ab,c',e1,e2,e3,e4]:=G.va _ _ _ O;show#[ab,c',3,e3,e4]
   .change(upd s.co b _ J)[_]?=_;by_cases I:J=b
    .subst I;rw[ae,LG (λq=>hf j (by rw[O,q]))];show e1
    .rw[aX I];show e1
   .change(upd s.ow b _ J)[_]?=_;by_cases I:J=b
    .subst I;rw[ae,LG (λq=>hf j (by rw[O,q]))];show e2
    .rw[aX I];show e2
 .intro j S p e N;by_cases L:j=k
  .by_cases R:S=k
   .rw[L,R]
   .subst L;have e:some (b,(s.ow b).idxOf 0)=some p:=(by rw[<-e];show bp.symm);have N:s.pl S=some p:=(by rw[<-N];show(aJ R).symm);show absurd (N.trans e.symm) (hf S)
  .have O:s.pl j=some p:=(by rw[<-e];show(aJ L).symm);by_cases R:S=k
   .subst R;have N:some (b,(s.ow b).idxOf 0)=some p:=(by rw[<-N];show bp.symm);show absurd (O.trans N.symm) (hf j)
   .have N:s.pl S=some p:=(by rw[<-N];show(aJ R).symm);show G.inj _ _ _ O N
 .intro J U c' e;have e:(upd s.ow b ((s.ow b).set ((s.ow b).idxOf 0) c) J)[U]?=some c':=e;by_cases I:J=b
  .subst I;by_cases en:(s.ow J).idxOf 0=U
   .show .inr #[k,by change dA s.pl k _ k=_;rw[bp,en]]
   .rw[ae,LG en]at e;rcases G.on _ _ _ e with h|⟨j,h⟩
    .show .inl h
    .show .inr #[j,?_];change dA s.pl k _ j=_;rw[aJ (λq=>by rw[q,Y]at h;cases h)];show h
  .rw[aX I]at e;rcases G.on _ _ _ e with h|⟨j,h⟩
   .show .inl h
   .show .inr #[j,?_];change dA s.pl k _ j=_;rw[aJ (λq=>by rw[q,Y]at h;cases h)];show h
 .intro J;change(upd s.co b _ J).length=(upd s.ow b _ J).length;by_cases I:J=b
  .subst I;rw[ae,ae,LR,LR];show G.ln _
  .rw[aX I,aX I];show G.ln _
 .change(if b=true then s.inf++[k]else s.inf).Nodup;by_cases I:b=true
  .rw[Q0 I];show List.nodup_append.mpr #[G.nd,by simp,?_];intro x hx y hy e;rw[NU]at hy;subst hy;subst e;let#[m,hm]:=(G.fi x).mp hx;rw[Y]at hm;cases hm
  .rw[QZ I];show G.nd
 .intro j;change j∈(if b=true then s.inf++[k]else s.inf)↔∃m,dA s.pl k (some (b,(s.ow b).idxOf 0)) j=some (true,m);by_cases L:j=k
  .subst L;rw[bp];by_cases I:b=true
   .subst I;rw[Q0 rfl];show#[λ_=>#[0],λ_=>by simp]
   .rw[QZ I,G.fi];show#[λ⟨m,h⟩=>(by rw[Y]at h;cases h),λ⟨m,h⟩=>(by cases h;show absurd rfl I)]
  .rw[aJ L, <-G.fi];by_cases I:b=true
   .rw[Q0 I];simp[L]
   .rw[QZ I]
theorem m7 (I:(0:Int)∈s.ow b) (G:Good s):Vw (xE s b k cs c) k cs c:=by
 show#[b,(s.ow b).idxOf 0,bp,3]
 .change(upd s.co b _ b)[_]?=_;rw[ae,LL (by rw[G.ln b];show vY I)]
 .change(upd s.ow b _ b)[_]?=_;rw[ae,LL (vY I)]
theorem kj (G:Good s) (h0:(0:Int)∈s.ow b) {j:Int}(S:j≠k) {U:List Int}{Y:Int}:Vw (xE s b k cs c) j U Y↔Vw s j U Y:=by
 have hf:=w9 G h0;have A:∀I J,s.pl j=some (I,J)->((xE s b k cs c).co I)[J]?=(s.co I)[J]?/\((xE s b k cs c).ow I)[J]?=(s.ow I)[J]?:=by
  intro I J e;change(upd s.co b _ I)[J]?=_/\(upd s.ow b _ I)[J]?=_;by_cases O:I=b
  .subst O;have:(s.ow I).idxOf 0≠J:=λq=>hf j (by rw[e,q]);rw[ae,ae,LG this,LG this];show#[1]
  .rw[aX O,aX O];show#[1]
 constructor
 .rintro⟨I,J,L,N,R⟩;have L:s.pl j=some (I,J):=(by rw[<-L];show(aJ S).symm);show#[I,J,L,by rw[<-(A _ _ L).1];show N,by rw[<-(A _ _ L).2];show R]
 .rintro⟨I,J,L,N,R⟩;show#[I,J,(aJ S).trans L,by rw[(A _ _ L).1];show N,by rw[(A _ _ L).2];show R]
theorem ke (G:Good s) (N:s.pl k=some (b,n)):Good (oN s k b n):=by
 let#[ac,c0,g1,g2,_,_]:=G.va _ _ _ N;have hn:n<(s.ow b).length:=(List.getElem?_eq_some_iff.mp g2).1;have up:∀{j p},(oN s k b n).pl j=some p->j≠k/\s.pl j=some p:=by
  intro j p e;by_cases J:j=k
  .subst J;have O:(none:Option (Bool×Nat))=some p:=(by rw[<-e];show bp.symm);cases O
  .show#[J,by rw[<-e];show(aJ J).symm]
 show#[3,3,3,?_]
 .intro j p e;show G.rg j p (up e).2
 .intro j L S e;let#[J,O]:=up e;let#[ab,R,e1,Y,e3,e4]:=G.va _ _ _ O;show#[ab,R,e1,?_,e3,e4];change(upd s.ow b _ L)[_]?=_;by_cases I:L=b
  .subst I;rw[ae,LG (λq=>J (G.inj _ _ _ O (by rw[N,q])))];show Y
  .rw[aX I];show Y
 .intro j j' p e e';show G.inj _ _ _ (up e).2 (up e').2
 .intro L S R e;have e:(upd s.ow b ((s.ow b).set n 0) L)[S]?=some R:=e;by_cases I:L=b
  .subst I;by_cases U:n=S
   .subst U;rw[ae,LL hn]at e;cases e;show .inl rfl
   .rw[ae,LG U]at e;rcases G.on _ _ _ e with h|⟨j,h⟩
    .show .inl h
    .show .inr #[j,?_];change dA s.pl k _ j=_;rw[aJ (λq=>by rw[q,N]at h;cases h;show U rfl)];show h
  .rw[aX I]at e;rcases G.on _ _ _ e with h|⟨j,h⟩
   .show .inl h
   .show .inr #[j,?_];change dA s.pl k _ j=_;rw[aJ (λq=>by rw[q,N]at h;cases h;show I rfl)];show h
 .intro L;change(s.co L).length=(upd s.ow b _ L).length;by_cases I:L=b
  .subst I;rw[ae,LR];show G.ln _
  .rw[aX I];show G.ln _
 .show G.nd.erase k
 .intro j;change j∈s.inf.erase k↔∃m,dA s.pl k none j=some (true,m);rw[List.Nodup.mem_erase_iff G.nd,G.fi];by_cases J:j=k
  .subst J;rw[bp];show#[λh=>absurd rfl h.1,λ⟨m,h⟩=>by cases h]
  .rw[aJ J];show#[λh=>h.2,λh=>#[J,h]]
theorem iH (G:Good s) (hk:s.pl k=some (b,n)) {j:Int}(N:j≠k) {S:List Int}{Y:Int}:Vw (oN s k b n) j S Y↔Vw s j S Y:=by
 have A:∀I J,s.pl j=some (I,J)->((oN s k b n).ow I)[J]?=(s.ow I)[J]?:=by
  intro I J e;change(upd s.ow b _ I)[J]?=_;by_cases U:I=b
  .subst U;rw[ae,LG (λq=>N (G.inj _ _ _ e (by rw[hk,q])))]
  .rw[aX U]
 constructor
 .rintro⟨I,J,L,O,R⟩;have L:s.pl j=some (I,J):=(by rw[<-L];show(aJ N).symm);show#[I,J,L,O,by rw[<-A _ _ L];show R]
 .rintro⟨I,J,L,O,R⟩;show#[I,J,(aJ N).trans L,O,by rw[A _ _ L];show R]
theorem sX (G:Good s) (J:s.pl k=some (b,n)):(0:Int)∈(oN s k b n).ow b:=by
 let#[O,R,N,I,_,_]:=G.va _ _ _ J;have L:n<(s.ow b).length:=(List.getElem?_eq_some_iff.mp I).1;change(0:Int)∈upd s.ow b _ b;rw[ae];show Ld (LL L)
theorem j4 (G:Good s) (S:s.pl k=some (b,n)) (hc:1<=c):Good (cD s b n c):=by
 let#[ac,c0,g1,g2,_,g4]:=G.va _ _ _ S;have hn:n<(s.ow b).length:=(List.getElem?_eq_some_iff.mp g2).1;show#[G.rg,?_,G.inj,3,G.nd,G.fi]
 .intro j I L e;let#[ab,O,e1,U,Y,e4]:=G.va j I L e;have A:∃R,(upd s.ow b ((s.ow b).set n c) I)[L]?=some R/\1<=R:=by
   by_cases J:I=b
   .subst J;rw[ae];by_cases N:n=L
    .subst N;show#[c,LL hn,hc]
    .rw[LG N];show#[O,U,Y]
   .rw[aX J];show#[O,U,Y]
  let#[R,a1,a2]:=A;show#[ab,R,e1,a1,a2,e4]
 .intro I L O e;have e:(upd s.ow b ((s.ow b).set n c) I)[L]?=some O:=e;by_cases J:I=b
  .subst J;rw[ae]at e;by_cases N:n=L
   .subst N;show .inr #[k,S]
   .rw[LG N]at e;show G.on _ _ _ e
  .rw[aX J]at e;show G.on _ _ _ e
 .intro I;change(s.co I).length=(upd s.ow b _ I).length;by_cases J:I=b
  .subst J;rw[ae,LR];show G.ln _
  .rw[aX J];show G.ln _
theorem jb (G:Good s) (I:s.pl k=some (b,n)) {O:Int}(h:Vw s k cs O):Vw (cD s b n c) k cs c:=by
 let#[S,R,J,L,N]:=h;rw[I]at J;cases J;show#[b,n,I,L,?_];change(upd s.ow b _ b)[_]?=_;rw[ae,LL (List.getElem?_eq_some_iff.mp N).1]
theorem dC (G:Good s) (hk:s.pl k=some (b,n)) {j:Int}(Y:j≠k) {R:List Int}{U:Int}:Vw (cD s b n c) j R U↔Vw s j R U:=by
 have A:∀I J,s.pl j=some (I,J)->((cD s b n c).ow I)[J]?=(s.ow I)[J]?:=by
  intro I J e;change(upd s.ow b _ I)[J]?=_;by_cases S:I=b
  .subst S;rw[ae,LG (λq=>Y (G.inj _ _ _ e (by rw[hk,q])))]
  .rw[aX S]
 constructor
 .rintro⟨I,J,L,N,O⟩;show#[I,J,L,N,by rw[<-A _ _ L];show O]
 .rintro⟨I,J,L,N,O⟩;show#[I,J,L,N,by rw[A _ _ L];show O]
theorem wt (G:Good s) (Y:s.pl k=some (b,n)) (hc:cs.length=8):Good (write s b n cs):=by
 let#[ab,c0,g1,g2,_,g4]:=G.va _ _ _ Y;have hn:n<(s.co b).length:=(List.getElem?_eq_some_iff.mp g1).1;show#[G.rg,?_,G.inj,G.on,?_,G.nd,G.fi]
 .intro j I N e;let#[S,c',O,e2,e3,R]:=G.va j I N e;have A:∃L,(upd s.co b ((s.co b).set n (some cs)) I)[N]?=some (some L)/\L.length=8:=by
   by_cases J:I=b
   .subst J;rw[ae];by_cases U:n=N
    .subst U;show#[cs,LL hn,hc]
    .rw[LG U];show#[S,O,R]
   .rw[aX J];show#[S,O,R]
  let#[L,a1,a2]:=A;show#[L,c',a1,e2,e3,a2]
 .intro I;change(upd s.co b _ I).length=(s.ow I).length;by_cases J:I=b
  .subst J;rw[ae,LR];show G.ln _
  .rw[aX J];show G.ln _
theorem Bp (G:Good s) (I:s.pl k=some (b,n)) {N:List Int}(h:Vw s k N c):Vw (write s b n cs) k cs c:=by
 let#[S,R,J,L,O]:=h;rw[I]at J;cases J;show#[b,n,I,?_,O];change(upd s.co b _ b)[_]?=_;rw[ae,LL (List.getElem?_eq_some_iff.mp L).1]
theorem iD (G:Good s) (hk:s.pl k=some (b,n)) {j:Int}(Y:j≠k) {R:List Int}{U:Int}:Vw (write s b n cs) j R U↔Vw s j R U:=by
 have A:∀I J,s.pl j=some (I,J)->((write s b n cs).co I)[J]?=(s.co I)[J]?:=by
  intro I J e;change(upd s.co b _ I)[J]?=_;by_cases S:I=b
  .subst S;rw[ae,LG (λq=>Y (G.inj _ _ _ e (by rw[hk,q])))]
  .rw[aX S]
 constructor
 .rintro⟨I,J,L,N,O⟩;show#[I,J,L,by rw[<-A _ _ L];show N,O]
 .rintro⟨I,J,L,N,O⟩;show#[I,J,L,by rw[A _ _ L];show N,O]
end
end Pg
namespace Pg
theorem sum_set {l:List Int}{n:Nat}{x y:Int}(h:l[n]?=some x):(l.set n y).sum=l.sum-x+y:=by
 induction l generalizing n with
 |nil=>cases h
 |cons a l G =>
  cases n with
  |zero =>
   cases h;change(y::l).sum=_;simp only[MV];lia
  |succ n =>
   have h:l[n]?=some x:=h;change(a::l.set n y).sum=_;simp only[MV,G h];lia
noncomputable def all (s:PS):Int:=(s.ow true).sum+(s.ow false).sum
theorem qD {ow:Bool->List Int}{b:Bool}{n:Nat}{x y:Int}(h:(ow b)[n]?=some x) :
  (upd ow b ((ow b).set n y) true).sum+(upd ow b ((ow b).set n y) false).sum=(ow true).sum+(ow false).sum-x+y:=by
 cases b
 .rw[aX av,ae,sum_set h];lia
 .rw[ae,aX av,sum_set h];lia
section
variable {s s':PS}{b:Bool}{k:Int}{cs:List Int}{c:Int}{n:Nat}
theorem rl (G:(0:Int)∈s.ow b):all (xE s b k cs c)=all s+c:=by
 have:=qD (ow:=s.ow) (y:=c) (vg G);unfold all xE;dsimp only;lia
theorem rS {G:Int}(h:(s.ow b)[n]?=some G):all (oN s k b n)=all s-G:=by
 have:=qD (ow:=s.ow) (y:=0) h;unfold all oN;dsimp only;lia
theorem kZ {G:Int}(h:(s.ow b)[n]?=some G):all (cD s b n c)=all s-G+c:=by
 have:=qD (ow:=s.ow) (y:=c) h;unfold all cD;dsimp only;omega +splitNatSub
theorem dD {f:Bool->List Int}{n:Nat}{x:Int}(G:Bool):(upd f b ((f b).set n x) G).length=(f G).length:=by
 by_cases e:G=b
 .subst e;rw[ae,LR]
 .rw[aX e]
structure Kept (s s':PS) (k:Int):Prop where
 ot:∀j cs' c',j≠k->(Vw s' j cs' c'↔Vw s j cs' c')
 ln:∀b,(s'.ow b).length=(s.ow b).length
 fr:(0:Int)∈s'.ow true->(0:Int)∈s.ow true/\∀j m,j≠k->s.pl j=some (true,m)->s'.pl j=some (true,m)
theorem Ac {l:List Int}{n:Nat}{x:Int}(G:x≠0) (h:(0:Int)∈l.set n x):(0:Int)∈l:=by
 rcases List.mem_or_eq_of_mem_set h with h|h
 .show h
 .show absurd h.symm G
theorem xR (G:Good s) (J:(0:Int)∈s.ow true) (N:1<=c):Kept s (xE s true k cs c) k :=
 #[λj L O I=>kj G J I,λb=>dD b,λh=>#[J,λj m I e=>(aJ I).trans e]]
noncomputable def out (s:PS) (k0:Int) (G:Nat) (I:List Int) (J:Int):PS:=xE (oN s k0 true G) false k0 I J
theorem tM (G:Good s) {k0:Int}{I:Nat}{L:List Int}{J:Int}(N:s.pl k0=some (true,I)) (hv:Vw s k0 L J) (hf:(0:Int)∈s.ow false) :
  Good (out s k0 I L J)/\Vw (out s k0 I L J) k0 L J/\(∀j U S,j≠k0->(Vw (out s k0 I L J) j U S↔Vw s j U S))/\(0:Int)∈(out s k0 I L J).ow true/\all (out s k0 I L J)=all s /\
  (∀b,((out s k0 I L J).ow b).length=(s.ow b).length)/\(∀j,j≠k0->(out s k0 I L J).pl j=s.pl j):=by
 let#[b',n',e1,e2,e3]:=hv;rw[N]at e1;cases e1;let#[ab,c9,a1,a2,a3,a4]:=G.va _ _ _ N;rw[e2]at a1;cases a1;rw[e3]at a2;cases a2;have Y:=ke G N;have R:(0:Int)∈(oN s k0 true I).ow false:=by
  show(aX (f:=s.ow) (v:=(s.ow true).set I 0) (show false≠true by decide)).symm▸hf
 have hn:(oN s k0 true I).pl k0=none:=bp;have hr:=G.rg _ _ N;show#[nj Y R hn hr.1 hr.2 a3 a4,m7 R Y,3,3,?_]
 .intro j U S O;show(kj Y R O).trans (iH G N O)
 .show(aX (f:=(oN s k0 true I).ow) (b:=false) (v:=((oN s k0 true I).ow false).set (((oN s k0 true I).ow false).idxOf 0) J) (show true≠false by decide)).symm▸sX G N
 .change all (xE _ _ _ _ _)=_;rw[rl R,rS e3];lia
 .intro b;show(dD (f:=(oN s k0 true I).ow) b).trans (dD b)
 .intro j O;show(aJ O).trans (aJ O)
inductive BI (s:PS) (k:Int) (cs:List Int) (c:Int):PS->Prop
 |free:(0:Int)∈s.ow true->BI s k cs c (xE s true k cs c)
 |full {k0:Int}{r:List Int}{n0:Nat}{cs0:List Int}{c0:Int}:¬ (0:Int)∈s.ow true->(0:Int)∈s.ow false->s.inf=k0::r->s.pl k0=some (true,n0)->Vw s k0 cs0 c0->BI s k cs c (xE (out s k0 n0 cs0 c0) true k cs c)
structure Ko (s:PS) (k:Int) (cs:List Int) (c:Int) (s':PS):Prop where
 good:Good s'
 vw:Vw s' k cs c
 fr:∃m,s'.pl k=some (true,m)
 kept:Kept s s' k
 ls:s'.ls=s.ls
 al:all s'=all s+c
theorem D5 (G:Good s) (Y:s.pl k=none) (h1:1<=k) (h2:k<=s.ls) (h3:1<=c) (h4:cs.length=8) (h:BI s k cs c s'):Ko s k cs c s':=by
 cases h with
 |free U=>show#[nj G U Y h1 h2 h3 h4,m7 U G,#[_,bp],xR G U h3,rfl,rl U]
 | @full k0 r I L J nf hf hi hp hv =>
  let#[g1,g2,g3,R,g5,g6,g7]:=tM G hp hv hf;have ab:k≠k0:=λe=>(by rw[e,hp]at Y;cases Y);have ac:(out s k0 I L J).pl k=none:=(by rw[g7 k ab];show Y);show#[nj g1 R ac h1 h2 h3 h4,m7 R g1,#[_,bp],#[3,?_],4]
  .intro j ap c' hj;rw[kj g1 R hj];by_cases e:j=k0
   .subst e;constructor
    .intro hw;let#[x1,x2,y1,y2,y3]:=hw;let#[z1,z2,O,S,N]:=g2;rw[y1]at O;cases O;rw[y2]at S;cases S;rw[y3]at N;cases N;show hv
    .intro hw;let#[x1,x2,y1,y2,y3]:=hw;let#[z1,z2,O,S,N]:=hv;rw[y1]at O;cases O;rw[y2]at S;cases S;rw[y3]at N;cases N;show g2
   .show g3 j ap c' e
  .intro b;show(dD (f:=(out s k0 I L J).ow) b).trans (g6 b)
  .intro h;exfalso;apply nf;have h:(0:Int)∈upd (out s k0 I L J).ow true (((out s k0 I L J).ow true).set (((out s k0 I L J).ow true).idxOf 0) c) true:=h;rw[ae]at h;have e1:(out s k0 I L J).ow true=(s.ow true).set I 0:=by
    show(aX (f:=(oN s k0 true I).ow) (b:=false) (v:=((oN s k0 true I).ow false).set (((oN s k0 true I).ow false).idxOf 0) J) (show true≠false by decide)).trans (show upd s.ow true ((s.ow true).set I 0) true=_ from ae)
   rw[e1]at h;let#[i,am,e]:=Mo h;have hl:i<(s.ow true).length:=(by simpa using am);have hz:(0:Int)∈(s.ow true).set I 0:=e1▸R;have e0:((s.ow true).set I 0).idxOf 0=I:=by
    have q:=vg hz;by_cases en:I=((s.ow true).set I 0).idxOf 0
    .show en.symm
    .rw[LG en]at q;show absurd (Ld q) nf
   rw[List.getElem_set]at e;split at e
   .lia
   .rename_i ne;rw[List.getElem_set]at e;split at e
    .rename_i e2;show absurd (e0.trans e2) ne
    .show e▸MB hl
  .rw[rl R,g5]
theorem Hs (G:Good s) (hf:(0:Int)∈s.ow true\/(0:Int)∈s.ow false) (hn:s.ow true≠[]):((0:Int)∈s.ow true)\/(¬ (0:Int)∈s.ow true/\(0:Int)∈s.ow false/\∃k0 r I L N,s.inf=k0::r/\s.pl k0=some (true,I)/\Vw s k0 L N):=by
 by_cases h:(0:Int)∈s.ow true
 .show .inl h
 .show .inr #[h,hf.resolve_left h,?_];have O:0<(s.ow true).length:=List.length_pos_iff.mpr hn;have S:(s.ow true)[0]?=some (s.ow true)[0]:=Lb O;rcases G.on _ _ _ S with e|⟨j,e⟩
  .show absurd (e▸MB O) h
  .have R:j∈s.inf:=(G.fi j).mpr #[_,e];cases hi:s.inf with
   |nil=>rw[hi]at R;cases R
   |cons k0 r =>
    let#[I,J]:=(G.fi k0).mp (by rw[hi];show Ls);let#[L,N,Y,U,_,_]:=G.va _ _ _ J;show#[k0,r,I,L,N,rfl,J,true,I,J,Y,U]
end
end Pg
namespace Pg
section
variable {s s':PS}{b:Bool}{k:Int}{cs:List Int}{c:Int}{n:Nat}
theorem Vw.one {G:List Int}{N:Int}(h:Vw s k cs c) (h':Vw s k G N):G=cs/\N=c:=by
 let#[x1,U,O,S,R]:=h;let#[z1,Y,J,L,I]:=h';rw[O]at J;cases J;rw[S]at L;cases L;rw[R]at I;cases I;show#[1]
theorem Good.vw (G:Good s) (h:Vw s k cs c):1<=c/\cs.length=8:=by
 let#[x1,Y,L,S,N]:=h;let#[U,c',J,I,O,R]:=G.va _ _ _ L;rw[S]at J;cases J;rw[N]at I;cases I;show#[O,R]
noncomputable def used (s:PS) (k:Int):PS:={ s with inf:=s.inf.erase k++[k] }
theorem yA (G:Good s) (L:s.pl k=some (true,n)):Good (used s k):=by
 show#[G.rg,G.va,G.inj,G.on,G.ln,3]
 .show List.nodup_append.mpr #[G.nd.erase k,by simp,?_];intro x J y I e;rw[NU]at I;subst I;subst e;show((List.Nodup.mem_erase_iff G.nd).mp J).1 rfl
 .intro j;change j∈s.inf.erase k++[k]↔_;rw[List.mem_append,NU,List.Nodup.mem_erase_iff G.nd,G.fi];constructor
  .rintro(h|h)
   .show h.2
   .subst h;show#[n,L]
  .intro h;by_cases e:j=k
   .show .inr e
   .show .inl #[e,h]
inductive FE (s:PS) (k:Int):PS->Prop
 |here {n:Nat}:s.pl k=some (true,n)->FE s k (used s k)
 |away {n:Nat}{cs:List Int}{c:Int}{s':PS}:s.pl k=some (false,n)->Vw s k cs c->BI (oN s k false n) k cs c s'->FE s k s'
structure KJ (s:PS) (k:Int) (s':PS):Prop where
 good:Good s'
 vw:∀j cs c,Vw s' j cs c↔Vw s j cs c
 fr:∃m,s'.pl k=some (true,m)
 kept:Kept s s' k
 ls:s'.ls=s.ls
 al:all s'=all s
theorem oS (G:Good s) (h:FE s k s'):KJ s k s':=by
 cases h with
 |here I=>show#[yA G I,λ_ _ _=>Iff.rfl,#[_,I],#[λ_ _ _ _=>Iff.rfl,λ_=>rfl,λh=>#[h,λ_ _ _ e=>e]],1]
 | @away n cs c _ I J hb =>
  have GR:=ke G I;have U:=G.rg _ _ I;have Y:=G.vw J;have B:=D5 GR (show dA s.pl k none k=none from bp) U.1 U.2 Y.1 Y.2 hb;have e3:(s.ow false)[n]?=some c:=by
   let#[x1,x2,S,y2,y3]:=J;rw[I]at S;cases S;show y3
  show#[B.good,?_,B.fr,#[3,?_],B.ls,?_]
  .intro j O N;by_cases e:j=k
   .subst e;constructor
    .intro h;let#[L,R]:=B.vw.one h;subst L;subst R;show J
    .intro h;let#[L,R]:=J.one h;subst L;subst R;show B.vw
   .show(B.kept.ot j O N e).trans (iH G I e)
  .intro j O N e;show(B.kept.ot j O N e).trans (iH G I e)
  .intro b;show(B.kept.ln b).trans (dD b)
  .intro h;let#[a1,a2]:=B.kept.fr h;have e0:(oN s k false n).ow true=s.ow true:=aX (f:=s.ow) (v:=(s.ow false).set n 0) (show true≠false by decide);show#[e0▸a1,λj m e hj=>a2 j m e ((aJ e).trans hj)]
  .rw[B.al,rS e3];omega
noncomputable def next (s:PS):PS:={ s with ls:=s.ls+1 }
theorem pB (G:Good s):Good (next s):=#[λk p h=>by have:=G.rg k p h;show#[this.1,by change k<=s.ls+1;omega],G.va,G.inj,G.on,G.ln,G.nd,G.fi]
theorem fE (G:Good s):s.pl (s.ls+1)=none:=by
 cases h:s.pl (s.ls+1)with
 |none=>rfl
 |some p=>have:=G.rg _ _ h;omega
theorem ku (G:Good s) (J:0<=s.ls) (I:cs.length=8) (h:BI (next s) (s.ls+1) cs 1 s'):Ko (next s) (s.ls+1) cs 1 s' :=
 D5 (pB G) (fE G) af (Int.le_refl _) (Int.le_refl _) I h
inductive Ef (s:PS) (k:Int):PS->Prop
 |more {b:Bool}{n:Nat}{cs:List Int}{c:Int}:s.pl k=some (b,n)->Vw s k cs c->1<c->Ef s k (cD s b n (c-1))
 |last {b:Bool}{n:Nat}{cs:List Int}:s.pl k=some (b,n)->Vw s k cs 1->Ef s k (oN s k b n)
theorem tR (J:s.pl k=some (b,n)) (I:Vw s k cs c):(s.ow b)[n]?=some c:=by
 let#[N,O,G,R,L]:=I;rw[J]at G;cases G;show L
structure KY (s:PS) (k:Int) (c:Int) (s':PS):Prop where
 good:Good s'
 ot:∀j cs' c',j≠k->(Vw s' j cs' c'↔Vw s j cs' c')
 me:∀cs' c',Vw s' k cs' c'↔(1<c/\c'=c-1/\Vw s k cs' c)
 pl:∀j,j≠k->s'.pl j=s.pl j
 ln:∀b,(s'.ow b).length=(s.ow b).length
 ls:s'.ls=s.ls
 al:all s'=all s-1
 kept:1<c->Kept s s' k
theorem xi (G:Good s) (N:Vw s k cs c) (h:Ef s k s'):KY s k c s':=by
 cases h with
 | @more b n ab c1 I U hc =>
  let#[J,O]:=N.one U;subst J;subst O;have Y:=tR I N;show#[j4 G I af,λj S R L=>dC G I L,?_,λ_ _=>rfl,λb=>dD b,rfl,3]
  .intro S R;have W:=jb (c:=c1-1) G I N;constructor
   .intro h;let#[J,O]:=W.one h;subst J;subst O;show#[hc,rfl,N]
   .rintro⟨_,q,h⟩;let#[J,O]:=N.one h;subst J;subst q;show W
  .rw[kZ Y];omega
  .intro _;show#[λj S R L=>dC G I L,λb=>dD b,λh=>#[?_,λ_ _ _ e=>e]];have h:(0:Int)∈upd s.ow b ((s.ow b).set n (c1-1)) true:=h;by_cases e:true=b
   .subst e;rw[ae]at h;show Ac af h
   .rw[aX e]at h;show h
 | @last b n ab I U =>
  let#[J,O]:=N.one U;subst J;subst O;have Y:=tR I N;show#[ke G I,λj S R L=>iH G I L,?_,λ_ L=>aJ L,λb=>dD b,4,λh=>absurd h av]
  .intro S R;constructor
   .rintro⟨x1,x2,y1,_,_⟩;have y9:(none:Option (Bool×Nat))=some (x1,x2):=(by rw[<-y1];show bp.symm);cases y9
   .rintro⟨q,_,_⟩;show absurd q av
  .rw[rS Y]
theorem zT (G:Good s) (J:s.pl k=some (b,n)) (I:Vw s k cs c):Good (cD s b n (c+1))/\Vw (cD s b n (c+1)) k cs (c+1)/\all (cD s b n (c+1))=all s+1:=by
 have:=G.vw I;show#[j4 G J af,jb G J I,?_];rw[kZ (tR J I)];omega
end
end Pg
namespace Pg
noncomputable abbrev Ent:=Option Int
noncomputable def full (es:List Ent):Int:=(es.countP (·.isSome):Nat)
structure RI (s:PS) (es:List Ent):Prop where
 good:Good s
 l0:0<=s.ls
 ne:s.ow true≠[]
 is:∀k,some k∈es->∃cs c,Vw s k cs c
 ct:∀k cs c,Vw s k cs c->c=(es.count (some k):Nat)
 al:all s=full es
 rm:es.length<=(s.ow true).length+(s.ow false).length
section
variable {s s':PS}{es r:List Ent}{k:Int}{cs:List Int}{c:Int}
theorem RI.perm {G:List Ent}(R:RI s es) (p:es.Perm G):RI s G :=
 #[R.good,R.l0,R.ne,λk h=>R.is k (p.mem_iff.mpr h),λk cs c h=>by rw[<-p.count_eq];show R.ct k cs c h,by rw[R.al];unfold full;rw[p.countP_eq],by rw[<-p.length_eq];show R.rm]
theorem iJ:full (none::es)=full es:=by unfold full;rw[List.countP_cons_of_neg (by simp)]
theorem gF:full (some k::es)=full es+1:=by unfold full;rw[List.countP_cons_of_pos (by simp)];simp
theorem xG:full es<=es.length:=by unfold full;exact_mod_cast List.countP_le_length
theorem jm {j:Int}:(none::es).count (some j)=es.count (some j):=List.count_cons_of_ne (by simp)
theorem dF:(some k::es).count (some k)=es.count (some k)+1:=List.count_cons_self
theorem eO {j:Int}(h:j≠k):(some k::es).count (some j)=es.count (some j):=List.count_cons_of_ne (by simpa using G0 h)
theorem RI.lay (R:RI s es) (h:es.length<(s.ow true).length+(s.ow false).length):RI s (none::es):=
 #[R.good,R.l0,R.ne,λk h=>R.is k (by simpa using h),λk cs c h=>by rw[jm];show R.ct k cs c h,by rw[iJ];show R.al,h]
theorem RI.bare (R:RI s (none::es)):RI s es :=
 #[R.good,R.l0,R.ne,λk h=>R.is k (by simpa using h),λk cs c h=>by rw[<-jm];show R.ct k cs c h,by rw[<-iJ];show R.al,Nat.le_of_succ_le R.rm]
theorem RI.leave (R:RI s (some k::es)) (N:Vw s k cs c) (h:Ef s k s'):RI s' es:=by
 have L:=xi R.good N h;have S:=R.ct _ _ _ N;rw[dF]at S;show#[L.good,by rw[L.ls];show R.l0,3,3,?_]
 .intro e;have:=L.ln true;rw[e]at this;show R.ne (List.length_eq_zero_iff.mp this.symm)
 .intro j J;by_cases e:j=k
  .subst e;have:0<es.count (some j):=List.count_pos_iff.mpr J;show#[cs,c-1,(L.me cs (c-1)).mpr #[af,rfl,N]]
  .let#[G,I,q]:=R.is j (Lx _ J);show#[G,I,(L.ot j G I e).mpr q]
 .intro j G I J;by_cases e:j=k
  .subst e;let#[U,Y,q3]:=(L.me G I).mp J;omega
  .rw[<-eO e];show R.ct j G I ((L.ot j G I e).mp J)
 .have O:=R.al;rw[gF]at O;rw[L.al,O];omega
 .rw[L.ln,L.ln];show Nat.le_of_succ_le R.rm
theorem RI.share {b:Bool}{n:Nat}(R:RI s es) (I:s.pl k=some (b,n)) (N:Vw s k cs c) (h:es.length<(s.ow true).length+(s.ow false).length):RI (cD s b n (c+1)) (some k::es):=by
 let#[g,v,a]:=zT R.good I N;have O:=R.ct _ _ _ N;show#[g,R.l0,3,3,?_]
 .intro e;have:=dD (f:=s.ow) (b:=b) (n:=n) (x:=c+1) true;have e:upd s.ow b ((s.ow b).set n (c+1)) true=[]:=e;rw[e]at this;show R.ne (List.length_eq_zero_iff.mp this.symm)
 .intro j G;by_cases e:j=k
  .subst e;show#[cs,c+1,v]
  .let#[L,J,q]:=R.is j (by simpa[e]using G);show#[L,J,(dC R.good I e).mpr q]
 .intro j L J G;by_cases e:j=k
  .subst e;let#[_,q]:=v.one G;rw[dF];omega
  .rw[eO e];show R.ct j L J ((dC R.good I e).mp G)
 .rw[a,gF,R.al]
 .change es.length+1<=(upd s.ow b _ true).length+(upd s.ow b _ false).length;rw[dD,dD];show h
theorem RI.DP (R:RI s es) (h:FE s k s'):RI s' es:=by
 have F:=oS R.good h;show#[F.good,by rw[F.ls];show R.l0,3,?_,by rw[F.al];show R.al,by rw[F.kept.ln,F.kept.ln];show R.rm]
 .intro e;have:=F.kept.ln true;rw[e]at this;show R.ne (List.length_eq_zero_iff.mp this.symm)
 .intro j G;let#[cs,c,q]:=R.is j G;show#[cs,c,(F.vw j cs c).mpr q]
 .intro j cs c G;show R.ct j cs c ((F.vw j cs c).mp G)
theorem RI.fill (R:RI s (none::r)) (O:cs.length=8) (h:BI (next s) (s.ls+1) cs 1 s'):RI s' (some (s.ls+1)::r):=by
 have B:=ku R.good R.l0 O h;have S:r.count (some (s.ls+1))=0:=by
  apply Nat.eq_zero_of_not_pos;intro q;let#[G,I,Y,U,L,_]:=R.is _ (Lx _ (List.count_pos_iff.mp q));rw[fE R.good]at L;cases L
 show#[B.good,by rw[B.ls];change 0<=s.ls+1;have:=R.l0;omega,3,3,?_]
 .intro e;have:=B.kept.ln true;rw[e]at this;show R.ne (List.length_eq_zero_iff.mp this.symm)
 .intro j J;by_cases e:j=s.ls+1
  .subst e;show#[cs,(1),B.vw]
  .let#[G,I,q]:=R.is j (by simpa[e]using J);show#[G,I,(B.kept.ot j G I e).mpr q]
 .intro j G I J;by_cases e:j=s.ls+1
  .subst e;let#[_,q]:=B.vw.one J;rw[dF,S,q];rfl
  .rw[eO e, <-jm];show R.ct j G I ((B.kept.ot j G I e).mp J)
 .have N:=R.al;rw[iJ]at N;rw[B.al,gF, <-N];rfl
 .rw[B.kept.ln,B.kept.ln];show R.rm
theorem jE {l:List Int}(h:∀x∈l,1<=x):(l.length:Int)<=l.sum:=by
 induction l with
 |nil=>show Int.le_refl _
 |cons a l I =>
  have h1:=h a Ls;have h2:=I λx G=>h x (Lx _ G);rw[MV,Lo];omega
theorem Good.pos (G:Good s) {b:Bool}(h:¬ (0:Int)∈s.ow b):∀x∈s.ow b,1<=x:=by
 intro x I;let#[n,L]:=List.getElem?_of_mem I;rcases G.on _ _ _ L with e|⟨j,e⟩
 .show absurd (e▸I) h
 .let#[cs,c,_,J,N,_]:=G.va _ _ _ e;rw[L]at J;cases J;show N
theorem RI.room (R:RI s (none::r)):(0:Int)∈s.ow true\/(0:Int)∈s.ow false:=by
 by_cases h1:(0:Int)∈s.ow true
 .show .inl h1
 .by_cases h2:(0:Int)∈s.ow false
  .show .inr h2
  .exfalso;have L:=jE (R.good.pos h1);have J:=jE (R.good.pos h2);have G:=R.al;rw[iJ]at G;have N:=xG (es:=r);have I:=R.rm;rw[Lo]at I;unfold all at G;omega
theorem t7 {l:List Int}(h:∀x∈l,1<=x) {n:Nat}{c:Int}(G:l[n]?=some c):(l.length:Int)+c-1<=l.sum:=by
 induction l generalizing n with
 |nil=>cases G
 |cons a l J =>
  have h2:∀x∈l,1<=x:=λx I=>h x (Lx _ I);have h1:=h a Ls;cases n with
  |zero =>
   cases G;have:=jE h2;rw[MV,Lo];omega
  |succ n =>
   have:=J h2 (show l[n]?=some c from G);rw[MV,Lo];omega
theorem RI.Gs (R:RI s es) (J:Vw s k cs c) (N:1<c):(0:Int)∈s.ow true\/(0:Int)∈s.ow false:=by
 by_cases h1:(0:Int)∈s.ow true
 .show .inl h1
 .by_cases h2:(0:Int)∈s.ow false
  .show .inr h2
  .exfalso;have S:=jE (R.good.pos h1);have O:=jE (R.good.pos h2);have I:=R.al;have U:=xG (es:=es);have L:=R.rm;unfold all at I;let#[b,n,_,_,G]:=J;cases b
   .have:=t7 (R.good.pos h2) G;omega
   .have:=t7 (R.good.pos h1) G;omega
end
end Pg
namespace Pg
noncomputable def yz (s:PS) (e:Ent) (cs:List Int):Prop:=match e with
 |none=>cs=replicate 8 0
 |some k=>∃c,Vw s k cs c
noncomputable def bh (es:List Ent) (s s':PS):Prop:=∀e∈es,∀cs,yz s e cs->yz s' e cs
theorem bh.refl {es:List Ent}{s:PS}:bh es s s:=λ_ _ _ h=>h
section
variable {s s':PS}{es r:List Ent}{k:Int}{cs:List Int}{c:Int}
theorem RI.u9 (R:RI s (some k::es)) (G:Vw s k cs c) (h:Ef s k s'):bh es s s':=by
 have L:=xi R.good G h;have U:=R.ct _ _ _ G;rw[dF]at U;intro e N Y q;cases e with
 |none=>show q
 |some j =>
  let#[J,q]:=q;by_cases I:j=k
  .subst I;let#[O,S]:=G.one q;subst O;subst S;have:0<es.count (some j):=List.count_pos_iff.mpr N;show#[J-1,(L.me _ _).mpr #[af,rfl,G]]
  .show#[J,(L.ot j _ _ I).mpr q]
theorem wA {b:Bool}{n:Nat}(G:Good s) (I:s.pl k=some (b,n)) (L:Vw s k cs c):bh es s (cD s b n (c+1)):=by
 intro e R S q;cases e with
 |none=>show q
 |some j =>
  let#[O,q]:=q;by_cases J:j=k
  .subst J;let#[N,U]:=L.one q;subst N;show#[c+1,jb G I L]
  .show#[O,(dC G I J).mpr q]
theorem vU (G:Good s) (h:FE s k s'):bh es s s':=by
 intro e J L q;cases e with
 |none=>show q
 |some j =>
  let#[I,q]:=q;show#[I,((oS G h).vw _ _ _).mpr q]
theorem RI.xQ (R:RI s (none::r)) (I:cs.length=8) (h:BI (next s) (s.ls+1) cs 1 s'):bh r s s':=by
 have B:=ku R.good R.l0 I h;intro e N O q;cases e with
 |none=>show q
 |some j =>
  let#[L,q]:=q;have J:j≠s.ls+1:=by
   intro e;let#[U,S,G,_]:=q;rw[e,fE R.good]at G;cases G
  show#[L,(B.kept.ot _ _ _ J).mpr q]
theorem RI.part {s1 s2:PS}{ab:List Int}{S:Int}(R:RI s (some k::r)) (hv:Vw s k ab S) (hc:1<S) (h4:cs.length=8) (hB:BI (next s) (s.ls+1) cs 1 s1) (hL:Ef s1 k s2) :
  RI s2 (some (s.ls+1)::r)/\bh r s s2/\yz s2 (some (s.ls+1)) cs/\(∃m,s2.pl (s.ls+1)=some (true,m))/\s2.ls=s.ls+1 /\
  ((0:Int)∈s2.ow true->(0:Int)∈s.ow true/\∀j m,s.pl j=some (true,m)->s2.pl j=some (true,m))/\(∀b,(s2.ow b).length=(s.ow b).length):=by
 have B:=ku R.good R.l0 h4 hB;have nn:=fE R.good;have kn:k≠s.ls+1:=by
  intro e;let#[x1,x2,I,_]:=hv;rw[e,nn]at I;cases I
 have Y:Vw s1 k ab S:=(B.kept.ot _ _ _ kn).mpr hv;have L:=xi B.good Y hL;have K:=L.kept hc;have am:=R.ct _ _ _ hv;rw[dF]at am;have no:r.count (some (s.ls+1))=0:=by
  apply Nat.eq_zero_of_not_pos;intro q;let#[O,N,x1,x2,I,_]:=R.is _ (Lx _ (List.count_pos_iff.mp q));rw[nn]at I;cases I
 have vn:Vw s2 (s.ls+1) cs 1:=(L.ot _ _ _ (G0 kn)).mpr B.vw;have U:∀b,(s2.ow b).length=(s.ow b).length:=λb=>(L.ln b).trans (B.kept.ln b);show#[#[L.good,3,3,3],?_,#[(1),vn],3,?_,U]
 .rw[L.ls,B.ls];change 0<=s.ls+1;have:=R.l0;omega
 .intro e;have:=U true;rw[e]at this;show R.ne (List.length_eq_zero_iff.mp this.symm)
 .intro j J;by_cases e:j=s.ls+1
  .subst e;show#[cs,(1),vn]
  .have J:some j∈r:=(by simpa[e]using J);by_cases G:j=k
   .subst G;show#[ab,S-1,(L.me _ _).mpr #[hc,rfl,Y]]
   .let#[O,N,q]:=R.is j (Lx _ J);show#[O,N,(L.ot _ _ _ G).mpr ((B.kept.ot _ _ _ e).mpr q)]
 .intro j O N J;by_cases e:j=s.ls+1
  .subst e;let#[_,q]:=vn.one J;rw[dF,no,q];rfl
  .rw[eO e];by_cases G:j=k
   .subst G;let#[q1,q2,q3]:=(L.me _ _).mp J;omega
   .rw[<-eO G];show R.ct j O N ((B.kept.ot _ _ _ e).mp ((L.ot _ _ _ G).mp J))
 .have h9:=R.al;rw[gF]at h9;rw[L.al,B.al,gF, <-h9];change all s+1-1=all s;omega
 .rw[U,U];show R.rm
 .intro e he O q;cases e with
  |none=>show q
  |some j =>
   let#[N,q]:=q;have ej:j≠s.ls+1:=by
    intro e;let#[x1,x2,I,_]:=q;rw[e,nn]at I;cases I
   by_cases G:j=k
   .subst G;let#[q1,q2]:=hv.one q;subst q1;show#[S-1,(L.me _ _).mpr #[hc,rfl,Y]]
   .show#[N,(L.ot _ _ _ G).mpr ((B.kept.ot _ _ _ ej).mpr q)]
 .let#[m,hm]:=B.fr;show#[m,(L.pl _ (G0 kn)).trans hm]
 .rw[L.ls,B.ls];rfl
 .intro h;let#[a1,a2]:=K.fr h;let#[b1,b2]:=B.kept.fr a1;show#[b1,?_];intro j m e;have ej:j≠s.ls+1:=(by intro q;rw[q,nn]at e;cases e);have e1:=b2 j m ej e;by_cases G:j=k
  .subst G;cases hL with
   |more hk ac ap=>show e1
   |last hk ac =>
    have:=(Y.one ac).2;omega
  .show a2 j m G e1
theorem RI.write {I:PS}{m:Nat}(R:RI s (some k::r)) {Y:List Int}(hv:Vw s k Y 1) (h4:cs.length=8) (hF:FE s k I) (J:I.pl k=some (true,m)) :
  RI (write I true m cs) (some k::r)/\bh r s (write I true m cs)/\yz (write I true m cs) (some k) cs:=by
 have F:=oS R.good hF;have G:=R.DP hF;have U:Vw I k Y 1:=(F.vw _ _ _).mpr hv;have ab:=R.ct _ _ _ hv;rw[dF]at ab;have no:¬ some k∈r:=λh=>(by have:0<r.count (some k):=List.count_pos_iff.mpr h;omega);have S:=Bp (cs:=cs) G.good J U;show#[#[wt G.good J h4,G.l0,G.ne,3,G.al,G.rm],?_,#[(1),S]]
 .intro j N;by_cases e:j=k
  .subst e;show#[cs,(1),S]
  .let#[O,L,q]:=G.is j N;show#[O,L,(iD G.good J e).mpr q]
 .intro j O L N;by_cases e:j=k
  .subst e;let#[_,q]:=S.one N;rw[q];show G.ct _ _ _ U
  .show G.ct j O L ((iD G.good J e).mp N)
 .intro e he O q;cases e with
  |none=>show q
  |some j =>
   let#[L,q]:=q;have ek:j≠k:=λe=>no (e▸he);show#[L,(iD G.good J ek).mpr ((F.vw _ _ _).mpr q)]
end
end Pg
namespace St
open PySem L2
noncomputable abbrev BH:LI:=top 12
noncomputable abbrev rM:LI:=top 13
section
variable {P:IF}{w:Ll}{K:PySem.W.Frag}{mg:Str->Option Value}{base:Heap}
theorem aR.keep {C p ow co:Addr}{M:Addr->Prop}{os:List Int}{pg:List (Option (List Int))}{H H':Hp}(S:aR C H M p ow co os pg) (h:Off (λ_=>False) H H'):aR C H' M p ow co os pg:=by
 let#[#[dx,h1],J,cs,G,I]:=S;show#[#[dx,h _ _ h1 id],h _ _ J id,cs,h _ _ G id,iQ h (λ_ z=>z.elim) I]
theorem cW {H:Hp}{l:Addr}{o:HO}(h:H l=none):Off (λ_=>False) H (upd H l o):=by
 intro b o' e _;rw[ag (λz=>by rw[z,h]at e;cases e)];show e
theorem fU {os:List Int}{n:Nat}{x:Int}(h:n<os.length):dR (os.set n x) n=x:=by
 unfold dR;rw[QZ (by rw[LR];omega)];simp[h]
theorem fA {os:List Int}{n:Nat}{x:Int}(h:os[n]?=some x):dR os n=x:=by
 let#[h1,h2]:=List.getElem?_eq_some_iff.mp h;unfold dR;rw[QZ af];simp[h1,h2]
theorem Cu {os:List Int}{n:Nat}{x:Int}(h:os[n]?=some x):os.set n x=os:=by
 let#[h1,h2]:=List.getElem?_eq_some_iff.mp h;rw[<-h2];show List.set_getElem_self h1
inductive rV (C:Addr) (vs:List V) (H:Hp) (Q:VK) (e3:XK):Prop
 |mk (p ow co:Addr) (M:Addr->Prop) (os:List Int) (pg:List (Option (List Int))) (n:Nat) (ns:List Int) (c:Nat) (_:vs=[.ref p,.int n]) (_:aR C H M p ow co os pg) (_:M ow) (_:M co) (_:(∀b,M b->H b≠none)) (_:ow≠co) (_:os.length<=60) (_:os[n]?=some (c:Int)) (_:1<=c) (_:c<=1000) (_:pg[n]?=some (some ns)) (_:∀(H':Hp) (t l:Addr),H t=none->H' t=some (.tup [.ref l,.int c])->¬ M l->H' l=some (.lst (ns.map V.int))->aR C H' M p ow co (os.set n 0) pg->Off (λb=>b=ow\/b=co) H H'->Q (.ref t) H'):rV C vs H Q e3
theorem HU:aC ["store","n","moved"] ["store","n"] (aw BH):=L2.bG
theorem Dm {f C:Addr}{fd:GX}(F:cM K "lift" "lift" BH f fd) (T:Txt K mg C) (GE:Md P w K mg base aS 3 C "cells" (lO C)) (GC:Md P w K mg base aS 1 C "count" (gQ C)) (GL:Md P w K mg base aS 3 C "less" (rT C)) :
  a8 P w K mg base aS 4 f fd ["store","n"] (rV C):=by
 show F.ok HU (λvs H Q E h=>?_) (λa6 A outer s H vs Q E O h=>?_)
 .let#[p,ow,co,M,os,pg,n,ns,c,rfl,_]:=h;rfl
 .let#[p,ow,co,M,os,pg,n,ns,c,rfl,S,mw,mc,mt,aB,N,R,c1,c2,hg,k]:=h;let#[#[dx,h1],hw,cs,a0,hp]:=id S;let#[Y,_]:=List.getElem?_eq_some_iff.mp R;have hc:dR os n≠0:=(by rw[fA R];omega);show#[_,(ah (aO (i:=2) HU.nd rfl (Lc rfl) (cR (aa (pm (pv 0) T.cl GE O ax (aa (pv 1) ai)) (aa (pm (pv 0) T.cl GC O ax (aa (pv 1) ai)) ai))))
   (ah (ud Lr (aA gz (pm (pv 0) T.cl GC O ax (aa (pv 1) ai)) ak (aH _)) (aj (aM (pm (pv 0) T.cl GL O ax (aa (pv 1) ai)))))
   (aj (aF (pv 2))))),?_]
  show#[0,p,dx,0,h1,aW _ _ ao ao,0,p,ow,co,M,os,pg,n,ns,rfl,S,N,hc,hg,?_];intro l U;have L:=S.keep (cW (o:=.lst (ns.map V.int)) U);have aT:upd H l (.lst (ns.map V.int)) l=some (.lst (ns.map V.int)):=ae;have O1:Off (λb=>b=ow\/b=co) H (upd H l (.lst (ns.map V.int))):=λb o e _=>cW U b o e id;generalize upd H l (.lst (ns.map V.int))=H1 at *;let#[as,ap]:=L.ob;show#[0,p,as,0,ap,aW _ _ ao ao,0,p,ow,co,M,os,pg,n,rfl,L,N,?_];rw[fA R];show#[by change 2<=sizeLine;decide,λt G=>?_];have S2:=L.keep (cW (o:=.tup [.ref l,.int c]) G);have ht:upd H1 t (.tup [.ref l,.int c]) t=some (.tup [.ref l,.int c]):=ae;have am:upd H1 t (.tup [.ref l,.int c]) l=some (.lst (ns.map V.int)):=cW G l _ aT id;have O2:Off (λb=>b=ow\/b=co) H (upd H1 t (.tup [.ref l,.int c])):=λb o e z=>cW G b o (O1 b o e z) id;have nM:¬ M l:=λz=>mt l z U;have fH:H t=none:=by
   cases e:H t with
   |none=>rfl
   |some o =>
    exfalso;by_cases z:t=ow\/t=co
    .rcases z with z|z
     .subst z;rw[L.hw]at G;cases G
     .subst z;let#[_,q,_]:=L.hc;rw[q]at G;cases G
    .rw[O1 t o e z]at G;cases G
  generalize upd H1 t (.tup [.ref l,.int c])=H2 at *;show#[λm σ H3=>∃c':Nat,m=c'/\σ=[some (.ref p),some (.int n),some (.ref t)]/\aR C H3 M p ow co (os.set n c') pg/\H3 t=some (.tup [.ref l,.int c])/\H3 l=some (.lst (ns.map V.int))/\Off (λb=>b=ow\/b=co) H H3,
   #[c,c,1,by rw[Cu R];show S2,ht,am,O2],?_]
  rintro m σ H3 ⟨c',rfl,rfl,I,J,l3,O3⟩;let#[ab,h3]:=I.ob;show#[0,p,ab,0,h3,aW _ _ ao ao,0,p,ow,co,M,_,pg,n,rfl,I,by rw[LR];show N,?_];rw[fU Y];show#[_,0,rfl,0,?_];by_cases z:(0:Int)<m
  .rw[decide_eq_true z];show#[λac H'=>ac=[some (.ref p),some (.int n),some (.ref t)]/\aR C H' M p ow co (os.set n (m-1:Nat)) pg/\H' t=some (.tup [.ref l,.int c])/\H' l=some (.lst (ns.map V.int))/\Off (λb=>b=ow\/b=co) H H',3]
   .rintro ac H' ⟨a1,a2,a3,a4,a5⟩;show#[m-1,af,m-1,rfl,a1,a2,a3,a4,a5]
   .show#[0,p,ab,0,h3,aW _ _ ao ao,0,p,ow,co,M,_,pg,n,rfl,I,mw,mc,aB,by rw[LR];show N,by rw[fU Y];omega,?_];intro H4 S4 O4;rw[fU Y,show(n:Int).toNat=n from MX n,List.set_set]at S4;show#[rfl,3,3]
    .have e:((m-1:Nat):Int)=(m:Int)-1:=af;rw[e];show S4
    .show O4 _ _ J λq=>?_;rcases q with q|q
     .subst q;rw[I.hw]at J;cases J
     .subst q;let#[_,y,_]:=I.hc;rw[y]at J;cases J
    .show O4 _ _ l3 λq=>?_;rcases q with q|q
     .show nM (q▸mw)
     .show nM (q▸mc)
    .intro b o e q;show O4 b o (O3 b o e q) q
  .rw[decide_eq_false z];have e:m=0:=af;subst e;show#[0,k H3 t l fH J nM l3 I O3]
theorem pP {C p ow co:Addr}{M:Addr->Prop}{os:List Int}{pg:List (Option (List Int))}{H H':Hp}(S:aR C H' M p ow co os pg) (h:Off (λb=>b=ow\/b=co) H H') (mt:∀b,M b->H b≠none):∀b,M b->H' b≠none:=by
 intro b I e;by_cases z:b=ow\/b=co
 .rcases z with z|z
  .subst z;rw[S.hw]at e;cases e
  .subst z;let#[_,q,_]:=S.hc;rw[q]at e;cases e
 .cases G:H b with
  |none=>show mt b I G
  |some o=>rw[h b o G z]at e;cases e
inductive jH (C:Addr) (vs:List V) (H:Hp) (Q:VK) (e3:XK):Prop
 |mk (p ow co t l:Addr) (M:Addr->Prop) (os:List Int) (pg:List (Option (List Int))) (ns:List Int) (c:Nat) (_:vs=[.ref p,.ref t]) (_:aR C H M p ow co os pg) (_:M ow) (_:M co) (_:(∀b,M b->H b≠none)) (_:ow≠co) (_:os.length=pg.length) (_:os.length<=60) (_:(0:Int)∈os) (_:H t=some (.tup [.ref l,.int c])) (_:H l=some (.lst (ns.map V.int))) (_:¬ M l) (_:1<=c) (_:c<=1000) (_:∀H':Hp,aR C H' M p ow co (os.set (os.idxOf 0) c) (pg.set (os.idxOf 0) (some ns))->Off (λb=>b=ow\/b=co) H H'->Q (.int (os.idxOf 0:Nat)) H'):jH C vs H Q e3
theorem Dq:aC ["store","moved","n"] ["store","moved"] (aw rM):=L2.bG
theorem yg {f C:Addr}{fd:GX}(F:cM K "settle" "settle" rM f fd) (T:Txt K mg C) (GT:Md P w K mg base aS 1 C "take" (u3 C)) (GP:Md P w K mg base aS 3 C "put" (xC K C)) (GC:Md P w K mg base aS 1 C "count" (gQ C)) (GM:Md P w K mg base aS 3 C "more" (sg C)) :
  a8 P w K mg base aS 4 f fd ["store","moved"] (jH C):=by
 show F.ok Dq (λvs H Q E h=>?_) (λa5 A outer s H vs Q E O h=>?_)
 .let#[p,ow,co,t,l,M,os,pg,ns,c,rfl,_]:=h;rfl
 .let#[p,ow,co,t,l,M,os,pg,ns,c,rfl,S,L,mc,mt,ab,am,N,h0,I,a0,nM,c1,c2,k]:=h;let#[dx,h1]:=S.ob;have J:os.idxOf 0<os.length:=List.idxOf_lt_length_iff.mpr h0;show#[_,(ah (aO (i:=2) Dq.nd rfl (Lc rfl) (qx (pv 0) T.cl GT O ax))
   (ah (aM (pm (pv 0) T.cl GP O ax (aa (pv 2) (aa (bq bB (pv 1) ak (λ_ _=>rfl)) ai))))
   (ah (ud Lr (aA iu (pm (pv 0) T.cl GC O ax (aa (pv 2) ai)) (bq bB (pv 1) ak (λ_ _=>rfl)) (aH _)) (aj (aM (pm (pv 0) T.cl GM O ax (aa (pv 2) ai)))))
   (aj (aF (pv 2)))))),?_]
  show#[0,p,dx,0,h1,aW _ _ ao ao,p,ow,co,M,os,pg,rfl,S,L,mc,mt,ab,am,N,λz=>absurd h0 z,λ_ H1 Y U=>?_];generalize os.idxOf 0=j at *;let#[aB,as]:=Y.ob;have nt:¬ (t=ow\/t=co):=λq=>by
   rcases q with q|q
   .subst q;rw[S.hw]at I;cases I
   .subst q;let#[_,y,_]:=S.hc;rw[y]at I;cases I
  have aT:¬ (l=ow\/l=co):=λq=>by
   rcases q with q|q
   .show nM (q▸L)
   .show nM (q▸mc)
  have t1:=U _ _ I nt;have l1:=U _ _ a0 aT;show#[0,p,aB,0,as,aW _ _ ao ao,0,0,t,_,(0),0,rfl,cy.of t1,rfl,p,ow,co,l,M,2,_,ns,rfl,Y,L,mc,pP Y U mt,ab,by rw[LR,LR];show am,by rw[LR];show N,by rw[fU J];decide,bA.of l1,?_];intro H2 S2 O2;rw[show(j:Int).toNat=j from MX j,List.set_set]at S2;show#[λm σ H3=>∃G:Nat,m+G=c/\1<=G/\σ=[some (.ref p),some (.ref t),some (.int j)]/\aR C H3 M p ow co (os.set j G) (pg.set j (some ns))/\H3 t=some (.tup [.ref l,.int c])/\Off (λb=>b=ow\/b=co) H H3,
   #[c-1,(1),af,HC _,rfl,S2,O2 _ _ t1 nt,λb o e q=>O2 b o (U b o e q) q],?_]
  rintro m σ H3 ⟨G,em,p1,rfl,R,t3,O3⟩;let#[ac,h3]:=R.ob;show#[0,p,ac,0,h3,aW _ _ ao ao,0,p,ow,co,M,2,j,rfl,R,by rw[LR];show N,?_];rw[fU J];show#[0,t,_,(1),0,rfl,cy.of t3,5,0,rfl,0,?_];by_cases z:(G:Int)<c
  .rw[decide_eq_true z];show#[λap H'=>ap=[some (.ref p),some (.ref t),some (.int j)]/\aR C H' M p ow co (os.set j (G+1:Nat)) (pg.set j (some ns))/\H' t=some (.tup [.ref l,.int c])/\Off (λb=>b=ow\/b=co) H H',3]
   .rintro ap H' ⟨a1,a2,a3,a4⟩;show#[m-1,af,G+1,af,af,a1,a2,a3,a4]
   .show#[0,p,ac,0,h3,aW _ _ ao ao,0,p,ow,co,M,2,j,rfl,R,L,mc,ab,by rw[LR];show N,by rw[fU J];omega,?_];intro H4 S4 O4;rw[fU J,show(j:Int).toNat=j from MX j,List.set_set]at S4;show#[rfl,S4,O4 _ _ t3 nt,λb o e q=>O4 b o (O3 b o e q) q]
  .rw[decide_eq_false z];have e:G=c:=af;subst e;show#[0,k H3 R O3]
end
structure PA where
 pg:Addr
 fp:Addr
 fo:Addr
 fc:Addr
 sp:Addr
 so:Addr
 sc:Addr
 pd:Addr
 il:Addr
noncomputable def cO (A:PA) (n:Int):List (Str×V):=bj "in_frames" (.ref A.il) (bj "last_sheet" (.int n) (bj "places" (.ref A.pd) (bj "slots" (.ref A.sp) (bj "frames" (.ref A.fp) []))))
noncomputable abbrev Et:=List (Int×Addr×Bool×Nat)
noncomputable def sk (x:Addr×Bool×Nat):V:=.ref x.1
noncomputable def kK (b:Bool) (n:Nat):List V:=[.str (if b=true then "frame" else "slot"),.int n]
structure bL (C CS:Addr) (H:Hp) (M:Addr->Prop) (A:PA) (s:Pg.PS):Prop where
 ob:∃dx,H A.pg=some (.ins C dx (cO A s.ls))
 fr:aR CS H M A.fp A.fo A.fc (s.ow true) (s.co true)
 sl:aR CS H M A.sp A.so A.sc (s.ow false) (s.co false)
 il:H A.il=some (.lst (s.inf.map V.int))
 le:∀b,(s.ow b).length<=60
 pd:∃l:Et,H A.pd=some (.dK (Tb.dk sk l))/\(l.map (·.1)).Nodup/\(∀x∈l,H x.2.1=some (.tup (kK x.2.2.1 x.2.2.2)))/\(∀k,(Tb.look l k).map (·.2)=s.pl k)/\l.length<=1000
structure qQ (K:PySem.W.Frag) (mg:Str->Option Value) (C:Addr):Prop where
 cl:pG K C
 nF:dg K C "frames"
 nS:dg K C "slots"
 nP:dg K C "places"
 nL:dg K C "last_sheet"
 nI:dg K C "in_frames"
 list:mg "list" = none
noncomputable abbrev wc:LI:=inClass (top 14) 9
section
variable {P:IF}{w:Ll}{K:PySem.W.Frag}{mg:Str->Option Value}{base:Heap}
inductive j6 (C CS:Addr) (vs:List V) (H:Hp) (Q:VK) (e3:XK):Prop
 |mk (M:Addr->Prop) (A:PA) (s:Pg.PS) (k:Int) (b:Bool) (n:Nat) (_:vs=[.ref A.pg,.int k]) (_:bL C CS H M A s) (_:s.pl k=some (b,n)) (_:∀t,H t=some (.tup (kK b n))->Q (.ref t) H):j6 C CS vs H Q e3
theorem oY (A:PA) (n:Int):(cO A n).lookup ("places" : Str)=some (.ref A.pd):=by
 unfold cO;rw[aE,QZ ao,aE,QZ ao,aE,Q0 rfl]
theorem Jv:aC ["self","sheet"] ["self","sheet"] (aw wc):=L2.bG
theorem Bt {f C CS:Addr}{fd:GX}(F:cM K "place" "Paging.place" wc f fd) (T:qQ K mg C):a8 P w K mg base aS 1 f fd ["self","sheet"] (j6 C CS):=by
 show F.ok Jv (λvs H Q E h=>?_) (λab A outer s H vs Q E O h=>?_)
 .let#[M,I,s',k,b,n,rfl,_]:=h;rfl
 .let#[M,I,s',k,b,n,rfl,G,U,q]:=h;let#[dx,h1]:=G.ob;let#[l,hd,nd,Y,S,_]:=G.pd;show#[_,(ah (aV (gb (eg (aZ O) (pv 1) (aL (pv 0) rfl))) cw aG)
   (aj (aF (a9 (aZ O) (aL (pv 0) rfl) (pv 1) (λ_ _=>rfl))))),?_]
  obtain⟨x,R,ex⟩:∃x,Tb.look l k=some x/\x.2=(b,n):=by
   have:=S k;rw[U]at this;show Option.map_eq_some_iff.mp this
  have J:dB H I.pd (.int k) (some (sk x)):=by
   have N:=dB.k (k:=Sum.inl k) hd;rw[Tb.cK,R]at N;show N
  have L:=Y _ (Tb.ay R);show#[0,0,I.pg,C,dx,_,0,h1,T.cl,T.nP,oY _ _,I.pd,0,J,0,?_];show bJ #[0,I.pg,C,dx,_,0,h1,T.cl,T.nP,oY _ _,0,I.pd,sk x,rfl,J,q x.1 ?_];rw[show x.2.1=b by rw[ex],show x.2.2=n by rw[ex]]at L;show L
noncomputable abbrev kS:LI:=inClass (top 14) 10
noncomputable abbrev nY:LI:=inClass (top 14) 11
inductive dt (C CS:Addr) (vs:List V) (H:Hp) (Q:VK) (e3:XK):Prop
 |mk (M:Addr->Prop) (A:PA) (s:Pg.PS) (k:Int) (b:Bool) (n:Nat) (_:vs=[.ref A.pg,.int k]) (_:bL C CS H M A s) (_:s.pl k=some (b,n)) (_:Q (.int n) H):dt C CS vs H Q e3
noncomputable def PA.st (A:PA) (b:Bool):Addr:=if b=true then A.fp else A.sp
inductive fB (C CS:Addr) (vs:List V) (H:Hp) (Q:VK) (e3:XK):Prop
 |mk (M:Addr->Prop) (A:PA) (s:Pg.PS) (k:Int) (b:Bool) (n:Nat) (_:vs=[.ref A.pg,.int k]) (_:bL C CS H M A s) (_:s.pl k=some (b,n)) (_:Q (.ref (A.st b)) H):fB C CS vs H Q e3
theorem cQ (A:PA) (n:Int) {m:Str}(h1:¬ m = "in_frames") (h2:¬ m = "last_sheet") (J:¬ m = "places") (I:¬ m = "slots") (G:¬ m = "frames"):(cO A n).lookup m=none:=by
 unfold cO;rw[aE,QZ h1,aE,QZ h2,aE,QZ J,aE,QZ I,aE,QZ G]
 all_goals rfl
theorem pU (A:PA) (n:Int):(cO A n).lookup ("frames" : Str)=some (.ref A.fp):=by
 unfold cO;rw[aE,QZ ao,aE,QZ ao,aE,QZ ao,aE,QZ ao,aE,Q0 rfl]
theorem xr (A:PA) (n:Int):(cO A n).lookup ("slots" : Str)=some (.ref A.sp):=by
 unfold cO;rw[aE,QZ ao,aE,QZ ao,aE,QZ ao,aE,Q0 rfl]
theorem JA:aC ["self","sheet"] ["self","sheet"] (aw kS):=L2.bG
theorem tG {f C CS:Addr}{fd:GX}(F:cM K "number_of" "Paging.number_of" kS f fd) (T:qQ K mg C) (L:Md P w K mg base aS 1 C "place" (j6 C CS)):a8 P w K mg base aS 2 f fd ["self","sheet"] (dt C CS):=by
 show F.ok JA (λvs H Q E h=>?_) (λR A outer s H vs Q E J h=>?_)
 .let#[M,I,s',k,b,n,rfl,_]:=h;rfl
 .let#[M,I,s',k,b,n,rfl,G,N,q]:=h;let#[dx,h1]:=G.ob;show#[_,(aj (aF (bq bB (pm (pv 0) T.cl L J ax (aa (pv 1) ai)) ak (λ_ _=>rfl)))),?_];show#[0,I.pg,dx,0,h1,cQ _ _ ao ao ao ao ao,0,M,I,s',k,b,n,rfl,G,N,λt O=>?_];show#[t,_,(1),0,rfl,cy.of O,rfl,q]
theorem JL:aC ["self","sheet"] ["self","sheet"] (aw nY):=L2.bG
theorem u7 {f C CS:Addr}{fd:GX}(F:cM K "store_of" "Paging.store_of" nY f fd) (T:qQ K mg C) (L:Md P w K mg base aS 1 C "place" (j6 C CS)):a8 P w K mg base aS 2 f fd ["self","sheet"] (fB C CS):=by
 show F.ok JL (λvs H Q E h=>?_) (λR A outer s H vs Q E J h=>?_)
 .let#[M,I,s',k,b,n,rfl,_]:=h;rfl
 .let#[M,I,s',k,b,n,rfl,G,N,q]:=h;let#[dx,h1]:=G.ob;show#[_,(ah (aV (aA bH (bq bB (pm (pv 0) T.cl L J ax (aa (pv 1) ai)) ak (λ_ _=>rfl)) aI (aH _)) (aj (aF (aL (pv 0) rfl))) aG)
   (aj (aF (aL (pv 0) rfl)))),?_]
  show#[0,I.pg,dx,0,h1,cQ _ _ ao ao ao ao ao,0,M,I,s',k,b,n,rfl,G,N,λt O=>?_];show#[t,_,(0),0,rfl,cy.of O,1,0,?_];cases b with
  |true=>show eL #[0,I.pg,C,dx,_,0,h1,T.cl,T.nF,pU _ _,q]
  |false=>show bJ #[0,I.pg,C,dx,_,0,h1,T.cl,T.nS,xr _ _,q]
noncomputable abbrev r9:LI:=inClass (top 14) 12
noncomputable abbrev rX:LI:=inClass (top 14) 4
noncomputable def PA.ow (A:PA) (b:Bool):Addr:=if b=true then A.fo else A.so
noncomputable def PA.co (A:PA) (b:Bool):Addr:=if b=true then A.fc else A.sc
theorem bL.st {C CS:Addr}{H:Hp}{M:Addr->Prop}{A:PA}{s:Pg.PS}(G:bL C CS H M A s) (b:Bool):aR CS H M (A.st b) (A.ow b) (A.co b) (s.ow b) (s.co b):=by
 cases b
 .show G.sl
 .show G.fr
inductive nE (C CS:Addr) (vs:List V) (H:Hp) (Q:VK) (e3:XK):Prop
 |mk (M:Addr->Prop) (A:PA) (s:Pg.PS) (k:Int) (cs:List Int) (c:Int) (_:vs=[.ref A.pg,.int k]) (_:bL C CS H M A s) (_:Pg.Vw s k cs c) (_:Q (.int c) H):nE C CS vs H Q e3
inductive oa (C CS:Addr) (vs:List V) (H:Hp) (Q:VK) (e3:XK):Prop
 |mk (M:Addr->Prop) (A:PA) (s:Pg.PS) (k:Int) (cs:List Int) (c:Int) (_:vs=[.ref A.pg,.int k]) (_:bL C CS H M A s) (_:Pg.Vw s k cs c) (_:c≠0) (_:∀l,H l=none->Q (.ref l) (upd H l (.lst (cs.map V.int)))):oa C CS vs H Q e3
theorem JD:aC ["self","sheet"] ["self","sheet"] (aw r9):=L2.bG
theorem yH {f C CS:Addr}{fd:GX}(F:cM K "count" "Paging.count" r9 f fd) (T:qQ K mg C) (TS:Txt K mg CS) (U:Md P w K mg base aS 2 C "store_of" (fB C CS)) (R:Md P w K mg base aS 2 C "number_of" (dt C CS)) (N:Md P w K mg base aS 1 CS "count" (gQ CS)):a8 P w K mg base aS 3 f fd ["self","sheet"] (nE C CS):=by
 show F.ok JD (λvs H Q E h=>?_) (λab A outer s H vs Q E J h=>?_)
 .let#[M,I,s',k,cs,c,rfl,_]:=h;rfl
 .let#[M,I,s',k,cs,c,rfl,G,#[b,n,L,ac,O],q]:=h;let#[dx,h1]:=G.ob;have S:=G.st b;let#[Y,h2]:=S.ob;show#[_,(aj (aF (pm (pm (pv 0) T.cl U J ax (aa (pv 1) ai)) TS.cl N J ax (aa (pm (pv 0) T.cl R J ax (aa (pv 1) ai)) ai)))),?_];show#[0,I.pg,dx,0,h1,cQ _ _ ao ao ao ao ao,0,M,I,s',k,b,n,rfl,G,L,?_];show#[_,Y,0,h2,aW _ _ ao ao,?_];show#[0,I.pg,dx,0,h1,cQ _ _ ao ao ao ao ao,0,M,I,s',k,b,n,rfl,G,L,?_];show#[2,_,M,2,n,rfl,S,G.le b,?_];rw[fA O];show q
theorem Jj:aC ["self","sheet"] ["self","sheet"] (aw rX):=L2.bG
theorem y0 {f C CS:Addr}{fd:GX}(F:cM K "cells" "Paging.cells" rX f fd) (T:qQ K mg C) (TS:Txt K mg CS) (R:Md P w K mg base aS 2 C "store_of" (fB C CS)) (O:Md P w K mg base aS 2 C "number_of" (dt C CS)) (GE:Md P w K mg base aS 3 CS "cells" (lO CS)):a8 P w K mg base aS 4 f fd ["self","sheet"] (oa C CS):=by
 show F.ok Jj (λvs H Q E h=>?_) (λab A outer s H vs Q E J h=>?_)
 .let#[M,I,s',k,cs,c,rfl,_]:=h;rfl
 .let#[M,I,s',k,cs,c,rfl,G,#[b,n,L,Y,N],hc,q]:=h;let#[dx,h1]:=G.ob;have S:=G.st b;let#[U,h2]:=S.ob;show#[_,(aj (aF (pm (pm (pv 0) T.cl R J ax (aa (pv 1) ai)) TS.cl GE J ax (aa (pm (pv 0) T.cl O J ax (aa (pv 1) ai)) ai)))),?_];show#[0,I.pg,dx,0,h1,cQ _ _ ao ao ao ao ao,0,M,I,s',k,b,n,rfl,G,L,?_];show#[_,U,0,h2,aW _ _ ao ao,?_];show#[0,I.pg,dx,0,h1,cQ _ _ ao ao ao ao ao,0,M,I,s',k,b,n,rfl,G,L,?_];show#[2,_,M,2,n,cs,rfl,S,G.le b,by rw[fA N];show hc,by rw[show(n:Int).toNat=n from MX n];show Y,q]
end
theorem aR.off {C p ow co:Addr}{B M:Addr->Prop}{os:List Int}{pg:List (Option (List Int))}{H H':Hp}(S:aR C H M p ow co os pg) (h:Off B H H') (L:∀b,B b->M b) (O:¬ B p) (G:¬ B ow) (R:¬ B co):aR C H' M p ow co os pg:=by
 let#[#[dx,h1],N,cs,I,J]:=S;show#[#[dx,h _ _ h1 O],h _ _ N G,cs,h _ _ I R,iQ h L J]
structure PA.Ok (A:PA) (M:Addr->Prop):Prop where
 ds:[A.pg,A.fp,A.fo,A.fc,A.sp,A.so,A.sc,A.pd,A.il].Nodup
 mm:∀x∈[A.pg,A.fp,A.fo,A.fc,A.sp,A.so,A.sc,A.pd,A.il],M x
noncomputable def PA.own (A:PA):Addr->Prop:=λb=>b∈[A.pg,A.fo,A.fc,A.so,A.sc,A.pd,A.il]
noncomputable abbrev qV:LI:=inClass (top 14) 8
theorem mW {α:Type}{l:List α}(h:l.Nodup) (i j:Nat) {a b:α}(hi:l[i]?=some a) (J:l[j]?=some b) (L:i≠j):a≠b:=by
 let#[h1,I]:=List.getElem?_eq_some_iff.mp hi;let#[h2,G]:=List.getElem?_eq_some_iff.mp J;have q:=List.pairwise_iff_getElem.mp h;rcases Nat.lt_or_gt_of_ne L with z|z
 .rw[<-I, <-G];show q i j h1 h2 z
 .rw[<-I, <-G];show G0 (q j i h2 h1 z)
theorem gE {a b c:Addr}(h1:a≠b) (h2:a≠c):¬ (a=b\/a=c):=λz=>z.elim h1 h2
theorem Im {M:Addr->Prop}{a b:Addr}(h1:M a) (h2:M b):∀c,c=a\/c=b->M c:=λc z=>z.elim (λe=>by rw[e];show h1) λe=>by rw[e];show h2
theorem in1 {M:Addr->Prop}{a:Addr}(h1:M a):∀c,c=a->M c:=λc e=>by rw[e];show h1
section
variable {A:PA}{M:Addr->Prop}
theorem PA.Ok.n (ok:A.Ok M) (i j:Nat) {a b:Addr}(hi:[A.pg,A.fp,A.fo,A.fc,A.sp,A.so,A.sc,A.pd,A.il][i]?=some a) (G:[A.pg,A.fp,A.fo,A.fc,A.sp,A.so,A.sc,A.pd,A.il][j]?=some b) (I:i≠j):a≠b:=mW ok.ds i j hi G I
theorem PA.Ok.m (ok:A.Ok M) (i:Nat) {a:Addr}(hi:[A.pg,A.fp,A.fo,A.fc,A.sp,A.so,A.sc,A.pd,A.il][i]?=some a):M a:=ok.mm a (Ld hi)
theorem PA.fg (i:Nat) {a:Addr}(hi:[A.pg,A.fo,A.fc,A.so,A.sc,A.pd,A.il][i]?=some a):A.own a:=Ld hi
theorem PA.Ok.own (ok:A.Ok M):∀b,A.own b->M b:=by
 intro b h;unfold PA.own at h;simp only[LO,Lm,or_false]at h;rcases h with h|h|h|h|h|h|h<;>rw[h]
 .show ok.m 0 rfl
 .show ok.m 2 rfl
 .show ok.m 3 rfl
 .show ok.m 5 rfl
 .show ok.m 6 rfl
 .show ok.m 7 rfl
 .show ok.m 8 rfl
theorem bL.alive {C CS:Addr}{H H':Hp}{s:Pg.PS}(G:bL C CS H' M A s) (o:Off A.own H H') (mt:∀b,M b->H b≠none):∀b,M b->H' b≠none:=by
 intro b L e;by_cases z:A.own b
 .unfold PA.own at z;simp only[LO,Lm,or_false]at z;let#[dx,h1]:=G.ob;let#[_,J,_]:=G.fr.hc;let#[_,N,_]:=G.sl.hc;let#[l,O,_]:=G.pd;rcases z with z|z|z|z|z|z|z<;>rw[z]at e
  .rw[h1]at e;cases e
  .rw[G.fr.hw]at e;cases e
  .rw[J]at e;cases e
  .rw[G.sl.hw]at e;cases e
  .rw[N]at e;cases e
  .rw[O]at e;cases e
  .rw[G.il]at e;cases e
 .cases I:H b with
  |none=>show mt b L I
  |some o'=>rw[o b o' I z]at e;cases e
theorem bL.keep {C CS:Addr}{H H':Hp}{s:Pg.PS}(G:bL C CS H M A s) (h:Off (λ_=>False) H H'):bL C CS H' M A s:=by
 let#[dx,h1]:=G.ob;let#[l,hd,N,L,I,O]:=G.pd;show#[#[dx,h _ _ h1 id],G.fr.keep h,G.sl.keep h,h _ _ G.il id,G.le,#[l,h _ _ hd id,N,λx J=>h _ _ (L x J) id,I,O]]
theorem bL.mQ {C CS:Addr}{H:Hp}{s:Pg.PS}(G:bL C CS H M A s) (ok:A.Ok M) (r:List Int):bL C CS (upd H A.il (.lst (r.map V.int))) M A { s with inf:=r }:=by
 have o:Off (· = A.il) H (upd H A.il (.lst (r.map V.int))):=λb o e z=>(by rw[ag z];show e);let#[dx,h1]:=G.ob;let#[l,hd,N,J,L,O]:=G.pd;show#[#[dx,o _ _ h1 (ok.n 0 8 rfl rfl av)],G.fr.off o (in1 (ok.m 8 rfl)) (ok.n 1 8 rfl rfl av) (ok.n 2 8 rfl rfl av) (ok.n 3 8 rfl rfl av),G.sl.off o (in1 (ok.m 8 rfl)) (ok.n 4 8 rfl rfl av) (ok.n 5 8 rfl rfl av) (ok.n 6 8 rfl rfl av),ae,G.le,
  #[l,o _ _ hd (ok.n 7 8 rfl rfl av),N,λx I=>o _ _ (J x I) (cJ (J x I) G.il (by intro z;cases z)),L,O]]
theorem bL.EL {C CS:Addr}{H:Hp}{s s':Pg.PS}(G:bL C CS H M A s) (I:s'.ow=s.ow) (J:s'.co=s.co) (R:s'.ls=s.ls) (U:s'.inf=s.inf) (O:∀j,s'.pl j=s.pl j):bL C CS H M A s':=by
 let#[l,hd,S,N,L,Y]:=G.pd;show#[by rw[R];show G.ob,by rw[I,J];show G.fr,by rw[I,J];show G.sl,by rw[U];show G.il,by rw[I];show G.le,#[l,hd,S,N,λj=>by rw[O];show L j,Y]]
theorem CP {H:Hp}{l:Et}{f:Int->Option (Bool×Nat)}{k:Int}{t:Addr}{b:Bool}{n:Nat}(N:(l.map (·.1)).Nodup) (O:∀x∈l,H x.2.1=some (.tup (kK x.2.2.1 x.2.2.2))) (J:∀j,(Tb.look l j).map (·.2)=f j) (U:l.length<=999\/(f k≠none/\l.length<=1000)) (L:H t=some (.tup (kK b n))) :
  ∃I:Et,putK (Tb.dk sk l) (Sum.inl k) (.ref t)=Tb.dk sk I/\(I.map (·.1)).Nodup/\(∀x∈I,H x.2.1=some (.tup (kK x.2.2.1 x.2.2.2)))/\(∀j,(Tb.look I j).map (·.2)=Pg.dA f k (some (b,n)) j)/\I.length<=1000:=by
 have R:∀I:Et,(∀j,Tb.look I j=if j=k then some (t,b,n)else Tb.look l j)->∀j,(Tb.look I j).map (·.2)=Pg.dA f k (some (b,n)) j:=by
  intro I h j;rw[h j];by_cases e:j=k
  .rw[Q0 e,e,Pg.bp];rfl
  .rw[QZ e,Pg.aJ e];show J j
 cases e:Tb.look l k with
 |none =>
  have S:f k=none:=(by rw[<-J k,e];rfl);show#[l++[(k,(t,b,n))],Tb.cF (f:=sk) (a:=(t,b,n)) e,?_,λx G=>?_,R _ λj=>Tb.br j e,?_]
  .rw[Ln];show fQ N (Tb.bP e)
  .rcases List.mem_append.mp G with G|G
   .show O x G
   .rw[List.mem_singleton.mp G];show L
  .rw[Li,Mb];rcases U with h|h
   .omega
   .show absurd S h.1
 |some y =>
  show#[Tb.aU l k (t,b,n),Tb.iC (f:=sk) (a:=(t,b,n)) e,by rw[Tb.fN];show N,λx G=>?_,R _ λj=>Tb.bO j e,?_]
  .rcases Tb.mem_set G with rfl|⟨G,_⟩
   .show L
   .show O x G
  .rw[Tb.gK];omega
theorem bL.BE {C CS t:Addr}{H:Hp}{s:Pg.PS}{l:Et}{f:Int->Option (Bool×Nat)}{k:Int}{b:Bool}{n:Nat}(ok:A.Ok M)
  (ob:∃dx,H A.pg=some (.ins C dx (cO A s.ls))) (Y:aR CS H M A.fp A.fo A.fc (s.ow true) (s.co true)) (sl:aR CS H M A.sp A.so A.sc (s.ow false) (s.co false)) (R:H A.il=some (.lst (s.inf.map V.int))) (le:∀b,(s.ow b).length<=60)
  (hd:H A.pd=some (.dK (Tb.dk sk l))) (nd:(l.map (·.1)).Nodup) (ht:∀x∈l,H x.2.1=some (.tup (kK x.2.2.1 x.2.2.2))) (S:∀j,(Tb.look l j).map (·.2)=f j) (ab:l.length<=999\/(f k≠none/\l.length<=1000)) (U:H t=some (.tup (kK b n))) (L:∀j,s.pl j=Pg.dA f k (some (b,n)) j) :
  bL C CS (upd H A.pd (.dK (putK (Tb.dk sk l) (Sum.inl k) (.ref t)))) M A s:=by
 have o:Off (· = A.pd) H (upd H A.pd (.dK (putK (Tb.dk sk l) (Sum.inl k) (.ref t)))):=λb o e z=>(by rw[ag z];show e);let#[l',J,O,G,N,e5]:=CP (k:=k) nd ht S ab U;let#[dx,h1]:=ob;show#[#[dx,o _ _ h1 (ok.n 0 7 rfl rfl av)],Y.off o (in1 (ok.m 7 rfl)) (ok.n 1 7 rfl rfl av) (ok.n 2 7 rfl rfl av) (ok.n 3 7 rfl rfl av),sl.off o (in1 (ok.m 7 rfl)) (ok.n 4 7 rfl rfl av) (ok.n 5 7 rfl rfl av) (ok.n 6 7 rfl rfl av),o _ _ R (ok.n 8 7 rfl rfl av),le,
  #[l',by rw[ae,J],O,λx I=>o _ _ (G x I) (cJ (G x I) hd (by intro z;cases z)),λj=>by rw[L j];show N j,e5]]
theorem lK {α:Type}{k:Int}:∀{l:List (Int×α)},(l.map (·.1)).Nodup->l.length<=(Tb.bg l k).length+1
 | [],_=>LD _
 |x::r,h=>by
  let#[G,L]:=List.nodup_cons.mp (show(x.1::r.map (·.1)).Nodup from h);have J:=lK (k:=k) L;unfold Tb.bg at J ⊢;rw[Mw];by_cases c:x.1=k
  .rw[QZ (by simp[c])];have:r.filter (λx=>decide (x.1≠k))=r:=by
    rw[Ob];intro y I;have:y.1≠k:=λe=>G (by rw[c, <-e];show List.mem_map.mpr #[y,I,rfl]);simpa using this
   rw[this,Lo];show HC _
  .rw[Q0 (by simpa using c),Lo,Lo];omega
theorem Cc {s:Pg.PS}(G:Pg.Good s) (le:∀b,(s.ow b).length<=60) {l:Et}(S:(l.map (·.1)).Nodup) (I:∀x∈l,s.pl x.1=some x.2.2):l.length<=120:=by
 have lt:∀x∈l,x.2.2.2<60:=λx J=>by
  let#[cs,c,_,h2,_,_]:=G.va x.1 x.2.2.1 x.2.2.2 (I x J);have h3:=(List.getElem?_eq_some_iff.mp h2).1;have h4:=le x.2.2.1;omega
 have:=Tb.BZ 120 0 (l.map λx=>if x.2.2.1=true then(x.2.2.2:Int)else 60+(x.2.2.2:Int)) ?_ ?_
 .rwa [BY]at this
 .show List.pairwise_map.mpr ((List.pairwise_map.mp S).imp_of_mem ?_);intro a b R N U e;have h1:=lt a R;have h2:=lt b N;show U (G.inj a.1 b.1 b.2.2 ?_ (I b N));rw[I a R];congr 1;have e:(if a.2.2.1=true then(a.2.2.2:Int)else 60+(a.2.2.2:Int))=if b.2.2.1=true then(b.2.2.2:Int)else 60+(b.2.2.2:Int):=e
  show PX ?_ ?_
  .cases L:a.2.2.1<;>cases O:b.2.2.1
   .rfl
   .rw[L,O,QZ av,Q0 rfl]at e;omega
   .rw[L,O,Q0 rfl,QZ av]at e;omega
   .rfl
  .split at e<;>split at e<;>omega
 .intro x J;let#[y,Y,rfl]:=List.mem_map.mp J;have h1:=lt y Y;split<;>omega
theorem wK {s:Pg.PS}(G:Pg.Good s) (le:(s.ow true).length<=60):s.inf.length<=60:=by
 have:=Tb.BZ 60 0 (s.inf.map λk=>match s.pl k with|some p=>(p.2:Int)|none=>0) ?_ ?_
 .rwa [BY]at this
 .show List.pairwise_map.mpr (G.nd.imp_of_mem ?_);intro a b S N O e;let#[n,I]:=(G.fi a).mp S;let#[m,J]:=(G.fi b).mp N;rw[I,J]at e;have e:(n:Int)=m:=e;have e:n=m:=af;subst e;show O (G.inj _ _ _ I J)
 .intro x L;let#[y,R,rfl]:=List.mem_map.mp L;let#[n,I]:=(G.fi y).mp R;let#[cs,c,_,h2,_,_]:=G.va _ _ _ I;have U:=(List.getElem?_eq_some_iff.mp h2).1;rw[I];change 0<=(n:Int)/\(n:Int)<0+(60:Nat);omega
end
section
variable {P:IF}{w:Ll}{K:PySem.W.Frag}{mg:Str->Option Value}{base:Heap}
inductive nQ (C CS:Addr) (vs:List V) (H:Hp) (Q:VK) (e3:XK):Prop
 |mk (M:Addr->Prop) (A:PA) (s:Pg.PS) (k:Int) (n:Nat) (cs:List Int) (c:Nat) (_:vs=[.ref A.pg,.int k]) (_:bL C CS H M A s) (_:A.Ok M) (_:(∀b,M b->H b≠none)) (_:s.pl k=some (true,n)) (_:Pg.Vw s k cs c) (_:¬ k∈s.inf) (_:(0:Int)∈s.ow false) (_:(∀b,(s.co b).length=(s.ow b).length)) (_:1<=c) (_:c<=1000) (_:∀H':Hp,bL C CS H' M A (Pg.out s k n cs c)->Off A.own H H'->Q .non H'):nQ C CS vs H Q e3
theorem Gy:aC ["self","sheet","moved"] ["self","sheet"] (aw qV):=L2.bG
theorem wa {f C CS:Addr}{fd:GX}(F:cM K "put_out" "Paging.put_out" qV f fd) (T:qQ K mg C) (a5:Df P w K mg base aS 4 "lift" (rV CS)) (ab:Df P w K mg base aS 4 "settle" (jH CS)) (ac:Md P w K mg base aS 2 C "number_of" (dt C CS)):a8 P w K mg base aS 5 f fd ["self","sheet"] (nQ C CS):=by
 show F.ok Gy (λvs H Q E h=>?_) (λba A outer s H vs Q E O h=>?_)
 .let#[M,I,s',k,n,cs,c,rfl,_]:=h;rfl
 .let#[M,I,s',k,n,cs,c,rfl,G,ok,mt,S,hv,ni,h0,am,c1,c2,q]:=h;let#[dx,h1]:=G.ob;let#[b',n',e1,e2,e3]:=hv;rw[S]at e1;cases e1;let#[l,hd,nd,L,hl,aT]:=G.pd;have hs:sizeLine=16777216:=Lh;show#[_,(ah (aO (i:=2) Gy.nd rfl (Lc rfl) (pc a5 O ax (aa (aL (pv 0) rfl) (aa (pm (pv 0) T.cl ac O ax (aa (pv 1) ai)) ai))))
   (aj (jx (aZ O) (aL (pv 0) rfl) (pv 1) (cR (aa aI (aa (pc ab O ax (aa (aL (pv 0) rfl) (aa (pv 2) ai))) ai))) rfl))),?_]
  show#[0,I.pg,C,dx,_,0,h1,T.cl,T.nF,pU _ _,?_];show#[0,I.pg,dx,0,h1,cQ _ _ ao ao ao ao ao,0,M,I,s',k,true,n,rfl,G,S,?_];show#[I.fp,I.fo,I.fc,M,2,n,cs,c,rfl,G.fr,ok.m 2 rfl,ok.m 3 rfl,mt,ok.n 2 3 rfl rfl av,G.le true,e3,c1,c2,e2,?_];intro H1 t l0 ft a0 nl a4 Y R;have a1:=R _ _ h1 (gE (ok.n 0 2 rfl rfl av) (ok.n 0 3 rfl rfl av));have a3:=G.sl.off R (Im (ok.m 2 rfl) (ok.m 3 rfl)) (gE (ok.n 4 2 rfl rfl av) (ok.n 4 3 rfl rfl av)) (gE (ok.n 5 2 rfl rfl av) (ok.n 5 3 rfl rfl av)) (gE (ok.n 6 2 rfl rfl av) (ok.n 6 3 rfl rfl av));show#[0,I.pg,C,dx,_,0,a1,T.cl,T.nS,xr _ _,0,I.sp,I.so,I.sc,t,l0,M,2,cs,c,rfl,a3,ok.m 5 rfl,ok.m 6 rfl,pP Y R mt,ok.n 5 6 rfl rfl av,(am false).symm,G.le false,h0,a0,a4,nl,c1,c2,?_];intro H2 S2 O2;show#[by change 2<=sizeLine;decide,λu U=>?_];have ap:=(Y.off O2 (Im (ok.m 5 rfl) (ok.m 6 rfl)) (gE (ok.n 1 5 rfl rfl av) (ok.n 1 6 rfl rfl av)) (gE (ok.n 2 5 rfl rfl av) (ok.n 2 6 rfl rfl av)) (gE (ok.n 3 5 rfl rfl av) (ok.n 3 6 rfl rfl av))).keep (cW (o:=.tup (kK false ((s'.ow false).idxOf 0))) U);have as:=S2.keep (cW (o:=.tup (kK false ((s'.ow false).idxOf 0))) U);have N:∀b o,H b=some o->¬ (b=I.fo\/b=I.fc)->¬ (b=I.so\/b=I.sc)->upd H2 u (.tup (kK false ((s'.ow false).idxOf 0))) b=some o:=λb o e z1 z2=>cW U b o (O2 b o (R b o e z1) z2) id;have hu:upd H2 u (.tup (kK false ((s'.ow false).idxOf 0))) u=some (.tup (kK false ((s'.ow false).idxOf 0))):=ae;have kd:=N _ _ hd (gE (ok.n 7 2 rfl rfl av) (ok.n 7 3 rfl rfl av)) (gE (ok.n 7 5 rfl rfl av) (ok.n 7 6 rfl rfl av));have ko:=N _ _ h1 (gE (ok.n 0 2 rfl rfl av) (ok.n 0 3 rfl rfl av)) (gE (ok.n 0 5 rfl rfl av) (ok.n 0 6 rfl rfl av));have ki:=N _ _ G.il (gE (ok.n 8 2 rfl rfl av) (ok.n 8 3 rfl rfl av)) (gE (ok.n 8 5 rfl rfl av) (ok.n 8 6 rfl rfl av));have a6:=G.fr.hw;have a7:=G.sl.hw;let#[_,a2,_]:=G.fr.hc;let#[_,aB,_]:=G.sl.hc;have kt:∀x∈l,upd H2 u (.tup (kK false ((s'.ow false).idxOf 0))) x.2.1=some (.tup (kK x.2.2.1 x.2.2.2)):=λx J=>N _ _ (L x J) (gE (cJ (L x J) a6 (by intro z;cases z)) (cJ (L x J) a2 (by intro z;cases z))) (gE (cJ (L x J) a7 (by intro z;cases z)) (cJ (L x J) aB (by intro z;cases z)));change DK K _ _ _ (upd H2 u (.tup (kK false ((s'.ow false).idxOf 0)))) _;generalize upd H2 u (.tup (kK false ((s'.ow false).idxOf 0)))=H3 at *;show#[0,I.pg,C,dx,_,0,ko,T.cl,T.nP,oY _ _,0,I.pd,0,gB.k (k:=Sum.inl k) kd (by rw[Tb.bW];omega),?_];show q _ (bL.BE (s:=Pg.out s' k n cs c) (f:=s'.pl) (b:=false) (n:=(s'.ow false).idxOf 0) ok #[dx,ko] ap as ?_ ?_ kd nd kt hl (.inr #[by rw[S];simp,aT]) hu ?_) ?_
  .change H3 I.il=some (.lst ((s'.inf.erase k).map V.int));rw[List.erase_of_not_mem ni];show ki
  .intro b;cases b
   .change(List.set _ _ _).length<=60;rw[LR];show G.le false
   .change(List.set _ _ _).length<=60;rw[LR];show G.le true
  .intro j;by_cases e:j=k
   .subst e;show Pg.bp.trans Pg.bp.symm
   .show(Pg.aJ e).trans ((Pg.aJ e).trans (Pg.aJ e).symm)
  .intro b o e z;rw[ag (λy=>z (by rw[y];show PA.fg 5 rfl))];show N b o e (λy=>z (y.elim (λy=>by rw[y];show PA.fg 1 rfl) λy=>by rw[y];show PA.fg 2 rfl)) (λy=>z (y.elim (λy=>by rw[y];show PA.fg 3 rfl) λy=>by rw[y];show PA.fg 4 rfl))
noncomputable abbrev nH:LI:=inClass (top 14) 7
inductive iO (C CS:Addr) (vs:List V) (H:Hp) (Q:VK) (e3:XK):Prop
 |mk (M:Addr->Prop) (A:PA) (s:Pg.PS) (k:Int) (t l:Addr) (cs:List Int) (c:Nat) (_:vs=[.ref A.pg,.int k,.ref t]) (_:bL C CS H M A s) (_:A.Ok M) (_:(∀b,M b->H b≠none)) (_:Pg.Good { s with pl:=Pg.dA s.pl k none }) (_:((0:Int)∈s.ow true\/(0:Int)∈s.ow false)) (_:s.ow true≠[]) (_:(∀b,∀x∈s.ow b,x<=1000)) (_:H t=some (.tup [.ref l,.int c])) (_:H l=some (.lst (cs.map V.int))) (_:¬ M l) (_:1<=c) (_:c<=1000) (_:∀(H':Hp) (s':Pg.PS),Pg.BI { s with pl:=Pg.dA s.pl k none } k cs c s'->bL C CS H' M A s'->Off A.own H H'->Q .non H'):iO C CS vs H Q e3
theorem sO (A:PA) (n:Int):(cO A n).lookup ("in_frames" : Str)=some (.ref A.il):=by
 unfold cO;rw[aE,Q0 rfl]
theorem Ka:aC ["self","sheet","moved"] ["self","sheet","moved"] (aw nH):=L2.bG
theorem tP {f C CS:Addr}{fd:GX}(F:cM K "bring_in" "Paging.bring_in" nH f fd) (T:qQ K mg C) (TS:Txt K mg CS) (GF:Md P w K mg base aS 1 CS "free" (p5 CS)) (bn:Md P w K mg base aS 5 C "put_out" (nQ C CS)) (a6:Df P w K mg base aS 4 "settle" (jH CS)):a8 P w K mg base aS 6 f fd ["self","sheet","moved"] (iO C CS):=by
 show F.ok Ka (λvs H Q E h=>?_) (λb4 A outer s H vs Q E hr h=>?_)
 .let#[M,I,s',k,t,l,cs,c,rfl,_]:=h;rfl
 .let#[M,I,s',k,t,l0,cs,c,rfl,G,ok,mt,gd,hf,hn,hb,N,bz,nl,c1,c2,q]:=h;let#[dx,h1]:=G.ob;let#[bd,h2]:=G.fr.ob;have hs:sizeLine=16777216:=Lh;have be:¬ I.own l0:=λz=>nl (ok.own _ z);show#[_,(ah (aV (aA bH (qx (aL (pv 0) rfl) TS.cl GF hr ax) ak (aH _)) (aj (aM (pm (pv 0) T.cl bn hr ax (aa (iY Mi PySem.F.slot_list_pop PySem.F.type_list_pop Bs (aL (pv 0) rfl) (aa ak ai)) ai)))) aG)
   (ah (jx (aZ hr) (aL (pv 0) rfl) (pv 1) (cR (aa aI (aa (pc a6 hr ax (aa (aL (pv 0) rfl) (aa (pv 2) ai))) ai))) rfl)
   (aj (aM (iY Mi PySem.F.slot_list_append PySem.F.type_list_append oQ (aL (pv 0) rfl) (aa (pv 1) ai)))))),?_]
  show share (λσ H9=>Bb λ(J s2:Pg.PS)=>HW (σ=[some (.ref I.pg),some (.int k),some (.ref t)]) (bL C CS H9 M I J) (s2.ow=J.ow) (s2.co=J.co) (s2.ls=J.ls) (s2.inf=J.inf) ((∀j,j≠k->s2.pl j=J.pl j)) (Pg.Good s2) ((0:Int)∈s2.ow true) (Pg.BI { s' with pl:=Pg.dA s'.pl k none } k cs c (Pg.xE s2 true k cs c)) (Off I.own H H9)) (λu' aB=>?A) ?B
  case A =>
   show#[0,I.pg,C,dx,_,0,h1,T.cl,T.nF,pU _ _,I.fp,bd,0,h2,aW _ _ ao ao,I.fp,I.fo,I.fc,M,_,0,G.fr,rfl,0,?_];show gf (λz'=>?_) (λz'=>?_)
   rotate_left
   .have z:(0:Int)∈s'.ow true:=Nt λn=>z' (by rw[List.count_eq_zero.mpr n];simp);show aB _ _ #[s', { s' with pl:=Pg.dA s'.pl k none },rfl,G,1,1,λj hj=>Pg.aJ hj,gd,z,.free z,λb o e _=>e]
   .have z:¬ (0:Int)∈s'.ow true:=List.count_eq_zero.mp (by
     have:(((s'.ow true).count 0:Nat):Int)=0:=(by simpa using z');omega)
    rcases Pg.Hs gd hf hn with h|⟨_,ap,k0,r,n0,as,c0,hi,R,ab⟩
    .show absurd h z
    .have bc:k0≠k:=λe=>by
      have R:Pg.dA s'.pl k none k0=some (true,n0):=R;rw[e,Pg.bp]at R;cases R
     have hi:s'.inf=k0::r:=hi;have bY:=(gd.vw ab).1;let#[og,_,_,bm,_,_,bI]:=Pg.tM gd R ab ap;let#[b1,n1,e1,e2,e3]:=id ab;rw[R]at e1;cases e1;have aT:s'.pl k0=some (true,n0):=(by rw[<-R];show(Pg.aJ bc).symm);have b2:=hb true c0 (Ld e3);obtain⟨a0,rfl⟩:∃c':Nat,c0=c':=#[c0.toNat,af];have O:=gd.nd;have O:s'.inf.Nodup:=O;rw[hi]at O;let#[n1,n2]:=List.nodup_cons.mp O;have L:=G.mQ ok r;have Y:Off I.own H (upd H I.il (.lst (r.map V.int))):=λb o e z=>(by rw[ag (λy=>z (by rw[y];show PA.fg 6 rfl))];show e);have ac:=G.il;rw[hi]at ac;show#[0,I.pg,dx,0,h1,cQ _ _ ao ao ao ao ao,0,I.pg,C,dx,_,0,h1,T.cl,T.nI,sO _ _,.inl #[5,bA.of ac],I.il,_,(0),(0),.int k0,1,ac,av,av,Oh (Int.le_refl _) (by rw[BY,Lo];omega),4];show#[M,I,_,k0,n0,as,a0,rfl,L,ok,L.alive Y mt,aT,#[true,n0,aT,e2,e3],n1,ap,gd.ln,af,af,λH2 G2 O2=>?_];show aB _ _ #[_,Pg.out { s' with pl:=Pg.dA s'.pl k none } k0 n0 as a0,rfl,G2,1,rfl,3,og,bm,.full z ap hi R ab,λb o e y=>O2 b o (Y b o e y) y]
     .change s'.inf.erase k0=r.erase k0;rw[hi,List.erase_cons_head,List.erase_of_not_mem n1]
     .intro j hj;by_cases e:j=k0
      .subst e;show Pg.bp.trans Pg.bp.symm
      .show(Pg.aJ e).trans ((Pg.aJ e).trans ((Pg.aJ hj).trans ((Pg.aJ e).trans (Pg.aJ e)).symm))
  case B =>
   rintro σ H9 ⟨J,s2,rfl,L,S,w2,w3,w4,w5,g2,z0,a4,Y⟩;let#[am,h3]:=L.ob;have bC:H9 t=some (.tup [.ref l0,.int c]):=Y _ _ N λy=>by
    let#[_,q1,_]:=G.fr.hc;let#[_,q2,_]:=G.sl.hc;let#[_,q3,_]:=G.pd;have q4:=G.fr.hw;have q5:=G.sl.hw;have q6:=G.il;unfold PA.own at y;simp only[LO,Lm,or_false]at y;rcases y with y|y|y|y|y|y|y<;>rw[y]at N
    .rw[h1]at N;cases N
    .rw[q4]at N;cases N
    .rw[q1]at N;cases N
    .rw[q5]at N;cases N
    .rw[q2]at N;cases N
    .rw[q3]at N;cases N
    .rw[q6]at N;cases N
   have a7:=Y _ _ bz be;let#[l,hd,O,ht,hl,b0]:=L.pd;have a3:l.length<=999:=by
    have a1:=lK (k:=k) O;have a2:=Cc g2 (λb=>by rw[S];show L.le b) (l:=Tb.bg l k) (by rw[Tb.jA];show O.filter _) λx U=>by
     let#[U,bl]:=Tb.cf U;have:=hl x.1;rw[Tb.bK O U]at this;rw[w5 x.1 bl, <-this];rfl
    omega
   rw[S]at z0;have ba:(J.co true).length=(J.ow true).length:=(by rw[<-S, <-w2];show g2.ln true);show#[0,I.pg,C,am,_,0,h3,T.cl,T.nF,pU _ _,0,I.fp,I.fo,I.fc,t,l0,M,2,cs,c,rfl,L.fr,ok.m 2 rfl,ok.m 3 rfl,L.alive Y mt,ok.n 2 3 rfl rfl av,ba.symm,L.le true,z0,bC,a7,nl,c1,c2,?_];intro H2 S2 O2;show#[by change 2<=sizeLine;decide,λu fu=>?_];have a5:=S2.keep (cW (o:=.tup (kK true ((J.ow true).idxOf 0))) fu);have bb:=(L.sl.off O2 (Im (ok.m 2 rfl) (ok.m 3 rfl)) (gE (ok.n 4 2 rfl rfl av) (ok.n 4 3 rfl rfl av)) (gE (ok.n 5 2 rfl rfl av) (ok.n 5 3 rfl rfl av)) (gE (ok.n 6 2 rfl rfl av) (ok.n 6 3 rfl rfl av))).keep (cW (o:=.tup (kK true ((J.ow true).idxOf 0))) fu);have kp:∀b o,H9 b=some o->¬ (b=I.fo\/b=I.fc)->upd H2 u (.tup (kK true ((J.ow true).idxOf 0))) b=some o:=λb o e z1=>cW fu b o (O2 b o e z1) id;have hu:upd H2 u (.tup (kK true ((J.ow true).idxOf 0))) u=some (.tup (kK true ((J.ow true).idxOf 0))):=ae;have kd:=kp _ _ hd (gE (ok.n 7 2 rfl rfl av) (ok.n 7 3 rfl rfl av));have ko:=kp _ _ h3 (gE (ok.n 0 2 rfl rfl av) (ok.n 0 3 rfl rfl av));have ki:=kp _ _ L.il (gE (ok.n 8 2 rfl rfl av) (ok.n 8 3 rfl rfl av));have bx:=L.fr.hw;let#[_,bi,_]:=L.fr.hc;have kt:∀x∈l,upd H2 u (.tup (kK true ((J.ow true).idxOf 0))) x.2.1=some (.tup (kK x.2.2.1 x.2.2.2)):=λx U=>kp _ _ (ht x U) (gE (cJ (ht x U) bx (by intro z;cases z)) (cJ (ht x U) bi (by intro z;cases z)));change DK K _ _ _ (upd H2 u (.tup (kK true ((J.ow true).idxOf 0)))) _;generalize upd H2 u (.tup (kK true ((J.ow true).idxOf 0)))=H3 at *;show#[0,I.pg,C,am,_,0,ko,T.cl,T.nP,oY _ _,0,I.pd,0,gB.k (k:=Sum.inl k) kd (by rw[Tb.bW];omega),?_];have G4:=bL.BE (C:=C) (CS:=CS) (s:={ Pg.xE J true k cs c with inf:=J.inf }) (f:=J.pl) (k:=k) (b:=true) (n:=(J.ow true).idxOf 0) ok #[am,ko] a5 bb ki (λb=>by
    cases b
    .show L.le false
    .change(List.set _ _ _).length<=60;rw[LR];show L.le true) kd O kt hl (.inl a3) hu (λj=>rfl)
   have O4:Off I.own H (upd H3 I.pd (.dK (putK (Tb.dk sk l) (Sum.inl k) (.ref u)))):=λb o e z=>by
    rw[ag (λy=>z (by rw[y];show PA.fg 5 rfl))];show kp b o (Y b o e z) (λy=>z (y.elim (λy=>by rw[y];show PA.fg 1 rfl) λy=>by rw[y];show PA.fg 2 rfl))
   generalize upd H3 I.pd (.dK (putK (Tb.dk sk l) (Sum.inl k) (.ref u)))=H4 at *;let#[bv,h4]:=G4.ob;have b3:J.inf.length<=60:=(by rw[<-w4];show wK g2 (by rw[S];show L.le true));show#[0,I.pg,C,bv,_,0,h4,T.cl,T.nI,sO _ _,.inl #[5,bA.of G4.il],0,I.il,_,.int k,1,G4.il,by rw[BY];change J.inf.length<_;omega,?_];have G5:=G4.mQ ok (J.inf++[k]);rw[Ln]at G5;show q _ _ a4 (G5.EL ?_ ?_ w3 ?_ ?_) λb o e z=>by
    rw[ag (λy=>z (by rw[y];show PA.fg 6 rfl))];show O4 b o e z
   .change Pg.upd s2.ow true _=Pg.upd J.ow true _;rw[S]
   .change Pg.upd s2.co true _=Pg.upd J.co true _;rw[S,w2]
   .change s2.inf++[k]=J.inf++[k];rw[w4]
   .intro j;change Pg.dA s2.pl k _ j=Pg.dA J.pl k _ j;by_cases e:j=k
    .rw[e,Pg.bp,Pg.bp,S]
    .rw[Pg.aJ e,Pg.aJ e];show w5 j e
end
end St
namespace Pg
theorem sR {α:Type}{f:Bool->α}{b:Bool}:upd f b (f b)=f:=by
 funext c;by_cases e:c=b
 .rw[e,ae]
 .rw[aX e]
theorem x9 {α:Type}{f:Int->α}{k:Int}{v:α}(h:f k=v):dA f k v=f:=by
 funext c;by_cases e:c=k
 .rw[e,bp,h]
 .rw[aJ e]
theorem uM {s:PS}(G:Good s):({ next s with pl:=dA (next s).pl (s.ls+1) none }:PS)=next s:=by
 have e:dA s.pl (s.ls+1) none=s.pl:=x9 (fE G);change PS.mk s.ow s.co (dA s.pl (s.ls+1) none) (s.ls+1) s.inf=PS.mk s.ow s.co s.pl (s.ls+1) s.inf;rw[e]
theorem xJ {s:PS}{k:Int}{n:Nat}(G:Good s) (J:s.pl k=some (false,n)):¬ k∈s.inf:=λh=>by
 let#[m,I]:=(G.fi k).mp h;rw[J]at I;cases I
theorem uP {s:PS}{k:Int}{n:Nat}(G:Good s) (I:s.pl k=some (false,n)):({ cD s false n 0 with pl:=dA (cD s false n 0).pl k none }:PS)=oN s k false n:=by
 change PS.mk (upd s.ow false ((s.ow false).set n 0)) s.co (dA s.pl k none) s.ls s.inf=PS.mk (upd s.ow false ((s.ow false).set n 0)) s.co (dA s.pl k none) s.ls (s.inf.erase k);rw[List.erase_of_not_mem (xJ G I)]
noncomputable def Cb (s:PS):Prop:=∀b,∀x∈s.ow b,x<=1000
theorem EG {ow:Bool->List Int}{b:Bool}{n:Nat}{x:Int}(h:∀b,∀x∈ow b,x<=1000) (I:x<=1000):∀c,∀y∈upd ow b ((ow b).set n x) c,y<=1000:=by
 intro c y G;by_cases e:c=b
 .rw[e,ae]at G;rcases List.mem_or_eq_of_mem_set G with h' |h'
  .show h b y h'
  .rw[h'];show I
 .rw[aX e]at G;show h c y G
end Pg
namespace Pg
theorem RI.cb {s:PS}{es:List Ent}(R:RI s es) (le:∀b,(s.ow b).length<=60):Cb s:=by
 intro b x J;let#[n,G]:=List.getElem?_of_mem J;rcases R.good.on b n x G with e|⟨k,I⟩
 .omega
 .let#[cs,c,h1,h2,_,_]:=R.good.va _ _ _ I;rw[G]at h2;cases h2;have N:=R.ct k cs x #[b,n,I,h1,G];have U:=List.count_le_length (a:=some k) (l:=es);have S:=R.rm;have L:=le true;have O:=le false;omega
end Pg
namespace St
open PySem L2
section
variable {A:PA}{M:Addr->Prop}
theorem Bw (A:PA) (n:Int):(cO A n).lookup ("last_sheet" : Str)=some (.int n):=by
 unfold cO;rw[aE,QZ ao,aE,Q0 rfl]
theorem zi (A:PA) (n:Int):cO A n=([("frames",.ref A.fp),("slots",.ref A.sp),("places",.ref A.pd),("last_sheet",.int n),("in_frames",.ref A.il)]:List (Str×V)):=by
 have O:¬ (("frames" : Str) = "slots"):=ao;have G:¬ (("frames" : Str) = "places"):=ao;have J:¬ (("frames" : Str) = "last_sheet"):=ao;have Y:¬ (("frames" : Str) = "in_frames"):=ao;have I:¬ (("slots" : Str) = "places"):=ao;have L:¬ (("slots" : Str) = "last_sheet"):=ao;have S:¬ (("slots" : Str) = "in_frames"):=ao;have N:¬ (("places" : Str) = "last_sheet"):=ao;have R:¬ (("places" : Str) = "in_frames"):=ao;have U:¬ (("last_sheet" : Str) = "in_frames"):=ao;unfold cO;simp only[bj,QZ O,QZ G,QZ J,QZ Y,QZ I,QZ L,QZ S,QZ N,QZ R,QZ U]
theorem Gg (A:PA) (n m:Int):bj "last_sheet" (.int m) (cO A n)=cO A m:=by
 have G:¬ (("frames" : Str) = "last_sheet"):=ao;have I:¬ (("slots" : Str) = "last_sheet"):=ao;have J:¬ (("places" : Str) = "last_sheet"):=ao;rw[zi,zi];simp only[bj,QZ G,QZ I,QZ J,if_true]
theorem bL.Il {C CS dx:Addr}{H:Hp}{s:Pg.PS}(G:bL C CS H M A s) (ok:A.Ok M) (n:Int):bL C CS (upd H A.pg (.ins C dx (cO A n))) M A { s with ls:=n }:=by
 have o:Off (· = A.pg) H (upd H A.pg (.ins C dx (cO A n))):=λb o e z=>(by rw[ag z];show e);let#[R,h1]:=G.ob;let#[l,hd,N,J,L,O]:=G.pd;show#[#[dx,ae],G.fr.off o (in1 (ok.m 0 rfl)) (ok.n 1 0 rfl rfl av) (ok.n 2 0 rfl rfl av) (ok.n 3 0 rfl rfl av),G.sl.off o (in1 (ok.m 0 rfl)) (ok.n 4 0 rfl rfl av) (ok.n 5 0 rfl rfl av) (ok.n 6 0 rfl rfl av),o _ _ G.il (ok.n 8 0 rfl rfl av),G.le,
  #[l,o _ _ hd (ok.n 7 0 rfl rfl av),N,λx I=>o _ _ (J x I) (cJ (J x I) h1 (by intro z;cases z)),L,O]]
theorem bL.DW {C CS:Addr}{H H':Hp}{s:Pg.PS}(G:bL C CS H M A s) (ok:A.Ok M) (b:Bool) {os:List Int}{pg:List (Option (List Int))}(S:aR CS H' M (A.st b) (A.ow b) (A.co b) os pg) (o:Off (λx=>x=A.ow b\/x=A.co b) H H') (Y:os.length<=60):bL C CS H' M A { s with ow:=Pg.upd s.ow b os,co:=Pg.upd s.co b pg }:=by
 let#[U,h1]:=G.ob;let#[l,hd,N,J,L,O]:=G.pd;have le:∀c,(Pg.upd s.ow b os c).length<=60:=λc=>by
  by_cases e:c=b
  .rw[e,Pg.ae];show Y
  .rw[Pg.aX e];show G.le c
 have hw:=(G.st b).hw;let#[_,hc,_]:=(G.st b).hc;have R:∀x∈l,H' x.2.1=some (.tup (kK x.2.2.1 x.2.2.2)):=λx I=>o _ _ (J x I) (gE (cJ (J x I) hw (by intro z;cases z)) (cJ (J x I) hc (by intro z;cases z)));cases b
 .show#[#[U,o _ _ h1 (gE (ok.n 0 5 rfl rfl av) (ok.n 0 6 rfl rfl av))],G.fr.off o (Im (ok.m 5 rfl) (ok.m 6 rfl)) (gE (ok.n 1 5 rfl rfl av) (ok.n 1 6 rfl rfl av)) (gE (ok.n 2 5 rfl rfl av) (ok.n 2 6 rfl rfl av)) (gE (ok.n 3 5 rfl rfl av) (ok.n 3 6 rfl rfl av)),S,o _ _ G.il (gE (ok.n 8 5 rfl rfl av) (ok.n 8 6 rfl rfl av)),le,
   #[l,o _ _ hd (gE (ok.n 7 5 rfl rfl av) (ok.n 7 6 rfl rfl av)),N,R,L,O]]
 .show#[#[U,o _ _ h1 (gE (ok.n 0 2 rfl rfl av) (ok.n 0 3 rfl rfl av))],S,G.sl.off o (Im (ok.m 2 rfl) (ok.m 3 rfl)) (gE (ok.n 4 2 rfl rfl av) (ok.n 4 3 rfl rfl av)) (gE (ok.n 5 2 rfl rfl av) (ok.n 5 3 rfl rfl av)) (gE (ok.n 6 2 rfl rfl av) (ok.n 6 3 rfl rfl av)),o _ _ G.il (gE (ok.n 8 2 rfl rfl av) (ok.n 8 3 rfl rfl av)),le,
   #[l,o _ _ hd (gE (ok.n 7 2 rfl rfl av) (ok.n 7 3 rfl rfl av)),N,R,L,O]]
theorem bL.zB {C CS:Addr}{H H':Hp}{s:Pg.PS}(G:bL C CS H M A s) (ok:A.Ok M) (b:Bool) {os:List Int}(S:aR CS H' M (A.st b) (A.ow b) (A.co b) os (s.co b)) (o:Off (λx=>x=A.ow b\/x=A.co b) H H') (I:os.length<=60):bL C CS H' M A { s with ow:=Pg.upd s.ow b os }:=
 (G.DW ok b S o I).EL rfl Pg.sR.symm rfl rfl λ_=>rfl
theorem bL.Gq {C CS:Addr}{H H':Hp}{s:Pg.PS}(G:bL C CS H M A s) (ok:A.Ok M) (b:Bool) {pg:List (Option (List Int))}(S:aR CS H' M (A.st b) (A.ow b) (A.co b) (s.ow b) pg) (o:Off (λx=>x=A.ow b\/x=A.co b) H H'):bL C CS H' M A { s with co:=Pg.upd s.co b pg }:=
 (G.DW ok b S o (G.le b)).EL Pg.sR.symm rfl rfl rfl λ_=>rfl
theorem PA.kJ (b:Bool):∀x,x=A.ow b\/x=A.co b->A.own x:=by
 intro x h;cases b
 .rcases h with h|h<;>rw[h]
  .show PA.fg 3 rfl
  .show PA.fg 4 rfl
 .rcases h with h|h<;>rw[h]
  .show PA.fg 1 rfl
  .show PA.fg 2 rfl
theorem PA.Ok.mo (ok:A.Ok M) (b:Bool):M (A.ow b):=ok.own _ (PA.kJ b _ (.inl rfl))
theorem PA.Ok.mc (ok:A.Ok M) (b:Bool):M (A.co b):=ok.own _ (PA.kJ b _ (.inr rfl))
theorem PA.Ok.oc (ok:A.Ok M) (b:Bool):A.ow b≠A.co b:=by
 cases b
 .show ok.n 5 6 rfl rfl av
 .show ok.n 2 3 rfl rfl av
theorem Off.mono {B G:Addr->Prop}{H H':Hp}(o:Off B H H') (h:∀b,B b->G b):Off G H H':=λb u e z=>o b u e λy=>z (h b y)
theorem Off.trans {B:Addr->Prop}{H H' G:Hp}(o:Off B H H') (o':Off B H' G):Off B H G:=λb u e z=>o' b u (o b u e z) z
theorem Off.wr {B:Addr->Prop}{H:Hp}{a:Addr}{o:HO}(h:B a):Off B H (upd H a o):=λb u e z=>by rw[ag (λy=>z (by rw[y];show h))];show e
theorem Off.new {B:Addr->Prop}{H:Hp}{a:Addr}{o:HO}(h:H a=none):Off B H (upd H a o):=λb u e z=>cW h b u e id
theorem bL.EO {C CS:Addr}{H:Hp}{s:Pg.PS}{l:Et}(G:bL C CS H M A s) (ok:A.Ok M) (k:Int) (hd:H A.pd=some (.dK (Tb.dk sk l))) (N:(l.map (·.1)).Nodup) (J:∀x∈l,H x.2.1=some (.tup (kK x.2.2.1 x.2.2.2))) (L:∀j,(Tb.look l j).map (·.2)=s.pl j) (O:l.length<=1000) :
  bL C CS (upd H A.pd (.dK (Tb.dk sk (Tb.bg l k)))) M A { s with pl:=Pg.dA s.pl k none }:=by
 have o:Off (· = A.pd) H (upd H A.pd (.dK (Tb.dk sk (Tb.bg l k)))):=λb o e z=>(by rw[ag z];show e);let#[dx,h1]:=G.ob;show#[#[dx,o _ _ h1 (ok.n 0 7 rfl rfl av)],G.fr.off o (in1 (ok.m 7 rfl)) (ok.n 1 7 rfl rfl av) (ok.n 2 7 rfl rfl av) (ok.n 3 7 rfl rfl av),G.sl.off o (in1 (ok.m 7 rfl)) (ok.n 4 7 rfl rfl av) (ok.n 5 7 rfl rfl av) (ok.n 6 7 rfl rfl av),o _ _ G.il (ok.n 8 7 rfl rfl av),G.le,
  #[Tb.bg l k,ae,by rw[Tb.jA];show N.filter _,λx I=>?_,λj=>?_,Ly (Nq _ _) O]]
 .have I:=(Tb.cf I).1;show o _ _ (J x I) (cJ (J x I) hd (by intro z;cases z))
 .rw[Tb.cj];change _=Pg.dA s.pl k none j;by_cases e:j=k
  .rw[Q0 e,e,Pg.bp];rfl
  .rw[QZ e,Pg.aJ e];show L j
end
theorem Bk {D:Ends}{σ:St}{H:Hp}(h:D.nx σ H):uf D σ H:=h
noncomputable abbrev ky:LI:=inClass (top 14) 1
noncomputable abbrev u4:LI:=inClass (top 14) 2
noncomputable abbrev wk:LI:=inClass (top 14) 3
noncomputable abbrev qe:LI:=inClass (top 14) 5
noncomputable abbrev wx:LI:=inClass (top 14) 6
structure IG (C CS:Addr) (H:Hp) (M:Addr->Prop) (A:PA) (s:Pg.PS):Prop where
 at_:bL C CS H M A s
 ok:A.Ok M
 mt:∀b,M b->H b≠none
 gd:Pg.Good s
 ne:s.ow true≠[]
 cb:Pg.Cb s
 l0:0<=s.ls
inductive gP (K:PySem.W.Frag) (C CS:Addr) (vs:List V) (H:Hp) (Q:VK) (e3:XK):Prop
 |mk (M:Addr->Prop) (A:PA) (s:Pg.PS) (ca:Addr) (cs:List Int) (_:vs=[.ref A.pg,.ref ca]) (_:IG C CS H M A s) (_:((0:Int)∈s.ow true\/(0:Int)∈s.ow false)) (_:bA K H ca (cs.map V.int)) (_:ca≠A.pg) (_:cs.length=8) (_:∀(H':Hp) (s':Pg.PS),Pg.BI (Pg.next s) (s.ls+1) cs 1 s'->bL C CS H' M A s'->Off A.own H H'->Q (.int (s.ls+1)) H'):gP K C CS vs H Q e3
inductive lU (C CS:Addr) (vs:List V) (H:Hp) (Q:VK) (e3:XK):Prop
 |mk (M:Addr->Prop) (A:PA) (s:Pg.PS) (k:Int) (cs:List Int) (c:Int) (_:vs=[.ref A.pg,.int k]) (_:IG C CS H M A s) (_:Pg.Vw s k cs c) (_:∀(H':Hp) (s':Pg.PS),Pg.FE s k s'->bL C CS H' M A s'->Off A.own H H'->Q .non H'):lU C CS vs H Q e3
inductive qF (C CS:Addr) (vs:List V) (H:Hp) (Q:VK) (e3:XK):Prop
 |mk (M:Addr->Prop) (A:PA) (s:Pg.PS) (k:Int) (b:Bool) (n:Nat) (cs:List Int) (c:Int) (_:vs=[.ref A.pg,.int k]) (_:IG C CS H M A s) (_:s.pl k=some (b,n)) (_:Pg.Vw s k cs c) (_:∀H':Hp,bL C CS H' M A (Pg.cD s b n (c+1))->Off A.own H H'->Q .non H'):qF C CS vs H Q e3
inductive lW (C CS:Addr) (vs:List V) (H:Hp) (Q:VK) (e3:XK):Prop
 |mk (M:Addr->Prop) (A:PA) (s:Pg.PS) (k:Int) (cs:List Int) (c:Int) (_:vs=[.ref A.pg,.int k]) (_:bL C CS H M A s) (_:A.Ok M) (_:(∀b,M b->H b≠none)) (_:Pg.Good s) (_:Pg.Vw s k cs c) (_:∀(H':Hp) (s':Pg.PS),Pg.Ef s k s'->bL C CS H' M A s'->Off A.own H H'->Q .non H'):lW C CS vs H Q e3
inductive mV (C CS:Addr) (vs:List V) (H:Hp) (Q:VK) (e3:XK):Prop
 |mk (M:Addr->Prop) (A:PA) (s:Pg.PS) (k:Int) (ca:Addr) (cs0:List Int) (c0:Int) (cs:List Int) (_:vs=[.ref A.pg,.int k,.ref ca]) (_:IG C CS H M A s) (_:Pg.Vw s k cs0 c0) (_:H ca=some (.lst (cs.map V.int))) (_:¬ A.own ca) (_:cs.length=8) (_:(1<c0->(0:Int)∈s.ow true\/(0:Int)∈s.ow false)) (_:(1<c0->∀(H':Hp) (s1 s2:Pg.PS),Pg.BI (Pg.next s) (s.ls+1) cs 1 s1->Pg.Ef s1 k s2->bL C CS H' M A s2->Off A.own H H'->Q (.int (s.ls+1)) H')) (_:(c0=1->∀(H':Hp) (s1:Pg.PS) (m:Nat),Pg.FE s k s1->s1.pl k=some (true,m)->bL C CS H' M A (Pg.write s1 true m cs)->Off A.own H H'->Q (.int k) H')):mV C CS vs H Q e3
section
variable {P:IF}{w:Ll}{K:PySem.W.Frag}{mg:Str->Option Value}{base:Heap}
theorem J3:aC ["self","cells"] ["self","cells"] (aw ky):=L2.bG
theorem rK {f C CS:Addr}{fd:GX}(F:cM K "new_sheet" "Paging.new_sheet" ky f fd) (T:qQ K mg C) (TS:Txt K mg CS) (Y:Md P w K mg base aS 1 CS "free" (p5 CS)) (as:Md P w K mg base aS 6 C "bring_in" (iO C CS)):a8 P w K mg base aS 7 f fd ["self","cells"] (gP K C CS):=by
 show F.ok J3 (λvs H Q E h=>?_) (λa4 A outer s H vs Q E O h=>?_)
 .let#[M,I,s',S,cs,rfl,_]:=h;rfl
 .let#[M,I,s',S,cs,rfl,R,hf,am,aB,h8,q]:=h;have G:=R.at_;have ok:=R.ok;let#[dx,h1]:=G.ob;let#[a2,h2]:=G.fr.ob;let#[aT,h3]:=G.sl.ob;have hs:sizeLine=16777216:=Lh;show#[_,(ah (aV (aA bH (aD bt (qx (aL (pv 0) rfl) TS.cl Y O ax) (qx (aL (pv 0) rfl) TS.cl Y O ax)) ak (aH _)) cw aG)
   (ah (yC (pv 0) ak FQ)
   (ah (aM (pm (pv 0) T.cl as O ax (aa (aL (pv 0) rfl) (aa (cR (aa (cg dQ (by rfl) T.list eY (aa (pv 1) ai)) (aa ak ai))) ai))))
   (aj (aF (aL (pv 0) rfl)))))),?_]
  show#[0,I.pg,C,dx,_,0,h1,T.cl,T.nF,pU _ _,I.fp,a2,0,h2,aW _ _ ao ao,I.fp,I.fo,I.fc,M,_,0,G.fr,?_];show#[0,I.pg,C,dx,_,0,h1,T.cl,T.nS,xr _ _,I.sp,aT,0,h3,aW _ _ ao ao,I.sp,I.so,I.sc,M,_,0,G.sl,_,0,1,0,?_];show gf (λz=>?_) (λ_=>?_)
  .exfalso;have z:(((s'.ow true).count 0:Nat):Int)+(((s'.ow false).count 0:Nat):Int)=0:=(by simpa using z);rcases hf with h|h
   .have:=List.count_pos_iff.mpr h;omega
   .have:=List.count_pos_iff.mpr h;omega
  show#[0,I.pg,C,dx,_,0,h1,T.cl,T.nL,Bw _ _,_,0,rfl,dx,_,h1,by rw[zi];change 5<1000;decide,?_];rw[Gg];have U:=G.Il (dx:=dx) ok (s'.ls+1);have O1:Off I.own H (upd H I.pg (.ins C dx (cO I (s'.ls+1)))):=Off.wr (PA.fg 0 rfl);have a3:bA K (upd H I.pg (.ins C dx (cO I (s'.ls+1)))) S (cs.map V.int):=Rm.eR am λo e=>(by rw[ag aB];show e);have ac:=U.alive O1 R.mt;have ab:upd H I.pg (.ins C dx (cO I (s'.ls+1))) I.pg=some (.ins C dx (cO I (s'.ls+1))):=ae;generalize upd H I.pg (.ins C dx (cO I (s'.ls+1)))=H1 at *;show#[0,I.pg,dx,0,ab,cQ _ _ ao ao ao ao ao,0,I.pg,C,dx,_,0,ab,T.cl,T.nL,Bw _ _,0,S,0,.inl a3,λl N=>?_];show#[by change 2<=sizeLine;decide,λt J=>?_];have O2:Off I.own H1 (upd (upd H1 l (.lst (cs.map V.int))) t (.tup [.ref l,.int 1])):=(Off.new N).trans (Off.new J);have ap:t≠l:=λe=>(by rw[e,ae]at J;cases J);have ht:upd (upd H1 l (.lst (cs.map V.int))) t (.tup [.ref l,.int 1]) t=some (.tup [.ref l,.int 1]):=ae;have hl:upd (upd H1 l (.lst (cs.map V.int))) t (.tup [.ref l,.int 1]) l=some (.lst (cs.map V.int)):=(by rw[ag (G0 ap),ae]);have G2:bL C CS (upd (upd H1 l (.lst (cs.map V.int))) t (.tup [.ref l,.int 1])) M I { s' with ls:=s'.ls+1 }:=(U.keep (cW N)).keep (cW J);generalize upd (upd H1 l (.lst (cs.map V.int))) t (.tup [.ref l,.int 1])=H2 at *;have es:=Pg.uM R.gd;show#[M,I,Pg.next s',s'.ls+1,t,l,cs,(1),rfl,G2,ok,G2.alive O2 ac,by rw[es];show Pg.pB R.gd,hf,R.ne,R.cb,ht,hl,λz=>ac l z N,HC _,av,λH3 s3 L G3 O3=>?_];rw[es]at L;let#[a0,h4]:=G3.ob;have a1:s3.ls=s'.ls+1:=(Pg.ku R.gd R.l0 h8 L).ls;show#[0,I.pg,C,a0,_,0,h4,T.cl,T.nL,Bw _ _,?_];rw[a1];show q H3 s3 L G3 ((O1.trans O2).trans O3)
theorem Hf:aC ["self","sheet","place"] ["self","sheet"] (aw wx):=L2.bG
theorem Ab {f C CS:Addr}{fd:GX}(F:cM K "fetch" "Paging.fetch" wx f fd) (T:qQ K mg C) (ac:Md P w K mg base aS 1 C "place" (j6 C CS)) (am:Md P w K mg base aS 6 C "bring_in" (iO C CS)) (as:Df P w K mg base aS 4 "lift" (rV CS)):a8 P w K mg base aS 7 f fd ["self","sheet"] (lU C CS):=by
 show F.ok Hf (λvs H Q E h=>?_) (λa2 A outer s H vs Q E U h=>?_)
 .let#[M,I,s',k,cs,c,rfl,_]:=h;rfl
 .let#[M,I,s',k,cs,c,rfl,R,Y,q]:=h;have G:=R.at_;have ok:=R.ok;have hc:=(R.gd.vw Y).1;let#[b,n,L,e2,e3]:=id Y;let#[dx,h1]:=G.ob;have hs:sizeLine=16777216:=Lh;show#[_,(ah (aO (i:=2) Hf.nd rfl (Lc rfl) (pm (pv 0) T.cl ac U ax (aa (pv 1) ai)))
   (ah (aV (aA bH (bq bB (pv 2) ak (λ_ _=>rfl)) aI (aH _)) (ah (aM (iY Mi OA PySem.F.type_list_remove oZ (aL (pv 0) rfl) (aa (pv 1) ai)))
   (ah (aM (iY Mi PySem.F.slot_list_append PySem.F.type_list_append oQ (aL (pv 0) rfl) (aa (pv 1) ai)))
   (aj r6))) aG)
   (aj (aM (pm (pv 0) T.cl am U ax (aa (pv 1) (aa (pc as U ax (aa (aL (pv 0) rfl) (aa (bq bB (pv 2) ak (λ_ _=>rfl)) ai))) ai))))))),?_]
  show#[0,I.pg,dx,0,h1,cQ _ _ ao ao ao ao ao,0,M,I,s',k,b,n,rfl,G,L,λt ht=>?_];show#[0,t,_,(0),0,rfl,cy.of ht,1,0,?_];cases b with
  |true =>
   show eL ?_;have hi:k∈s'.inf:=(R.gd.fi k).mpr #[n,L];show#[0,I.pg,C,dx,_,0,h1,T.cl,T.nI,sO _ _,.inl #[5,bA.of G.il],0,I.il,s'.inf,k,1,G.il,hi,?_];have J:=G.mQ ok (s'.inf.erase k);have N:Off I.own H (upd H I.il (.lst ((s'.inf.erase k).map V.int))):=Off.wr (PA.fg 6 rfl);generalize upd H I.il (.lst ((s'.inf.erase k).map V.int))=H1 at *;let#[aB,h2]:=J.ob;have hl:=wK R.gd (G.le true);have a0:(s'.inf.erase k).length<=s'.inf.length:=List.length_erase_le;show#[0,I.pg,C,aB,_,0,h2,T.cl,T.nI,sO _ _,.inl #[5,bA.of J.il],0,I.il,_,.int k,1,J.il,by rw[BY];change(s'.inf.erase k).length<_;omega,?_];have O:=J.mQ ok (s'.inf.erase k++[k]);rw[Ln]at O;show q _ _ (.here L) O (N.trans (Off.wr (PA.fg 6 rfl)))
  |false =>
   show bJ ?_;obtain⟨S,rfl⟩:∃S:Nat,c=S:=#[c.toNat,af];have a1:=R.cb false _ (Ld e3);show#[0,I.pg,dx,0,h1,cQ _ _ ao ao ao ao ao,0,0,I.pg,C,dx,_,0,h1,T.cl,T.nS,xr _ _,0,t,_,(1),0,rfl,cy.of ht,4];show#[I.sp,I.so,I.sc,M,2,n,cs,S,rfl,G.sl,ok.m 5 rfl,ok.m 6 rfl,R.mt,ok.n 5 6 rfl rfl av,G.le false,e3,af,af,e2,?_];intro H1 t1 l1 a3 aT nl ap S1 N;have J:=G.zB ok false S1 N (by rw[LR];show G.le false);have ab:Off I.own H H1:=N.mono (PA.kJ false);have es:=Pg.uP R.gd L;show#[M,I,Pg.cD s' false n 0,k,t1,l1,cs,S,rfl,J,ok,J.alive ab R.mt,by rw[es];show Pg.ke R.gd L,.inr (Pg.sX R.gd L),R.ne,Pg.EG R.cb av,aT,ap,nl,af,af,λH2 s2 hb O O2=>?_];rw[es]at hb;show q _ _ (.away L Y hb) O (ab.trans O2)
theorem Jy:aC ["self","sheet"] ["self","sheet"] (aw u4):=L2.bG
theorem BB {f C CS:Addr}{fd:GX}(F:cM K "share" "Paging.share" u4 f fd) (T:qQ K mg C) (TS:Txt K mg CS) (ac:Md P w K mg base aS 2 C "store_of" (fB C CS)) (ab:Md P w K mg base aS 2 C "number_of" (dt C CS)) (GM:Md P w K mg base aS 3 CS "more" (sg CS)):a8 P w K mg base aS 4 f fd ["self","sheet"] (qF C CS):=by
 show F.ok Jy (λvs H Q E h=>?_) (λap A outer s H vs Q E J h=>?_)
 .let#[M,I,s',k,b,n,cs,c,rfl,_]:=h;rfl
 .let#[M,I,s',k,b,n,cs,c,rfl,R,L,Y,q]:=h;have G:=R.at_;have ok:=R.ok;have hc:=(R.gd.vw Y).1;have O:=Pg.tR L Y;let#[dx,h1]:=G.ob;have S:=G.st b;let#[am,h2]:=S.ob;show#[_,(aj (aM (pm (pm (pv 0) T.cl ac J ax (aa (pv 1) ai)) TS.cl GM J ax (aa (pm (pv 0) T.cl ab J ax (aa (pv 1) ai)) ai)))),?_];show#[0,I.pg,dx,0,h1,cQ _ _ ao ao ao ao ao,0,M,I,s',k,b,n,rfl,G,L,?_];show#[_,am,0,h2,aW _ _ ao ao,?_];show#[0,I.pg,dx,0,h1,cQ _ _ ao ao ao ao ao,0,M,I,s',k,b,n,rfl,G,L,?_];show#[2,_,M,2,n,rfl,S,ok.mo b,ok.mc b,ok.oc b,G.le b,by rw[fA O];omega,λH1 N U=>?_];rw[fA O,show(n:Int).toNat=n from MX n]at N;show q H1 (G.zB ok b N U (by rw[LR];show G.le b)) (U.mono (PA.kJ b))
theorem Fi:aC ["self","sheet","store","n"] ["self","sheet"] (aw wk):=L2.bG
theorem BG {f C CS:Addr}{fd:GX}(F:cM K "leave" "Paging.leave" wk f fd) (T:qQ K mg C) (TS:Txt K mg CS) (aT:Md P w K mg base aS 2 C "store_of" (fB C CS)) (ap:Md P w K mg base aS 2 C "number_of" (dt C CS)) (GL:Md P w K mg base aS 3 CS "less" (rT CS)) (GC:Md P w K mg base aS 1 CS "count" (gQ CS)):a8 P w K mg base aS 4 f fd ["self","sheet"] (lW C CS):=by
 show F.ok Fi (λvs H Q E h=>?_) (λa1 A outer s H vs Q E N h=>?_)
 .let#[M,I,s',k,cs,c,rfl,_]:=h;rfl
 .let#[M,I,s',k,cs,c,rfl,G,ok,mt,gd,Y,q]:=h;have hc:=(gd.vw Y).1;let#[b,n,J,e2,e3]:=id Y;let#[nl,_]:=List.getElem?_eq_some_iff.mp e3;let#[dx,h1]:=G.ob;have S:=G.st b;let#[aB,h2]:=S.ob;show#[_,(ah (aO (i:=2) Fi.nd rfl (Lc rfl) (pm (pv 0) T.cl aT N ax (aa (pv 1) ai)))
   (ah (aO (i:=3) Fi.nd rfl (Lc rfl) (pm (pv 0) T.cl ap N ax (aa (pv 1) ai)))
   (ah (aM (pm (pv 2) TS.cl GL N ax (aa (pv 3) ai)))
   (ah (aV (aA gz (pm (pv 2) TS.cl GC N ax (aa (pv 3) ai)) ak (aH _)) (aj r6) aG)
   (ah (aV (aA bH (bq bB (a9 (aZ N) (aL (pv 0) rfl) (pv 1) (λ_ _=>rfl)) ak (λ_ _=>rfl)) aI (aH _)) (aj (aM (iY Mi OA PySem.F.type_list_remove oZ (aL (pv 0) rfl) (aa (pv 1) ai)))) aG)
   (aj (aM (eG (aL (pv 0) rfl) (pv 1) #[1,1])))))))),?_]
  show#[0,I.pg,dx,0,h1,cQ _ _ ao ao ao ao ao,0,M,I,s',k,b,n,rfl,G,J,?_];show#[0,I.pg,dx,0,h1,cQ _ _ ao ao ao ao ao,0,M,I,s',k,b,n,rfl,G,J,?_];show#[0,_,aB,0,h2,aW _ _ ao ao,0,2,_,M,2,n,rfl,S,ok.mo b,ok.mc b,ok.oc b,G.le b,by rw[fA e3];omega,λH1 O O1=>?_];rw[fA e3,show(n:Int).toNat=n from MX n]at O;have L:=G.zB ok b O O1 (by rw[LR];show G.le b);have ab:Off I.own H H1:=O1.mono (PA.kJ b);let#[as,h3]:=O.ob;show#[0,_,as,0,h3,aW _ _ ao ao,0,2,_,M,2,n,rfl,O,by rw[LR];show G.le b,?_];rw[fU nl];show#[_,0,rfl,0,?_];by_cases z:(0:Int)<c-1
  .rw[decide_eq_true z];show q _ _ (.more J Y af) L ab
  .rw[decide_eq_false z];have ec:c=1:=af;subst ec;show bJ (Bk ?_);let#[am,h4]:=L.ob;let#[l,hd,nd,ht,R,hn]:=L.pd;obtain⟨x,U,ex⟩:∃x,Tb.look l k=some x/\x.2=(b,n):=by
    have h9:(Tb.look l k).map (·.2)=some (b,n):=(R k).trans J;show Option.map_eq_some_iff.mp h9
   have hg:dB H1 I.pd (.int k) (some (sk x)):=by
    have q9:=dB.k (k:=Sum.inl k) hd;rw[Tb.cK,U]at q9;show q9
   have hm:=ht _ (Tb.ay U);rw[show x.2.1=b by rw[ex],show x.2.2=n by rw[ex]]at hm;dsimp only;show share (λσ H9=>σ=[some (.ref I.pg),some (.int k),some (.ref (I.st b)),some (.int n)]/\bL C CS H9 M I { Pg.cD s' b n 0 with inf:=s'.inf.erase k }/\Off I.own H H9) (λu' ac=>?A) ?B
   case A =>
    show#[0,I.pg,C,am,_,0,h4,T.cl,T.nP,oY _ _,0,I.pd,sk x,rfl,hg,x.1,_,(0),0,rfl,cy.of hm,1,0,?_];cases b with
    |true =>
     show eL ?_;have hi:k∈s'.inf:=(gd.fi k).mpr #[n,J];show#[0,I.pg,C,am,_,0,h4,T.cl,T.nI,sO _ _,.inl #[5,bA.of L.il],0,I.il,s'.inf,k,1,L.il,hi,?_];show ac _ _ #[rfl,L.mQ ok (s'.inf.erase k),ab.trans (Off.wr (PA.fg 6 rfl))]
    |false =>
     show bJ ?_;show ac _ _ #[4,ab];rw[List.erase_of_not_mem (Pg.xJ gd J)];show L
   case B =>
    rintro σ H9 ⟨rfl,G9,O9⟩;let#[a0,h5]:=G9.ob;let#[l,hd,nd,ht,R,hn]:=G9.pd;obtain⟨x,U,ex⟩:∃x,Tb.look l k=some x/\x.2=(b,n):=by
     have h9:(Tb.look l k).map (·.2)=some (b,n):=(R k).trans J;show Option.map_eq_some_iff.mp h9
    show#[0,I.pg,C,a0,_,0,h5,T.cl,T.nP,oY _ _,I.pd,rfl,.inl #[_,.inl hd],0,_,Sum.inl k,sk x,hd,rfl,by rw[Tb.cK,U];rfl,?_];rw[Tb.eJ];show q _ _ (.last J Y) (G9.EO ok k hd nd ht R hn) (O9.trans (Off.wr (PA.fg 5 rfl)))
theorem HP:aC ["self","sheet","cells","made"] ["self","sheet","cells"] (aw qe):=L2.bG
theorem yx {f C CS:Addr}{fd:GX}(F:cM K "change" "Paging.change" qe f fd) (T:qQ K mg C) (TS:Txt K mg CS) (a4:Md P w K mg base aS 3 C "count" (nE C CS)) (aB:Md P w K mg base aS 7 C "new_sheet" (gP K C CS)) (a0:Md P w K mg base aS 4 C "leave" (lW C CS)) (a2:Md P w K mg base aS 7 C "fetch" (lU C CS)) (aT:Md P w K mg base aS 2 C "number_of" (dt C CS)) (GP:Md P w K mg base aS 3 CS "put" (xC K CS)):a8 P w K mg base aS 8 f fd ["self","sheet","cells"] (mV C CS):=by
 show F.ok HP (λvs H Q E h=>?_) (λa5 A outer s H vs Q E O h=>?_)
 .let#[M,I,s',k,ca,Y,L,cs,rfl,_]:=h;rfl
 .let#[M,I,s',k,ca,Y,L,cs,rfl,R,S,ac,ap,h8,hf,q1,q2]:=h;have G:=R.at_;have ok:=R.ok;have hc:=(R.gd.vw S).1;let#[dx,h1]:=G.ob;show#[_,(ah (aV (aA gz (pm (pv 0) T.cl a4 O ax (aa (pv 1) ai)) ak (aH _)) (ah (aO (i:=3) HP.nd rfl (Lc rfl) (pm (pv 0) T.cl aB O ax (aa (pv 2) ai)))
   (ah (aM (pm (pv 0) T.cl a0 O ax (aa (pv 1) ai)))
   (aj (aF (pv 3))))) aG)
   (ah (aM (pm (pv 0) T.cl a2 O ax (aa (pv 1) ai)))
   (ah (aM (pm (aL (pv 0) rfl) TS.cl GP O ax (aa (pm (pv 0) T.cl aT O ax (aa (pv 1) ai)) (aa (pv 2) ai))))
   (aj (aF (pv 1)))))),?_]
  show#[0,I.pg,dx,0,h1,cQ _ _ ao ao ao ao ao,0,M,I,s',k,Y,L,rfl,G,S,?_];show#[_,0,rfl,0,?_];by_cases z:(1:Int)<L
  .rw[decide_eq_true z];show#[0,I.pg,dx,0,h1,cQ _ _ ao ao ao ao ao,0,M,I,s',ca,cs,rfl,R,hf z,bA.of ac,λe=>ap (by rw[e];show PA.fg 0 rfl),h8,λH1 U hb J N=>?_];let#[ab,h2]:=J.ob;have B:=Pg.ku R.gd R.l0 h8 hb;have kn:k≠s'.ls+1:=by
    intro e;let#[x1,x2,y1,_]:=S;rw[e,Pg.fE R.gd]at y1;cases y1
   show#[0,I.pg,ab,0,h2,cQ _ _ ao ao ao ao ao,0,M,I,U,k,Y,L,rfl,J,ok,J.alive N R.mt,B.good,(B.kept.ot _ _ _ kn).mpr S,λH2 s2 hl G2 O2=>?_];show#[0,q1 z H2 U s2 hb hl G2 (N.trans O2)]
  .rw[decide_eq_false z];have ec:L=1:=af;show#[0,I.pg,dx,0,h1,cQ _ _ ao ao ao ao ao,0,M,I,s',k,Y,L,rfl,R,S,λH1 U am J N=>?_];have FF:=Pg.oS R.gd am;let#[m,hm]:=FF.fr;have as:=(FF.vw k Y L).mpr S;have e3:=Pg.tR hm as;let#[ab,h2]:=J.ob;let#[a1,h3]:=J.fr.ob;have a3:=N _ _ ac ap;show#[0,I.pg,C,ab,_,0,h2,T.cl,T.nF,pU _ _,I.fp,a1,0,h3,aW _ _ ao ao,?_];show#[0,I.pg,ab,0,h2,cQ _ _ ao ao ao ao ao,0,M,I,U,k,true,m,rfl,J,hm,?_];show#[0,I.fp,I.fo,I.fc,ca,M,2,m,cs,rfl,J.fr,ok.m 2 rfl,ok.m 3 rfl,J.alive N R.mt,ok.n 2 3 rfl rfl av,(FF.good.ln true).symm,J.le true,by rw[fA e3];omega,bA.of a3,λH2 S2 O2=>?_];rw[show(m:Int).toNat=m from MX m]at S2;show#[0,q2 ec H2 U m am hm (J.Gq ok true S2 O2) (N.trans (O2.mono (PA.kJ true)))]
end
end St
namespace Tb
open PySem L2
section
variable {α:Type}
theorem DL {l:List (Int×α)}{k:Int}(h:¬ k∈l.map (·.1)):bg l k=l:=by
 unfold bg;rw[Ob];intro y G;have:y.1≠k:=λe=>h (List.mem_map.mpr #[y,G,e]);simpa using this
theorem kW {k:Int}{a:α}:∀{l:List (Int×α)},(l.map (·.1)).Nodup->look l k=some a->l.Perm ((k,a)::bg l k)
 | [],_,h=>by cases h
 |x::r,J,h=>by
  let#[I,L]:=List.nodup_cons.mp (show(x.1::r.map (·.1)).Nodup from J);rw[aP]at h;by_cases c:x.1=k
  .rw[Q0 c]at h;have e:x=(k,a):=PX c (Option.some.inj h);have G:bg (x::r) k=r:=by
    change filter _ (x::r)=r;rw[Mw,QZ (by simp[c])];show DL (c▸I)
   rw[G,e]
  .rw[QZ c]at h;have G:bg (x::r) k=x::bg r k:=by
    change filter _ (x::r)=_;rw[Mw,Q0 (by simpa using c)];rfl
   rw[G];show((kW L h).cons x).trans (List.Perm.swap _ _ _)
theorem wX (l:List (Int×α)) (k:Int) (a:α):bg (aU l k a) k=bg l k:=by
 induction l with
 |nil=>rfl
 |cons x r G =>
  change filter _ ((if x.1=k then(k,a)else x)::aU r k a)=filter _ (x::r);by_cases c:x.1=k
  .rw[Q0 c,Mw,QZ (by simp),Mw,QZ (by simp[c])];show G
  .rw[QZ c,Mw,Q0 (by simpa using c),Mw,Q0 (by simpa using c)];congr 1
theorem nG {l:List (Int×α)}{k:Int}(G:(l.map (·.1)).Nodup):((bg l k).map (·.1)).Nodup:=G.sublist (List.Sublist.map _ List.filter_sublist)
theorem Em {l:List (Int×α)}{k:Int}{a:α}(G:(l.map (·.1)).Nodup):(((k,a)::bg l k).map (·.1)).Nodup:=by
 show List.nodup_cons.mpr #[λh=>?_,nG G];let#[y,I,e]:=List.mem_map.mp h;have:=(List.mem_filter.mp I).2;simp at this;show this e
theorem mz {l:List (Int×α)}{k:Int}{x:Int×α}(h:x∈l) (G:x.1≠k):x∈bg l k:=List.mem_filter.mpr #[h,by simpa using G]
theorem rR {f:α->V}{l:List (Int×α)}{k:Int}{a b:α}(I:(l.map (·.1)).Nodup) (h:look l k=some b) (e:f a=f b):dk f (aU l k a)=dk f l:=by
 unfold dk aU;rw[Me];show Mx λx G=>?_;change((Sum.inl (if x.1=k then(k,a)else x).1:Key),f (if x.1=k then(k,a)else x).2)=(Sum.inl x.1,f x.2);by_cases c:x.1=k
 .have:look l k=some x.2:=bK I (by rw[<-c];show G);rw[h]at this;rw[Q0 c,c,e,Option.some.inj this]
 .rw[QZ c]
theorem jU (l:List (Int×α)) (k j:Int) (a:α):look ((k,a)::bg l k) j=if j=k then some a else look l j:=by
 rw[aP,cj];by_cases c:j=k
 .rw[Q0 c.symm,Q0 c]
 .rw[QZ (G0 c),QZ c,QZ c]
end
theorem TabAt.off {B:Addr->Prop}{C:Addr}{H H':Hp}{p fs:Addr}{tb:jw}(T:TabAt C H p fs tb) (o:Off B H H') (R:¬ B p) (I:∀b,eQ fs tb b->¬ B b) (U:∀b xs,H b=some (.tup xs)->¬ B b):TabAt C H' p fs tb:=by
 let#[#[dx,h1],h2,S,O,N,L,J]:=T;show#[#[dx,o _ _ h1 R],o _ _ h2 (I _ (.inl rfl)),λx G=>o _ _ (S x G) (I _ (.inr #[x,G,rfl])),λx G=>(O x G).keep λb xs e=>o _ _ e (U b xs e),N,L,J]
theorem TabAt.dK {C:Addr}{H:Hp}{p fs:Addr}{tb:jw}(T:TabAt C H p fs tb) {b:Addr}(h:eQ fs tb b):∃kvs,H b=some (.dK kvs):=by
 rcases h with h|⟨x,G,h⟩
 .show#[_,by rw[h];show T.hf]
 .show#[_,by rw[h];show T.hd x G]
end Tb
namespace St
open PySem L2
structure TD where
 p:Addr
 fs:Addr
 tb:Tb.jw
 t:List (Int×Pg.Ent)
noncomputable abbrev dv:=List (Int×TD)
noncomputable def fR (x:TD):V:=.ref x.p
noncomputable def yy:Pg.Ent->List V
 |none=>[.str "blank"]
 |some k=>[.str "sheet",.int k]
noncomputable def TD.eQ (x:TD):Addr->Prop:=Tb.eQ x.fs x.tb
structure dq (CT:Addr) (H:Hp) (x:TD):Prop where
 at_:Tb.TabAt CT H x.p x.fs x.tb
 nd:(x.t.map (·.1)).Nodup
 lk:∀q,Tb.dh x.tb q=(Tb.look x.t q).map yy
noncomputable def uj (t:List (Int×Pg.Ent)):List Pg.Ent:=t.map (·.2)
noncomputable def ents (W:dv):List Pg.Ent:=W.flatMap λx=>uj x.2.t
theorem kN {W:dv}{t:Int}{x:TD}(G:(W.map (·.1)).Nodup) (h:Tb.look W t=some x):(ents W).Perm (uj x.t++ents (Tb.bg W t)):=(Tb.kW G h).flatMap_right _
theorem ie {W:dv}{t:Int}{x y:TD}(G:(W.map (·.1)).Nodup) (h:Tb.look W t=some x):(ents (Tb.aU W t y)).Perm (uj y.t++ents (Tb.bg W t)):=by
 have:=kN (W:=Tb.aU W t y) (t:=t) (x:=y) (by rw[Tb.fN];show G) (by rw[Tb.bO t h,Q0 rfl])
 rwa [Tb.wX]at this
theorem tU {t:List (Int×Pg.Ent)}{q:Int}{e:Pg.Ent}(G:(t.map (·.1)).Nodup) (h:Tb.look t q=some e):(uj t).Perm (e::uj (Tb.bg t q)):=(Tb.kW G h).map _
noncomputable def eF (pg:Addr) (t:Int) (rd:Addr):List (Str×V):=bj "rooms" (.ref rd) (bj "total" (.int t) (bj "paging" (.ref pg) []))
section
variable (pg:Addr) (t:Int) (rd:Addr)
theorem eV:(eF pg t rd).lookup ("rooms" : Str)=some (.ref rd):=by
 unfold eF;rw[aE,Q0 rfl]
theorem CG:(eF pg t rd).lookup ("total" : Str)=some (.int t):=by
 unfold eF;rw[aE,QZ ao,aE,Q0 rfl]
theorem pN:(eF pg t rd).lookup ("paging" : Str)=some (.ref pg):=by
 unfold eF;rw[aE,QZ ao,aE,QZ ao,aE,Q0 rfl]
theorem fJ {m:Str}(h1:¬ m = "rooms") (h2:¬ m = "total") (G:¬ m = "paging"):(eF pg t rd).lookup m=none:=by
 unfold eF;rw[aE,QZ h1,aE,QZ h2,aE,QZ G]
 all_goals rfl
end
noncomputable def bF (s:Pg.PS):Int:=((s.ow true).length+(s.ow false).length:Nat)
theorem vm {s s':Pg.PS}(h:∀b,(s'.ow b).length=(s.ow b).length):bF s'=bF s:=by
 unfold bF;rw[h,h]
structure CA where
 C:Addr
 P:Addr
 S:Addr
 T:Addr
structure RA where
 A:PA
 rp:Addr
 rd:Addr
structure az (c:CA) (H:Hp) (M:Addr->Prop) (a:RA) (s:Pg.PS) (W:dv):Prop where
 ob:∃dx,H a.rp=some (.ins c.C dx (eF a.A.pg (bF s) a.rd))
 pg:bL c.P c.S H M a.A s
 ok:a.A.Ok M
 mt:∀b,M b->H b≠none
 hd:H a.rd=some (.dK (Tb.dk fR W))
 nd:(W.map (·.1)).Nodup
 tb:∀x∈W,dq c.T H x.2
 dm:∀x∈W,∀b,x.2.eQ b->M b/\¬ a.A.own b/\b≠a.rd
 np:∀x∈W,¬ a.A.own x.2.p
 dj:∀x∈W,∀y∈W,x.1≠y.1->∀b,x.2.eQ b->¬ y.2.eQ b
 DV:M a.rd
 BW:¬ a.A.own a.rd
 zd:¬ a.A.own a.rp
noncomputable def RA.own (a:RA) (W:dv):Addr->Prop:=λb=>a.A.own b\/b=a.rd\/∃x∈W,x.2.eQ b
structure Step (H:Hp) (M O:Addr->Prop) (H':Hp) (M' O':Addr->Prop):Prop where
 off:Off O H H'
 mm:∀b,M b->¬ O b->M' b
 mn:∀b,M' b->M b\/H b=none
 on:∀b,O' b->O b\/H b=none
 mt:∀b,M b->H b≠none
 om:∀b,O b->M b
theorem Step.gone {H H':Hp}{M O M' G:Addr->Prop}(a:Step H M O H' M' G) {b:Addr}(h:H' b=none):O b\/H b=none:=by
 cases e:H b with
 |none=>show .inr rfl
 |some u =>
  by_cases z:O b
  .show .inl z
  .rw[a.off b u e z]at h;cases h
theorem Step.trans {H H' L:Hp}{M O M' J G I:Addr->Prop}(a:Step H M O H' M' J) (b:Step H' M' J L G I):Step H M O L G I:=by
 show#[λx o e z=>b.off x o (a.off x o e z) λy=>?_,λx h z=>b.mm x (a.mm x h z) λy=>?_,λx h=>?_,λx h=>?_,a.mt,a.om]
 .rcases a.on x y with y|y
  .show z y
  .rw[e]at y;cases y
 .rcases a.on x y with y|y
  .show z y
  .show a.mt x h y
 .rcases b.mn x h with h|h
  .show a.mn x h
  .rcases a.gone h with h|h
   .show .inl (a.om x h)
   .show .inr h
 .rcases b.on x h with h|h
  .show a.on x h
  .show a.gone h
theorem dS.grow {M M':Addr->Prop}{H:Hp}(h:∀b,M' b->M b\/H b=none):∀{v:V}{x:Option (List Int)},dS H M v x->dS H M' v x
 |.non,none,_=>trivial
 |.ref a,some ns,⟨h1,h2⟩=>#[λz=>(h a z).elim h1 λe=>(by rw[h2]at e;cases e),h2]
theorem aR.grow {C p ow co:Addr}{M M':Addr->Prop}{os:List Int}{pg:List (Option (List Int))}{H:Hp}(S:aR C H M p ow co os pg) (h:∀b,M' b->M b\/H b=none):aR C H M' p ow co os pg:=by
 let#[h1,J,cs,G,I]:=S;show#[h1,J,cs,G,Paired.Br I λ_ _ z=>z.grow h]
section
variable {A:PA}{M M' B:Addr->Prop}{H H':Hp}
theorem bL.qA {C CS:Addr}{s:Pg.PS}(G:bL C CS H M A s):∀b xs,H b=some (.tup xs)->¬ A.own b:=by
 intro b xs e y;let#[dx,h1]:=G.ob;let#[_,I,_]:=G.fr.hc;let#[_,L,_]:=G.sl.hc;let#[_,N,_]:=G.pd;have O:=G.fr.hw;have J:=G.sl.hw;have R:=G.il;unfold PA.own at y;simp only[LO,Lm,or_false]at y;rcases y with y|y|y|y|y|y|y<;>rw[y]at e
 .rw[h1]at e;cases e
 .rw[O]at e;cases e
 .rw[I]at e;cases e
 .rw[J]at e;cases e
 .rw[L]at e;cases e
 .rw[N]at e;cases e
 .rw[R]at e;cases e
theorem aR.less {C p ow co:Addr}{M M':Addr->Prop}{os:List Int}{pg:List (Option (List Int))}{H:Hp}(S:aR C H M p ow co os pg) (h:∀b,M' b->M b):aR C H M' p ow co os pg:=S.grow λb z=>.inl (h b z)
theorem bL.move {C CS:Addr}{s:Pg.PS}(G:bL C CS H M A s) (o:Off B H H') (L:∀b,B b->M b) (N:∀b,M' b->M b\/H b=none) (I:∀b,A.own b->¬ B b) (n1:¬ B A.fp) (U:¬ B A.sp) (nt:∀b xs,H b=some (.tup xs)->¬ B b):bL C CS H' M' A s:=by
 let#[dx,h1]:=G.ob;let#[l,hd,S,O,R,Y]:=G.pd;show#[#[dx,o _ _ h1 (I _ (PA.fg 0 rfl))],((G.fr.grow (M':=λb=>M b\/M' b) λb z=>z.elim .inl (N b)).off o (λb z=>.inl (L b z)) n1 (I _ (PA.fg 1 rfl)) (I _ (PA.fg 2 rfl))).less λb z=>.inr z,
  ((G.sl.grow (M':=λb=>M b\/M' b) λb z=>z.elim .inl (N b)).off o (λb z=>.inl (L b z)) U (I _ (PA.fg 3 rfl)) (I _ (PA.fg 4 rfl))).less λb z=>.inr z,o _ _ G.il (I _ (PA.fg 6 rfl)),G.le,
  #[l,o _ _ hd (I _ (PA.fg 5 rfl)),S,λx J=>o _ _ (O x J) (nt _ _ (O x J)),R,Y]]
end
section
variable {c:CA}{H H':Hp}{M M' B:Addr->Prop}{a:RA}{s s':Pg.PS}{W:dv}{t:Int}{x y:TD}
theorem az.Jb {es:List Pg.Ent}(R:az c H M a s W) (G:Pg.RI s es):IG c.P c.S H M a.A s:=#[R.pg,R.ok,R.mt,G.good,G.ne,G.cb R.pg.le,G.l0]
theorem dq.off (T:dq c.T H x) (o:Off B H H') (J:¬ B x.p) (G:∀b,x.eQ b->¬ B b) (I:∀b xs,H b=some (.tup xs)->¬ B b):dq c.T H' x:=#[T.at_.off o J G I,T.nd,T.lk]
theorem az.kH (R:az c H M a s W) (G:bL c.P c.S H' M a.A s') (o:Off a.A.own H H') (J:∀b,(s'.ow b).length=(s.ow b).length):az c H' M a s' W:=by
 let#[dx,h1]:=R.ob;show#[#[dx,by rw[vm J];show o _ _ h1 R.zd],G,R.ok,G.alive o R.mt,o _ _ R.hd R.BW,R.nd,λx I=>(R.tb x I).off o (R.np x I) (λb z=>(R.dm x I b z).2.1) R.pg.qA,R.dm,R.np,R.dj,R.DV,R.BW,R.zd]
theorem az.dw (R:az c H M a s W):∀b,a.own W b->M b:=λb h=>by
 rcases h with h|h|⟨x,G,h⟩
 .show R.ok.own b h
 .rw[h];show R.DV
 .show(R.dm x G b h).1
theorem az.refl (R:az c H M a s W):Step H M (a.own W) H M (a.own W):=#[λ_ _ e _=>e,λ_ h _=>h,λ_ h=>.inl h,λ_ h=>.inl h,R.mt,R.dw]
theorem az.iB (R:az c H M a s W) (e:bh H H'):Step H M (a.own W) H' M (a.own W):=#[λb o h _=>e b o h,λ_ h _=>h,λ_ h=>.inl h,λ_ h=>.inl h,R.mt,R.dw]
theorem az.GB (R:az c H M a s W) (G:bL c.P c.S H' M a.A s') (o:Off a.A.own H H'):Step H M (a.own W) H' M (a.own W):=
 #[o.mono λ_ z=>.inl z,λ_ h _=>h,λ_ h=>.inl h,λ_ h=>.inl h,R.mt,R.dw]
theorem az.same (R:az c H M a s W) (e:bh H H'):az c H' M a s W:=by
 let#[dx,h1]:=R.ob;show#[#[dx,e _ _ h1],R.pg.keep (λb o h _=>e b o h),R.ok,λb I z=>?_,e _ _ R.hd,R.nd,λx G=>#[(R.tb x G).at_.same e,(R.tb x G).nd,(R.tb x G).lk],R.dm,R.np,R.dj,R.DV,R.BW,R.zd];cases h:H b with
 |none=>show R.mt b I h
 |some o=>rw[e b o h]at z;cases z
theorem az.D8 (R:az c H M a s W) (o:Off B H H') (G:∀b,B b->M b/\¬ a.own W b) (O:∀b,B b->(∃xs,H b=some (.lst xs))\/∃kvs,H b=some (.dK kvs)) (Y:∀b,M' b->M b\/H b=none) (L:∀b,M b->¬ B b->M' b) (mt:∀b,M' b->H' b≠none):az c H' M' a s W:=by
 let#[dx,h1]:=R.ob;have J:∀{b C dx fs},H b=some (.ins C dx fs)->¬ B b:=λe z=>by
  rcases O _ z with⟨_,h⟩|⟨_,h⟩
  .rw[e]at h;cases h
  .rw[e]at h;cases h
 have U:∀b xs,H b=some (.tup xs)->¬ B b:=λb xs e z=>by
  rcases O _ z with⟨_,h⟩|⟨_,h⟩
  .rw[e]at h;cases h
  .rw[e]at h;cases h
 let#[am,N]:=R.pg.fr.ob;let#[ac,S]:=R.pg.sl.ob;show#[#[dx,o _ _ h1 (J h1)],R.pg.move o (λb z=>(G b z).1) Y (λb z y=>(G b y).2 (.inl z)) (J N) (J S) U,#[R.ok.ds,λb z=>L b (R.ok.mm b z) λq=>?_],mt,o _ _ R.hd (λz=>(G _ z).2 (.inr (.inl rfl))),R.nd,λx I=>?_,λx I b z=>#[L b (R.dm x I b z).1 λq=>(G b q).2 (.inr (.inr #[x,I,z])),(R.dm x I b z).2],R.np,R.dj,L _ R.DV (λz=>(G _ z).2 (.inr (.inl rfl))),R.BW,R.zd]
 .simp only[LO,Lm,or_false]at z;rcases z with z|z|z|z|z|z|z|z|z<;>rw[z]at q
  .show(G _ q).2 (.inl (PA.fg 0 rfl))
  .show J N q
  .show(G _ q).2 (.inl (PA.fg 1 rfl))
  .show(G _ q).2 (.inl (PA.fg 2 rfl))
  .show J S q
  .show(G _ q).2 (.inl (PA.fg 3 rfl))
  .show(G _ q).2 (.inl (PA.fg 4 rfl))
  .show(G _ q).2 (.inl (PA.fg 5 rfl))
  .show(G _ q).2 (.inl (PA.fg 6 rfl))
 .let#[ab,h3]:=(R.tb x I).at_.ob;show(R.tb x I).off o (J h3) (λb z y=>(G b y).2 (.inr (.inr #[x,I,z]))) U
theorem az.uv (R:az c H M a s W) (hx:Tb.look W t=some x) (ep:y.p=x.p) (T:dq c.T H' y) (o:Off x.eQ H H') (hn:∀b,y.eQ b->x.eQ b\/H b=none):az c H' (λb=>(M b/\¬ x.eQ b)\/y.eQ b) a s (Tb.aU W t y):=by
 have N:=Tb.ay hx;have X:=R.tb _ N;have dK:∀{b},x.eQ b->∃kvs,H b=some (.dK kvs):=λz=>X.at_.dK z;have J:=R.dm _ N;have L:∀{b C dx fs},H b=some (.ins C dx fs)->¬ x.eQ b:=λe z=>by
  let#[_,h]:=dK z;rw[e]at h;cases h
 have nt:∀b xs,H b=some (.tup xs)->¬ x.eQ b:=λb xs e z=>by
  let#[_,h]:=dK z;rw[e]at h;cases h
 let#[dx,h1]:=R.ob;let#[aB,f1]:=R.pg.fr.ob;let#[a0,f2]:=R.pg.sl.ob;have hM:∀b,(M b/\¬ x.eQ b)\/y.eQ b->M b\/H b=none:=λb z=>z.elim (λz=>.inl z.1) λz=>(hn b z).elim (λz=>.inl (J b z).1) .inr;show#[#[dx,o _ _ h1 (L h1)],R.pg.move o (λb z=>(J b z).1) hM (λb z y=>(J b y).2.1 z) (L f1) (L f2) nt,#[R.ok.ds,λb z=>.inl #[R.ok.mm b z,λq=>?_]],λb z e=>?_,?_,by rw[Tb.fN];show R.nd,λI G=>?_,λI G b z=>?_,λI G=>?_,λx1 ab x2 Y ac b S U=>?_,.inl #[R.DV,λq=>(J _ q).2.2 rfl],R.BW,R.zd]
 .simp only[LO,Lm,or_false]at z;rcases z with z|z|z|z|z|z|z|z|z<;>rw[z]at q
  .show(J _ q).2.1 (PA.fg 0 rfl)
  .show L f1 q
  .show(J _ q).2.1 (PA.fg 1 rfl)
  .show(J _ q).2.1 (PA.fg 2 rfl)
  .show L f2 q
  .show(J _ q).2.1 (PA.fg 3 rfl)
  .show(J _ q).2.1 (PA.fg 4 rfl)
  .show(J _ q).2.1 (PA.fg 5 rfl)
  .show(J _ q).2.1 (PA.fg 6 rfl)
 .rcases z with z|z
  .cases e2:H b with
   |none=>show R.mt b z.1 e2
   |some u=>rw[o b u e2 z.2]at e;cases e
  .let#[_,h]:=T.at_.dK z;rw[e]at h;cases h
 .rw[Tb.rR R.nd hx (show V.ref y.p=V.ref x.p by rw[ep])];show o _ _ R.hd λz=>(J _ z).2.2 rfl
 .rcases Tb.mem_set G with rfl|⟨G,O⟩
  .show T
  .let#[aT,h3]:=(R.tb I G).at_.ob;show(R.tb I G).off o (L h3) (λb z z'=>R.dj I G _ N O b z z') nt
 .rcases Tb.mem_set G with rfl|⟨G,O⟩
  .show#[.inr z,?_];rcases hn b z with z|z
   .show(J b z).2
   .show#[λq=>R.mt b (R.ok.own b q) z,λq=>by rw[q,R.hd]at z;cases z]
  .show#[.inl #[(R.dm I G b z).1,λq=>R.dj I G _ N O b z q],(R.dm I G b z).2]
 .rcases Tb.mem_set G with rfl|⟨G,O⟩
  .change ¬ a.A.own y.p;rw[ep];show R.np _ N
  .show R.np I G
 .have am:∀I∈W,I.1≠t->∀b,I.2.eQ b->¬ y.eQ b:=λI G O b S U=>by
   rcases hn b U with z|z
   .show R.dj I G _ N O b S z
   .let#[_,h]:=(R.tb I G).at_.dK S;rw[z]at h;cases h
  rcases Tb.mem_set ab with rfl|⟨ab,ap⟩<;>rcases Tb.mem_set Y with rfl|⟨Y,as⟩
  .show ac rfl
  .show am x2 Y as b U S
  .show am x1 ab ap b S U
  .show R.dj x1 ab x2 Y ac b S U
theorem az.rY (R:az c H M a s W) (L:Tb.look W t=some x) (o:Off x.eQ H H') (J:∀b,y.eQ b->x.eQ b\/H b=none):Step H M (a.own W) H' (λb=>(M b/\¬ x.eQ b)\/y.eQ b) (a.own (Tb.aU W t y)):=by
 have G:=Tb.ay L;show#[o.mono λb z=>.inr (.inr #[_,G,z]),λb z q=>.inl #[z,λw=>q (.inr (.inr #[_,G,w]))],λb z=>z.elim (λz=>.inl z.1) λz=>(J b z).elim (λz=>.inl (R.dm _ G b z).1) .inr,λb z=>?_,R.mt,R.dw];rcases z with z|z|⟨N,I,z⟩
 .show .inl (.inl z)
 .show .inl (.inr (.inl z))
 .rcases Tb.mem_set I with rfl|⟨I,O⟩
  .show(J b z).elim (λz=>.inl (.inr (.inr #[_,G,z]))) .inr
  .show .inl (.inr (.inr #[N,I,z]))
theorem az.Gv (R:az c H M a s W) {W':dv}(S:(W'.map (·.1)).Nodup) (tb:∀x∈W',dq c.T H x.2) (L:∀x∈W',∀b,x.2.eQ b->M b/\¬ a.A.own b/\b≠a.rd) (np:∀x∈W',¬ a.A.own x.2.p) (O:∀x∈W',∀y∈W',x.1≠y.1->∀b,x.2.eQ b->¬ y.2.eQ b) :
  az c (upd H a.rd (.dK (Tb.dk fR W'))) M a s W':=by
 have o:Off (· = a.rd) H (upd H a.rd (.dK (Tb.dk fR W'))):=λb o e z=>(by rw[ag z];show e);have G:∀{b C dx fs},H b=some (.ins C dx fs)->¬ b=a.rd:=λe z=>(by rw[z,R.hd]at e;cases e);have J:∀b xs,H b=some (.tup xs)->¬ b=a.rd:=λb xs e z=>(by rw[z,R.hd]at e;cases e);have al:∀b,upd H a.rd (.dK (Tb.dk fR W')) b=none->H b=none:=λb e=>by
  by_cases z:b=a.rd
  .rw[z,ae]at e;cases e
  .rw[ag z]at e;show e
 let#[dx,h1]:=R.ob;let#[am,N]:=R.pg.fr.ob;let#[ac,Y]:=R.pg.sl.ob;show#[#[dx,o _ _ h1 (G h1)],R.pg.move o (λb z=>by rw[z];show R.DV) (λb z=>.inl z) (λb z y=>R.BW (y▸z)) (G N) (G Y) J,R.ok,λb U e=>R.mt b U (al b e),ae,S,λx I=>?_,L,np,O,R.DV,R.BW,R.zd];let#[ab,h3]:=(tb x I).at_.ob;show(tb x I).off o (G h3) (λb z y=>(L x I b z).2.2 y) J
theorem az.BM (R:az c H M a s W) (U:Tb.look W t=none) (T:dq c.T H y) (I:∀b,y.eQ b->M b/\¬ a.own W b) (np:¬ a.A.own y.p):az c (upd H a.rd (.dK (Tb.dk fR (W++[(t,y)])))) M a s (W++[(t,y)]):=by
 show R.Gv ?_ (λx G=>?_) (λx G=>?_) (λx G=>?_) (λS h1 N h2 O b J L=>?_)
 .rw[Ln];show fQ R.nd (Tb.bP U)
 .rcases List.mem_append.mp G with G|G
  .show R.tb x G
  .rw[List.mem_singleton.mp G];show T
 .rcases List.mem_append.mp G with G|G
  .show R.dm x G
  .rw[List.mem_singleton.mp G];show λb z=>#[(I b z).1,λq=>(I b z).2 (.inl q),λq=>(I b z).2 (.inr (.inl q))]
 .rcases List.mem_append.mp G with G|G
  .show R.np x G
  .rw[List.mem_singleton.mp G];show np
 .rcases List.mem_append.mp h1 with h1|h1<;>rcases List.mem_append.mp h2 with h2|h2
  .show R.dj S h1 N h2 O b J L
  .rw[List.mem_singleton.mp h2]at L;show(I b L).2 (.inr (.inr #[S,h1,J]))
  .rw[List.mem_singleton.mp h1]at J;show(I b J).2 (.inr (.inr #[N,h2,L]))
  .show O (by rw[List.mem_singleton.mp h1,List.mem_singleton.mp h2])
theorem az.F0 (R:az c H M a s W) (t:Int):az c (upd H a.rd (.dK (Tb.dk fR (Tb.bg W t)))) M a s (Tb.bg W t):=
 R.Gv (Tb.nG R.nd) (λx G=>R.tb x (Tb.cf G).1) (λx G=>R.dm x (Tb.cf G).1) (λx G=>R.np x (Tb.cf G).1) (λx G y I=>R.dj x (Tb.cf G).1 y (Tb.cf I).1)
end
end St
namespace L2
open PySem PySem.Spec PyProof.Rows
noncomputable def Ki (K:PySem.W.Frag):R2:=λx y H Q=>∃p q xs ys,x=.ref p/\y=.ref q/\cy K H p xs/\cy K H q ys/\xs.all eI=true/\ys.all eI=true/\Q (.bl (!jh xs ys)) H
section
variable {X:Cx}
theorem vK (hu:X.A.units<NG):lC X (Ms .NotEq) (Ki X.K):=by
 intro pins s σ H x y v u Q I rx ry h;let#[p,q,xs,ys,rfl,rfl,hx,hy,fx,fy,hq]:=h;cases rx;cases ry;let#[its,r,pl,hz]:=I.tuple hx;let#[N,L,ab,am]:=I.tuple hy;have hl:=r.length;have R:=L.length;show PySem.SeqAt.RcNeAt.tuples (e:=λj=>lN (xs.getD j .non) (ys.getD j .non)) pl ab hu (λj h1 h2=>?_) _ _ _ _ #[.bl (!jh xs ys),H,I,?_,hq]
 .rw[G1]at h1 h2;have G:j<xs.length:=af;have J:j<ys.length:=af;let#[a,ea,Y]:=r.get (i:=j) (x:=xs[j]) (by simp[G]);let#[b,eb,O]:=L.get (i:=j) (x:=ys[j]) (by simp[J]);let#[_,U]:=List.getElem?_eq_some_iff.mp ea;let#[_,ac]:=List.getElem?_eq_some_iff.mp eb;have S:xs.getD j .non=xs[j]:=(by simp[G]);have g2:ys.getD j .non=ys[j]:=(by simp[J]);change OT _ _ its.toArray[j] N.toArray[j] (lN (xs.getD j .non) (ys.getD j .non));have a1:its.toArray[j]=a:=(by simpa using U);have a2:N.toArray[j]=b:=(by simpa using ac);rw[S,g2,a1,a2];show rW Y O (List.all_eq_true.mp fx _ (MB G)) (List.all_eq_true.mp fy _ (MB J))
 .change Value.bool _=Value.bool _;rw[G1,G1, <-hl, <-R,pC]
end
end L2
namespace St
open PySem L2
noncomputable abbrev qI:LI:=top 17
noncomputable abbrev rE:LI:=top 18
noncomputable abbrev qC:LI:=top 19
noncomputable abbrev qH:LI:=inClass (top 33) 1
noncomputable abbrev qh:LI:=inClass (top 33) 2
noncomputable abbrev xj:LI:=inClass (top 33) 3
noncomputable abbrev vf:LI:=inClass (top 33) 4
noncomputable abbrev wz:LI:=inClass (top 33) 5
noncomputable abbrev uN:LI:=inClass (top 33) 6
noncomputable abbrev qk:LI:=inClass (top 33) 7
noncomputable abbrev vH:LI:=inClass (top 33) 8
noncomputable abbrev pZ:LI:=inClass (top 33) 11
noncomputable abbrev qu:LI:=inClass (top 33) 12
noncomputable abbrev rj:LI:=inClass (top 33) 13
structure pb (K:PySem.W.Frag) (mg:Str->Option Value) (c:CA):Prop where
 cl:pG K c.C
 nP:dg K c.C "paging"
 nT:dg K c.C "total"
 nR:dg K c.C "rooms"
 bl:∃aB,mg "BLANK" = some (.ref aB)/\cy K (λ_=>none) aB [.str "blank"]
 pc:∃u,mg "PAGE_CELLS" = some u/\RelV (.int 8) u
 len:mg "len" = none
 sum:mg "sum" = none
 zip:mg "zip" = none
noncomputable def Cv (s:Pg.PS) (W:dv) (cv:Int->Int->List Int):Prop:=∀t x,Tb.look W t=some x->∀q e,Tb.look x.t q=some e->Pg.yz s e (cv t q)
theorem oj {W:dv}{t q:Int}{x:TD}{e:Pg.Ent}(I:Tb.look W t=some x) (G:Tb.look x.t q=some e):e∈ents W :=
 List.mem_flatMap.mpr #[(t,x),Tb.ay I,List.mem_map.mpr #[(q,e),Tb.ay G,rfl]]
theorem Cv.next {s s':Pg.PS}{W W':dv}{cv:Int->Int->List Int}(h:Cv s W cv) (hs:Pg.bh (ents W') s s') (L:∀t G,Tb.look W' t=some G->∃x,Tb.look W t=some x/\∀q e,Tb.look G.t q=some e->Tb.look x.t q=some e):Cv s' W' cv:=by
 intro t G J q e I;let#[x,h1,h2]:=L t G J;show hs e (oj J I) _ (h t x h1 q e (h2 q e I))
theorem Cv.keep {s s':Pg.PS}{W:dv}{cv:Int->Int->List Int}(h:Cv s W cv) (hs:Pg.bh (ents W) s s'):Cv s' W cv:=h.next hs λt x G=>#[x,G,λ_ _ e=>e]
theorem iK {W:dv}{t:Int}{x y:TD}(h:Tb.look W t=some x):Tb.look (Tb.aU W t y) t=some y:=by rw[Tb.bO t h,Q0 rfl]
theorem set_set {W:dv}{t:Int}{x y:TD}:Tb.aU (Tb.aU W t x) t y=Tb.aU W t y:=by
 unfold Tb.aU;rw[Me];show Mx λz _=>?_;change(if (if z.1=t then(t,x)else z).1=t then(t,y)else(if z.1=t then(t,x)else z))=if z.1=t then(t,y)else z
 by_cases c:z.1=t
 .rw[Q0 c,Q0 rfl,Q0 c]
 .simp only[QZ c]
theorem cL {W:dv}{t:Int}{x:TD}(G:(W.map (·.1)).Nodup) (h:Tb.look W t=some x):Tb.aU W t x=W:=by
 unfold Tb.aU
 conv=>rhs;rw[<-List.map_id W]
 show Mx λz I=>?_;change(if z.1=t then(t,x)else z)=z;by_cases c:z.1=t
 .have:=Tb.bK G I;rw[c,h]at this;rw[Q0 c,Option.some.inj this, <-c]
 .rw[QZ c]
theorem ye {W:dv}{t q:Int}{x y:TD}{e:Pg.Ent}(I:(W.map (·.1)).Nodup) (G:Tb.look W t=some x) (nx:(x.t.map (·.1)).Nodup) (J:Tb.look x.t q=some e) (L:y.t=Tb.bg x.t q):(ents W).Perm (e::ents (Tb.aU W t y)):=by
 show(kN I G).trans (((tU nx J).append_right _).trans ?_);rw[<-L];show((ie I G).symm).cons e
theorem BK {W:dv}{t q:Int}{x y:TD}{e:Pg.Ent}(J:(W.map (·.1)).Nodup) (G:Tb.look W t=some x) (I:y.t=(q,e)::Tb.bg x.t q):(ents (Tb.aU W t y)).Perm (e::(uj (Tb.bg x.t q)++ents (Tb.bg W t))):=by
 show(ie J G).trans ?_;rw[I];show List.Perm.refl _
theorem dq.mem {c:CA}{H:Hp}{x:TD}(T:dq c.T H x) {ns:List Int}(p:ns.Perm (Tb.fZ x.tb)) (q:Int):q∈ns↔Tb.look x.t q≠none:=by
 rw[p.mem_iff,Tb.sM T.at_,T.lk];cases Tb.look x.t q<;>simp
theorem dq.pg {c:CA}{H:Hp}{x:TD}(T:dq c.T H x) {q:Int}(h:Tb.look x.t q≠none):0<=q/\q<64:=T.at_.xh (by
 rw[T.lk];cases e:Tb.look x.t q with
 |none=>show absurd e h
 |some _=>simp)
inductive dy (vs:List V) (H:Hp) (Q:VK) (e3:XK):Prop
 |mk (a:Addr) (W:dv) (t:Int) (x:TD) (_:vs=[.ref a,.int t]) (_:H a=some (.dK (Tb.dk fR W))) (_:Tb.look W t=some x) (_:Q (.ref x.p) H):dy vs H Q e3
inductive iy (vs:List V) (H:Hp) (Q:VK) (e3:XK):Prop
 |mk (a:Addr) (W:dv) (t:Int) (_:vs=[.ref a,.int t]) (_:H a=some (.dK (Tb.dk fR W))) (_:Tb.look W t=none) (_:Q .non H):iy vs H Q e3
inductive lS (vs:List V) (H:Hp) (Q:VK) (e3:XK):Prop
 |mk (h t:Int) (_:vs=[.int h,.int t]) (_:¬ t<h) (_:Q .non H):lS vs H Q e3
inductive fh (c:CA) (vs:List V) (H:Hp) (Q:VK) (e3:XK):Prop
 |mk (M:Addr->Prop) (a:RA) (s:Pg.PS) (W:dv) (cv:Int->Int->List Int) (t:Int) (x:TD) (lp:Addr) (ps:List Int) (_:vs=[.ref a.rp,.ref x.p,.ref lp]) (_:az c H M a s W) (_:Pg.RI s (ents W)) (_:Cv s W cv) (_:Tb.look W t=some x) (_:H lp=some (.lst (ps.map V.int))) (_:¬ M lp) (_:ps.Nodup) (_:(∀q∈ps,Tb.look x.t q≠none)) (_:∀(H':Hp) (M':Addr->Prop) (s':Pg.PS) (y:TD),az c H' M' a s' (Tb.aU W t y)->Pg.RI s' (ents (Tb.aU W t y))->Cv s' (Tb.aU W t y) cv->(∀q,Tb.look y.t q=if q∈ps then none else Tb.look x.t q)->Step H M (a.own W) H' M' (a.own (Tb.aU W t y))->(∀b,(s'.ow b).length=(s.ow b).length)->Q .non H'):fh c vs H Q e3
inductive vh (c:CA) (vs:List V) (H:Hp) (Q:VK) (e3:XK):Prop
 |mk (M:Addr->Prop) (a:RA) (s:Pg.PS) (W:dv) (cv:Int->Int->List Int) (t p m:Int) (x:TD) (_:vs=[.ref a.rp,.int t,.int p,.int m]) (_:az c H M a s W) (_:Pg.RI s (ents W)) (_:Cv s W cv) (_:Tb.look W t=some x) (_:¬ Rm.bU p m) (_:(∀q∈Rm.aN p m,Tb.look x.t q≠none)) (_:∀(H':Hp) (M':Addr->Prop) (s':Pg.PS) (y:TD),az c H' M' a s' (Tb.aU W t y)->Pg.RI s' (ents (Tb.aU W t y))->Cv s' (Tb.aU W t y) cv->(∀q,Tb.look y.t q=if q∈Rm.aN p m then none else Tb.look x.t q)->Step H M (a.own W) H' M' (a.own (Tb.aU W t y))->(∀b,(s'.ow b).length=(s.ow b).length)->Q .non H'):vh c vs H Q e3
inductive lY (c:CA) (vs:List V) (H:Hp) (Q:VK) (e3:XK):Prop
 |mk (M:Addr->Prop) (a:RA) (s:Pg.PS) (W:dv) (cv:Int->Int->List Int) (t:Int) (x:TD) (_:vs=[.ref a.rp,.int t]) (_:az c H M a s W) (_:Pg.RI s (ents W)) (_:Cv s W cv) (_:Tb.look W t=some x) (_:∀(H':Hp) (M':Addr->Prop) (s':Pg.PS),az c H' M' a s' (Tb.bg W t)->Pg.RI s' (ents (Tb.bg W t))->Cv s' (Tb.bg W t) cv->Step H M (a.own W) H' M' (a.own (Tb.bg W t))->(∀b,(s'.ow b).length=(s.ow b).length)->Q .non H'):lY c vs H Q e3
inductive m5 (c:CA) (vs:List V) (H:Hp) (Q:VK) (e3:XK):Prop
 |mk (M:Addr->Prop) (a:RA) (s:Pg.PS) (W:dv) (t:Int) (_:vs=[.ref a.rp,.int t]) (_:az c H M a s W) (_:Tb.look W t=none) (_:W.length<=1000) (_:∀(H':Hp) (M':Addr->Prop) (y:TD),y.t=[]->az c H' M' a s (W++[(t,y)])->Step H M (a.own W) H' M' (a.own (W++[(t,y)]))->Q .non H'):m5 c vs H Q e3
section
variable {P:IF}{w:Ll}{K:PySem.W.Frag}{mg:Str->Option Value}{base:Heap}
theorem dU {α:Type}{f:α->V}{H:Hp}{a:Addr}{l:List (Int×α)}{t:Int}(h:H a=some (.dK (Tb.dk f l))):dB H a (.int t) ((Tb.look l t).map f):=by
 have q:=dB.k (k:=Sum.inl t) h;rw[Tb.cK]at q;show q
theorem Jr:aC ["rooms","task"] ["rooms","task"] (aw qI):=L2.bG
theorem yR {f:Addr}{fd:GX}(F:cM K "room_of" "room_of" qI f fd):a8 P w K mg base aS 1 f fd ["rooms","task"] dy:=by
 show F.ok Jr (λvs H Q E h=>?_) (λN A outer s H vs Q E I h=>?_)
 .let#[a,W,t,x,rfl,_]:=h;rfl
 .let#[a,W,t,x,rfl,L,J,k]:=h;show#[_,(ah (aV (gb (eg (aZ I) (pv 1) (pv 0))) cw aG)
   (aj (aF (a9 (aZ I) (pv 0) (pv 1) (λ_ _=>rfl))))),?_]
  have G:=dU (t:=t) L;rw[J]at G;show#[0,0,a,0,G,0,bJ #[0,0,a,fR x,rfl,G,k]]
theorem Jt:aC ["rooms","task"] ["rooms","task"] (aw rE):=L2.bG
theorem ya {f:Addr}{fd:GX}(F:cM K "refuse_second_room" "refuse_second_room" rE f fd):a8 P w K mg base aS 1 f fd ["rooms","task"] iy:=by
 show F.ok Jt (λvs H Q E h=>?_) (λN A outer s H vs Q E I h=>?_)
 .let#[a,W,t,rfl,_]:=h;rfl
 .let#[a,W,t,rfl,L,J,k]:=h;show#[_,(aj (aV (gb (kL (aZ I) (pv 1) (pv 0))) cw aG)),?_];have G:=dU (t:=t) L;rw[J]at G;show#[0,0,a,0,G,0,bJ k]
theorem Hm:aC ["held","total"] ["held","total"] (aw qC):=L2.bG
theorem Am {f:Addr}{fd:GX}(F:cM K "refuse_above" "refuse_above" qC f fd):a8 P w K mg base aS 1 f fd ["held","total"] lS:=by
 show F.ok Hm (λvs H Q E h=>?_) (λJ A outer s H vs Q E I h=>?_)
 .let#[h,t,rfl,_]:=h;rfl
 .let#[h,t,rfl,G,k]:=h;show#[_,(aj (aV (aA gz (pv 0) (pv 1) (aH _)) cw aG)),?_];show#[0,0,_,0,rfl,0,?_];show gf (λc=>absurd (of_decide_eq_true c) G) (λc=>k)
theorem Fq:aC ["self","table","pages","page","entry"] ["self","table","pages"] (aw pZ):=L2.bG
theorem oG {f:Addr}{fd:GX}{c:CA}(F:cM K "leave_pages" "Rooms.leave_pages" pZ f fd) (T:pb K mg c) (TT:Tb.Txt K mg c.T) (TP:qQ K mg c.P) (GG:Md P w K mg base aS 3 c.T "get" (Tb.oW c.T)) (GK:Md P w K mg base aS 1 c.T "clear" (Tb.rF c.T)) (bx:Md P w K mg base aS 4 c.P "leave" (lW c.P c.S)):a8 P w K mg base aS 5 f fd ["self","table","pages"] (fh c):=by
 let#[aB,mB,sB]:=T.bl;have rB:RelV (.ref aB) (.ref aB):=rfl;show F.ok Fq (λvs H Q E h=>?_) (λb2 A outer s H vs Q E hr h=>?_)
 .let#[M,a,s',W,cv,t,x,lp,ps,rfl,_]:=h;rfl
 .let#[M,a,s',W,cv,t,x,lp,ps,rfl,R,ri,a6,Y,a3,bb,be,bn,q]:=h;show#[_,(aj (de Lr rfl (eu (pv 2)) (aY (i:=3) Fq.nd rfl (Lc rfl)) (ah (aO (i:=4) Fq.nd rfl (Lc rfl) (pm (pv 1) TT.cl GG hr ax (aa (pv 3) ai)))
   (ah (aM (pm (pv 1) TT.cl GK hr ax (aa (pv 3) ai)))
   (aj (aV (aA (vK hr.kT) (pv 4) (cB (by rfl) mB rB) (aH _)) (aj (aM (pm (aL (pv 0) rfl) TP.cl bx hr ax (aa (bq bB (pv 4) ak (λ_ _=>rfl)) ai)))) aG)))))),?_]
  have b0:¬ a.own W lp:=λz=>bb (R.dw lp z);show#[0,lp,rfl,#[_,bA.of a3],?_];show dZ (K:=K) (a:=lp) (xs:=ps.map V.int) (λi σ H2=>BX λ(v3 v4:Option V) (M2:Addr->Prop) (s2:Pg.PS) (y:TD)=>IL (σ=[some (.ref a.rp),some (.ref y.p),some (.ref lp),v3,v4]) (az c H2 M2 a s2 (Tb.aU W t y)) (Pg.RI s2 (ents (Tb.aU W t y))) (Cv s2 (Tb.aU W t y) cv) ((∀q,Tb.look y.t q=if q∈ps.take i then none else Tb.look x.t q)) (Step H M (a.own W) H2 M2 (a.own (Tb.aU W t y))) (∀b,(s2.ow b).length=(s'.ow b).length))
   #[2,M,s',x,rfl,by rw[cL R.nd Y];show R,by rw[cL R.nd Y];show ri,by rw[cL R.nd Y];show a6,λq=>by simp,by rw[cL R.nd Y];show R.refl,λ_=>rfl] (λi σ H2 _ z0=>by let#[_,_,_,_,_,_,_,_,_,_,st,_]:=z0;show bA.of (st.off _ _ a3 b0)) ?_ ?_
  .rintro i u σ H2 hu ⟨v3,v4,M2,s2,y,rfl,R2,as,am,ac,aT,ap⟩;rw[K4]at hu;let#[p,hp,rfl]:=Option.map_eq_some_iff.mp hu;have bc:=Ld hp;let#[hi,b1]:=List.getElem?_eq_some_iff.mp hp;have bi:¬ p∈ps.take i:=λz=>by
    let#[j,hj,e]:=Mo z;rw[NK]at e;rw[Lp]at hj;show mW be j i (Lb af) hp af e
   have ab:=iK (y:=y) Y;obtain⟨e,he⟩:∃e,Tb.look y.t p=some e:=by
    rw[ac p,QZ bi];cases z:Tb.look x.t p with
    |none=>show absurd z (bn p bc)
    |some e=>show#[e,rfl]
   have T2:=R2.tb _ (Tb.ay ab);let#[a7,ht]:=T2.at_.ob;show#[0,y.p,a7,0,ht,Tb.aW _ ao,0,y.p,y.fs,y.tb,p,rfl,T2.at_,λH3 v s3 O=>?_];rw[T2.lk,he]at O;let#[tt,rfl,a4]:=O;have R3:=R2.same s3;have T3:=R3.tb _ (Tb.ay ab);let#[bv,bm]:=T3.at_.ob;show#[0,y.p,bv,0,bm,Tb.aW _ ao,0,y.p,y.fs,y.tb,p,rfl,T3.at_,λH4 J T4 l4 _ o4 n4=>?_];have bd:dq c.T H4 #[y.p,y.fs,J,Tb.bg y.t p]:=#[T4,Tb.nG T3.nd,λj=>by
    rw[l4 j,Tb.cj];by_cases z:j=p
    .rw[Q0 z,Q0 z];rfl
    .rw[QZ z,QZ z];show T3.lk j]
   have G:=R3.uv (y:=#[y.p,y.fs,J,Tb.bg y.t p]) ab rfl bd o4 n4;have S4:=aT.trans ((R2.iB s3).trans (R3.rY (y:=#[y.p,y.fs,J,Tb.bg y.t p]) ab o4 n4));have pe:=ye (y:=#[y.p,y.fs,J,Tb.bg y.t p]) R2.nd ab T2.nd he rfl;rw[set_set]at G S4 pe;have U:=as.perm pe;have a5:∀j,Tb.look (Tb.bg y.t p) j=if j∈ps.take (i+1)then none else Tb.look x.t j:=λj=>by
    rw[Tb.cj,ac j,Mp,hp];by_cases z:j=p
    .rw[Q0 z,Q0 (by rw[z];simp)]
    .rw[QZ z];by_cases N:j∈ps.take i
     .rw[Q0 N,Q0 (Mh _ N)]
     .rw[QZ N,QZ (by simp[z,N])]
   have a2:∀t' x',Tb.look (Tb.aU W t #[y.p,y.fs,J,Tb.bg y.t p]) t'=some x'->∃a0,Tb.look (Tb.aU W t y) t'=some a0/\∀q e,Tb.look x'.t q=some e->Tb.look a0.t q=some e:=by
    intro t' x' h';rw[Tb.bO t' Y]at h' ⊢;by_cases z:t'=t
    .rw[Q0 z]at h' ⊢;cases h';show#[y,rfl,λq e I=>?_];have I:Tb.look (Tb.bg y.t p) q=some e:=I;rw[Tb.cj]at I;by_cases N:q=p
     .rw[Q0 N]at I;cases I
     .rw[QZ N]at I;show I
    .rw[QZ z]at h' ⊢;show#[x',h',λ_ _ h=>h]
   have bI:¬ y.eQ tt:=λz=>by
    let#[_,h]:=T3.at_.dK z;rw[a4]at h;cases h
   have a1:=o4 _ _ a4 bI;show#[0,tt,aB,_,0,rfl,cy.of a1,jf.sq (.inr sB),?_];cases e with
   |none =>
    show#[1,0,bJ ?_];show#[2,_,s2,#[y.p,y.fs,J,Tb.bg y.t p],rfl,G,U.bare,am.next Pg.bh.refl a2,a5,S4,ap]
   |some k =>
    show#[1,0,eL ?_];let#[bC,ba]:=G.ob;let#[bY,bz]:=G.pg.ob;let#[cs,cc,O]:=U.is k Ls;show#[0,a.rp,c.C,bC,_,0,ba,T.cl,T.nP,pN _ _ _,a.A.pg,bY,0,bz,cQ _ _ ao ao ao ao ao,0,tt,_,(1),0,rfl,cy.of a1,5,a.A,s2,k,cs,cc,rfl,G.pg,G.ok,G.mt,U.good,O,λH5 s5 le G5 O5=>?_];have L:=Pg.xi U.good O le;show#[2,_,s5,#[y.p,y.fs,J,Tb.bg y.t p],rfl,G.kH G5 O5 L.ln,U.leave O le,am.next (U.u9 O le) a2,a5,S4.trans (G.GB G5 O5),λb=>(L.ln b).trans (ap b)]
  .rintro σ H2 ⟨v3,v4,M2,s2,y,rfl,R2,as,am,ac,aT,ap⟩;rw[BY,Mq]at ac;show q H2 M2 s2 y R2 as am ac aT ap
theorem Ip:aC ["self","task","page","many","table"] ["self","task","page","many"] (aw vf):=L2.bG
theorem Cd {f:Addr}{fd:GX}{c:CA}(F:cM K "drop" "Rooms.drop" vf f fd) (T:pb K mg c) (TT:Tb.Txt K mg c.T) (GR:Df P w K mg base aS 1 "room_of" dy) (GD:Df P w K mg base aS 2 "pages_to_drop" Rm.mJ) (as:Md P w K mg base aS 1 c.T "pages" (Tb.dW c.T)) (am:Md P w K mg base aS 5 c.C "leave_pages" (fh c)):a8 P w K mg base aS 6 f fd ["self","task","page","many"] (vh c):=by
 show F.ok Ip (λvs H Q E h=>?_) (λa7 A outer s H vs Q E G h=>?_)
 .let#[M,a,s',W,cv,t,p,m,x,rfl,_]:=h;rfl
 .let#[M,a,s',W,cv,t,p,m,x,rfl,R,ri,aB,J,I,S,q]:=h;let#[dx,U]:=R.ob;have L:=R.tb _ (Tb.ay J);let#[aT,ht]:=L.at_.ob;have b1:¬ m<1:=λz=>I (.inl z);have b2:¬ p<0:=λz=>I (.inr (.inl z));have b3:¬ 64<p+m:=λz=>I (.inr (.inr z));show#[_,(ah (aO (i:=4) Ip.nd rfl (Lc rfl) (pc GR G ax (aa (aL (pv 0) rfl) (aa (pv 1) ai))))
   (aj (aM (pm (pv 0) T.cl am G ax (aa (pv 4) (aa (pc GD G ax (aa (qx (pv 4) TT.cl as G ax) (aa (pv 2) (aa (pv 3) ai)))) ai)))))),?_]
  show#[0,a.rp,c.C,dx,_,0,U,T.cl,T.nR,eV _ _ _,0,a.rd,W,t,x,rfl,R.hd,J,?_];show#[0,a.rp,dx,0,U,fJ _ _ _ ao ao ao,0,0,x.p,aT,0,ht,Tb.aW _ ao,x.p,x.fs,x.tb,rfl,L.at_,λH1 l1 ns O a6 a2 pm a5=>?_];show#[0,0,l1,ns,p,m,rfl,a2,I,λq hq=>(L.mem pm q).mpr (S q hq),λH2 l2 s2 ap Y=>?_]
  .have N:=O.trans s2;show#[M,a,s',W,cv,t,x,l2,Rm.aN p m,rfl,R.same N,ri,aB,J,Y,λz=>R.mt _ z (O.free ap),?_,S,λH3 M3 s3 y R3 ab ac a0 a4 a1=>q H3 M3 s3 y R3 ab ac a0 ((R.iB N).trans a4) a1];unfold Rm.aN;show List.pairwise_map.mpr (List.nodup_range.imp ?_);intro i j a3 e;show a3 af
theorem Ib:aC ["self","task","table"] ["self","task"] (aw qh):=L2.bG
theorem yM {f:Addr}{fd:GX}{c:CA}(F:cM K "close" "Rooms.close" qh f fd) (T:pb K mg c) (TT:Tb.Txt K mg c.T) (GR:Df P w K mg base aS 1 "room_of" dy) (aB:Md P w K mg base aS 1 c.T "pages" (Tb.dW c.T)) (ap:Md P w K mg base aS 5 c.C "leave_pages" (fh c)):a8 P w K mg base aS 6 f fd ["self","task"] (lY c):=by
 show F.ok Ib (λvs H Q E h=>?_) (λba A outer s H vs Q E U h=>?_)
 .let#[M,a,s',W,cv,t,x,rfl,_]:=h;rfl
 .let#[M,a,s',W,cv,t,x,rfl,R,ri,aT,I,q]:=h;let#[dx,ho]:=R.ob;have J:=R.tb _ (Tb.ay I);let#[a0,ht]:=J.at_.ob;show#[_,(ah (aO (i:=2) Ib.nd rfl (Lc rfl) (pc GR U ax (aa (aL (pv 0) rfl) (aa (pv 1) ai))))
   (ah (aM (pm (pv 0) T.cl ap U ax (aa (pv 2) (aa (qx (pv 2) TT.cl aB U ax) ai))))
   (aj (aM (eG (aL (pv 0) rfl) (pv 1) #[1,1]))))),?_]
  show#[0,a.rp,c.C,dx,_,0,ho,T.cl,T.nR,eV _ _ _,0,a.rd,W,t,x,rfl,R.hd,I,?_];show#[0,a.rp,dx,0,ho,fJ _ _ _ ao ao ao,0,0,x.p,a0,0,ht,Tb.aW _ ao,x.p,x.fs,x.tb,rfl,J.at_,λH1 l1 ns Y a1 a3 pm a7=>?_];show#[M,a,s',W,cv,t,x,l1,ns,rfl,R.same Y,ri,aT,I,a3,λz=>R.mt _ z a1,pm.nodup_iff.mpr (Tb.jO J.at_),λq hq=>(J.mem pm q).mp hq,λH3 M3 s3 y G ac am a2 a6 as=>?_];have a5:=iK (y:=y) I;have ey:y.t=[]:=by
   cases e:y.t with
   |nil=>rfl
   |cons z r =>
    exfalso;have h1:=a2 z.1;rw[e,Tb.aP,Q0 rfl]at h1;by_cases S:z.1∈ns
    .rw[Q0 S]at h1;cases h1
    .rw[QZ S]at h1;show S ((J.mem pm z.1).mpr (by rw[<-h1];simp))
  let#[a4,ab]:=G.ob;show#[0,a.rp,c.C,a4,_,0,ab,T.cl,T.nR,eV _ _ _,a.rd,rfl,.inl #[_,.inl G.hd],0,_,Sum.inl t,fR y,G.hd,rfl,by rw[Tb.cK,a5];rfl,?_];have R4:=G.F0 t;rw[Tb.eJ];rw[Tb.wX]at R4 ⊢;have N:=ie (y:=y) R.nd I;rw[ey]at N;have N:(ents (Tb.aU W t y)).Perm (ents (Tb.bg W t)):=N;show q _ M3 s3 R4 (ac.perm N) (am.next Pg.bh.refl λt' L h'=>?_) (((R.iB Y).trans a6).trans ?_) as
  .rw[Tb.cj]at h';by_cases z:t'=t
   .rw[Q0 z]at h';cases h'
   .rw[QZ z]at h';show#[L,by rw[Tb.bO t' I,QZ z];show h',λ_ _ h=>h]
  .show#[Off.wr (.inr (.inl rfl)),λ_ h _=>h,λ_ h=>.inl h,λb z=>.inl ?_,G.mt,G.dw];rcases z with z|z|⟨L,O,z⟩
   .show .inl z
   .show .inr (.inl z)
   .let#[O,ne]:=Tb.cf O;show .inr (.inr #[L,?_,z]);unfold Tb.aU;show List.mem_map.mpr #[L,O,by rw[QZ ne]]
theorem J6:aC ["self","task"] ["self","task"] (aw qH):=L2.bG
theorem yn {f fI:Addr}{fd U:GX}{c:CA}(F:cM K "begin" "Rooms.begin" qH f fd) (T:pb K mg c) (MK:Mk K c.T fI) (as:mg "Table" = some (.ref c.T)) (GS:Df P w K mg base aS 1 "refuse_second_room" iy) (GI:a8 P w K mg base aS 1 fI U ["self"] (Tb.iq c.T)) (bI:Binds K U ["self"] []):a8 P w K mg base aS 3 f fd ["self","task"] (m5 c):=by
 show F.ok J6 (λvs H Q E h=>?_) (λaB A outer s H vs Q E L h=>?_)
 .let#[M,a,s',W,t,rfl,_]:=h;rfl
 .let#[M,a,s',W,t,rfl,R,N,hl,q]:=h;let#[dx,ho]:=R.ob;have hs:sizeLine=16777216:=Lh;show#[_,(ah (aM (pc GS L ax (aa (aL (pv 0) rfl) (aa (pv 1) ai))))
   (aj (jx (aZ L) (aL (pv 0) rfl) (pv 1) (tX MK GI (L.mono av) (by rfl) as bI .nil ax) rfl))),?_]
  show#[0,a.rp,c.C,dx,_,0,ho,T.cl,T.nR,eV _ _ _,0,a.rd,W,t,rfl,R.hd,N,?_];show λp ac np Y aT=>#[p,ac,rfl,ae,λfs H1 ab S off=>#[4]];have J:bh H H1:=λb u e=>off b u (by rw[ag (aq e np),ag (aq e Y)];show e) (aq e np);have I:H fs=none:=by
   cases e:H fs with
   |none=>rfl
   |some u=>rw[ag (aq e np),ag (aq e Y),e]at ab;cases ab
  have O:=R.D8 (H':=H1) (B:=λ_=>False) (M':=λb=>M b\/b=fs) (λb o e _=>J b o e) (λb z=>z.elim) (λb z=>z.elim) (λb z=>z.elim .inl λz=>.inr (by rw[z];show I)) (λb z _=>.inl z) (λb z e=>z.elim (λz=>(R.same J).mt b z e) λz=>by rw[z,S.hf]at e;cases e)
  .let#[am,ap]:=O.ob;show#[0,a.rp,c.C,am,_,0,ap,T.cl,T.nR,eV _ _ _,0,a.rd,0,gB.k (k:=Sum.inl t) O.hd (by rw[Tb.bW];omega),?_];rw[show(V.ref p)=fR #[p,fs,[],[]]from rfl,Tb.cF N];have TI:dq c.T H1 #[p,fs,[],[]]:=#[S,MN,λq=>rfl];have dd:∀b,(TD.mk p fs [] []).eQ b->b=fs:=λb z=>by
    rcases z with z|⟨_,hx,_⟩
    .show z
    .cases hx
   have R2:=O.BM N TI (λb z=>#[.inr (dd b z),λy=>?_]) (λy=>?_)
   .show q _ _ #[p,fs,[],[]] rfl R2 #[?_,λb z _=>.inl z,λb z=>z.elim .inl λz=>.inr (by rw[z];show I),λb z=>?_,R.mt,R.dw]
    .intro b o e z;rw[ag (λy=>z (.inr (.inl y)))];show J _ _ e
    .rcases z with z|z|⟨x',G,z⟩
     .show .inl (.inl z)
     .show .inl (.inr (.inl z))
     .rcases List.mem_append.mp G with G|G
      .show .inl (.inr (.inr #[x',G,z]))
      .rw[List.mem_singleton.mp G]at z;rw[dd b z];show .inr I
   .rw[dd b z]at y;show R.mt _ (R.dw _ y) I
   .show R.mt _ (R.ok.own _ y) np
end
theorem uI:LK "sum" = some (.builtin "sum"):=ao
inductive iM (c:CA) (vs:List V) (H:Hp) (Q:VK) (e3:XK):Prop
 |mk (M:Addr->Prop) (a:RA) (s:Pg.PS) (W:dv) (tt:Addr) (e:Pg.Ent) (cs:List Int) (_:vs=[.ref a.rp,.ref tt]) (_:az c H M a s W) (_:Pg.Good s) (_:H tt=some (.tup (yy e))) (_:Pg.yz s e cs) (_:∀(H':Hp) (l:Addr),bh H H'->H l=none->H' l=some (.lst (cs.map V.int))->Q (.ref l) H'):iM c vs H Q e3
inductive iE (c:CA) (vs:List V) (H:Hp) (Q:VK) (e3:XK):Prop
 |mk (M:Addr->Prop) (a:RA) (s:Pg.PS) (W:dv) (tt ca:Addr) (e:Pg.Ent) (r:List Pg.Ent) (cs:List Int) (_:vs=[.ref a.rp,.ref tt,.ref ca]) (_:az c H M a s W) (_:Pg.RI s (e::r)) (_:H tt=some (.tup (yy e))) (_:H ca=some (.lst (cs.map V.int))) (_:¬ M ca) (_:cs.length=8) (_:∀(H':Hp) (s':Pg.PS) (k:Int),az c H' M a s' W->Pg.RI s' (some k::r)->Pg.bh r s s'->Pg.yz s' (some k) cs->Step H M (a.own W) H' M (a.own W)->(∀b,(s'.ow b).length=(s.ow b).length)->Q (.int k) H'):iE c vs H Q e3
noncomputable def heldW (W:dv):Int:=(W.map λx=>(x.2.t.length:Int)).sum
theorem ml:∀W:dv,heldW W=((ents W).length:Int)
 | []=>rfl
 |x::W=>by
  have G:=ml W;unfold heldW at G ⊢;rw[Mm,MV,G];change _=(((uj x.2.t++ents W).length:Nat):Int);rw[Li];unfold uj;rw[BY];omega
inductive fX (c:CA) (vs:List V) (H:Hp) (Q:VK) (e3:XK):Prop
 |mk (M:Addr->Prop) (a:RA) (s:Pg.PS) (W:dv) (_:vs=[.ref a.rp]) (_:az c H M a s W) (_:W.length<=1000) (_:∀H',bh H H'->Q (.int (ents W).length) H'):fX c vs H Q e3
noncomputable def gX (cv:Int->Int->List Int) (t:Int) (ps:List Int):Int->Int->List Int:=λt' q=>if t'=t/\q∈ps then replicate 8 0 else cv t' q
inductive vW (c:CA) (vs:List V) (H:Hp) (Q:VK) (e3:XK):Prop
 |mk (M:Addr->Prop) (a:RA) (s:Pg.PS) (W:dv) (cv:Int->Int->List Int) (t p m:Int) (x:TD) (_:vs=[.ref a.rp,.int t,.int p,.int m]) (_:az c H M a s W) (_:Pg.RI s (ents W)) (_:Cv s W cv) (_:W.length<=1000) (_:Tb.look W t=some x) (_:¬ Rm.bU p m) (_:(∀q∈Rm.aN p m,Tb.look x.t q=none)) (_:(ents W).length+m<=bF s) (_:∀(H':Hp) (M':Addr->Prop) (y:TD),az c H' M' a s (Tb.aU W t y)->Pg.RI s (ents (Tb.aU W t y))->Cv s (Tb.aU W t y) (gX cv t (Rm.aN p m))->(∀q,Tb.look y.t q=if q∈Rm.aN p m then some none else Tb.look x.t q)->Step H M (a.own W) H' M' (a.own (Tb.aU W t y))->Q .non H'):vW c vs H Q e3
theorem dq.len {c:CA}{H:Hp}{x:TD}(T:dq c.T H x) {ns:List Int}(p:ns.Perm (Tb.fZ x.tb)):ns.length=x.t.length:=by
 have h:ns.Perm (x.t.map (·.1)):=by
  rw[List.perm_ext_iff_of_nodup (p.nodup_iff.mpr (Tb.jO T.at_)) T.nd];intro q;rw[T.mem p q];constructor
  .intro h;cases e:Tb.look x.t q with
   |none=>show absurd e h
   |some v=>show List.mem_map.mpr #[_,Tb.ay e,rfl]
  .intro h e;show Tb.bP e h
 rw[h.length_eq,BY]
theorem nX {p m:Int}(h:¬ Rm.bU p m):((Rm.aN p m).length:Int)=m:=by
 have:¬ m<1:=λz=>h (.inl z);unfold Rm.aN;rw[BY,LV];omega
theorem pJ (p m:Int):(Rm.aN p m).Nodup:=by
 unfold Rm.aN;show List.pairwise_map.mpr (List.nodup_range.imp ?_);intro i j G e;show G af
theorem yF {cv:Int->Int->List Int}{t:Int}:gX cv t []=cv:=by
 funext t' q;unfold gX;rw[QZ (by simp)]
theorem sW {cv:Int->Int->List Int}{t t' q p:Int}{l:List Int}(h:¬ (t'=t/\q=p)):gX cv t (l++[p]) t' q=gX cv t l t' q:=by
 unfold gX;by_cases z:t'=t/\q∈l
 .rw[Q0 z,Q0 #[z.1,Mh _ z.2]]
 .rw[QZ z,QZ (λy=>by
   rcases List.mem_append.mp y.2 with w|w
   .show z #[y.1,w]
   .show h #[y.1,List.mem_singleton.mp w])]
section
variable {P:IF}{w:Ll}{K:PySem.W.Frag}{mg:Str->Option Value}{base:Heap}
theorem J7:aC ["self","entry"] ["self","entry"] (aw qu):=L2.bG
theorem vc {f:Addr}{fd:GX}{c:CA}(F:cM K "cells_of" "Rooms.cells_of" qu f fd) (T:pb K mg c) (TP:qQ K mg c.P) (Jq:Md P w K mg base aS 4 c.P "cells" (oa c.P c.S)):a8 P w K mg base aS 5 f fd ["self","entry"] (iM c):=by
 let#[I,mB,sB]:=T.bl;let#[u8,m8,r8]:=T.pc;have rB:RelV (.ref I) (.ref I):=rfl;show F.ok J7 (λvs H Q E h=>?_) (λam A outer s H vs Q E O h=>?_)
 .let#[M,a,s',W,tt,e,cs,rfl,_]:=h;rfl
 .let#[M,a,s',W,tt,e,cs,rfl,R,gd,U,G,q]:=h;have hs:sizeLine=16777216:=Lh;show#[_,(ah (aV (aA (zF O.kT) (pv 1) (cB (by rfl) mB rB) (aH _)) (aj (aF (aD lZ (cn (aa ak ai)) (cB (by rfl) m8 r8)))) aG)
   (aj (aF (pm (aL (pv 0) rfl) TP.cl Jq O ax (aa (bq bB (pv 1) ak (λ_ _=>rfl)) ai))))),?_]
  show#[0,tt,I,_,0,rfl,cy.of U,jf.sq (.inr sB),?_];cases e with
  |none =>
   show#[1,0,eL ?_];show#[av,λl1 ab=>?_];show#[l1,(8),0,rfl,ae,af,af,by rw[Mb];omega,λl2 J=>?_];have L:=Tb.ar (X:=.lst [V.int 0]) ab;have s2:=Tb.ar (X:=.lst ((replicate (8:Int).toNat [V.int 0]).flatten)) J;have G:cs=replicate 8 0:=G;show q _ l2 (L.trans s2) (L.free J) ?_;rw[ae,G];rfl
  |some k =>
   show#[1,0,bJ ?_];let#[cc,Y]:=G;let#[dx,ho]:=R.ob;let#[ac,h2]:=R.pg.ob;show#[0,a.rp,c.C,dx,_,0,ho,T.cl,T.nP,pN _ _ _,a.A.pg,ac,0,h2,cQ _ _ ao ao ao ao ao,0,tt,_,(1),0,rfl,cy.of U,rfl,M,a.A,s',k,cs,cc,rfl,R.pg,Y,?_,λl N=>q _ l (Tb.ar N) N ae];have:=(gd.vw Y).1;omega
theorem JW:aC ["self","entry","cells"] ["self","entry","cells"] (aw rj):=L2.bG
theorem qJ {f:Addr}{fd:GX}{c:CA}(F:cM K "sheet_with" "Rooms.sheet_with" rj f fd) (T:pb K mg c) (TP:qQ K mg c.P) (as:Md P w K mg base aS 7 c.P "new_sheet" (gP K c.P c.S)) (a0:Md P w K mg base aS 8 c.P "change" (mV c.P c.S)):a8 P w K mg base aS 9 f fd ["self","entry","cells"] (iE c):=by
 let#[aB,mB,sB]:=T.bl;have rB:RelV (.ref aB) (.ref aB):=rfl;show F.ok JW (λvs H Q E h=>?_) (λbb A outer s H vs Q E hr h=>?_)
 .let#[M,a,s',W,tt,O,e,r,cs,rfl,_]:=h;rfl
 .let#[M,a,s',W,tt,O,e,r,cs,rfl,R,G,ht,ab,ba,L,q]:=h;have am:¬ a.A.own O:=λz=>ba (R.ok.own _ z);let#[dx,ho]:=R.ob;let#[ap,h2]:=R.pg.ob;show#[_,(ah (aV (aA (zF hr.kT) (pv 1) (cB (by rfl) mB rB) (aH _)) (aj (aF (pm (aL (pv 0) rfl) TP.cl as hr ax (aa (pv 2) ai)))) aG)
   (aj (aF (pm (aL (pv 0) rfl) TP.cl a0 hr ax (aa (bq bB (pv 1) ak (λ_ _=>rfl)) (aa (pv 2) ai)))))),?_]
  show#[0,tt,aB,_,0,rfl,cy.of ht,jf.sq (.inr sB),?_];cases e with
  |none =>
   show#[1,0,eL ?_];show#[0,a.rp,c.C,dx,_,0,ho,T.cl,T.nP,pN _ _ _,a.A.pg,ap,0,h2,cQ _ _ ao ao ao ao ao,0,M,a.A,s',O,cs,rfl,R.Jb G,G.room,bA.of ab,λe=>am (by rw[e];show PA.fg 0 rfl),L,λH1 Y N I J=>?_];have B:=Pg.ku G.good G.l0 L N;show q H1 Y _ (R.kH I J B.kept.ln) (G.fill L N) (G.xQ L N) #[(1),B.vw] (R.GB I J) B.kept.ln
  |some k =>
   show#[1,0,bJ ?_];let#[aT,c0,U]:=G.is k Ls;show#[0,a.rp,c.C,dx,_,0,ho,T.cl,T.nP,pN _ _ _,a.A.pg,ap,0,h2,cQ _ _ ao ao ao ao ao,0,tt,_,(1),0,rfl,cy.of ht,rfl,0,M,a.A,s',k,O,aT,c0,cs,rfl,R.Jb G,U,ab,am,L,λz=>G.Gs U z,λz H1 Y s2 N hl I J=>?_,λz H1 Y m ac hm I J=>?_]
   .let#[a1,a2,a3,a4,a5,a6,a7]:=G.part U z L N hl;show q H1 s2 _ (R.kH I J a7) a1 a2 a3 (R.GB I J) a7
   .subst z;let#[a1,a2,a3]:=G.write U L ac hm;have FF:=Pg.oS G.good ac;show q H1 _ k (R.kH I J FF.kept.ln) a1 a2 a3 (R.GB I J) FF.kept.ln
theorem J1:aC ["self"] ["self"] (aw vH):=L2.bG
theorem AR {f:Addr}{fd:GX}{c:CA}(F:cM K "held" "Rooms.held" vH f fd) (T:pb K mg c) (TT:Tb.Txt K mg c.T) (aB:Md P w K mg base aS 1 c.T "pages" (Tb.dW c.T)):a8 P w K mg base aS 2 f fd ["self"] (fX c):=by
 show F.ok J1 (λvs H Q E h=>?_) (λa4 A outer s H vs Q E U h=>?_)
 .let#[M,a,s',W,rfl,_]:=h;rfl
 .let#[M,a,s',W,rfl,R,lw,k]:=h;have hs:sizeLine=16777216:=Lh;let#[dx,h1]:=R.ob;show#[_,(aj (aF (aK (ma rfl) (by rfl) T.sum uI (aa (xD (iR (cl:=[("self",s.heap.objs.size+1)]) (caps:=[("self",0)]) #[rfl,ao,ao,rfl,by kernel_rfl,by intro p J;simp only[LO,Lm,or_false]at J;rcases J with rfl<;>first|rfl|show#[rfl,.inl rfl,.inl rfl]|show#[rfl,.inl rfl,.inr rfl],by kernel_rfl,by intro p J;simp only[LO,Lm,or_false]at J;rcases J with rfl<;>first|rfl|show#[rfl,.inl rfl,.inl rfl]|show#[rfl,.inl rfl,.inr rfl],ao] rfl (qp (aL (pv 0) rfl)) (λ_ _ _ _=>gO) (λ_ _ _ _=>(aK (show dG _ _ (xH K)from yW) (by rfl) T.len boot_len (aa (qx (a9 (aZ U) (show PE _ _ (DK K _ "rooms")from aL (pv 1) rfl) (pv 0) (λ_ _=>rfl)) TT.cl aB U ax) ai))))) ai)))),?_];have hn:∀(o:Obj) u',H a.rd≠some (.cH o u'):=λo u' z=>(by rw[R.hd]at z;cases z);show#[0,a.rp,c.C,dx,_,0,h1,T.cl,T.nR,eV _ _ _,a.rd,0,R.hd,hn,λo=>?_];have ap:a.rp≠a.rd:=λz=>(by rw[z,R.hd]at h1;cases h1);have N:Off (· = a.rd) H (upd H a.rd (.cH o (.dK (Tb.dk fR W)))):=Off.wr rfl;have S:(upd H a.rd (.cH o (.dK (Tb.dk fR W)))) a.rd=some (.cH o (.dK (Tb.dk fR W))):=ae;have as:=N _ _ h1 ap;have a1:∀x∈W,dq c.T (upd H a.rd (.cH o (.dK (Tb.dk fR W)))) x.2:=λx G=>by
   let#[a3,h3]:=(R.tb x G).at_.ob;show(R.tb x G).off N (λz=>by rw[z,R.hd]at h3;cases h3) (λb z=>(R.dm x G b z).2.2) (λb xs e z=>by rw[z,R.hd]at e;cases e)
  show vM (a:=a.rd) (o:=o) (kvs:=Tb.dk fR W) (λi ys H2=>ys=((W.take i).map λx=>(x.2.t.length:Int)).map V.int/\bh (upd H a.rd (.cH o (.dK (Tb.dk fR W)))) H2) #[rfl,λ_ _ e=>e] (λi zs H2 _ ⟨_,e⟩=>e _ _ S) ?_ ?_
  .rintro i kk v zs H2 hk ⟨rfl,I⟩;have ac:(W.map λx:Int×TD=>((Sum.inl x.1:Key),fR x.2))[i]?=some (kk,v):=hk;rw[K4]at ac;let#[x,G,e]:=Option.map_eq_some_iff.mp ac;cases e;have hm:=Ld G;have hi:i<W.length:=(List.getElem?_eq_some_iff.mp G).1;have a0:Tb.look W x.1=some x.2:=Tb.bK R.nd hm;have hg:dB H2 a.rd (.int x.1) (some (fR x.2)):=.inl #[Tb.dk fR W,Sum.inl x.1,.inr #[o,I _ _ S],rfl,by rw[Tb.cK,a0];rfl];have TX:=a1 x hm;have Y:=TX.at_.same I;let#[aT,ht]:=Y.ob;show#[0,a.rp,c.C,dx,_,0,I _ _ as,T.cl,T.nR,eV _ _ _,0,a.rd,fR x.2,rfl,hg,x.2.p,aT,0,ht,Tb.aW _ ao,x.2.p,x.2.fs,x.2.tb,rfl,Y,λH3 l ns s3 fl L pm a2=>?_];show#[l,0,.inl (bA.of L),3,I.trans s3]
   .rw[BY,BY,Lp];omega
   .rw[BY,TX.len pm,Mp,G,Ln,Ln];rfl
  .rintro zs H2 ⟨rfl,I⟩ l L;have ab:=I _ _ S;have am:l≠a.rd:=λz=>(by rw[z,ab]at L;cases L);show#[a.rd,o,Tb.dk fR W,by rw[ag (G0 am)];show ab,hn,l,(W.map λx=>(x.2.t.length:Int)),rfl,bA.of ?_,?_]
   .rw[ag am,ae,Tb.bW,Mq]
   .have e9:=ml W;unfold heldW at e9;rw[e9];show k _ λb u e=>?_;by_cases z:b=a.rd
    .rw[z,ae, <-e,z,R.hd]
    .have O:H2 b=some u:=I _ _ (N _ _ e z);rw[ag z,ag (λy=>by rw[y,L]at O;cases O)];show O
theorem vC:aC ["self","task","page","many","table","pages","wanted"] ["self","task","page","many"] (aw xj):=L2.bG
theorem Dc {f:Addr}{fd:GX}{c:CA}(F:cM K "map" "Rooms.map" xj f fd) (T:pb K mg c) (TT:Tb.Txt K mg c.T) (GR:Df P w K mg base aS 1 "room_of" dy) (GM:Df P w K mg base aS 2 "pages_to_map" Rm.lH) (GA:Df P w K mg base aS 1 "refuse_above" lS) (bb:Md P w K mg base aS 1 c.T "pages" (Tb.dW c.T)) (GH:Md P w K mg base aS 2 c.C "held" (fX c)) (GL:Md P w K mg base aS 3 c.T "lay" (Tb.sJ K c.T)):a8 P w K mg base aS 4 f fd ["self","task","page","many"] (vW c):=by
 let#[aB,mB,sB]:=T.bl;have rB:RelV (.ref aB) (.ref aB):=rfl;show F.ok vC (λvs H Q E h=>?_) (λb9 A outer s H vs Q E O h=>?_)
 .let#[M,a,s',W,cv,t,p,m,x,rfl,_]:=h;rfl
 .let#[M,a,s',W,cv,t,p,m,x,rfl,R,ri,bc,lw,I,U,a3,a6,q]:=h;let#[dx,ho]:=R.ob;have TX:=R.tb _ (Tb.ay I);let#[bd,ht]:=TX.at_.ob;have b1:¬ m<1:=λz=>U (.inl z);have b2:¬ p<0:=λz=>U (.inr (.inl z));have b3:¬ 64<p+m:=λz=>U (.inr (.inr z));have pl:=nX U;show#[_,(ah (aO (i:=4) vC.nd rfl (Lc rfl) (pc GR O ax (aa (aL (pv 0) rfl) (aa (pv 1) ai))))
   (ah (aO (i:=5) vC.nd rfl (Lc rfl) (pc GM O ax (aa (qx (pv 4) TT.cl bb O ax) (aa (pv 2) (aa (pv 3) ai)))))
   (ah (aM (pc GA O ax (aa (aD bt (qx (pv 0) T.cl GH O ax) (aK bo (by rfl) T.len boot_len (aa (pv 5) ai))) (aa (aL (pv 0) rfl) ai))))
   (aj (de Lr rfl (eu (pv 5)) (aY (i:=6) vC.nd rfl (Lc rfl)) (aj (aM (pm (pv 4) TT.cl GL O ax (aa (pv 6) (aa (cB (by rfl) mB rB) ai)))))))))),?_]
  show#[0,a.rp,c.C,dx,_,0,ho,T.cl,T.nR,eV _ _ _,0,a.rd,W,t,x,rfl,R.hd,I,?_];show#[0,x.p,bd,0,ht,Tb.aW _ ao,x.p,x.fs,x.tb,rfl,TX.at_,λH1 l1 ns s1 b8 b4 pm b6=>?_];show#[0,0,l1,ns,p,m,rfl,b4,U,λz h1 h2=>absurd (a3 z h1) ((TX.mem pm z).mp h2),λH2 N s2 ba a5=>?_];have S2:=s1.trans s2;have R2:=R.same S2;let#[bi,bC]:=R2.ob;show#[0,a.rp,bi,0,bC,fJ _ _ _ ao ao ao,M,a,s',W,rfl,R2,lw,λH3 s3=>?_];have a2:=s3 _ _ a5;have R3:=R2.same s3;let#[be,bx]:=R3.ob;show#[0,N,0,.inl (bA.of a2),_,0,rfl,0,a.rp,c.C,be,_,0,bx,T.cl,T.nT,CG _ _ _,_,0,3]
  .rw[BY,pl];omega
  have S3:=S2.trans s3;have bz:¬ M N:=λz=>R.mt _ z (s1.free ba);have b5:¬ a.own W N:=λz=>bz (R.dw N z);show#[0,N,rfl,#[_,bA.of a2],?_];show dZ (K:=K) (a:=N) (xs:=(Rm.aN p m).map V.int) (λi σ H4=>IT λ(v6:Option V) (M4:Addr->Prop) (y:TD)=>IL (σ=[some (.ref a.rp),some (.int t),some (.int p),some (.int m),some (.ref y.p),some (.ref N),v6]) (az c H4 M4 a s' (Tb.aU W t y)) (Pg.RI s' (ents (Tb.aU W t y))) ((ents (Tb.aU W t y)).length=(ents W).length+i) (Cv s' (Tb.aU W t y) (gX cv t ((Rm.aN p m).take i))) ((∀q,Tb.look y.t q=if q∈(Rm.aN p m).take i then some none else Tb.look x.t q)) (Step H3 M (a.own W) H4 M4 (a.own (Tb.aU W t y))))
   #[_,M,x,rfl,by rw[cL R.nd I];show R3,by rw[cL R.nd I];show ri,by rw[cL R.nd I];rfl,by rw[cL R.nd I,Po,yF];show bc,λq=>by simp,by rw[cL R.nd I];show R3.refl] (λi σ H4 _ z0=>by let#[_,_,_,_,_,_,_,_,_,st]:=z0;show bA.of (st.off _ _ a2 b5)) ?_ ?_
  .rintro i u σ H4 hu ⟨v6,M4,y,rfl,Y,aT,a1,ab,ap,a0⟩;rw[K4]at hu;let#[G,hp,rfl]:=Option.map_eq_some_iff.mp hu;have a4:=Ld hp;let#[hi,b7]:=List.getElem?_eq_some_iff.mp hp;have bY:¬ G∈(Rm.aN p m).take i:=λz=>by
    let#[j,hj,e]:=Mo z;rw[NK]at e;rw[Lp]at hj;show mW (pJ p m) j i (Lb af) hp af e
   have as:=iK (y:=y) I;have T4:=Y.tb _ (Tb.ay as);let#[bn,bI]:=T4.at_.ob;have bv:Tb.look y.t G=none:=(by rw[ap,QZ bY];show a3 G a4);let#[r1,r2,_]:=Rm.xV U G a4;show#[0,y.p,bn,0,bI,Tb.aW _ ao,0,y.p,y.fs,aB,y.tb,G,[.str "blank"],rfl,T4.at_,r1,r2,.inr sB,rfl,λH5 am T5 l5 o5 n5=>?_];have b0:dq c.T H5 #[y.p,y.fs,am,(G,none)::y.t]:=#[T5,List.nodup_cons.mpr #[Tb.bP bv,T4.nd],λj=>by
    rw[l5 j,Tb.aP];by_cases z:j=G
    .rw[Q0 z,Q0 z.symm];rfl
    .rw[QZ z,QZ (G0 z)];show T4.lk j]
   have R5:=Y.uv (y:=#[y.p,y.fs,am,(G,none)::y.t]) as rfl b0 o5 n5;have S5:=a0.trans (Y.rY (y:=#[y.p,y.fs,am,(G,none)::y.t]) as o5 n5);have pe:(ents (Tb.aU W t #[y.p,y.fs,am,(G,none)::y.t])).Perm (none::ents (Tb.aU W t y)):=(ie R.nd I).trans ((ie (y:=y) R.nd I).symm.cons none);rw[set_set]at R5 S5;have bm:(ents (Tb.aU W t y)).length<(s'.ow true).length+(s'.ow false).length:=by
    rw[a1];unfold bF at a6;omega
   show#[2,#[y.p,y.fs,am,(G,none)::y.t],rfl,R5,(aT.lay bm).perm pe.symm,by rw[pe.length_eq,Lo,a1];omega,3,S5]
   .intro S a7 ac q e L;rw[Tb.bO S I]at ac;rw[Mp,hp];by_cases z:S=t
    .rw[Q0 z]at ac;cases ac;have L:Tb.look ((G,none)::y.t) q=some e:=L;rw[Tb.aP]at L;by_cases J:G=q
     .rw[Q0 J]at L;cases L;change gX cv t _ S q=_;unfold gX;rw[Q0 #[z,by rw[<-J];simp]]
     .rw[QZ J]at L;rw[show(some G).toList=[G]from rfl,sW (λh=>J h.2.symm)];show ab S y (by rw[z];show as) q e L
    .rw[QZ z]at ac;rw[show(some G).toList=[G]from rfl,sW (λh=>z h.1)];show ab S a7 (by rw[Tb.bO S I,QZ z];show ac) q e L
   .intro j;change Tb.look ((G,none)::y.t) j=_;rw[Tb.aP,ap j,Mp,hp];by_cases z:G=j
    .rw[Q0 z,Q0 (by rw[<-z];simp)]
    .rw[QZ z];by_cases J:j∈(Rm.aN p m).take i
     .rw[Q0 J,Q0 (Mh _ J)]
     .rw[QZ J,QZ (by simp[G0 z,J])]
  .rintro σ H4 ⟨v6,M4,y,rfl,Y,aT,a1,ab,ap,a0⟩;rw[BY,Mq]at ab ap;show q H4 M4 y Y aT ab ap ((R.iB S3).trans a0)
end
end St
namespace Rm
theorem gR {ad n:Int}{G:List Int}(h:¬ dn ad n G):(au ad n).length<=64/\∀q∈au ad n,q∈G:=by
 unfold au;by_cases e:n=0
 .rw[Q0 e];show#[LD _,λ_ h=>nomatch h]
 .rw[QZ e];have I:0<n:=by
   have:¬ n<0:=λz=>h (.inl z);omega
  have h1:¬ bU (jJ ad) (iT ad n):=λz=>h (.inr #[I,.inl z]);have h2:∀q∈aN (jJ ad) (iT ad n),q∈G:=Nt λz=>h (.inr #[I,.inr z]);show#[?_,h2];unfold aN;rw[BY,LV];have L:¬ jJ ad<0:=λz=>h1 (.inr (.inl z));have J:¬ 64<jJ ad+iT ad n:=λz=>h1 (.inr (.inr z));omega
theorem xb {ad n:Int}{J I:List Int}(h:∀q,q∈J->q∈I) (G:dn ad n I):dn ad n J:=by
 rcases G with G|⟨h1,h2⟩
 .show .inl G
 .show .inr #[h1,h2.imp id λz y=>z λq L=>h q (y q L)]
end Rm
namespace St
open PySem L2
noncomputable def bR (f:Int->List Int) (ps:List Int):List Int:=(ps.map f).flatten
theorem fm {f:Int->List Int}{ps:List Int}{i:Nat}{q:Int}(h:ps[i]?=some q):bR f (ps.take (i+1))=bR f (ps.take i)++f q:=by
 unfold bR;rw[Mp,h,Ln,List.flatten_append];simp
theorem yz.len {s:Pg.PS}{e:Pg.Ent}{cs:List Int}(G:Pg.Good s) (h:Pg.yz s e cs):cs.length=8:=by
 cases e with
 |none=>rw[show cs=replicate 8 0 from h];simp
 |some k=>let#[c,h]:=h;show(G.vw h).2
inductive qd (c:CA) (vs:List V) (H:Hp) (Q:VK) (e3:XK):Prop
 |mk (M:Addr->Prop) (a:RA) (s:Pg.PS) (W:dv) (cv:Int->Int->List Int) (t ad:Int) (n:Nat) (x:TD) (_:vs=[.ref a.rp,.int t,.int ad,.int n]) (_:az c H M a s W) (_:Pg.RI s (ents W)) (_:Cv s W cv) (_:Tb.look W t=some x) (_:n<=600) (_:0<=ad) (_:ad<=1000) (_:¬ Rm.dn ad n (x.t.map (·.1))) (_:∀(H':Hp) (M':Addr->Prop) (s':Pg.PS) (l:Addr),az c H' M' a s' W->Pg.RI s' (ents W)->Cv s' W cv->Step H M (a.own W) H' M' (a.own W)->(∀b,(s'.ow b).length=(s.ow b).length)->H l=none->H' l=some (.lst ((((bR (cv t) (Rm.au ad n)).drop (ad%8).toNat).take n).map V.int))->Q (.ref l) H'):qd c vs H Q e3
section
variable {P:IF}{w:Ll}{K:PySem.W.Frag}{mg:Str->Option Value}{base:Heap}
variable {c:CA}{H H':Hp}{M M' B:Addr->Prop}{a:RA}{s s':Pg.PS}{W:dv}{t:Int}{x y:TD}
theorem nameQ {i:Nat}{v:V}{σ:L2.St}{H:Hp}{Q:L2.St->Hp->Prop}(h:Q (σ.set i (some v)) H):sI i v σ H Q:=h
theorem az.KI (R:az c H M a s W) {l:Addr}{xs ys:List V}(G:H l=some (.lst xs)) (J:M l) (I:¬ a.own W l):az c (upd H l (.lst ys)) M a s W :=
 R.D8 (B:=(· = l)) (Off.wr rfl) (λb z=>by rw[z];show#[J,I]) (λb z=>.inl #[xs,by rw[z];show G]) (λb z=>.inl z) (λb z _=>z) (λb z e=>by
  by_cases q:b=l
  .rw[q,ae]at e;cases e
  .rw[ag q]at e;show R.mt b z e)
theorem az.IK (R:az c H M a s W) {l:Addr}{o:HO}(G:H l=none):az c (upd H l o) (λb=>M b\/b=l) a s W :=
 R.D8 (B:=λ_=>False) (λb u e _=>cW G b u e id) (λb z=>z.elim) (λb z=>z.elim) (λb z=>z.elim .inl λz=>.inr (by rw[z];show G)) (λb z _=>.inl z) (λb z e=>by
  by_cases q:b=l
  .rw[q,ae]at e;cases e
  .rw[ag q]at e;show z.elim (λz=>R.mt b z e) q)
theorem dq.keys (T:dq c.T H x) (q:Int):q∈x.t.map (·.1)↔Tb.look x.t q≠none:=by
 constructor
 .intro h e;show Tb.bP e h
 .intro h;cases e:Tb.look x.t q with
  |none=>show absurd e h
  |some v=>show List.mem_map.mpr #[_,Tb.ay e,rfl]
theorem zX:aC ["self","task","address","many","table","whole","page","entry"] ["self","task","address","many"] (aw wz):=L2.bG
theorem BS {f:Addr}{fd:GX}{c:CA}(F:cM K "peek" "Rooms.peek" wz f fd) (T:pb K mg c) (TT:Tb.Txt K mg c.T) (TP:qQ K mg c.P) (GR:Df P w K mg base aS 1 "room_of" dy) (GO:Df P w K mg base aS 2 "pages_of_cells" Rm.iG) (bv:Df P w K mg base aS 1 "run_within" Rm.mO) (bI:Md P w K mg base aS 1 c.T "pages" (Tb.dW c.T)) (GG:Md P w K mg base aS 3 c.T "get" (Tb.oW c.T)) (b1:Md P w K mg base aS 7 c.P "fetch" (lU c.P c.S)) (b9:Md P w K mg base aS 5 c.C "cells_of" (iM c)):a8 P w K mg base aS 8 f fd ["self","task","address","many"] (qd c):=by
 let#[aB,mB,sB]:=T.bl;have rB:RelV (.ref aB) (.ref aB):=rfl;show F.ok zX (λvs H Q E h=>?_) (λcx A outer s H vs Q E L h=>?_)
 .let#[M,a,s',W,cv,t,ad,n,x,rfl,_]:=h;rfl
 .let#[M,a,s',W,cv,t,ad,n,x,rfl,R,ri,ca,hx,n6,cP,cr,hb,q]:=h;have hs:sizeLine=16777216:=Lh;let#[dx,ho]:=R.ob;have TX:=R.tb _ (Tb.ay hx);let#[c1,c2]:=Rm.gR hb;show#[_,(ah (aO (i:=4) zX.nd rfl (Lc rfl) (pc GR L ax (aa (aL (pv 0) rfl) (aa (pv 1) ai))))
   (ah (aO (i:=5) zX.nd rfl (Lc rfl) (cn ai))
   (ah (de Lr rfl (eu (pc GO L ax (aa (qx (pv 4) TT.cl bI L ax) (aa (pv 2) (aa (pv 3) ai))))) (aY (i:=6) zX.nd rfl (Lc rfl)) (ah (aO (i:=7) zX.nd rfl (Lc rfl) (pm (pv 4) TT.cl GG L ax (aa (pv 6) ai)))
   (ah (aV (aA (vK L.kT) (pv 7) (cB (by rfl) mB rB) (aH _)) (aj (aM (pm (aL (pv 0) rfl) TP.cl b1 L ax (aa (bq bB (pv 7) ak (λ_ _=>rfl)) ai)))) aG)
   (aj (aM (iY Mi OB OC pS (pv 5) (aa (pm (pv 0) T.cl b9 L ax (aa (pv 7) ai)) ai)))))))
   (aj (aF (pc bv L ax (aa (pv 5) (aa (pv 2) (aa (pv 3) ai))))))))),?_]
  show#[0,a.rp,c.C,dx,_,0,ho,T.cl,T.nR,eV _ _ _,0,a.rd,W,t,x,rfl,R.hd,hx,?_];show#[av,λG ab=>?_];have R1:=R.IK (o:=.lst []) ab;have s1:bh H (upd H G (.lst [])):=Tb.ar ab;have ba:upd H G (.lst []) G=some (.lst []):=ae;generalize upd H G (.lst [])=H1 at *;have a3:¬ a.own W G:=λz=>R.mt _ (R.dw _ z) ab;have a2:=R1.tb _ (Tb.ay hx);let#[ce,ht]:=a2.at_.ob;show#[0,x.p,ce,0,ht,Tb.aW _ ao,x.p,x.fs,x.tb,rfl,a2.at_,λH2 l2 ns s2 cC bm pm cm=>?_];have bi:∀{z},z∈x.t.map (·.1)->z∈ns:=λ{z} h=>(TX.mem pm z).mpr ((TX.keys z).mp h);show#[0,0,l2,ns,ad,n,rfl,bm,λh=>hb (Rm.xb (λz hz=>bi hz) h),λH3 l3 s3 bn bb=>?_];have S3:=s2.trans s3;have R3:=R1.same S3;have ci:=S3 _ _ ba;have a1:H1 l3=none:=s2.free bn;have b3:¬ a.own W l3:=λz=>R1.mt _ (R1.dw _ z) a1;have b5:l3≠G:=λz=>(by rw[z,ba]at a1;cases a1);show#[l3,rfl,#[_,bA.of bb],?_];show dZ (K:=K) (a:=l3) (xs:=(Rm.au ad n).map V.int) (λi σ H4=>IT λ(v6 v7:Option V) (s4:Pg.PS)=>IZ (σ=[some (.ref a.rp),some (.int t),some (.int ad),some (.int n),some (.ref x.p),some (.ref G),v6,v7]) (az c H4 (λb=>M b\/b=G) a s4 W) (Pg.RI s4 (ents W)) (Cv s4 W cv) (H4 G=some (.lst ((bR (cv t) ((Rm.au ad n).take i)).map V.int))) ((bR (cv t) ((Rm.au ad n).take i)).length=8*i) (Off (λb=>a.own W b\/b=G) H3 H4) (∀b,(s4.ow b).length=(s'.ow b).length))
   #[2,s',rfl,R3,ri,ca,ci,rfl,λ_ _ e _=>e,λ_=>rfl] (λi σ H4 _ z0=>by let#[_,_,_,_,_,_,_,_,_,U,_]:=z0;show bA.of (U _ _ bb λz=>z.elim b3 b5)) ?_ ?_
  .rintro i u σ H4 hu ⟨v6,v7,s4,rfl,Y,J,ap,as,b8,U,am⟩;rw[K4]at hu;let#[p,hp,rfl]:=Option.map_eq_some_iff.mp hu;have b6:=Ld hp;let#[hi,cq]:=List.getElem?_eq_some_iff.mp hp;have T4:=Y.tb _ (Tb.ay hx);let#[ch,bx]:=T4.at_.ob;obtain⟨e,he⟩:∃e,Tb.look x.t p=some e:=by
    cases z:Tb.look x.t p with
    |none=>show absurd z ((TX.keys p).mp (c2 p b6))
    |some e=>show#[e,rfl]
   show#[0,x.p,ch,0,bx,Tb.aW _ ao,0,x.p,x.fs,x.tb,p,rfl,T4.at_,λH5 v O hv=>?_];rw[T4.lk,he]at hv;let#[tt,rfl,ac]:=hv;have N:=Y.same O;have a7:=O _ _ as;show nameQ ?_;dsimp only;show share (λσ H6=>∃I:Pg.PS,IZ (σ=[some (.ref a.rp),some (.int t),some (.int ad),some (.int n),some (.ref x.p),some (.ref G),some (.int p),some (.ref tt)]) (az c H6 (λb=>M b\/b=G) a I W) (Pg.RI I (ents W)) (Cv I W cv) (H6 tt=some (.tup (yy e))) (H6 G=some (.lst ((bR (cv t) ((Rm.au ad n).take i)).map V.int))) (Off (λb=>a.own W b\/b=G) H3 H6) (∀b,(I.ow b).length=(s'.ow b).length)) (λu' a6=>?A) ?B
   case A =>
    show#[0,tt,aB,_,0,rfl,cy.of ac,jf.sq (.inr sB),?_];cases e with
    |none =>
     show#[1,0,bJ ?_];show a6 _ _ #[s4,rfl,N,J,ap,ac,a7,λb o e z=>O _ _ (U b o e z),am]
    |some k =>
     show#[1,0,eL ?_];let#[bC,bz]:=N.ob;let#[aT,b7]:=N.pg.ob;let#[cs,cc,hv]:=J.is k (oj hx he);show#[0,a.rp,c.C,bC,_,0,bz,T.cl,T.nP,pN _ _ _,a.A.pg,aT,0,b7,cQ _ _ ao ao ao ao ao,0,tt,_,(1),0,rfl,cy.of ac,5,a.A,s4,k,cs,cc,rfl,N.Jb J,hv,λH6 I fe G6 O6=>?_];have FF:=Pg.oS J.good fe;show a6 _ _ #[I,rfl,N.kH G6 O6 FF.kept.ln,J.DP fe,ap.keep (Pg.vU J.good fe),O6 _ _ ac (N.pg.qA _ _ ac),O6 _ _ a7 (λz=>a3 (.inl z)),λb o e z=>O6 _ _ (O _ _ (U b o e z)) (λy=>z (.inl (.inl y))),λb=>(FF.kept.ln b).trans (am b)]
   case B =>
    rintro σ H6 ⟨I,rfl,R6,a0,a4,b2,bd,o6,bY⟩;let#[aT,b4]:=R6.ob;have a5:=a4 t x hx p e he;have c8:=yz.len a0.good a5;show#[0,.inl #[5,bA.of bd],0,a.rp,aT,0,b4,fJ _ _ _ ao ao ao,0,_,a,I,W,tt,e,cv t p,rfl,R6,a0.good,b2,a5,λH7 l7 s7 f7 h7=>?_];have R7:=R6.same s7;have bc:=s7 _ _ bd;show#[G,l7,_,0,rfl,bc,h7,by rw[BY,BY];omega,?_];rw[<-Ln, <-fm hp];show#[2,I,rfl,R7.KI bc (.inr rfl) a3,a0,a4,ae,by rw[fm hp,Li];omega,λb o e z=>by rw[ag (λy=>z (.inr y))];show s7 _ _ (o6 b o e z),bY]
  .rintro σ H4 ⟨v6,v7,s4,rfl,Y,J,ap,as,b8,U,am⟩;rw[BY,Mq]at as;show#[0,0,0,G,_,ad,n,rfl,as,λH5 l5 O be b0=>?_];have N:=Y.same O;have oA:Off (a.own W) H H5:=λb o e z=>O _ _ (U _ _ (S3 _ _ (s1 _ _ e)) λy=>y.elim z λy=>by rw[y,ab]at e;cases e);show q H5 _ s4 l5 N J ap #[oA,λb z _=>.inl z,λb z=>z.elim .inl λz=>.inr (by rw[z];show ab),λb z=>.inl z,R.mt,R.dw] am ?_ b0;cases z:H l5 with
   |none=>rfl
   |some o =>
    exfalso;by_cases w:a.own W l5
    .show Y.mt _ (Y.dw _ w) be
    .have:=U _ _ (S3 _ _ (s1 _ _ z)) λy=>y.elim w λy=>(by rw[y,ab]at z;cases z);rw[be]at this;cases this
end
end St
namespace Rm
theorem nN {ad:Int}{cs ws:List Int}{N:List Int}(h:¬ dn ad cs.length N) (G:ws.length=8*(au ad cs.length).length):(ed ws (ad%8).toNat cs).length=8*(au ad cs.length).length:=by
 unfold ed;rw[Li,Li,Lp,Mv];by_cases e:((cs.length:Nat):Int)=0
 .have:au ad cs.length=[]:=(by unfold au;rw[Q0 e]);rw[this]at G ⊢;have I:ws.length=0:=G;have L:cs.length=0:=af;rw[I,L];simp
 .have J:(au ad cs.length).length=(iT ad cs.length).toNat:=by
   unfold au;rw[QZ e];unfold aN;rw[BY,LV]
  have O:0<((cs.length:Nat):Int):=af;have h1:¬ bU (jJ ad) (iT ad cs.length):=λz=>h (.inr #[O,.inl z]);have h2:¬ iT ad cs.length<1:=λz=>h1 (.inl z);rw[J]at G ⊢;unfold iT at *;omega +splitNatSub
theorem Fp {k:Nat}{ws:List Int}(h:ws.length=8*k):∀I∈gh k ws,I.length=8:=by
 intro I G;unfold gh at G;let#[i,hi,rfl]:=List.mem_map.mp G;have:=List.mem_range.mp hi;rw[Lp,Mv,h];lia
end Rm
namespace St
open PySem L2
noncomputable def gc (cv:Int->Int->List Int) (t:Int) (l:List (Int×List Int)):Int->Int->List Int:=λt' q=>if t'=t then(Tb.look l q).getD (cv t' q)else cv t' q
theorem uY {cv:Int->Int->List Int}{t:Int}:gc cv t []=cv:=by
 funext t' q;unfold gc;by_cases z:t'=t
 .rw[Q0 z];rfl
 .rw[QZ z]
theorem tQ {cv:Int->Int->List Int}{t t' q:Int}{l:List (Int×List Int)}{p:Int}{r:List Int}:gc cv t ((p,r)::l) t' q=if t'=t/\q=p then r else gc cv t l t' q:=by
 unfold gc;by_cases z:t'=t
 .rw[Q0 z,Q0 z,Tb.aP];by_cases G:p=q
  .rw[Q0 G,Q0 #[z,G.symm]];rfl
  .rw[QZ G,QZ (λh=>G h.2.symm)]
 .rw[QZ z,QZ z,QZ (λh=>z h.1)]
noncomputable def eT (f:Int->List Int) (ad:Int) (cs:List Int):List (List Int):=Rm.gh (Rm.au ad cs.length).length (Rm.ed (bR f (Rm.au ad cs.length)) (ad%8).toNat cs)
inductive qm (K:PySem.W.Frag) (c:CA) (vs:List V) (H:Hp) (Q:VK) (e3:XK):Prop
 |mk (M:Addr->Prop) (a:RA) (s:Pg.PS) (W:dv) (cv:Int->Int->List Int) (t ad:Int) (ca:Addr) (cs:List Int) (x:TD) (_:vs=[.ref a.rp,.int t,.int ad,.ref ca]) (_:az c H M a s W) (_:Pg.RI s (ents W)) (_:Cv s W cv) (_:Tb.look W t=some x) (_:bA K H ca (cs.map V.int)) (_:cs.length<=500) (_:0<=ad) (_:ad<=1000) (_:¬ Rm.dn ad cs.length (x.t.map (·.1))) (_:∀(H':Hp) (M':Addr->Prop) (s':Pg.PS) (y:TD),az c H' M' a s' (Tb.aU W t y)->Pg.RI s' (ents (Tb.aU W t y))->Cv s' (Tb.aU W t y) (gc cv t (((Rm.au ad cs.length).zip (eT (cv t) ad cs)).reverse))->(∀q,¬ q∈Rm.au ad cs.length->Tb.look y.t q=Tb.look x.t q)->(∀q∈Rm.au ad cs.length,∃k,Tb.look y.t q=some (some k))->Step H M (a.own W) H' M' (a.own (Tb.aU W t y))->(∀b,(s'.ow b).length=(s.ow b).length)->Q .non H'):qm K c vs H Q e3
theorem jZ (ad n:Int):(Rm.au ad n).Nodup:=by
 unfold Rm.au;by_cases e:n=0
 .rw[Q0 e];show MN
 .rw[QZ e];show pJ _ _
theorem k6 {α G:Type}{F:α->G->Prop}:∀{xs:List α}{ys:List G}{i:Nat}{x:α},Paired F xs ys->xs[i]?=some x->∃y,ys[i]?=some y/\F x y
 |_,_,_,_,.nil,e=>by simp at e
 |_,_,0,_,.cons r _,e=>by simp at e;subst e;show#[0,r]
 |_,_,i+1,x,.cons _ t,e=>by
  let#[u,h1,h2]:=k6 (i:=i) (x:=x) t (by simpa using e);show#[u,by simpa using h1,h2]
section
variable {P:IF}{w:Ll}{K:PySem.W.Frag}{mg:Str->Option Value}{base:Heap}
theorem wG:aC ["self","task","address","cells","table","pages","whole","page","changed"] ["self","task","address","cells"] (aw uN):=L2.bG
theorem Ak {f:Addr}{fd:GX}{c:CA}(F:cM K "poke" "Rooms.poke" uN f fd) (T:pb K mg c) (TT:Tb.Txt K mg c.T) (GR:Df P w K mg base aS 1 "room_of" dy) (GO:Df P w K mg base aS 2 "pages_of_cells" Rm.iG) (d3:Df P w K mg base aS 1 "pages_with" (Rm.uC K)) (dz:Md P w K mg base aS 1 c.T "pages" (Tb.dW c.T)) (GG:Md P w K mg base aS 3 c.T "get" (Tb.oW c.T)) (GL:Md P w K mg base aS 3 c.T "lay" (Tb.sJ K c.T)) (dm:Md P w K mg base aS 5 c.C "cells_of" (iM c)) (cP:Md P w K mg base aS 9 c.C "sheet_with" (iE c)):a8 P w K mg base aS 10 f fd ["self","task","address","cells"] (qm K c):=by
 show F.ok wG (λvs H Q E h=>?_) (λeo A outer s H vs Q E J h=>?_)
 .let#[M,a,s',W,cv,t,ad,ca,cs,x,rfl,_]:=h;rfl
 .let#[M,a,s',W,cv,t,ad,ca,cs,x,rfl,R,ri,b6,O,b4,n6,et,en,hb,q]:=h;have hs:sizeLine=16777216:=Lh;let#[dx,ho]:=R.ob;have TX:=R.tb _ (Tb.ay O);let#[dI,ht]:=TX.at_.ob;let#[c1,c2]:=Rm.gR hb;show#[_,(ah (aO (i:=4) wG.nd rfl (Lc rfl) (pc GR J ax (aa (aL (pv 0) rfl) (aa (pv 1) ai))))
   (ah (aO (i:=5) wG.nd rfl (Lc rfl) (pc GO J ax (aa (qx (pv 4) TT.cl dz J ax) (aa (pv 2) (aa (aK bo (by rfl) T.len boot_len (aa (pv 3) ai)) ai)))))
   (ah (aO (i:=6) wG.nd rfl (Lc rfl) (cn ai))
   (ah (de Lr rfl (eu (pv 5)) (aY (i:=7) wG.nd rfl (Lc rfl)) (aj (aM (iY Mi OB OC pS (pv 6) (aa (pm (pv 0) T.cl dm J ax (aa (pm (pv 4) TT.cl GG J ax (aa (pv 7) ai)) ai)) ai)))))
   (aj (de Lr rfl (Fz (by rfl) T.zip (aa (pv 5) (aa (pc d3 J ax (aa (pv 6) (aa (pv 2) (aa (pv 3) ai)))) ai))) (dE rfl (bf (aY (i:=7) wG.nd rfl (Lc rfl)) (bf (aY (i:=8) wG.nd rfl (Lc rfl)) cV))) (aj (aM (pm (pv 4) TT.cl GL J ax (aa (pv 7) (aa (cR (aa aI (aa (pm (pv 0) T.cl cP J ax (aa (pm (pv 4) TT.cl GG J ax (aa (pv 7) ai)) (aa (pv 8) ai))) ai))) ai))))))))))),?_]
  show#[0,a.rp,c.C,dx,_,0,ho,T.cl,T.nR,eV _ _ _,0,a.rd,W,t,x,rfl,R.hd,O,?_];show#[0,x.p,dI,0,ht,Tb.aW _ ao,x.p,x.fs,x.tb,rfl,TX.at_,λH1 l1 ns s1 eq ec pm em=>?_];have bi:∀{z},z∈x.t.map (·.1)->z∈ns:=λ{z} h=>(TX.mem pm z).mpr ((TX.keys z).mp h);show#[0,0,ca,0,.inl (Rm.eR b4 (s1 _)),l1,ns,ad,cs.length,by rw[BY];rfl,ec,λh=>hb (Rm.xb (λz hz=>bi hz) h),λH2 Y s2 dp ba=>?_];generalize eP:Rm.au ad cs.length=ps at *;have d7:ps.Nodup:=(by rw[<-eP];show jZ _ _);have S2:=s1.trans s2;have R2:=R.same S2;show#[av,λG a6=>?_];have R3:=R2.IK (o:=.lst []) a6;have s3:bh H2 (upd H2 G (.lst [])):=Tb.ar a6;have ei:upd H2 G (.lst []) G=some (.lst []):=ae;generalize upd H2 G (.lst [])=H3 at *;have a3:H G=none:=S2.free a6;have c5:¬ a.own W G:=λz=>R.mt _ (R.dw _ z) a3;have bd:=s3 _ _ ba;have d8:H Y=none:=s1.free dp;have db:¬ a.own W Y:=λz=>R.mt _ (R.dw _ z) d8;have bI:Y≠G:=λz=>(by rw[z,a6]at ba;cases ba);have cq:∀p∈ps,∃e,Tb.look x.t p=some e:=λp as=>by
   cases z:Tb.look x.t p with
   |none=>show absurd z ((TX.keys p).mp (c2 p as))
   |some e=>show#[e,rfl]
  show#[0,Y,rfl,#[_,bA.of bd],?_];show dZ (K:=K) (a:=Y) (xs:=ps.map V.int) (λi σ H4=>∃v7:Option V,FD (σ=[some (.ref a.rp),some (.int t),some (.int ad),some (.ref ca),some (.ref x.p),some (.ref Y),some (.ref G),v7,none]) (az c H4 (λb=>M b\/b=G) a s' W) (H4 G=some (.lst ((bR (cv t) (ps.take i)).map V.int))) ((bR (cv t) (ps.take i)).length=8*i) (Off (· = G) H3 H4))
   #[0,R3,ei,rfl,λ_ _ e _=>e] (λi σ H4 _ z0=>by let#[_,_,_,_,_,o4]:=z0;show bA.of (o4 _ _ bd bI)) ?_ ?_
  .rintro i u σ H4 hu ⟨v7,rfl,U,aT,a5,o4⟩;rw[K4]at hu;let#[p,N,rfl]:=Option.map_eq_some_iff.mp hu;have as:=Ld N;let#[hi,d2]:=List.getElem?_eq_some_iff.mp N;have T4:=U.tb _ (Tb.ay O);let#[dT,c9]:=T4.at_.ob;let#[ee,c0]:=U.ob;let#[e,he]:=cq p as;have cc:=b6 t x O p e he;have c8:=yz.len ri.good cc;show#[0,.inl #[5,bA.of aT],0,a.rp,ee,0,c0,fJ _ _ _ ao ao ao,0,x.p,dT,0,c9,Tb.aW _ ao,0,x.p,x.fs,x.tb,p,rfl,T4.at_,λH5 v s5 hv=>?_];rw[T4.lk,he]at hv;let#[tt,rfl,bn]:=hv;show#[_,a,s',W,tt,e,cv t p,rfl,U.same s5,ri.good,bn,cc,λH7 l7 s7 f7 h7=>?_];have S7:=s5.trans s7;have R7:=U.same S7;have b3:=S7 _ _ aT;show#[G,l7,_,0,rfl,b3,h7,by rw[BY,BY];lia,?_];rw[<-Ln, <-fm N];show#[0,R7.KI b3 (.inr rfl) c5,ae,by rw[fm N,Li];lia,λb o e z=>by rw[ag z];show S7 _ _ (o4 b o e z)]
  .rintro σ H4 ⟨v7,rfl,U,aT,a5,o4⟩;rw[BY,Mq]at aT a5;have dd:bA K H4 ca (cs.map V.int):=Rm.eR b4 λo e=>o4 _ _ (s3 _ _ (S2 _ _ e)) (λz=>by rw[z,a3]at e;cases e);have d5:=o4 _ _ bd bI;have bb:=Rm.nN hb (ws:=bR (cv t) ps) (by rw[eP];show a5);rw[eP]at bb;show#[0,0,0,0,G,ca,_,cs,ad,ps.length,rfl,aT,dd,by rw[a5];lia,af,c1,bb,λH5 l5 rs s5 d4 ci a4 ek ep=>?_];have R5:=U.same s5;have bC:=s5 _ _ d5;have bv:rs.length=ps.length:=by
    rw[a4.length];unfold Rm.gh;rw[BY,LV]
   have h8:=Rm.Fp bb;generalize eC:Rm.gh ps.length (Rm.ed (bR (cv t) ps) (ad%8).toNat cs)=ch at a4 h8;have ej:ch.length=ps.length:=(by rw[<-a4.length,bv]);have cT:eT (cv t) ad cs=ch:=(by unfold eT;rw[eP];show eC);have dM:Step H M (a.own W) H5 (λb=>M b\/b=G) (a.own W):=#[λb o e z=>s5 _ _ (o4 _ _ (s3 _ _ (S2 _ _ e)) (λy=>by rw[y,a3]at e;cases e)),λb z _=>.inl z,λb z=>z.elim .inl λz=>.inr (by rw[z];show a3),λb z=>.inl z,R.mt,R.dw];have cm:∀r∈rs,¬ (M r\/r=G):=λr J z=>U.mt r z (ek r J);have c7:∀{l},H4 l=none->¬ a.own W l:=λh z=>U.mt _ (U.dw _ z) h;show#[Y,l5,rfl,#[_,bA.of bC],#[_,bA.of ci],?_];show Ca (K:=K) (a:=Y) (b:=l5) (xs:=ps.map V.int) (ys:=rs.map V.ref) (λi σ H6=>BX λ(v7 v8:Option V) (M6:Addr->Prop) (s6:Pg.PS) (y:TD)=>IZ (σ=[some (.ref a.rp),some (.int t),some (.int ad),some (.ref ca),some (.ref y.p),some (.ref Y),some (.ref G),v7,v8]) (az c H6 M6 a s6 (Tb.aU W t y)) (Pg.RI s6 (ents (Tb.aU W t y))) (Cv s6 (Tb.aU W t y) (gc cv t (((ps.zip ch).take i).reverse))) ((∀q,¬ q∈ps.take i->Tb.look y.t q=Tb.look x.t q)) ((∀q∈ps.take i,∃k,Tb.look y.t q=some (some k))) (Step H5 (λb=>M b\/b=G) (a.own W) H6 M6 (a.own (Tb.aU W t y))) (∀b,(s6.ow b).length=(s'.ow b).length))
    #[2,_,s',x,rfl,by rw[cL R.nd O];show R5,by rw[cL R.nd O];show ri,by rw[cL R.nd O,Po];change Cv s' W (gc cv t []);rw[uY];show b6,λ_ _=>rfl,λq hq=>by simp at hq,by rw[cL R.nd O];show R5.refl,λ_=>rfl] (by rw[BY,BY,bv]) (λi σ H6 _ z0=>by
     let#[_,_,_,_,_,_,_,_,_,_,_,st,_]:=z0;show#[bA.of (st.off _ _ bC db),bA.of (st.off _ _ ci (c7 d4))]) ?_ ?_
   .rintro i u v σ H6 z hu hv hz ⟨v7,v8,M6,s6,y,rfl,R6,bl,a1,a0,a7,ap,bm⟩;rw[K4]at hu hv;let#[p,N,rfl]:=Option.map_eq_some_iff.mp hu;let#[r,cr,rfl]:=Option.map_eq_some_iff.mp hv;have b1:r∈rs:=Ld cr;have as:=Ld N;let#[hi,d2]:=List.getElem?_eq_some_iff.mp N;let#[ac,ce,b0]:=k6 a4 cr;have d6:=h8 ac (Ld ce);have d9:¬ p∈ps.take i:=λz=>by
     let#[j,I,e]:=Mo z;rw[NK]at e;rw[Lp]at I;show mW d7 j i (Lb af) N af e
    have el:=ap.off _ _ b0 (λw=>cm r b1 (R5.dw _ w));have cS:¬ M6 r:=λw=>(ap.mn r w).elim (cm r b1) λw=>(by rw[b0]at w;cases w);have sT:=Tb.ar (X:=.tup [.int p,.ref r]) hz;show#[z,[.int p,.ref r],rfl,cy.of ae,rfl,.int p,[.ref r],rfl,.ref r,[],1,?_];have R7:=R6.same sT;have S7:=ap.trans (R6.iB sT);have d1:=sT _ _ el;generalize upd H6 z (.tup [.int p,.ref r])=H7 at *;have am:=iK (y:=y) O;have T7:=R7.tb _ (Tb.ay am);let#[cx,b5]:=T7.at_.ob;let#[eb,dV]:=R7.ob;let#[e,b8]:=cq p as;have he:Tb.look y.t p=some e:=(a0 p d9).trans b8;show#[0,y.p,cx,0,b5,Tb.aW _ ao,0,0,a.rp,eb,0,dV,fJ _ _ _ ao ao ao,0,y.p,cx,0,b5,Tb.aW _ ao,0,y.p,y.fs,y.tb,p,rfl,T7.at_,λH8 v s8 hv=>?_];rw[T7.lk,he]at hv;let#[tt,rfl,bn]:=hv;have R8:=R7.same s8;have S8:=S7.trans (R7.iB s8);have pe:(ents (Tb.aU W t y)).Perm (e::(uj (Tb.bg y.t p)++ents (Tb.bg (Tb.aU W t y) t))):=(kN R7.nd am).trans ((tU T7.nd he).append_right _);show#[0,M6,a,s6,Tb.aU W t y,tt,r,e,_,ac,rfl,R8,bl.perm pe,bn,s8 _ _ d1,cS,d6,λH9 s9 k R9 df bz da c4 c6=>?_];show#[by change 2<=sizeLine;decide,λu fu=>?_];have sU:=Tb.ar (X:=.tup [.str "sheet",.int k]) fu;have bc:=R9.same sU;have ef:=(S8.trans c4).trans (R9.iB sU);have dj:upd H9 u (.tup [.str "sheet",.int k]) u=some (.tup [.str "sheet",.int k]):=ae;have dO:=bc.tb _ (Tb.ay am);let#[g1,g2]:=TX.pg (q:=p) (by rw[b8];simp);show#[y.p,y.fs,u,y.tb,p,[.str "sheet",.int k],rfl,dO.at_,g1,g2,.inl dj,rfl,λdl a2 c3 dL cC b9=>?_];have TI:dq c.T dl #[y.p,y.fs,a2,(p,some k)::Tb.bg y.t p]:=#[c3,Tb.Em T7.nd,λj=>by
     rw[dL j,Tb.jU];by_cases w:j=p
     .rw[Q0 w,Q0 w];rfl
     .rw[QZ w,QZ w];show T7.lk j]
    have b2:=bc.uv (y:=#[y.p,y.fs,a2,(p,some k)::Tb.bg y.t p]) am rfl TI cC b9;have b7:=ef.trans (bc.rY (y:=#[y.p,y.fs,a2,(p,some k)::Tb.bg y.t p]) am cC b9);have bx:=BK (y:=#[y.p,y.fs,a2,(p,some k)::Tb.bg y.t p]) (e:=some k) (q:=p) R7.nd am rfl;rw[set_set]at b2 b7 bx;have ea:(ps.zip ch)[i]?=some (p,ac):=by
     rw[List.getElem?_zip_eq_some];show#[N,ce]
    show#[2,_,s9,#[y.p,y.fs,a2,(p,some k)::Tb.bg y.t p],rfl,b2,df.perm bx.symm,3,?_,b7,λb=>(c6 b).trans (bm b)]
    .intro ab be aB q L S;rw[Mp,ea,show(some (p,ac)).toList=[(p,ac)]from rfl,NL,show([(p,ac)]:List (Int×List Int)).reverse=[(p,ac)]from rfl,List.singleton_append,tQ];rw[Tb.bO ab O]at aB;have bY:∀{L},L∈uj (Tb.bg y.t p)\/L∈ents (Tb.bg (Tb.aU W t y) t)->L∈uj (Tb.bg y.t p)++ents (Tb.bg (Tb.aU W t y) t):=λh=>List.mem_append.mpr h;by_cases w:ab=t
     .rw[Q0 w]at aB;cases aB;have S:Tb.look ((p,some k)::Tb.bg y.t p) q=some L:=S;rw[Tb.jU]at S;by_cases w2:q=p
      .rw[Q0 w2]at S;cases S;rw[Q0 #[w,w2]];show da
      .rw[QZ w2]at S;rw[QZ (λh=>w2 h.2)];show bz L (bY (.inl ?_)) _ (a1 ab y (by rw[w];show am) q L S);show List.mem_map.mpr #[(q,L),Tb.mz (Tb.ay S) w2,rfl]
     .rw[QZ w]at aB;rw[QZ (λh=>w h.1)];have h2:Tb.look (Tb.aU W t y) ab=some be:=(by rw[Tb.bO ab O,QZ w];show aB);show bz L (bY (.inr ?_)) _ (a1 ab be h2 q L S);show List.mem_flatMap.mpr #[(ab,be),Tb.mz (Tb.ay h2) w,List.mem_map.mpr #[(q,L),Tb.ay S,rfl]]
    .intro j I;rw[Mp,N]at I;have w:j≠p:=λw=>I (by rw[w];simp);change Tb.look ((p,some k)::Tb.bg y.t p) j=_;rw[Tb.jU,QZ w];show a0 j λh=>I (Mh _ h)
    .intro j I;change ∃k',Tb.look ((p,some k)::Tb.bg y.t p) j=some (some k');rw[Tb.jU];by_cases w:j=p
     .rw[Q0 w];show#[k,rfl]
     .rw[QZ w];rw[Mp,N]at I;rcases List.mem_append.mp I with I|I
      .show a7 j I
      .show absurd (by simpa using I) w
   .rintro σ H6 ⟨v7,v8,M6,s6,y,rfl,R6,bl,a1,a0,a7,ap,bm⟩;rw[BY,Mq]at a0 a7;rw[BY,L0 (by rw[List.length_zip,ej];lia), <-cT]at a1;show q H6 M6 s6 y R6 bl a1 a0 a7 (dM.trans ap) bm
end
noncomputable def nA (cv:Int->Int->List Int) (t o:Int):Int->Int->List Int:=λt' q=>if t'=o then cv t q else cv t' q
inductive qf (c:CA) (vs:List V) (H:Hp) (Q:VK) (e3:XK):Prop
 |mk (M:Addr->Prop) (a:RA) (s:Pg.PS) (W:dv) (cv:Int->Int->List Int) (t o:Int) (x:TD) (_:vs=[.ref a.rp,.int t,.int o]) (_:az c H M a s W) (_:Pg.RI s (ents W)) (_:Cv s W cv) (_:W.length<=1000) (_:Tb.look W t=some x) (_:Tb.look W o=none) (_:(ents W).length+x.t.length<=bF s) (_:∀(H':Hp) (M':Addr->Prop) (s':Pg.PS) (y:TD),(∀q,Tb.look y.t q=Tb.look x.t q)->az c H' M' a s' (W++[(o,y)])->Pg.RI s' (ents (W++[(o,y)]))->Cv s' (W++[(o,y)]) (nA cv t o)->Step H M (a.own W) H' M' (a.own (W++[(o,y)]))->(∀b,(s'.ow b).length=(s.ow b).length)->Q .non H'):qf c vs H Q e3
theorem nv (W:dv) (o:Int) (y:TD):ents (W++[(o,y)])=ents W++uj y.t:=by
 unfold ents;rw[List.flatMap_append];simp
section
variable {P:IF}{w:Ll}{K:PySem.W.Frag}{mg:Str->Option Value}{base:Heap}
theorem qU:aC ["self","task","other","table","pages","copied","page","entry"] ["self","task","other"] (aw qk):=L2.bG
theorem BN {f fI:Addr}{fd dI:GX}{c:CA}(F:cM K "copy" "Rooms.copy" qk f fd) (T:pb K mg c) (TT:Tb.Txt K mg c.T) (TP:qQ K mg c.P) (MK:Mk K c.T fI) (cx:mg "Table" = some (.ref c.T)) (GR:Df P w K mg base aS 1 "room_of" dy) (GS:Df P w K mg base aS 1 "refuse_second_room" iy) (GA:Df P w K mg base aS 1 "refuse_above" lS) (GI:a8 P w K mg base aS 1 fI dI ["self"] (Tb.iq c.T)) (bI:Binds K dI ["self"] []) (c0:Md P w K mg base aS 1 c.T "pages" (Tb.dW c.T)) (GH:Md P w K mg base aS 2 c.C "held" (fX c)) (GG:Md P w K mg base aS 3 c.T "get" (Tb.oW c.T)) (GL:Md P w K mg base aS 3 c.T "lay" (Tb.sJ K c.T)) (c5:Md P w K mg base aS 4 c.P "share" (qF c.P c.S)):a8 P w K mg base aS 5 f fd ["self","task","other"] (qf c):=by
 let#[aB,mB,sB]:=T.bl;have rB:RelV (.ref aB) (.ref aB):=rfl;show F.ok qU (λvs H Q E h=>?_) (λdz A outer s H vs Q E J h=>?_)
 .let#[M,a,s',W,cv,t,o,x,rfl,_]:=h;rfl
 .let#[M,a,s',W,cv,t,o,x,rfl,R,ri,c1,lw,hx,a2,cP,q]:=h;have hs:sizeLine=16777216:=Lh;let#[dx,ho]:=R.ob;have TX:=R.tb _ (Tb.ay hx);let#[c2,ht]:=TX.at_.ob;show#[_,(ah (aO (i:=3) qU.nd rfl (Lc rfl) (pc GR J ax (aa (aL (pv 0) rfl) (aa (pv 1) ai))))
   (ah (aM (pc GS J ax (aa (aL (pv 0) rfl) (aa (pv 2) ai))))
   (ah (aO (i:=4) qU.nd rfl (Lc rfl) (qx (pv 3) TT.cl c0 J ax))
   (ah (aM (pc GA J ax (aa (aD bt (qx (pv 0) T.cl GH J ax) (aK bo (by rfl) T.len boot_len (aa (pv 4) ai))) (aa (aL (pv 0) rfl) ai))))
   (ah (aO (i:=5) qU.nd rfl (Lc rfl) (tX MK GI (J.mono av) (by rfl) cx bI .nil ax))
   (ah (de Lr rfl (eu (pv 4)) (aY (i:=6) qU.nd rfl (Lc rfl)) (ah (aO (i:=7) qU.nd rfl (Lc rfl) (pm (pv 3) TT.cl GG J ax (aa (pv 6) ai)))
   (ah (aM (pm (pv 5) TT.cl GL J ax (aa (pv 6) (aa (pv 7) ai))))
   (aj (aV (aA (vK J.kT) (pv 7) (cB (by rfl) mB rB) (aH _)) (aj (aM (pm (aL (pv 0) rfl) TP.cl c5 J ax (aa (bq bB (pv 7) ak (λ_ _=>rfl)) ai)))) aG)))))
   (aj (jx (aZ J) (aL (pv 0) rfl) (pv 2) (pv 5) rfl)))))))),?_]
  show#[0,a.rp,c.C,dx,_,0,ho,T.cl,T.nR,eV _ _ _,0,a.rd,W,t,x,rfl,R.hd,hx,?_];show#[0,a.rp,c.C,dx,_,0,ho,T.cl,T.nR,eV _ _ _,0,a.rd,W,o,rfl,R.hd,a2,?_];show#[0,x.p,c2,0,ht,Tb.aW _ ao,x.p,x.fs,x.tb,rfl,TX.at_,λH1 N ns s1 da df pm dm=>?_];have R1:=R.same s1;have cm:ns.length=x.t.length:=TX.len pm;let#[c3,cq]:=R1.ob;show#[0,a.rp,c3,0,cq,fJ _ _ _ ao ao ao,M,a,s',W,rfl,R1,lw,λH2 s2=>?_];have R2:=R1.same s2;have a6:=s2 _ _ df;let#[ca,ch]:=R2.ob;show#[0,N,0,.inl (bA.of a6),_,0,rfl,0,a.rp,c.C,ca,_,0,ch,T.cl,T.nT,CG _ _ _,_,0,by rw[BY,cm];omega,?_];have S2:=s1.trans s2;show λp cT np bx dp=>#[p,cT,rfl,ae,λfs H3 b3 T3 off=>#[4]];have s3:bh H2 H3:=λb u e=>off b u (by rw[ag (aq e np),ag (aq e bx)];show e) (aq e np);have a1:H2 fs=none:=by
   cases e:H2 fs with
   |none=>rfl
   |some u=>rw[ag (aq e np),ag (aq e bx),e]at b3;cases b3
  have bc:H fs=none:=S2.free a1;have ce:H p=none:=S2.free np;have R3:=R2.D8 (H':=H3) (B:=λ_=>False) (M':=λb=>M b\/b=fs) (λb o e _=>s3 b o e) (λb z=>z.elim) (λb z=>z.elim) (λb z=>z.elim .inl λz=>.inr (by rw[z];show a1)) (λb z _=>.inl z) (λb z e=>z.elim (λz=>(R2.same s3).mt b z e) λz=>by rw[z,T3.hf]at e;cases e);have bz:=s3 _ _ a6;have cC:¬ a.own W N:=λz=>R.mt _ (R.dw _ z) da;have dl:Step H M (a.own W) H3 (λb=>M b\/b=fs) (a.own W):=#[λb o e _=>s3 _ _ (S2 _ _ e),λb z _=>.inl z,λb z=>z.elim .inl λz=>.inr (by rw[z];show bc),λb z=>.inl z,R.mt,R.dw];have dd:∀b,(TD.mk p fs [] []).eQ b->b=fs:=λb z=>by
   rcases z with z|⟨_,hx,_⟩
   .show z
   .cases hx
  have c8:ns.Nodup:=pm.nodup_iff.mpr (Tb.jO TX.at_);show#[0,N,rfl,#[_,bA.of bz],?_];show dZ (K:=K) (a:=N) (xs:=ns.map V.int) (λi σ H4=>BX λ(v6 v7:Option V) (M4:Addr->Prop) (s4:Pg.PS) (y:TD)=>GW (σ=[some (.ref a.rp),some (.int t),some (.int o),some (.ref x.p),some (.ref N),some (.ref y.p),v6,v7]) (az c H4 M4 a s4 W) (dq c.T H4 y) ((∀b,y.eQ b->M4 b/\¬ a.own W b/\H b=none/\b≠N)) (¬ a.A.own y.p) ((∀q,Tb.look y.t q=if q∈ns.take i then Tb.look x.t q else none)) (Pg.RI s4 (uj y.t++ents W)) (y.t.length=i) (Cv s4 W cv) ((∀q e,Tb.look y.t q=some e->Pg.yz s4 e (cv t q))) (Step H M (a.own W) H4 M4 (a.own W)) (H4 N=some (.lst (ns.map V.int))) (∀b,(s4.ow b).length=(s'.ow b).length))
   #[2,_,s',#[p,fs,[],[]],rfl,R3,#[T3,MN,λq=>rfl],λb z=>?_,λz=>R.mt _ (R.ok.own _ z) ce,λq=>by simp[Tb.ic],ri,rfl,c1,λq e h=>(by cases h),dl,bz,λ_=>rfl] (λi σ H4 _ z0=>by let#[_,_,_,_,_,_,_,_,_,_,_,_,_,_,_,_,h,_]:=z0;show bA.of h) ?_ ?_
  .rw[dd b z];show#[.inr rfl,λw=>R.mt _ (R.dw _ w) bc,bc,λw=>by rw[w,a6]at a1;cases a1]
  .rintro i u σ H4 hu ⟨v6,v7,M4,s4,y,rfl,O,Y,L,aT,as,U,a3,ap,a5,am,bb,ac⟩;rw[K4]at hu;let#[G,hp,rfl]:=Option.map_eq_some_iff.mp hu;have b9:=Ld hp;let#[hi,dL]:=List.getElem?_eq_some_iff.mp hp;have c9:¬ G∈ns.take i:=λz=>by
    let#[j,hj,e]:=Mo z;rw[NK]at e;rw[Lp]at hj;show mW c8 j i (Lb af) hp af e
   obtain⟨e,he⟩:∃e,Tb.look x.t G=some e:=by
    cases z:Tb.look x.t G with
    |none=>show absurd z ((TX.mem pm G).mp b9)
    |some e=>show#[e,rfl]
   have c7:Tb.look y.t G=none:=(by rw[as,QZ c9]);have X4:=O.tb _ (Tb.ay hx);let#[c6,ci]:=X4.at_.ob;show#[0,x.p,c6,0,ci,Tb.aW _ ao,0,x.p,x.fs,x.tb,G,rfl,X4.at_,λH5 v s5 hv=>?_];rw[X4.lk,he]at hv;let#[tt,rfl,bd]:=hv;have R5:=O.same s5;have T5:dq c.T H5 y:=#[Y.at_.same s5,Y.nd,Y.lk];let#[c4,cS]:=T5.at_.ob;let#[g1,g2]:=TX.pg (q:=G) (by rw[he];simp);have b6:Tb.nU (yy e)=true:=(by cases e<;>rfl);show#[0,y.p,c4,0,cS,Tb.aW _ ao,0,0,y.p,y.fs,tt,y.tb,G,yy e,rfl,T5.at_,g1,g2,.inl bd,b6,λH6 ab T6 l6 o6 n6=>?_];have cr:¬ y.eQ tt:=λz=>by
    let#[_,h]:=T5.at_.dK z;rw[bd]at h;cases h
   have be:=o6 _ _ bd cr;have ba:dq c.T H6 #[y.p,y.fs,ab,(G,e)::y.t]:=#[T6,List.nodup_cons.mpr #[Tb.bP c7,Y.nd],λj=>by
    rw[l6 j,Tb.aP];by_cases z:j=G
    .rw[Q0 z,Q0 z.symm];rfl
    .rw[QZ z,QZ (G0 z)];show Y.lk j]
   have bi:∀{b},H5 b=none->¬ a.own W b/\H b=none:=λ{b} h=>by
    have no:¬ a.own W b:=λz=>R5.mt _ (R5.dw _ z) h;show#[no,((am.trans (O.iB s5)).gone h).resolve_left no]
   have R6:=R5.D8 (H':=H6) (B:=y.eQ) (M':=λb=>(M4 b/\¬ y.eQ b)\/(TD.mk y.p y.fs ab ((G,e)::y.t)).eQ b) o6 (λb z=>#[(L b z).1,(L b z).2.1]) (λb z=>.inr (T5.at_.dK z)) (λb z=>z.elim (λz=>.inl z.1) λz=>(n6 b z).elim (λz=>.inl (L b z).1) .inr) (λb z w=>.inl #[z,w]) (λb z w=>by
    rcases z with z|z
    .cases e2:H5 b with
     |none=>show R5.mt b z.1 e2
     |some u=>rw[o6 b u e2 z.2]at w;cases w
    .let#[_,h]:=ba.at_.dK z;rw[w]at h;cases h)
   have a4:∀b,(TD.mk y.p y.fs ab ((G,e)::y.t)).eQ b->((M4 b/\¬ y.eQ b)\/(TD.mk y.p y.fs ab ((G,e)::y.t)).eQ b)/\¬ a.own W b/\H b=none/\b≠N:=λb z=>by
    rcases n6 b z with w|w
    .show#[.inr z,(L b w).2]
    .show#[.inr z,(bi w).1,(bi w).2,λy=>by rw[y,s5 _ _ bb]at w;cases w]
   have a7:=am.trans (O.iB s5);have bn:Step H M (a.own W) H6 (λb=>(M4 b/\¬ y.eQ b)\/(TD.mk y.p y.fs ab ((G,e)::y.t)).eQ b) (a.own W):=#[λb o e z=>o6 _ _ (a7.off b o e z) (λw=>by rw[(L b w).2.2.1]at e;cases e),λb z w=>.inl #[a7.mm b z w,λy=>R.mt b z (L b y).2.2.1],λb z=>z.elim (λz=>a7.mn b z.1) λz=>.inr (a4 b z).2.2.1,λb z=>.inl z,R.mt,R.dw];have b1:=o6 _ _ (s5 _ _ bb) λz=>(L _ z).2.2.2 rfl;have bv:∀j,Tb.look ((G,e)::y.t) j=if j∈ns.take (i+1)then Tb.look x.t j else none:=λj=>by
    rw[Tb.aP,as j,Mp,hp];by_cases z:G=j
    .rw[Q0 z, <-z,Q0 (by simp),he]
    .rw[QZ z];by_cases z2:j∈ns.take i
     .rw[Q0 z2,Q0 (Mh _ z2)]
     .rw[QZ z2,QZ (by simp[G0 z,z2])]
   have bY:(uj y.t++ents W).length<(s4.ow true).length+(s4.ow false).length:=by
    have e1:(uj y.t).length=i:=(by unfold uj;rw[BY];show a3);rw[Li,e1,ac,ac];unfold bF at cP;omega
   have bC:=ap t x hx G e he;show#[0,tt,aB,_,0,rfl,cy.of be,jf.sq (.inr sB),?_];cases e with
   |none =>
    show#[1,0,bJ ?_];show#[2,_,s4,#[y.p,y.fs,ab,(G,none)::y.t],rfl,R6,ba,a4,aT,bv,U.lay bY,by rw[Lo,a3],ap,λj I h'=>?_,bn,b1,ac];have h':Tb.look ((G,none)::y.t) j=some I:=h';rw[Tb.aP]at h';by_cases z:G=j
    .rw[Q0 z]at h';cases h';rw[<-z];show bC
    .rw[QZ z]at h';show a5 j I h'
   |some k =>
    show#[1,0,eL ?_];let#[b4,b8]:=R6.ob;let#[db,b7]:=R6.pg.ob;let#[cs,cc,hv]:=U.is k (LF _ (oj hx he));let#[b0,n0,hk,_,_]:=id hv;show#[0,a.rp,c.C,b4,_,0,b8,T.cl,T.nP,pN _ _ _,a.A.pg,db,0,b7,cQ _ _ ao ao ao ao ao,0,tt,_,(1),0,rfl,cy.of be,5,a.A,s4,k,b0,n0,cs,cc,rfl,R6.Jb U,hk,hv,λH7 G7 O7=>?_];have sm:=λI=>Pg.wA (es:=[I]) U.good hk hv I (List.mem_singleton.mpr rfl);have b2:∀b,((Pg.cD s4 b0 n0 (cc+1)).ow b).length=(s4.ow b).length:=λb=>Pg.dD b;show#[2,2,#[y.p,y.fs,ab,(G,some k)::y.t],rfl,R6.kH G7 O7 b2,ba.off O7 aT (λb z w=>(a4 b z).2.1 (.inl w)) R6.pg.qA,a4,aT,bv,U.share hk hv bY,by rw[Lo,a3],ap.keep λI _=>sm I,λj I h'=>?_,bn.trans (R6.GB G7 O7),O7 _ _ b1 (λz=>cC (.inl z)),λb=>(b2 b).trans (ac b)];have h':Tb.look ((G,some k)::y.t) j=some I:=h';rw[Tb.aP]at h';by_cases z:G=j
    .rw[Q0 z]at h';cases h';rw[<-z];show sm _ _ bC
    .rw[QZ z]at h';show sm _ _ (a5 j I h')
  .rintro σ H4 ⟨v6,v7,M4,s4,y,rfl,O,Y,L,aT,as,U,a3,ap,a5,am,bb,ac⟩;rw[BY,Mq]at as;have hy:∀j,Tb.look y.t j=Tb.look x.t j:=λj=>by
    rw[as j];by_cases z:j∈ns
    .rw[Q0 z]
    .rw[QZ z];cases w:Tb.look x.t j with
     |none=>rfl
     |some e=>show absurd ((TX.mem pm j).mpr (by rw[w];simp)) z
   let#[dj,b5]:=O.ob;show#[0,0,a.rp,c.C,dj,_,0,b5,T.cl,T.nR,eV _ _ _,0,a.rd,0,gB.k (k:=Sum.inl o) O.hd (by rw[Tb.bW];omega),?_];rw[show(V.ref y.p)=fR y from rfl,Tb.cF a2];have R5:=O.BM a2 Y (λb z=>#[(L b z).1,(L b z).2.1]) aT;show q _ M4 s4 y hy R5 (by rw[nv];show U.perm Nr) ?_ #[?_,am.mm,am.mn,λb z=>?_,R.mt,R.dw] ac
   .intro t' x' h' j I bm;rw[Tb.br t' a2]at h';unfold nA;by_cases z:t'=o
    .rw[Q0 z]at h' ⊢;cases h';show a5 j I bm
    .rw[QZ z]at h' ⊢;show ap t' x' h' j I bm
   .intro b u e z;rw[ag (λw=>z (.inr (.inl w)))];show am.off b u e z
   .rcases z with z|z|⟨x',a0,z⟩
    .show .inl (.inl z)
    .show .inl (.inr (.inl z))
    .rcases List.mem_append.mp a0 with a0|a0
     .show .inl (.inr (.inr #[x',a0,z]))
     .rw[List.mem_singleton.mp a0]at z;show .inr (L b z).2.2.1
end
noncomputable abbrev uQ:LI:=inClass (top 14) 0
noncomputable abbrev vA:LI:=inClass (top 33) 0
noncomputable def s0 (nf ns:Nat):Pg.PS:=#[λb=>replicate (if b=true then nf else ns) 0,λb=>replicate (if b=true then nf else ns) none,λ_=>none,(0),[]]
theorem GV {nf ns:Nat}(h:0<nf):Pg.RI (s0 nf ns) []:=by
 have J:∀(b:Bool) (n:Nat) (c:Int),((s0 nf ns).ow b)[n]?=some c->c=0:=λb n c e=>by
  have e:(replicate (if b=true then nf else ns) (0:Int))[n]?=some c:=e;show(List.mem_replicate.mp (Ld e)).2
 have G:∀n:Nat,(replicate n (0:Int)).sum=0:=λn=>by
  induction n with
  |zero=>rfl
  |succ n I=>rw[MD,MV,I];rfl
 show#[#[(λk p e=>by cases e),(λk b n e=>by cases e),(λk j p e=>by cases e),λb n c e=>.inl (J b n c e),λb=>?_,MN,λk=>#[(λz=>by cases z),(λ⟨n,e⟩=>by cases e)]],Int.le_refl _,λe=>?_,(λk z=>by cases z),λk cs c z=>?_,?_,LD _]
 .change(replicate _ _).length=(replicate _ _).length;rw[LW,LW]
 .have:(replicate nf (0:Int)).length=0:=(by rw[show replicate nf (0:Int)=[]from e];rfl);rw[LW]at this;omega
 .let#[b,n,e,_]:=z;cases e
 .change(replicate nf (0:Int)).sum+(replicate ns (0:Int)).sum=0;rw[G,G];rfl
noncomputable def PA.nine (A:PA):List Addr:=[A.pg,A.fp,A.fo,A.fc,A.sp,A.so,A.sc,A.pd,A.il]
inductive rZ (C CS:Addr) (vs:List V) (H:Hp) (Q:VK) (e3:XK):Prop
 |mk (p dx:Addr) (nf ns:Nat) (_:vs=[.ref p,.int nf,.int ns]) (_:nf<=60) (_:ns<=60) (_:H p=some (.ins C dx [])) (_:∀(H':Hp) (A:PA),A.pg=p->A.nine.Nodup->(∀b∈A.nine,b=p\/H b=none)->(∀M,bL C CS H' M A (s0 nf ns))->Off (· = p) H H'->Q .non H'):rZ C CS vs H Q e3
inductive rG (c:CA) (vs:List V) (H:Hp) (Q:VK) (e3:XK):Prop
 |mk (p dx:Addr) (nf ns:Nat) (_:vs=[.ref p,.int nf,.int ns]) (_:nf<=60) (_:ns<=60) (_:0<nf) (_:H p=some (.ins c.C dx [])) (_:∀(H':Hp) (M:Addr->Prop) (a:RA),a.rp=p->az c H' M a (s0 nf ns) []->(∀b,M b->H b=none)->Off (· = p) H H'->Q .non H'):rG c vs H Q e3
theorem cz {H:Hp}{a b:Addr}{o:HO}(h:upd H a o b=none):b≠a/\H b=none:=by
 by_cases z:b=a
 .rw[z,ae]at h;cases h
 .rw[ag z]at h;show#[z,h]
theorem hJ {C p ow co:Addr}{B:Addr->Prop}{os:List Int}{pg:List (Option (List Int))}{H H':Hp}(S:∀M,aR C H M p ow co os pg) (o:Off B H H') (I:¬ B p) (G:¬ B ow) (J:¬ B co):∀M,aR C H' M p ow co os pg:=λM =>
 ((S λb=>M b\/B b).off o (λb z=>.inr z) I G J).less λb z=>.inl z
theorem iw {C CS p dx q ow co:Addr}{fs:List (Str×V)}{os:List Int}{pg:List (Option (List Int))}{H:Hp}(G:H p=some (.ins C dx fs)) (S:∀M,aR CS H M q ow co os pg):∀b,b=p\/b=q\/b=ow\/b=co->H b≠none:=by
 intro b z e;have S:=S λ_=>False;let#[J,h2]:=S.ob;let#[_,I,_]:=S.hc;rcases z with z|z|z|z<;>rw[z]at e
 .rw[G]at e;cases e
 .rw[h2]at e;cases e
 .rw[S.hw]at e;cases e
 .rw[I]at e;cases e
theorem mF {C CS:Addr}{H:Hp}{M:Addr->Prop}{A:PA}{s:Pg.PS}(G:bL C CS H M A s):∀b∈A.nine,H b≠none:=by
 intro b z e;unfold PA.nine at z;simp only[LO,Lm,or_false]at z;let#[dx,h1]:=G.ob;let#[_,I]:=G.fr.ob;let#[_,N]:=G.sl.ob;let#[_,J,_]:=G.fr.hc;let#[_,L,_]:=G.sl.hc;let#[l,O,_]:=G.pd;rcases z with z|z|z|z|z|z|z|z|z<;>rw[z]at e
 .rw[h1]at e;cases e
 .rw[I]at e;cases e
 .rw[G.fr.hw]at e;cases e
 .rw[J]at e;cases e
 .rw[N]at e;cases e
 .rw[G.sl.hw]at e;cases e
 .rw[L]at e;cases e
 .rw[O]at e;cases e
 .rw[G.il]at e;cases e
section
variable {P:IF}{w:Ll}{K:PySem.W.Frag}{mg:Str->Option Value}{base:Heap}
theorem Kd:aC ["self","frames","slots"] ["self","frames","slots"] (aw uQ):=L2.bG
theorem zD {f C CS bY:Addr}{fd bl:GX}(F:cM K "__init__" "Paging.__init__" uQ f fd) (T:qQ K mg C) (MS:Mk K CS bY) (bC:mg "Store" = some (.ref CS))
  (bb:a8 P w K mg base aS 1 bY bl ["self","many"] (iq CS)) (be:Binds K bl ["self","many"] []):a8 P w K mg base aS 3 f fd ["self","frames","slots"] (rZ C CS):=by
 show F.ok Kd (λvs H Q E h=>?_) (λcm A outer s H vs Q E hr h=>?_)
 .let#[p,dx,nf,ns,rfl,_]:=h;rfl
 .let#[p,dx,nf,ns,rfl,n1,n2,hp,k]:=h;show#[_,(ah (fM (pv 0) (lL MS bb (hr.mono av) (by rfl) bC be .nil ax (aa (pv 1) ai)) rfl)
   (ah (fM (pv 0) (lL MS bb (hr.mono av) (by rfl) bC be .nil ax (aa (pv 2) ai)) rfl)
   (ah (fM (pv 0) dr rfl)
   (ah (fM (pv 0) ak rfl)
   (aj (fM (pv 0) (cn ai) rfl)))))),?_]
  show#[0,λfp b7 aT bi b9=>#[fp,b7,nf,rfl,n1,ae,λS O H1 U Y b8 S1 o1=>#[4]]];have m1:bh H H1:=λb u e=>o1 b u (by rw[ag (aq e aT),ag (aq e bi)];show e) (aq e aT);let#[q1,U]:=cz U;let#[q2,Y]:=cz Y;have U:=(cz U).2;have Y:=(cz Y).2;have ce:=m1 _ _ hp;have aB:fp≠p:=G0 (aq hp aT);have as:S≠p:=G0 (aq hp U);have am:O≠p:=G0 (aq hp Y);clear o1 bi b9;show#[0,p,C,dx,[],rfl,ce,T.cl,T.nF,av,?_];have o2:Off (· = p) H1 (upd H1 p (.ins C dx (bj "frames" (.ref fp) []))):=Off.wr rfl;have bn:upd H1 p (.ins C dx (bj "frames" (.ref fp) [])) p=some (.ins C dx (bj "frames" (.ref fp) [])):=ae;generalize upd H1 p (.ins C dx (bj "frames" (.ref fp) []))=H2 at *;have S2:=hJ S1 o2 aB as am;have O2:Off (· = p) H H2:=λb o e z=>o2 b o (m1 b o e) z;show#[0,λsp cc ba bz ch=>#[sp,cc,ns,rfl,n2,ae,λso sc H3 ab ap ci S3 o3=>#[4]]];have m3:bh H2 H3:=λb u e=>o3 b u (by rw[ag (aq e ba),ag (aq e bz)];show e) (aq e ba);let#[q3,ab]:=cz ab;let#[q4,ap]:=cz ap;have ab:=(cz ab).2;have ap:=(cz ap).2;clear o3 bz ch;have ac:∀b,b=p\/b=fp\/b=S\/b=O->H2 b≠none:=iw bn S2;have b0:=hJ (B:=λ_=>False) S2 (λb o e _=>m3 b o e) id id id;have ca:=m3 _ _ bn;show#[0,p,C,dx,0,ca,T.cl,T.nS,by change 1<1000;decide,?_];have a7:∀{b},H2 b=none->b≠p/\b≠fp/\b≠S/\b≠O/\H b=none:=λ{b} h=>#[λz=>ac b (.inl z) h,λz=>ac b (.inr (.inl z)) h,λz=>ac b (.inr (.inr (.inl z))) h,λz=>ac b (.inr (.inr (.inr z))) h,by
   cases e:H b with
   |none=>rfl
   |some u=>rw[O2 b u e λz=>ac b (.inl z) h]at h;cases h]
  let#[a1,a2,a3,a4,a5]:=a7 ba;let#[b1,b2,b3,b4,b5]:=a7 ab;let#[c1,c2,c3,c4,c5]:=a7 ap;have o4:Off (· = p) H3 (upd H3 p (.ins C dx (bj "slots" (.ref sp) (bj "frames" (.ref fp) [])))):=Off.wr rfl;have a6:upd H3 p (.ins C dx (bj "slots" (.ref sp) (bj "frames" (.ref fp) []))) p=some (.ins C dx (bj "slots" (.ref sp) (bj "frames" (.ref fp) []))):=ae;generalize upd H3 p (.ins C dx (bj "slots" (.ref sp) (bj "frames" (.ref fp) [])))=H4 at *;have bd:=hJ b0 o4 aB as am;have bx:=hJ S3 o4 a1 b1 c1;have O4:Off (· = p) H H4:=λb o e z=>o4 b o (m3 b o (O2 b o e z)) z;have b6:∀{b},H4 b=none->b≠p/\b≠fp/\b≠S/\b≠O/\b≠sp/\b≠so/\b≠sc/\H b=none:=λ{b} h=>by
   have N:=iw a6 bd;have R:=iw a6 bx;show#[λz=>N b (.inl z) h,λz=>N b (.inr (.inl z)) h,λz=>N b (.inr (.inr (.inl z))) h,λz=>N b (.inr (.inr (.inr z))) h,λz=>R b (.inr (.inl z)) h,λz=>R b (.inr (.inr (.inl z))) h,λz=>R b (.inr (.inr (.inr z))) h,?_];cases e:H b with
   |none=>rfl
   |some u=>rw[O4 b u e λz=>N b (.inl z) h]at h;cases h
  intro I bc;let#[d1,d2,d3,d4,d5,d6,d7,d8]:=b6 bc;show#[0,p,C,dx,0,by rw[ag (G0 d1)];show a6,T.cl,T.nP,by change 2<1000;decide,?_];show#[0,p,C,dx,0,ae,T.cl,T.nL,by change 3<1000;decide,?_];have o7:Off (· = p) H4 (upd (upd (upd H4 I (.dK [])) p (.ins C dx (bj "places" (.ref I) (bj "slots" (.ref sp) (bj "frames" (.ref fp) []))))) p (.ins C dx (bj "last_sheet" (.int 0) (bj "places" (.ref I) (bj "slots" (.ref sp) (bj "frames" (.ref fp) [])))))):=λb o e z=>by
   rw[ag z,ag z,ag (aq e bc)];show e
  have a0:upd (upd (upd H4 I (.dK [])) p (.ins C dx (bj "places" (.ref I) (bj "slots" (.ref sp) (bj "frames" (.ref fp) []))))) p (.ins C dx (bj "last_sheet" (.int 0) (bj "places" (.ref I) (bj "slots" (.ref sp) (bj "frames" (.ref fp) []))))) p=some (.ins C dx (bj "last_sheet" (.int 0) (bj "places" (.ref I) (bj "slots" (.ref sp) (bj "frames" (.ref fp) []))))):=ae;have bv:upd (upd (upd H4 I (.dK [])) p (.ins C dx (bj "places" (.ref I) (bj "slots" (.ref sp) (bj "frames" (.ref fp) []))))) p (.ins C dx (bj "last_sheet" (.int 0) (bj "places" (.ref I) (bj "slots" (.ref sp) (bj "frames" (.ref fp) []))))) I=some (.dK []):=(by rw[ag d1,ag d1,ae]);generalize upd (upd (upd H4 I (.dK [])) p (.ins C dx (bj "places" (.ref I) (bj "slots" (.ref sp) (bj "frames" (.ref fp) []))))) p (.ins C dx (bj "last_sheet" (.int 0) (bj "places" (.ref I) (bj "slots" (.ref sp) (bj "frames" (.ref fp) [])))))=H7 at *;have bm:=hJ bd o7 aB as am;have bI:=hJ bx o7 a1 b1 c1;have O7:Off (· = p) H H7:=λb o e z=>o7 b o (O4 b o e z) z;show#[av,λG L=>?_];have N:=iw a0 bm;have R:=iw a0 bI;have i1:G≠p:=λz=>N G (.inl z) L;have i2:G≠fp:=λz=>N G (.inr (.inl z)) L;have i3:G≠S:=λz=>N G (.inr (.inr (.inl z))) L;have i4:G≠O:=λz=>N G (.inr (.inr (.inr z))) L;have i5:G≠sp:=λz=>R G (.inr (.inl z)) L;have i6:G≠so:=λz=>R G (.inr (.inr (.inl z))) L;have i7:G≠sc:=λz=>R G (.inr (.inr (.inr z))) L;have i8:G≠I:=λz=>(by rw[z,bv]at L;cases L);have i9:H G=none:=by
   cases e:H G with
   |none=>rfl
   |some u=>rw[O7 G u e i1]at L;cases L
  show#[0,p,C,dx,0,by rw[ag (G0 i1)];show a0,T.cl,T.nI,by change 4<1000;decide,?_];have o9:Off (· = p) H7 (upd (upd H7 G (.lst [])) p (.ins C dx (cO #[p,fp,S,O,sp,so,sc,I,G] 0))):=λb o e z=>by
   rw[ag z,ag (aq e L)];show e
  show k _ #[p,fp,S,O,sp,so,sc,I,G] rfl ?_ ?_ (λM=>#[#[dx,ae],hJ bm o9 aB as am M,hJ bI o9 a1 b1 c1 M,3,[],?_,MN,(λx hx=>by cases hx),λ_=>rfl,LD _]) (λb o e z=>o9 b o (O7 b o e z) z)
  .unfold PA.nine;simp only[List.nodup_cons,LO,Lm,or_false,not_or,not_false_eq_true,MN,and_true];show#[#[λh=>aB h.symm,λh=>as h.symm,λh=>am h.symm,λh=>a1 h.symm,λh=>b1 h.symm,λh=>c1 h.symm,λh=>d1 h.symm,λh=>i1 h.symm],#[λh=>q1 h.symm,λh=>q2 h.symm,λh=>a2 h.symm,λh=>b2 h.symm,λh=>c2 h.symm,λh=>d2 h.symm,λh=>i2 h.symm],#[λh=>(G0 b8) h.symm,λh=>a3 h.symm,λh=>b3 h.symm,λh=>c3 h.symm,λh=>d3 h.symm,λh=>i3 h.symm],#[λh=>a4 h.symm,λh=>b4 h.symm,λh=>c4 h.symm,λh=>d4 h.symm,λh=>i4 h.symm],#[λh=>q3 h.symm,λh=>q4 h.symm,λh=>d5 h.symm,λh=>i5 h.symm],#[λh=>(G0 ci) h.symm,λh=>d6 h.symm,λh=>i6 h.symm],#[λh=>d7 h.symm,λh=>i7 h.symm],λh=>i8 h.symm]
  .intro b J;unfold PA.nine at J;simp only[LO,Lm,or_false]at J;rcases J with J|J|J|J|J|J|J|J|J<;>rw[J]
   .show .inl rfl
   .show .inr aT
   .show .inr U
   .show .inr Y
   .show .inr a5
   .show .inr b5
   .show .inr c5
   .show .inr d8
   .show .inr i9
  .change upd (upd H7 G (.lst [])) p _ G=_;rw[ag i1,ae];rfl
  .intro b;change(replicate _ _).length<=60;rw[LW];cases b
   .show n2
   .show n1
  .change upd (upd H7 G (.lst [])) p _ I=_;rw[ag d1,ag (G0 i8)];show bv
theorem Kg:aC ["self","frames","slots"] ["self","frames","slots"] (aw vA):=L2.bG
theorem zY {f as:Addr}{fd am:GX}{c:CA}(F:cM K "__init__" "Rooms.__init__" vA f fd) (T:pb K mg c) (MP:Mk K c.P as) (a6:mg "Paging" = some (.ref c.P))
  (a5:a8 P w K mg base aS 3 as am ["self","frames","slots"] (rZ c.P c.S)) (ba:Binds K am ["self","frames","slots"] []):a8 P w K mg base aS 5 f fd ["self","frames","slots"] (rG c):=by
 show F.ok Kg (λvs H Q E h=>?_) (λbc A outer s H vs Q E hr h=>?_)
 .let#[p,dx,nf,ns,rfl,_]:=h;rfl
 .let#[p,dx,nf,ns,rfl,n1,n2,n3,hp,k]:=h;show#[_,(ah (fM (pv 0) (lL MP a5 (hr.mono av) (by rfl) a6 ba .nil ax (aa (pv 1) (aa (pv 2) ai))) rfl)
   (ah (fM (pv 0) (aD bt (pv 1) (pv 2)) rfl)
   (aj (fM (pv 0) dr rfl)))),?_]
  show#[0,0,λpg a0 U bb bd=>#[pg,a0,nf,ns,rfl,n1,n2,ae,λH1 G eA a1 ac GA o1=>#[4]]];have Y:bh H H1:=λb u e=>o1 b u (by rw[ag (aq e U),ag (aq e bb)];show e) (aq e U);have fr:∀b∈G.nine,H b=none:=λb N=>by
   rcases ac b N with h|h
   .rw[h];show U
   .show(cz (cz h).2).2
  have aB:=Y _ _ hp;clear o1 ac;show#[0,p,c.C,dx,[],rfl,aB,T.cl,T.nP,av,?_];show#[0,0,_,0,4];show#[0,p,c.C,dx,0,ae,T.cl,T.nT,by change 1<1000;decide,?_];rw[<-eA];have L:Off (· = p) H1 (upd (upd H1 p (.ins c.C dx (bj "paging" (.ref G.pg) []))) p (.ins c.C dx (bj "total" (.int ((nf:Int)+ns)) (bj "paging" (.ref G.pg) [])))):=λb o e z=>(by rw[ag z,ag z];show e);have ap:upd (upd H1 p (.ins c.C dx (bj "paging" (.ref G.pg) []))) p (.ins c.C dx (bj "total" (.int ((nf:Int)+ns)) (bj "paging" (.ref G.pg) []))) p=some (.ins c.C dx (bj "total" (.int ((nf:Int)+ns)) (bj "paging" (.ref G.pg) []))):=ae;generalize upd (upd H1 p (.ins c.C dx (bj "paging" (.ref G.pg) []))) p (.ins c.C dx (bj "total" (.int ((nf:Int)+ns)) (bj "paging" (.ref G.pg) [])))=H3 at *;intro rd J;have O:rd≠p:=G0 (aq ap J);show#[0,p,c.C,dx,0,by rw[ag (G0 O)];show ap,T.cl,T.nR,by change 2<1000;decide,?_];have o5:Off (· = p) H1 (upd (upd H3 rd (.dK [])) p (.ins c.C dx (eF G.pg ((nf:Int)+ns) rd))):=λb o e z=>(by rw[ag z,ag (aq (L b o e z) J)];show L b o e z);have ab:∀b∈G.nine,b≠p:=λb N z=>(by rw[z]at N;have:=fr p N;rw[hp]at this;cases this);have R:∀b,G.own b->b∈G.nine:=λb h=>by
   unfold PA.own at h;unfold PA.nine;simp only[LO,Lm,or_false]at h ⊢;rcases h with h|h|h|h|h|h|h<;>simp[h]
  have n9:∀i {b},G.nine[i]?=some b->b≠p:=λi b h=>ab b (Ld h);have G5:∀M,bL c.P c.S (upd (upd H3 rd (.dK [])) p (.ins c.C dx (eF G.pg ((nf:Int)+ns) rd))) M G (s0 nf ns):=λM=>(GA λb=>M b\/b=p).move o5 (λb z=>.inr z) (λb z=>.inl (.inl z)) (λb z=>ab b (R b z)) (n9 1 rfl) (n9 4 rfl) (λb xs e z=>by rw[z,aB]at e;cases e);have a2:upd (upd H3 rd (.dK [])) p (.ins c.C dx (eF G.pg ((nf:Int)+ns) rd)) p=some (.ins c.C dx (eF G.pg ((nf:Int)+ns) rd)):=ae;have aT:upd (upd H3 rd (.dK [])) p (.ins c.C dx (eF G.pg ((nf:Int)+ns) rd)) rd=some (.dK []):=(by rw[ag O,ae]);have BW:¬ rd∈G.nine:=λz=>by
   have a3:=mF (GA λ_=>False) rd z;cases e:H1 rd with
   |none=>show a3 e
   |some u=>rw[L _ _ e O]at J;cases J
  have a7:H rd=none:=by
   cases e:H rd with
   |none=>rfl
   |some u=>rw[L _ _ (Y _ _ e) O]at J;cases J
  have a4:Off (· = p) H (upd (upd H3 rd (.dK [])) p (.ins c.C dx (eF G.pg ((nf:Int)+ns) rd))):=λb o e z=>o5 b o (Y b o e) z;show k _ (λb=>b∈G.nine\/b=rd) #[G,p,rd] rfl #[#[dx,?_],G5 _,#[a1,λx I=>.inl I],λb z=>?_,aT,MN,(λx I=>by cases I),(λx I=>by cases I),(λx I=>by cases I),(λx I=>by cases I),.inr rfl,λz=>BW (R _ z),λz=>ab _ (R _ z) rfl] (λb z=>z.elim (fr b) λz=>by rw[z];show a7) a4
  .have e:bF (s0 nf ns)=(nf:Int)+ns:=by
    unfold bF;rw[show((s0 nf ns).ow true).length=nf from LW,show((s0 nf ns).ow false).length=ns from LW];omega
   rw[e];show a2
  .rcases z with z|z
   .show mF (G5 λ_=>False) b z
   .intro w;rw[z]at w;show absurd (aT.symm.trans w) (by simp)
end
end St
namespace HT
open PySem PySem.Spec PyProof.Rows
section
variable {prog:IF}{w:Ll}{A:Lq}{E:Value->By->Prop}{s:By}
theorem j9 {t sl:Addr}{G:Array Value}{J N:Value}{lo hi:Option Int}{Q:Value->By->Prop}(I:IsTup s.heap t G) (hs:s.heap.IsSliceOf sl J N .none) (pl:OP J lo) (O:OP N hi)
  (L:di G.size 0 lo=0/\di G.size G.size hi=G.size) (h:Q (.ref t) s):wpAny (model prog w) A (NS (.ref t) (.ref sl)) Q E s:=by
 let#[os,S,R,ab]:=id hs;have U:s.TypeIs (.ref sl) "slice" := #[os,S,R];unfold NS
 try with_reducible show Mz ?_
 first|show DD (Lg ?_)|skip
 show DD (PY I.typeIs av ?_);show DD (Ow (name:=Str.ofString "__getitem__") I.typeIs LP
  (Nm LP I.typeIs Pp ?_ (PD _ _)))
 change wpAny _ _ (Builtin.Tuple.tupleItemsOf (.ref t)>>=_) _ _ s;show DD (tupleItemsOf_ I ?_);show DD (OQ U ?_);rw[Q0 av];show DD (gG hs pl O ?_);have Y:(((di G.size 0 lo:Nat):Int)==0&&(1:Int)==1&&(di G.size G.size hi-di G.size 0 lo)==G.size)=true:=by
  rw[L.1,L.2];simp
 change wpAny _ _ (if (((di G.size 0 lo:Nat):Int)==0&&(1:Int)==1&&(di G.size G.size hi-di G.size 0 lo)==G.size)=true then _ else _) _ _ s;rw[Q0 Y];unfold Builtin.Tuple.tupleIsExact;show DD (DD (OQ I.typeIs (Lg ?_)));rw[Q0 av];show DD (NB ?_);show Lg #[0,Lg h]
end
end HT
namespace L2
open PySem PySem.Spec PyProof.Rows
inductive Ee (K:PySem.W.Frag) (x:V) (lo:Option Int) (hi:Option Int) (H:Hp) (Q:VK):Prop
 |mk (a:_) (xs:_) (_:x=.ref a) (_:cy K H a xs) (_:((HT.di xs.length 0 lo=0/\HT.di xs.length xs.length hi=xs.length)->Q (.ref a) H)) (_:(¬ (HT.di xs.length 0 lo=0/\HT.di xs.length xs.length hi=xs.length)->∀p,H p=none->Q (.ref p) (upd H p (.tup (fL xs lo hi))))):Ee K x lo hi H Q
theorem jL {X:Cx}:Ig X (Ee X.K):=by
 intro pins s σ H x v R Y lo hi sl Q I G hs pl L h;let#[a,xs,rfl,J,O,S]:=h;by_cases c:HT.di xs.length 0 lo=0/\HT.di xs.length xs.length hi=xs.length
 .cases G;let#[its,r,N,hz]:=I.tuple J;have U:its.toArray.size=xs.length:=(by rw[G1];show r.length.symm);show#["tuple",_,LP.lookup,N.typeIs,?_];show HT.j9 N hs pl L (by rw[U];show c) #[.ref a,H,I,rfl,O c]
 .show FJ pins s σ H (.ref a) v R Y lo hi sl Q I G hs pl L #[a,xs,rfl,J,c,S c]
theorem pH {a:Addr}{o:Obj}{kvs:List (Key×V)}{g:TG}{tb:TS}{D:Ends}{σ:St}{H:Hp}(Pv:Nat->St->Hp->Prop) (O:Pv 0 σ H) (Y:∀i σ H,i<=kvs.length->Pv i σ H->H a=some (.cH o (.dK kvs)))
  (hs:∀i k v σ H T,kvs[i]?=some (k,v)->H T=none->Pv i σ H->g (.ref T) σ (upd H T (.tup [kV k,v])) λI H2=>tb { D with nx:=Pv (i+1),ct:=Pv (i+1),bk:=D.nx } I H2) (hd:∀σ H,Pv kvs.length σ H->D.nx σ H) :
  ∃W:Nat->Nat->St->Hp->Prop,(∃m,W 0 m σ H)/\∀i m σ H,W i m σ H ->
   ((Gn a o kvs).stop i H/\D.nx σ H)\/((Gn a o kvs).go i H/\∃N:St->Hp->Prop,(∀G H',N G H'->∃L,L<m/\W (i+1) L G H')/\∀x H',(Gn a o kvs).DJ i H x H'->g x σ H' λI H2=>tb { D with nx:=N,ct:=N,bk:=D.nx } I H2):=by
 show#[λi m σ H=>m=kvs.length-i/\i<=kvs.length/\Pv i σ H,#[kvs.length,by simp,LD _,O],?_];rintro i m σ H ⟨rfl,hi,p⟩;have q:=Y i σ H hi p;by_cases J:i<kvs.length
 .show .inr #[#[q,J],Pv (i+1),λG H' S=>#[kvs.length-(i+1),af,rfl,J,S],?_];rintro v H' ⟨T,k,x,rfl,U,R,rfl⟩;show hs i k x σ H T R U p
 .have e:i=kvs.length:=af;subst e;show .inl #[#[q,HC _],hd σ H p]
theorem wF {a:Addr}{o:Obj}{kvs:List (Key×V)}{caps:List (Str×Nat)}{te:TE}{σ:St}{H:Hp}{J:List V->Hp->Prop}(Pv:Nat->List V->Hp->Prop) (N:Pv 0 [] H)
  (L:∀i zs H,i<=kvs.length->Pv i zs H->H a=some (.cH o (.dK kvs)))
  (hs:∀i k v zs H,kvs[i]?=some (k,v)->Pv i zs H->te (gg caps σ (some v)) H (λz H3=>zs.length<sizeLine/\Pv (i+1) (zs++[z]) H3))
  (hd:∀zs H,Pv kvs.length zs H->J zs H):∃W:Nat->Nat->List V->Hp->Prop,(∃m,W 0 m [] H)/\iA caps oJ te σ (IV a o kvs) J W:=by
 show#[λi m zs H=>m=kvs.length-i/\i<=kvs.length/\Pv i zs H,#[kvs.length,by simp,LD _,N],?_];rintro i m zs H ⟨rfl,hi,p⟩;have G:=L i zs H hi p;by_cases I:i<kvs.length
 .show .inr #[#[G,I],Pv (i+1),λS H' R=>#[kvs.length-(i+1),af,rfl,I,R],?_];rintro v H' ⟨rfl,k,O⟩;unfold oJ;dsimp only;rw[Q0 rfl];show hs i k v zs H' O p
 .have e:i=kvs.length:=af;subst e;show .inl #[#[G,HC _],hd zs H p]
section
variable {X:Cx}
theorem vI:dG X (.type "dict") (λxs H Q=>∃(d:Addr) (kvs:List (Key×V)),xs=[.ref d]/\H d=some (.dK kvs)/\∀a,H a=none->Q (.ref a) (upd H a (.dK kvs))):=by
 intro pins s σ H xs us Q I r h;let#[d,kvs,rfl,hd,q]:=h;let#[u,rfl,N]:=vals1 r;obtain rfl:u=Value.ref d:=N;let#[O,L,vs,G,dd]:=gY I.bC hd;have S:=G.length;show kt_call_dict (knd:=bu X.prog X.w) L dd af λh' R J=>?_;show#[.ref s.heap.objs.size,_,I.laid (t':=s.toks) (h':=h') (λb o e=>?_) (HC _) (mE O ?_ G R),rfl,q _ I.fresh]
 .show(J.2 b (LM (Heap.lt_size e))).trans (Heap.get?_push_of_some _ e)
 .show beq_false_of_ne (PQ I.big)
theorem range_any (bs:List Bool):((List.range bs.length).any λi=>(bs[i]?).getD true)=bs.any id:=by
 rw[Nf,List.any_eq_true,List.any_eq_true];constructor
 .rintro⟨i,hi,e⟩;have G:=List.mem_range.mp hi;rw[Lb G,P7]at e;show#[_,MB G,e]
 .rintro⟨b,J,e⟩;let#[i,hi,I]:=Mo J;show#[i,List.mem_range.mpr hi,?_];rw[Lb hi,P7,I];show e
theorem Fw:LK "any" = some (.builtin "any"):=ao
theorem yS (hc:X.calm=true):dG X (.builtin "any") (λxs H Q=>∃(l:Addr) (bs:List Bool),xs=[.ref l]/\bA X.K H l (bs.map V.bl)/\Q (.bl (bs.any id)) H):=by
 intro pins s σ H xs us Q I r h;let#[l,bs,rfl,S,q]:=h;let#[u,rfl,Y]:=vals1 r;obtain rfl:u=Value.ref l:=Y;let#[its,O,p,_]:=I.list S;have ei:=qZ O;subst ei;have J:=p.isList;have ab:l<s.heap.objs.size:=let ⟨_,e,_⟩:=J;Heap.lt_size e;show call_any_walk (Of J ?_);show#[s.heap.objs.size,[s.heap.objs.size,l],[s.heap.objs.size],(bs.map Value.bool).toArray.size,2,λi=>(bs[i]?).getD true,rfl,QY (A:=X.A.in1) (I.ok.hd hc) _ l (LM ab) (bs.map Value.bool).toArray,
  #[#[_,Heap.get?_push_size _ rfl,1],J.push _],λi v s' Q' E' R N=>?_,λh' tk U=>?_]
 .have ac:(bs.map Value.bool).toArray[i]?=some v:=R;have G:(bs.map Value.bool)[i]?=some v:=(by simpa using ac);rw[K4]at G;cases L:bs[i]? with
  |none=>rw[L]at G;cases G
  |some b =>
   rw[L]at G;have e2:Value.bool b=v:=Option.some.inj G;subst e2;simp only[L,P7]at N;show Ml N
 .have e:((List.range (bs.map Value.bool).toArray.size).any λi=>(bs[i]?).getD true)=bs.any id:=by
   rw[G1,BY];show range_any bs
  rw[e];show#[.bl _,H,I.kept (QB U),rfl,q]
noncomputable def Ic:yZ:=λo i v H Q=>∃a H',o=.ref a/\gB H a i v H'/\Q H'
theorem set_dict (J:X.A.units+1<NG):CU X Ic:=by
 intro pins s σ H o i v ov R u Q I O N G h;let#[a,H',rfl,g,q]:=h;obtain rfl:ov=Value.ref a:=O;show o8 J I g N G λs' L=>#[H',L,q]
end
end L2
namespace Lw
open PySem L2 St
noncomputable abbrev uZ:LI:=top 35
noncomputable abbrev qY:LI:=top 36
noncomputable abbrev vx:LI:=top 37
noncomputable abbrev vz:LI:=top 38
noncomputable abbrev uH:LI:=top 39
noncomputable abbrev oo:LI:=top 40
noncomputable abbrev EB:LI:=top 41
noncomputable abbrev Ad:LI:=top 42
noncomputable abbrev lI:LI:=top 43
noncomputable abbrev wC:LI:=top 45
noncomputable abbrev vZ:LI:=top 46
structure nV (mg:Str->Option Value):Prop where
 range:mg "range" = none
 enumerate:mg "enumerate" = none
 sum:mg "sum" = none
 int:mg "int" = none
 B0:mg "isinstance" = none
 min:mg "min" = none
 max:mg "max" = none
 list:mg "list" = none
 len:mg "len" = none
 dict:mg "dict" = none
 bool:mg "bool" = none
 tuple:mg "tuple" = none
 sorted:mg "sorted" = none
 all:mg "all" = none
 any:mg "any" = none
inductive p8 (vs:List V) (H:Hp) (Q:VK) (e3:XK):Prop
 |mk (c k:Int) (_:vs=[.int c,.int k]) (_:∀v:Int,Q (.int v) H):p8 vs H Q e3
inductive mG (K:PySem.W.Frag) (vs:List V) (H:Hp) (Q:VK) (e3:XK):Prop
 |mk (a:Addr) (ns:List Int) (k:Nat) (_:vs=[.ref a,.int k]) (_:bA K H a (ns.map V.int)) (_:ns.length<=100) (_:k<=100) (_:∀(v:Int) (H':Hp),bh H H'->Q (.int v) H'):mG K vs H Q e3
inductive qg (vs:List V) (H:Hp) (Q:VK) (e3:XK):Prop
 |mk (i:Int) (_:vs=[.int i]) (_:Q (.bl true) H):qg vs H Q e3
noncomputable def oE (m:Int):List Int:=[2,3,2+m/4%5,2+m/4%39]
noncomputable def tN (m:Int):List Int:=[m/200%8,m/200%61,60]
noncomputable def ou (m:Int):Nat:=((oE m).getD (m%4).toNat 0).toNat
noncomputable def pO (m:Int):Nat:=((tN m).getD (m/9%3).toNat 0).toNat
theorem at_of {xs:List Int}{i n:Int}(I:0<=i) (h1:i<n) (J:n=xs.length):B6 (xs.map V.int) i=some (.int (xs.getD i.toNat 0))/\xs.getD i.toNat 0∈xs:=by
 obtain⟨j,rfl⟩:∃j:Nat,i=j:=#[i.toNat,af];have G:j<xs.length:=af;have e:xs.getD (OD (j:Int)) 0=xs[j]:=(by simp[G]);rw[e];show#[jW (by rw[K4,Lb G];rfl),MB G]
theorem wD (m:Int):B6 ((oE m).map V.int) (m%4)=some (.int (ou m))/\2<=ou m/\ou m<=40:=by
 let#[h1,h2]:=at_of (xs:=oE m) (i:=m%4) (n:=4) af af rfl;have G:2<=(oE m).getD (m%4).toNat 0/\(oE m).getD (m%4).toNat 0<=40:=by
  unfold oE at h2 ⊢;simp only[LO,Lm,or_false]at h2;rcases h2 with h|h|h|h<;>rw[h]<;>omega
 have e:((ou m:Nat):Int)=(oE m).getD (m%4).toNat 0:=(by unfold ou;omega);rw[e];show#[h1,by unfold ou;omega,by unfold ou;omega]
theorem vS (m:Int):B6 ((tN m).map V.int) (m/9%3)=some (.int (pO m))/\pO m<=60:=by
 let#[h1,h2]:=at_of (xs:=tN m) (i:=m/9%3) (n:=3) af af rfl;have G:0<=(tN m).getD (m/9%3).toNat 0/\(tN m).getD (m/9%3).toNat 0<=60:=by
  unfold tN at h2 ⊢;simp only[LO,Lm,or_false]at h2;rcases h2 with h|h|h<;>rw[h]<;>omega
 have e:((pO m:Nat):Int)=(tN m).getD (m/9%3).toNat 0:=(by unfold pO;omega);rw[e];show#[h1,by unfold pO;omega]
inductive qS (vs:List V) (H:Hp) (Q:VK) (e3:XK):Prop
 |mk (m:Int) (_:vs=[.int m]) (_:∀(H':Hp) (t:Addr),bh H H'->H t=none->H' t=some (.tup [.int (ou m),.int (pO m)])->Q (.ref t) H'):qS vs H Q e3
theorem JI (x y:Int):Bq (x%2305843009213693951) y:=by
 have:=MU x (show(2305843009213693951:Int)≠0 by decide);have:=MG x (show(0:Int)<2305843009213693951 by decide);show .inl #[af,af]
theorem HY (x y:Int):Bq (x%2305843009213693907) y:=by
 have:=MU x (show(2305843009213693907:Int)≠0 by decide);have:=MG x (show(0:Int)<2305843009213693907 by decide);show .inl #[af,af]
section
variable {P:IF}{w:Ll}{K:PySem.W.Frag}{mg:Str->Option Value}{base:Heap}
theorem IP:aC ["_law_cell","_law_k","_law_once","_law_twice"] ["_law_cell","_law_k"] (aw uZ):=L2.bG
theorem zW {f:Addr}{fd:GX}(F:cM K "_law_mixed" "_law_mixed" uZ f fd):a8 P w K mg base aS 1 f fd ["_law_cell","_law_k"] p8:=by
 show F.ok IP (λvs H Q E h=>?_) (λI A outer s H vs Q E G h=>?_)
 .let#[c,j,rfl,_]:=h;rfl
 .let#[c,j,rfl,k]:=h;show#[_,(ah (aO (i:=2) IP.nd rfl (Lc rfl) (aD bN (aD eU (aD bt (aD bt (aD bN (pv 0) ak) (aD eU ak (pv 1))) ak) ak) ak))
   (ah (aO (i:=2) IP.nd rfl (Lc rfl) (aD bN (aD eU (pv 2) (pv 2)) ak))
   (ah (aO (i:=3) IP.nd rfl (Lc rfl) (aD bN (aD eU (aD bt (aD bt (pv 2) (aD eU ak (pv 1))) ak) ak) ak))
   (aj (aF (aD bt (aD eU (aD bN (aD eU (pv 3) (pv 3)) ak) ak) (pv 2))))))),?_]
  show#[0,_,0,rfl,(by change(0:Int)<2305843009213693951;decide),0,_,0,rfl,.inl #[av,av],_,0,5,0,5,0,rfl,.inr #[av,av],_,0,rfl,(by change(0:Int)<2305843009213693951;decide),?_];show#[0,0,_,0,rfl,JI _ _,_,0,rfl,(by change(0:Int)<2305843009213693921;decide),?_];show#[0,0,_,0,rfl,.inl #[av,av],_,0,5,0,5,0,rfl,.inr #[av,av],_,0,rfl,(by change(0:Int)<2305843009213693907;decide),?_];show#[0,0,_,0,rfl,HY _ _,_,0,rfl,(by change(0:Int)<2305843009213693951;decide),_,0,rfl,.inr #[av,av],0,_,0,rfl,k _]
theorem Hl:aC ["_law_script","_law_k","_law_cell"] ["_law_script","_law_k"] (aw qY):=L2.bG
theorem yX {f:Addr}{fd:GX}(F:cM K "_law_number" "_law_number" qY f fd) (T:nV mg) (GM:Df P w K mg base aS 1 "_law_mixed" p8):a8 P w K mg base aS 2 f fd ["_law_script","_law_k"] (mG K):=by
 show F.ok Hl (λvs H Q E h=>?_) (λap A outer s H vs Q E hr h=>?_)
 .let#[a,ns,j,rfl,_]:=h;rfl
 .let#[a,ns,j,rfl,N,hn,hj,k]:=h;have hs:sizeLine=16777216:=Lh;show#[_,(ah (aO (i:=2) Hl.nd rfl (Lc rfl) (bq cG (aD rQ (cX gH (pv 0) (cU (pv 1)) (cU (aD bt (pv 1) ak))) (cn (aa (aD bt (aD eU (pv 1) (pv 1)) ak) ai))) ak (λ_ _=>rfl)))
   (ah (aV (aA bH (aD bN (aK (ma rfl) (by rfl) T.sum uI (aa (cX gH (pv 0) fj (cU ak)) ai)) ak) ak (aH _)) (aj (aF (aD bN (pv 2) (aD ve ak ak)))) aG)
   (aj (aF (pc GM hr ax (aa (pv 2) (aa (pv 1) ai))))))),?_]
  show gv λ_ jt=>?_;have Y:fL (ns.map V.int) (some (j:Int)) (some ((j:Int)+1))=((ns.drop j).take 1).map V.int:=Rm.qv (n:=1);show#[0,0,0,0,_,0,rfl,0,a,0,N,λp R=>?_];change GQ _ _ (upd H p (.lst (fL (ns.map V.int) (some (j:Int)) (some ((j:Int)+1))))) _;rw[Y];have O:=Tb.ar (X:=.lst (((ns.drop j).take 1).map V.int)) R;have h1:upd H p (.lst (((ns.drop j).take 1).map V.int)) p=some (.lst (((ns.drop j).take 1).map V.int)):=ae;generalize upd H p (.lst (((ns.drop j).take 1).map V.int))=H1 at *;show#[0,0,_,0,rfl,.inl #[af,af],_,0,rfl,(by change 1<=sizeLine;decide),λp2 am=>?_];have s2:=Tb.ar (X:=.lst [V.int ((j:Int)*j+3)]) am;show#[p,p2,_,0,rfl,s2 _ _ h1,ae,?_,λI S=>?_]
  .rw[BY,Lp];change min 1 _+1<=sizeLine;omega
  have s3:=Tb.ar (X:=.lst (((ns.drop j).take 1).map V.int++[V.int ((j:Int)*j+3)])) S;have U:((ns.drop j).take 1).map V.int++[V.int ((j:Int)*j+3)]=((ns.drop j).take 1++[(j:Int)*j+3]).map V.int:=(by rw[Ln];rfl);have G:=O.trans (s2.trans s3);let#[L,_]:=at_of (xs:=(ns.drop j).take 1++[(j:Int)*j+3]) (i:=0) (n:=((ns.drop j).take 1++[(j:Int)*j+3]).length) (Int.le_refl _) (by rw[Li,Mb];omega) rfl;rw[<-U]at L;show#[I,_,(0),0,rfl,bA.of ae,L,jt _ _ ?_];generalize ((ns.drop j).take 1++[(j:Int)*j+3]).getD (OD 0) 0=cl;have ac:=Rm.eR N (G _);change jG _ _ _ _ (upd (upd H1 p2 (.lst [V.int ((j:Int)*j+3)])) I (.lst (((ns.drop j).take 1).map V.int++[V.int ((j:Int)*j+3)])));generalize upd (upd H1 p2 (.lst [V.int ((j:Int)*j+3)])) I (.lst (((ns.drop j).take 1).map V.int++[V.int ((j:Int)*j+3)]))=H3 at *;have J:fL (ns.map V.int) none (some (1:Int))=(ns.take 1).map V.int:=Rm.wo (s:=1);show#[0,0,a,0,ac,λp4 ab=>?_];have s4:=Tb.ar (X:=.lst ((ns.take 1).map V.int)) ab;show#[p4,ns.take 1,rfl,bA.of (by rw[<-J];show ae),_,0,rfl,(by change(0:Int)<2;decide),rfl,0,?_];rw[show fL (ns.map V.int) none (some (1:Int))=(ns.take 1).map V.int from J];show gf (λ_=>?_) (λ_=>?_)
  .show#[0,_,0,rfl,#[av,av,av],_,0,rfl,(by change(0:Int)<10^40;decide),k _ _ (G.trans s4)]
  .show#[0,0,cl,j,rfl,λv=>k v _ (G.trans s4)]
theorem J4:aC ["_law_found"] ["_law_found"] (aw vx):=L2.bG
theorem AN {f:Addr}{fd:GX}(F:cM K "_law_whole" "_law_whole" vx f fd) (T:nV mg):a8 P w K mg base aS 1 f fd ["_law_found"] qg:=by
 show F.ok J4 (λvs H Q E h=>?_) (λI A outer s H vs Q E G h=>?_)
 .let#[i,rfl,_]:=h;rfl
 .let#[i,rfl,k]:=h;show#[_,(aj (aF (z7 (aK d0 (by rfl) T.B0 bV (aa (pv 0) (aa (fw (v:=.ty "int") (by rfl) T.int kG rfl) ai))) (vO (Fd (aK d0 (by rfl) T.B0 bV (aa (pv 0) (aa (fw (v:=.ty "bool") (by rfl) T.bool DB rfl) ai)))))))),?_];show#[0,.int i,"int",_,true,rfl,.int i,Fg _,true,rfl,eL #[0,.int i,"bool",_,false,rfl,.int i,FK _,false,rfl,k]]
theorem HR:aC ["_law_m","_law_frames"] ["_law_m"] (aw wC):=L2.bG
theorem AD {f:Addr}{fd:GX}(F:cM K "_law_sizes" "_law_sizes" wC f fd):a8 P w K mg base aS 1 f fd ["_law_m"] qS:=by
 show F.ok HR (λvs H Q E h=>?_) (λab A outer s H vs Q E Y h=>?_)
 .let#[m,rfl,_]:=h;rfl
 .let#[m,rfl,k]:=h;show#[_,(ah (aO (i:=1) HR.nd rfl (Lc rfl) (bq cG (cn (aa ak (aa ak (aa (aD bt ak (aD bN (aD bZ (pv 0) ak) ak)) (aa (aD bt ak (aD bN (aD bZ (pv 0) ak) ak)) ai))))) (aD bN (pv 0) ak) (λ_ _=>rfl)))
   (aj (aF (cR (aa (pv 1) (aa (bq cG (cn (aa (aD bN (aD bZ (pv 0) ak) ak) (aa (aD bN (aD bZ (pv 0) ak) ak) (aa ak ai)))) (aD bN (aD bZ (pv 0) ak) ak) (λ_ _=>rfl)) ai)))))),?_]
  let#[N,_]:=wD m;let#[S,_]:=vS m;show gv λ_ U=>?_;show#[0,_,0,rfl,#[av,av],_,0,rfl,(by change(0:Int)<5;decide),_,0,rfl,0,_,0,rfl,#[av,av],_,0,rfl,(by change(0:Int)<39;decide),_,0,rfl,(by change 4<=sizeLine;decide),λG O=>#[0,_,0,rfl,(by change(0:Int)<4;decide),G,2,.int (ou m),1,bA.of ae,N,U _ _ ?_]];have s0:=Tb.ar (X:=.lst ((oE m).map V.int)) O;change EV _ _ _ (upd H G (.lst ((oE m).map V.int)));generalize upd H G (.lst ((oE m).map V.int))=H1 at *;show#[0,0,_,0,rfl,#[av,av],_,0,rfl,(by change(0:Int)<8;decide),0,_,0,rfl,#[av,av],_,0,rfl,(by change(0:Int)<61;decide),(by change 3<=sizeLine;decide),λL R=>#[0,_,0,rfl,#[av,av],_,0,rfl,(by change(0:Int)<3;decide),L,2,.int (pO m),1,bA.of ae,S,(by change 2<=sizeLine;decide),λt J=>?_]];have I:=Tb.ar (X:=.lst ((tN m).map V.int)) R;have s2:=Tb.ar (X:=.tup [.int (ou m),.int (pO m)]) J;show k _ t (s0.trans (I.trans s2)) (s0.free (I.free J)) ae
end
structure MT where
 ra:Addr
 sa:Addr
 pl:List (Int×Addr×Int)
noncomputable abbrev Zs:=List (Int×MT)
noncomputable def gk (z:MT):V:=.ref z.ra
noncomputable def sh (z:MT):V:=.ref z.sa
noncomputable def eS (x:Addr×Int):V:=.ref x.1
noncomputable def oz (x:Addr×Int):V:=.int x.2
noncomputable def ox (G ls:Addr) (bF pk:Int):List (Key×V):=[(Sum.inr "rooms",.ref G),(Sum.inr "stands",.ref ls),(Sum.inr "total",.int bF),(Sum.inr "pokes",.int pk)]
structure MA where
 md:Addr
 lr:Addr
 ls:Addr
structure cA (H:Hp) (m:MA) (bF pk:Int) (Z:Zs):Prop where
 hm:H m.md=some (.dK (ox m.lr m.ls bF pk))
 hr:H m.lr=some (.dK (Tb.dk gk Z))
 hs:H m.ls=some (.dK (Tb.dk sh Z))
 rm:∀x∈Z,H x.2.ra=some (.dK (Tb.dk eS x.2.pl))
 st:∀x∈Z,H x.2.sa=some (.dK (Tb.dk oz x.2.pl))
 cl:∀x∈Z,∀y∈x.2.pl,∃ns:List Int,H y.2.1=some (.lst (ns.map V.int))/\ns.length=8
 nd:(Z.map (·.1)).Nodup
 np:∀x∈Z,(x.2.pl.map (·.1)).Nodup
 rg:∀x∈Z,∀y∈x.2.pl,0<=y.1/\y.1<64
 da:∀x∈Z,∀y∈Z,x.1≠y.1->x.2.ra≠y.2.ra/\x.2.sa≠y.2.sa
 rs:∀x∈Z,∀y∈Z,x.2.ra≠y.2.sa
 d3:∀x∈Z,x.2.ra≠m.md/\x.2.ra≠m.lr/\x.2.ra≠m.ls/\x.2.sa≠m.md/\x.2.sa≠m.lr/\x.2.sa≠m.ls
 n3:m.md≠m.lr/\m.md≠m.ls/\m.lr≠m.ls
noncomputable def cY (m:MA) (Z:Zs):Addr->Prop:=λb=>b=m.md\/b=m.lr\/b=m.ls\/∃x∈Z,b=x.2.ra\/b=x.2.sa\/∃y∈x.2.pl,b=y.2.1
theorem ks_ne {a b:Str}(h:a≠b):¬ V.str a=V.str b:=λe=>h (by injection e)
theorem wq (G ls:Addr) (bF pk:Int):dP (ox G ls bF pk) (Sum.inr "rooms")=some (.ref G):=eK rfl
theorem KD:¬ ((Sum.inr ("rooms" : Str):Key)=Sum.inr ("stands" : Str)):=ao
theorem KA:¬ ((Sum.inr ("rooms" : Str):Key)=Sum.inr ("total" : Str)):=ao
theorem JJ:¬ ((Sum.inr ("rooms" : Str):Key)=Sum.inr ("pokes" : Str)):=ao
theorem Kn:¬ ((Sum.inr ("stands" : Str):Key)=Sum.inr ("total" : Str)):=ao
theorem Jo:¬ ((Sum.inr ("stands" : Str):Key)=Sum.inr ("pokes" : Str)):=ao
theorem Jm:¬ ((Sum.inr ("total" : Str):Key)=Sum.inr ("pokes" : Str)):=ao
theorem Kj (G ls:Addr) (bF pk:Int):dP (ox G ls bF pk) (Sum.inr "stands")=some (.ref ls):=by
 unfold ox;rw[ck KD,eK rfl]
theorem Di (G ls:Addr) (bF pk:Int):dP (ox G ls bF pk) (Sum.inr "total")=some (.int bF):=by
 unfold ox;rw[ck KA,ck Kn,eK rfl]
theorem IH (G ls:Addr) (bF pk:Int):dP (ox G ls bF pk) (Sum.inr "pokes")=some (.int pk):=by
 unfold ox;rw[ck JJ,ck Jo,ck Jm,eK rfl]
theorem yp (G ls:Addr) (bF pk:Int):kA [] (ox G ls bF pk)=ox G ls bF pk:=by
 have s2:putK ([(Sum.inr "rooms",V.ref G)]:List (Key×V)) (Sum.inr "stands") (V.ref ls)=([(Sum.inr "rooms",V.ref G),(Sum.inr "stands",V.ref ls)]:List (Key×V)):=jM _ (ck KD);have s3:putK ([(Sum.inr "rooms",V.ref G),(Sum.inr "stands",V.ref ls)]:List (Key×V)) (Sum.inr "total") (V.int bF)=([(Sum.inr "rooms",V.ref G),(Sum.inr "stands",V.ref ls),(Sum.inr "total",V.int bF)]:List (Key×V)):=jM _ ((ck KA).trans (ck Kn));have s4:putK ([(Sum.inr "rooms",V.ref G),(Sum.inr "stands",V.ref ls),(Sum.inr "total",V.int bF)]:List (Key×V)) (Sum.inr "pokes") (V.int pk)=([(Sum.inr "rooms",V.ref G),(Sum.inr "stands",V.ref ls),(Sum.inr "total",V.int bF),(Sum.inr "pokes",V.int pk)]:List (Key×V)):=jM _ ((ck JJ).trans ((ck Jo).trans (ck Jm)));change putK (putK (putK ([(Sum.inr "rooms",V.ref G)]:List (Key×V)) (Sum.inr "stands") (V.ref ls)) (Sum.inr "total") (V.int bF)) (Sum.inr "pokes") (V.int pk)=_;rw[s2,s3,s4];rfl
theorem Bn (I ls:Addr) (bF pk:Int):(ox I ls bF pk).map (λG=>(kV G.1,G.2))=[(.str "rooms",.ref I),(.str "stands",.ref ls),(.str "total",.int bF),(.str "pokes",.int pk)]:=rfl
section
variable {H H':Hp}{m:MA}{bF pk:Int}{Z:Zs}
theorem cA.g {k:Str}{v:V}(M:cA H m bF pk Z) (h:dP (ox m.lr m.ls bF pk) (Sum.inr k)=some v):dB H m.md (.str k) (some v):=by
 have q:=dB.k (k:=Sum.inr k) M.hm;rw[h]at q;show q
theorem cA.off {B:Addr->Prop}(M:cA H m bF pk Z) (o:Off B H H') (h:∀b,cY m Z b->¬ B b):cA H' m bF pk Z:=by
 show#[o _ _ M.hm (h _ (.inl rfl)),o _ _ M.hr (h _ (.inr (.inl rfl))),o _ _ M.hs (h _ (.inr (.inr (.inl rfl)))),λx G=>o _ _ (M.rm x G) (h _ (.inr (.inr (.inr #[x,G,.inl rfl])))),λx G=>o _ _ (M.st x G) (h _ (.inr (.inr (.inr #[x,G,.inr (.inl rfl)])))),λx G y I=>?_,M.nd,M.np,M.rg,M.da,M.rs,M.d3,M.n3];let#[ns,h1,h2]:=M.cl x G y I;show#[ns,o _ _ h1 (h _ (.inr (.inr (.inr #[x,G,.inr (.inr #[y,I,rfl])])))),h2]
theorem cA.same (M:cA H m bF pk Z) (s:bh H H'):cA H' m bF pk Z:=M.off (B:=λ_=>False) (λb o e _=>s b o e) λ_ _=>id
end
noncomputable def mY (Z:Zs):Int:=(Z.map λx=>(x.2.pl.length:Int)).sum
inductive qO (vs:List V) (H:Hp) (Q:VK) (e3:XK):Prop
 |mk (bF:Int) (_:vs=[.int bF]) (_:∀(H':Hp) (m:MA),bh H H'->H m.md=none->H m.lr=none->H m.ls=none->cA H' m bF 0 []->Q (.ref m.md) H'):qO vs H Q e3
inductive gN (vs:List V) (H:Hp) (Q:VK) (e3:XK):Prop
 |mk (m:MA) (bF pk:Int) (Z:Zs) (_:vs=[.ref m.md]) (_:cA H m bF pk Z) (_:Z.length<=1000) (_:∀H',bh H H'->Q (.int (mY Z)) H'):gN vs H Q e3
noncomputable def BU (pl:List (Int×Addr×Int)) (ad:Int) (n:Nat):Prop:=ad+n<=512/\∀i:Nat,i<n->Tb.look pl ((ad+i)/8)≠none
inductive kf (vs:List V) (H:Hp) (Q:VK) (e3:XK):Prop
 |mk (ra:Addr) (pl:List (Int×Addr×Int)) (ad:Int) (n:Nat) (_:vs=[.ref ra,.int ad,.int n]) (_:H ra=some (.dK (Tb.dk eS pl))) (_:0<=ad) (_:ad<=1000) (_:1<=n) (_:n<=100) (_:∀(b:Bool) (H':Hp),bh H H'->(b=true->BU pl ad n)->Q (.bl b) H'):kf vs H Q e3
section
variable {P:IF}{w:Ll}{K:PySem.W.Frag}{mg:Str->Option Value}{base:Heap}
theorem JM:aC ["_law_total"] ["_law_total"] (aw vz):=L2.bG
theorem zm {f:Addr}{fd:GX}(F:cM K "_law_model" "_law_model" vz f fd):a8 P w K mg base aS 1 f fd ["_law_total"] qO:=by
 show F.ok JM (λvs H Q E h=>?_) (λam A outer s H vs Q E hr h=>?_)
 .let#[bF,rfl,_]:=h;rfl
 .let#[bF,rfl,k]:=h;show#[_,(aj (aF (CC (keys:=[some _,some _,some _,some _]) (values:=[_,_,_,_]) (jT aI dr (jT aI dr (jT aI (pv 0) (jT aI ak C6)))) rfl rfl (List.cons_ne_nil _ _) (Nat.le_of_ble_eq_true rfl)))),?_];show λL ac I R ls J=>#[0,?_];have O:I≠L:=λe=>(by rw[e,ae]at R;cases R);have ab:H I=none:=(by rw[ag O]at R;show R);have S:ls≠I:=λe=>(by rw[e,ae]at J;cases J);rw[ag S]at J;have N:ls≠L:=λe=>(by rw[e,ae]at J;cases J);have U:H ls=none:=(by rw[ag N]at J;show J);show#[by rw[ag (G0 N),ag (G0 O),ae],ox I ls bF 0,(Bn I ls bF 0).symm,by change 4<=15;decide,?_];rw[yp];show k _ #[L,I,ls] (λb o e=>?_) ac ab U #[ae,3,(λx G=>by cases G),(λx G=>by cases G),(λx G=>by cases G),MN,(λx G=>by cases G),(λx G=>by cases G),(λx G=>by cases G),(λx G=>by cases G),(λx G=>by cases G),#[G0 O,G0 N,G0 S]]
  .have Y:b≠L:=aq e ac;rw[ag Y,ag (aq e U),ag (aq e ab),ag Y];show e
  .change upd _ L _ I=_;rw[ag O,ag (G0 S),ae];rfl
  .change upd _ L _ ls=_;rw[ag N,ae];rfl
theorem JQ:aC ["_law_model_here"] ["_law_model_here"] (aw uH):=L2.bG
theorem zt {f:Addr}{fd:GX}(F:cM K "_law_held" "_law_held" uH f fd) (T:nV mg):a8 P w K mg base aS 1 f fd ["_law_model_here"] gN:=by
 show F.ok JQ (λvs H Q E h=>?_) (λab A outer s H vs Q E hr h=>?_)
 .let#[m,bF,pk,Z,rfl,_]:=h;rfl
 .let#[m,bF,pk,Z,rfl,M,lz,k]:=h;have hs:sizeLine=16777216:=Lh;show#[_,(aj (aF (aK (ma rfl) (by rfl) T.sum uI (aa (xD (iR (cl:=[]) (caps:=[]) #[rfl,ao,ao,rfl,by kernel_rfl,by intro p I;simp at I,by kernel_rfl,by intro p I;simp at I,ao] rfl (Cn (a9 (aZ hr) (pv 0) aI (λ_ _=>rfl))) (λ_ _ _ _=>gO) (λ_ _ _ _=>(aK fG (by rfl) T.len boot_len (aa (pv 0) ai))))) ai)))),?_];have U:∀(o:Obj) O,H m.lr≠some (.cH o O):=λo O z=>(by rw[M.hr]at z;cases z);show#[0,m.md,.ref m.lr,rfl,M.g (wq _ _ _ _),m.lr,0,M.hr,U,λo=>?_];have oF:Off (· = m.lr) H (upd H m.lr (.cH o (.dK (Tb.dk gk Z)))):=Off.wr rfl;have N:(upd H m.lr (.cH o (.dK (Tb.dk gk Z)))) m.lr=some (.cH o (.dK (Tb.dk gk Z))):=ae;show wF (a:=m.lr) (o:=o) (kvs:=Tb.dk gk Z) (λi ys H2=>ys=((Z.take i).map λx=>(x.2.pl.length:Int)).map V.int/\H2=upd H m.lr (.cH o (.dK (Tb.dk gk Z)))) #[1] (λi zs H2 _ ⟨_,e⟩=>by rw[e];show N) ?_ ?_
  .rintro i Y v zs H2 hk ⟨rfl,rfl⟩;have S:(Z.map λx:Int×MT=>((Sum.inl x.1:Key),gk x.2))[i]?=some (Y,v):=hk;rw[K4]at S;let#[x,L,e]:=Option.map_eq_some_iff.mp S;cases e;have R:=Ld L;have hi:i<Z.length:=(List.getElem?_eq_some_iff.mp L).1;show#[0,x.2.ra,0,oF _ _ (M.rm x R) (M.d3 x R).2.1,3,rfl]
   .rw[BY,BY,Lp];omega
   .rw[Tb.bW,Mp,L,Ln,Ln];rfl
  .rintro zs H2 ⟨rfl,rfl⟩ l G;have J:l≠m.lr:=λz=>(by rw[z,N]at G;cases G);show#[m.lr,o,Tb.dk gk Z,by rw[ag (G0 J)];show N,U,l,(Z.map λx=>(x.2.pl.length:Int)),rfl,bA.of ?_,?_]
   .rw[ag J,ae,Tb.bW,Mq]
   .show k _ λb u e=>?_;by_cases z:b=m.lr
    .rw[z,ae, <-e,z,M.hr]
    .rw[ag z,ag (λy=>by rw[y]at e;rw[ag J,e]at G;cases G),ag z];show e
theorem Dq:aC ["_law_room","_law_address","_law_many"] ["_law_room","_law_address","_law_many"] (aw oo):=L2.bG
theorem wj {f:Addr}{fd:GX}(F:cM K "_law_stretch" "_law_stretch" oo f fd) (T:nV mg):a8 P w K mg base aS 1 f fd ["_law_room","_law_address","_law_many"] kf:=by
 show F.ok Dq (λvs H Q E h=>?_) (λS A outer s H vs Q E L h=>?_)
 .let#[I,pl,ad,n,rfl,_]:=h;rfl
 .let#[I,pl,ad,n,rfl,N,O,R,U,Y,k]:=h;have hs:sizeLine=16777216:=Lh;show#[_,(ah (aV (aA iu (pv 2) ak (aH _)) (aj (aF k9)) aG)
   (ah (aV (PW.pt (gM (aA gz (pv 2) ak (aH _)) (fO (PW.pt (j7 (aA iu (pv 1) ak (aH _)) (jn (aA gz (aD bt (pv 1) (pv 2)) ak (aH _)))))))) (aj (aF k9)) aG)
   (aj (aF (Hr (jP bH (pv 2) ak (aH _)) (vO (aK (kI rfl) (by rfl) T.all vo (aa (iR (cl:=[("_law_room",s.heap.objs.size+1)]) (caps:=[("_law_room",0)]) #[rfl,ao,ao,rfl,by kernel_rfl,by intro p G;simp only[LO,Lm,or_false]at G;rcases G with rfl<;>first|rfl|show#[rfl,.inl rfl,.inl rfl]|show#[rfl,.inl rfl,.inr rfl],by kernel_rfl,by intro p G;simp only[LO,Lm,or_false]at G;rcases G with rfl<;>first|rfl|show#[rfl,.inl rfl,.inl rfl]|show#[rfl,.inl rfl,.inr rfl],ao] rfl (gp (by rfl) T.range (aa (pv 1) (aa (aD bt (pv 1) (pv 2)) ai))) (λ_ _ _ _=>gO) (λ_ _ _ _=>(wy (kL (aZ L) (aD bZ (pv 0) ak) (pv 1))))) ai)))))))),?_]
  show#[0,_,0,rfl,0,?_];rw[decide_eq_false af];show bJ (Bk ?_);dsimp only;show#[0,_,0,rfl,0,?_];rw[decide_eq_true af];show eL ?_;show#[0,_,0,rfl,0,?_];rw[decide_eq_false af];show bJ ?_;show#[0,0,_,0,5,0,rfl,0,?_];by_cases c:(512:Int)<ad+n
  .rw[decide_eq_true c];show eL (k false H (bh.refl H) (λz=>by cases z))
  .rw[decide_eq_false c];show bJ (Bk ?_);dsimp only;show#[0,rfl,0,?_];show gf (λz=>?_) (λ_=>?_)
   .exfalso;have:((n:Nat):Int)=0:=(by simpa using z);omega
   show#[0,0,0,_,0,5,0,#[af,af,af,af],?_];show ir (lo:=ad) (n:=(ad+(n:Int)-ad).toNat) (λi ys H2=>ys=((List.range i).map λj:Nat=>(Tb.look pl ((ad+j)/8)).isSome).map V.bl/\H2=H) #[1] ?_ ?_
   .rintro i ys H2 hi ⟨rfl,rfl⟩;show#[0,_,0,rfl,#[av,av],0,I,0,dU N,3,rfl]
    .rw[BY,BY,LV];omega
    .rw[Oc,Ln,Ln];change _++[V.bl ((Tb.look pl ((ad+(i:Int))/8)).map eS).isSome]=_;rw[N7];rfl
   .rintro ys H2 ⟨rfl,rfl⟩ l J;show#[l,0,bA.of ae,k _ _ (Tb.ar J) λz=>#[af,λi hi=>?_]];have e:=List.all_eq_true.mp z ((Tb.look pl ((ad+(i:Int))/8)).isSome) (List.mem_map.mpr #[i,List.mem_range.mpr af,rfl]);intro w;rw[w]at e;cases e
end
inductive Dd where
 |begin (t:Int)
 |close (t:Int)
 |map (t p m:Int)
 |drop (t p m:Int)
 |poke (t ad:Int) (c:Addr) (cs:List Int)
 |copy (t o:Int)
noncomputable def xw:Dd->List V
 |.begin t=>[.str "begin",.int t]
 |.close t=>[.str "close",.int t]
 |.map t p m=>[.str "map",.int t,.int p,.int m]
 |.drop t p m=>[.str "drop",.int t,.int p,.int m]
 |.poke t ad c _=>[.str "poke",.int t,.int ad,.ref c]
 |.copy t o=>[.str "copy",.int t,.int o]
noncomputable def DQ:Dd->Str
 |.begin _ => "begin" |.close _ => "close" |.map .. => "map" |.drop .. => "drop" |.poke .. => "poke" |.copy .. => "copy"
noncomputable def Dk:Dd->Int
 |.begin t=>t|.close t=>t|.map t _ _=>t|.drop t _ _=>t|.poke t _ _ _=>t|.copy t _=>t
noncomputable def lD (H:Hp) (d:Addr) (D:Dd):Prop:=H d=some (.tup (xw D))/\∀t ad c cs,D=.poke t ad c cs->H c=some (.lst (cs.map V.int))
noncomputable def zr:Dd->Prop
 |.map _ p m=>0<=p/\p<64/\1<=m/\m<=200
 |.drop _ p m=>0<=p/\p<64/\1<=m/\m<=64
 |.poke _ ad _ cs=>0<=ad/\ad<=1000/\1<=cs.length/\cs.length<=100
 |_=>True
noncomputable def Dp (Z:Zs) (bF:Int):Dd->Prop
 |.begin t=>Tb.look Z t=none
 |.close t=>∃z,Tb.look Z t=some z
 |.map t p m=>∃z,Tb.look Z t=some z/\¬ Rm.bU p m/\(∀q∈Rm.aN p m,Tb.look z.pl q=none)/\mY Z+m<=bF
 |.drop t p m=>∃z,Tb.look Z t=some z/\¬ Rm.bU p m/\∀q∈Rm.aN p m,Tb.look z.pl q≠none
 |.poke t ad _ cs=>∃z,Tb.look Z t=some z/\BU z.pl ad cs.length
 |.copy t o=>∃z,Tb.look Z t=some z/\Tb.look Z o=none/\mY Z+z.pl.length<=bF
noncomputable def HK (Z:Zs) (bF:Int):Dd->Prop
 |.map t p m=>∃z,Tb.look Z t=some z/\¬ Rm.bU p m/\(∀q∈Rm.aN p m,Tb.look z.pl q=none)/\bF<mY Z+m
 |.copy t o=>∃z,Tb.look Z t=some z/\Tb.look Z o=none/\bF<mY Z+z.pl.length
 |_=>False
inductive AF (vs:List V) (H:Hp) (Q:VK) (e3:XK):Prop
 |mk (m:MA) (bF pk:Int) (Z:Zs) (d:Addr) (D:Dd) (_:vs=[.ref m.md,.ref d]) (_:cA H m bF pk Z) (_:Z.length<=1000) (_:lD H d D) (_:zr D) (_:∀(r:Str) (H':Hp),bh H H'->((r = "" -> Dp Z bF D)/\(r = "NoRoom" -> HK Z bF D))->Q (.str r) H'):AF vs H Q e3
theorem at2 {a b:V}(k:Bool):B6 [a,b] (if k=true then 1 else 0)=some (if k=true then b else a):=by cases k<;>rfl
theorem B7 (D:Dd):fL (xw D) none (some 2)=[.str (DQ D),.int (Dk D)]:=by cases D<;>rfl
theorem zb {D:Dd}(h:HT.di (xw D).length 0 none=0/\HT.di (xw D).length (xw D).length (some 2)=(xw D).length):xw D=[.str (DQ D),.int (Dk D)]:=by
 let#[_,h]:=h;cases D<;>first|rfl|(show absurd (show HT.di 4 4 (some 2)=4 from h) av)|(show absurd (show HT.di 3 3 (some 2)=3 from h) av)
section
variable {P:IF}{w:Ll}{K:PySem.W.Frag}{mg:Str->Option Value}{base:Heap}
theorem t4:aC ["_law_model_here","_law_deed","_law_rooms","_law_name","_law_task","_law_room","_law_page","_law_many","_law_there"] ["_law_model_here","_law_deed"] (aw EB):=L2.bG
theorem bX {a b:Str}(h:a≠b:=by dsimp only[DQ];decide +kernel):¬ V.str a=V.str b:=ks_ne h
theorem Ek {f:Addr}{fd:GX}(F:cM K "_law_due" "_law_due" EB f fd) (T:nV mg) (a6:Df P w K mg base aS 1 "_law_held" gN) (ba:Df P w K mg base aS 1 "_law_stretch" kf) :
  a8 P w K mg base aS 2 f fd ["_law_model_here","_law_deed"] AF:=by
 show F.ok t4 (λvs H Q E h=>?_) (λbc A outer s H vs Q E N h=>?_)
 .let#[m,bF,pk,Z,d,D,rfl,_]:=h;rfl
 .let#[m,bF,pk,Z,d,D,rfl,M,lz,hd,aT,k]:=h;have hs:sizeLine=16777216:=Lh;show#[_,(ah (aO (i:=2) t4.nd rfl (Lc rfl) (a9 (aZ N) (pv 0) aI (λ_ _=>rfl)))
   (ah (cN (cX jL (pv 1) fj (cU ak)) (dE rfl (bf (aY (i:=3) t4.nd rfl (Lc rfl)) (bf (aY (i:=4) t4.nd rfl (Lc rfl)) cV))))
   (ah (aV (aA bH (pv 3) aI (aH _)) (aj (aF (bq cG (cn (aa aI (aa aI ai))) (cg gC (by rfl) T.int kG (aa (wy (kL (aZ N) (pv 4) (pv 2))) ai)) (λ_ _=>rfl)))) aG)
   (ah (aV (gb (eg (aZ N) (pv 4) (pv 2))) (aj (aF aI)) aG)
   (ah (aO (i:=5) t4.nd rfl (OU rfl) (a9 (aZ N) (pv 2) (pv 4) (λ_ _=>rfl)))
   (ah (aV (PW.pt (j7 (aA bH (pv 3) aI (aH _)) (jn (aA bH (pv 3) aI (aH _))))) (ah (cN (cX jL (pv 1) (cU ak) fj) (dE rfl (bf (aY (i:=6) t4.nd rfl (Lc rfl)) (bf (aY (i:=7) t4.nd rfl (Lc rfl)) cV))))
   (ah (aV (PW.pt (j7 (aA iu (pv 7) ak (aH _)) (j7 (aA iu (pv 6) ak (aH _)) (jn (aA gz (aD bt (pv 6) (pv 7)) ak (aH _)))))) (aj (aF aI)) aG)
   (ah (xv (i:=8) (cl:=[("_law_room",s.heap.objs.size+1)]) (caps:=[("_law_room",5)]) t4.nd rfl (Lc rfl) #[rfl,ao,ao,rfl,by kernel_rfl,by intro p U;simp only[LO,Lm,or_false]at U;rcases U with rfl<;>first|rfl|show#[rfl,.inl rfl,.inl rfl]|show#[rfl,.inl rfl,.inr rfl],by kernel_rfl,by intro p U;simp only[LO,Lm,or_false]at U;rcases U with rfl<;>first|rfl|show#[rfl,.inl rfl,.inl rfl]|show#[rfl,.inl rfl,.inr rfl],ao] rfl (gp (by rfl) T.range (aa (pv 6) (aa (aD bt (pv 6) (pv 7)) ai))) (λ_ _ _ _=>gO) (λ_ _ _ _=>(wy (kL (aZ N) (pv 0) (pv 1)))))
   (ah (aV (aA bH (pv 3) aI (aH _)) (aj (aF (bq cG (cn (aa aI (aa aI ai))) (cg gC (by rfl) T.int kG (aa (aK (kI rfl) (by rfl) T.all vo (aa (pv 8) ai)) ai)) (λ_ _=>rfl)))) aG)
   (ah (aV (fK (aK (yS rfl) (by rfl) T.any Fw (aa (pv 8) ai))) (aj (aF aI)) aG)
   (aj (aF (bq cG (cn (aa aI (aa aI ai))) (cg gC (by rfl) T.int kG (aa (jP gz (aD bt (pc a6 N ax (aa (pv 0) ai)) (pv 7)) (a9 (aZ N) (pv 0) aI (λ_ _=>rfl)) (aH _)) ai)) (λ_ _=>rfl))))))))) aG)
   (ah (aV (aA bH (pv 3) aI (aH _)) cw aG)
   (ah (aV (aA bH (pv 3) aI (aH _)) (aj (aF (bq cG (cn (aa aI (aa aI ai))) (cg gC (by rfl) T.int kG (aa (pc ba N ax (aa (pv 5) (aa (bq bB (pv 1) ak (λ_ _=>rfl)) (aa (aK bo (by rfl) T.len boot_len (aa (bq bB (pv 1) ak (λ_ _=>rfl)) ai)) ai)))) ai)) (λ_ _=>rfl)))) aG)
   (ah (aV (aA bH (pv 3) aI (aH _)) (ah (aV (gb (kL (aZ N) (bq bB (pv 1) ak (λ_ _=>rfl)) (pv 2))) (aj (aF aI)) aG)
   (aj (aF (bq cG (cn (aa aI (aa aI ai))) (cg gC (by rfl) T.int kG (aa (jP gz (aD bt (pc a6 N ax (aa (pv 0) ai)) (aK fG (by rfl) T.len boot_len (aa (pv 5) ai))) (a9 (aZ N) (pv 0) aI (λ_ _=>rfl)) (aH _)) ai)) (λ_ _=>rfl))))) aG)
   (aj (aF aI))))))))))),?_]
  show gv λ_ jt=>?_;show#[0,m.md,.ref m.lr,rfl,M.g (wq _ _ _ _),jt _ _ ?_];show share (λσ H1=>bh H H1/\σ=[some (.ref m.md),some (.ref d),some (.ref m.lr),some (.str (DQ D)),some (.int (Dk D)),none,none,none,none]) (λu' a5=>?A) ?B
  case A =>
   show#[0,0,d,0,cy.of hd.1,λc=>?_,λ_ p U=>?_]
   .show#[d,0,cy.of hd.1,by rw[zb c];rfl,by rw[zb c];show#[_,0,_,0,rfl,a5 _ _ #[bh.refl H,rfl]]]
   .rw[B7];show#[p,0,cy.of ae,5,0,_,0,rfl,a5 _ _ #[Tb.ar U,rfl]]
  case B =>
  rintro σ H1 ⟨L,rfl⟩;have M1:=M.same L;have Y:H1 d=some (.tup (xw D)):=L _ _ hd.1;have bb:∀t ad c cs,D=.poke t ad c cs->H1 c=some (.lst (cs.map V.int)):=λt ad c cs e=>L _ _ (hd.2 t ad c cs e);by_cases a3:∃t,D=.begin t
  .let#[t,rfl]:=a3;show cE λ_ J I=>?_;show eqT (bD rfl) bE rfl (J _ ?_);show#[by change 2<=sizeLine;decide,λl R=>?_];have s2:=Tb.ar (X:=.lst [.str "",.str "Taken"]) R;have h2:upd H1 l (.lst [.str "",.str "Taken"]) l=some (.lst [.str "",.str "Taken"]):=ae;show#[0,0,m.lr,0,dU (t:=t) (M1.same s2).hr,?_];show .inr #[0,l,2,0,rfl,bA.of h2,at2 _,?_];cases O:Tb.look Z t with
   |some z=>show k "Taken" _ (L.trans s2) #[λw=>absurd w ao,λw=>absurd w ao]
   |none=>show k "" _ (L.trans s2) #[λ_=>O,λw=>absurd w ao]
  have nb:DQ D ≠ "begin" := by
   cases D with
   |begin t=>show absurd #[t,rfl] a3
   |close t=>show(show ¬ (("close" : Str) = "begin")by decide +kernel)
   |map t p m=>show(show ¬ (("map" : Str) = "begin")by decide +kernel)
   |drop t p m=>show(show ¬ (("drop" : Str) = "begin")by decide +kernel)
   |poke t p m q=>show(show ¬ (("poke" : Str) = "begin")by decide +kernel)
   |copy t p=>show(show ¬ (("copy" : Str) = "begin")by decide +kernel)
  show cE λ_ J I=>?_;show eM (bD rfl) bE rfl (ks_ne nb) (I _ ?_);clear J I;show cE λ_ J I=>?_;show#[0,0,m.lr,0,dU (t:=Dk D) M1.hr,?_];cases O:Tb.look Z (Dk D)with
  |none=>show#[true,rfl,J _ (k "NoTask" H1 L #[λw=>absurd w ao,λw=>absurd w ao])]
  |some z =>
  show#[false,rfl,I _ ?_];clear J I;have hg:=dU (t:=Dk D) M1.hr;rw[O]at hg;have am:=Tb.ay O;show gv λ_ jt=>?_;show#[0,0,m.lr,gk z,rfl,hg,jt _ _ ?_];clear jt;cases D with
  |begin t=>show absurd #[t,rfl] a3
  |close t =>
   show cE λ_ J I=>?_;show eM (bD rfl) bE rfl bX (bJ (eM (bD rfl) bE rfl bX (I _ ?_)));show cE λ_ J I=>?_;show eM (bD rfl) bE rfl bX (I _ ?_);show cE λ_ J I=>?_;show eM (bD rfl) bE rfl bX (I _ ?_);show cE λ_ J I=>?_;show eM (bD rfl) bE rfl bX (I _ ?_);show k "" H1 L #[λ_=>#[z,O],λw=>absurd w ao]
  |poke t ad c cs =>
   show cE λ_ J I=>?_;show eM (bD rfl) bE rfl bX (bJ (eM (bD rfl) bE rfl bX (I _ ?_)));show cE λ_ J I=>?_;show eM (bD rfl) bE rfl bX (I _ ?_);show cE λ_ J I=>?_;show eqT (bD rfl) bE rfl (J _ ?_);let#[a0,a1,n0,n1]:=aT;show#[by change 2<=sizeLine;decide,λl R=>?_];have s2:=Tb.ar (X:=.lst [.str "NoPage",.str ""]) R;have h2:upd H1 l (.lst [.str "NoPage",.str ""]) l=some (.lst [.str "NoPage",.str ""]):=ae;show#[0,0,d,2,.int ad,1,cy.of (s2 _ _ Y),rfl,0,d,2,.ref c,1,cy.of (s2 _ _ Y),rfl,c,0,.inl (bA.of (s2 _ _ (bb _ _ _ _ rfl))),z.ra,z.pl,ad,cs.length,by rw[BY];rfl,s2 _ _ (M1.rm _ am),a0,a1,n0,n1,λb H3 s3 hb=>?_];show .inr #[b,rfl,l,2,0,rfl,bA.of (s3 _ _ h2),at2 b,?_];cases b
   .show k "NoPage" H3 (L.trans (s2.trans s3)) #[λw=>absurd w ao,λw=>absurd w ao]
   .show k "" H3 (L.trans (s2.trans s3)) #[λ_=>#[z,O,hb rfl],λw=>absurd w ao]
  |copy t o =>
   show cE λ_ J I=>?_;show eM (bD rfl) bE rfl bX (bJ (eM (bD rfl) bE rfl bX (I _ ?_)));show cE λ_ J I=>?_;show eM (bD rfl) bE rfl bX (I _ ?_);show cE λ_ J I=>?_;show eM (bD rfl) bE rfl bX (I _ ?_);show cE λ_ J I=>?_;show eqT (bD rfl) bE rfl (J _ ?_);show cE λ_ J I=>?_;show#[0,d,2,.int o,1,cy.of Y,rfl,0,m.lr,0,dU (t:=o) M1.hr,?_];cases eo:Tb.look Z o with
   |some _=>show#[true,rfl,J _ (k "Taken" H1 L #[λw=>absurd w ao,λw=>absurd w ao])]
   |none =>
   show#[false,rfl,I _ ?_];show#[by change 2<=sizeLine;decide,λl R=>?_];have s2:=Tb.ar (X:=.lst [.str "",.str "NoRoom"]) R;have h2:upd H1 l (.lst [.str "",.str "NoRoom"]) l=some (.lst [.str "",.str "NoRoom"]):=ae;show#[0,m,bF,pk,Z,rfl,M1.same s2,lz,λH3 s3=>?_];have M3:=(M1.same s2).same s3;show#[0,z.ra,0,M3.rm _ am,_,0,rfl,0,m.md,.int bF,rfl,M3.g (Di _ _ _ _),_,0,4];show .inr #[0,l,2,0,rfl,bA.of (s3 _ _ h2),at2 _,?_];rw[Tb.bW];by_cases c:bF<mY Z+z.pl.length
   .rw[decide_eq_true c];show k "NoRoom" H3 (L.trans (s2.trans s3)) #[λw=>absurd w ao,λ_=>#[z,O,eo,c]]
   .rw[decide_eq_false c];show k "" H3 (L.trans (s2.trans s3)) #[λ_=>#[z,O,eo,af],λw=>absurd w ao]
  |map t p G =>
   show cE λ_ J I=>?_;show eqT (bD rfl) bE rfl (eL (J _ ?_));let#[p0,p1,m0,m1]:=aT;show#[0,0,d,0,cy.of Y,λc=>absurd c (by rintro⟨c,_⟩;show absurd (show HT.di 4 0 (some 2)=0 from c) av),λ_ p' as=>?_];have s2:=Tb.ar (X:=.tup [.int p,.int G]) as;have ec:∀x:Str,fL [V.str x,V.int t,V.int p,V.int G] (some 2) none=[V.int p,V.int G]:=λ_=>rfl;dsimp only[xw];rw[ec];show#[p',[.int p,.int G],rfl,cy.of ae,5,0,_,0,4];have a7:=s2 _ _ Y;have M2:=M1.same s2;generalize upd H1 p' (.tup [.int p,.int G])=H2 at *;show cE λ_ ab ac=>?_;show#[0,_,0,rfl,0,?_];rw[decide_eq_false af];show bJ ?_;show#[0,_,0,rfl,0,?_];rw[decide_eq_false af];show bJ ?_;show#[0,0,_,0,5,0,rfl,0,?_];by_cases c:(64:Int)<p+G
   .rw[decide_eq_true c];show ab _ (k "NoPage" H2 (L.trans s2) #[λw=>absurd w ao,λw=>absurd w ao])
   rw[decide_eq_false c];show ac _ ?_;clear ab ac;have ap:¬ Rm.bU p G:=λh=>by
    rcases h with h|h|h<;>omega
   show#[0,0,0,_,0,5,0,#[af,af,af,af],?_];show ir (lo:=p) (n:=(p+G-p).toNat) (λi ys H3=>ys=((List.range i).map λj:Nat=>(Tb.look z.pl (p+j)).isSome).map V.bl/\H3=H2) #[1] ?_ ?_
   .rintro i ys H3 hi ⟨rfl,rfl⟩;show#[0,0,z.ra,0,dU (M2.rm _ am),3,rfl]
    .rw[BY,BY,LV];omega
    .rw[Oc,Ln,Ln];change _++[V.bl ((Tb.look z.pl (p+(i:Int))).map eS).isSome]=_;rw[N7];rfl
   rintro ys H3 ⟨rfl,rfl⟩ l R;have s3:=Tb.ar (X:=.lst (((List.range (p+G-p).toNat).map λj:Nat=>(Tb.look z.pl (p+j)).isSome).map V.bl)) R;have h3:upd H3 l (.lst (((List.range (p+G-p).toNat).map λj:Nat=>(Tb.look z.pl (p+j)).isSome).map V.bl)) l=some (.lst (((List.range (p+G-p).toNat).map λj:Nat=>(Tb.look z.pl (p+j)).isSome).map V.bl)):=ae;have a2:Rm.aN p G=(List.range (p+G-p).toNat).map λj:Nat=>p+j:=(by unfold Rm.aN;rw[show p+G-p=G by omega]);generalize upd H3 l (.lst (((List.range (p+G-p).toNat).map λj:Nat=>(Tb.look z.pl (p+j)).isSome).map V.bl))=H4 at *;have M4:=M2.same s3;have S4:=L.trans (s2.trans s3);show nameQ ?_;dsimp only;show cE λ_ J I=>?_;show eM (bD rfl) bE rfl bX (I _ ?_);show cE λ_ J I=>?_;show#[0,l,0,bA.of h3,0,?_];cases ea:(((List.range (p+G-p).toNat).map λj:Nat=>(Tb.look z.pl (p+j)).isSome)).any id with
   |true=>show J _ (k "Taken" H4 S4 #[λw=>absurd w ao,λw=>absurd w ao])
   |false =>
   show I _ ?_;show#[by change 2<=sizeLine;decide,λl2 aB=>?_];have S:=Tb.ar (X:=.lst [.str "",.str "NoRoom"]) aB;have h5:upd H4 l2 (.lst [.str "",.str "NoRoom"]) l2=some (.lst [.str "",.str "NoRoom"]):=ae;show#[0,m,bF,pk,Z,rfl,M4.same S,lz,λH6 s6=>?_];have M6:=(M4.same S).same s6;show#[0,_,0,rfl,0,m.md,.int bF,rfl,M6.g (Di _ _ _ _),_,0,4];show .inr #[0,l2,2,0,rfl,bA.of (s6 _ _ h5),at2 _,?_];have a4:∀q∈Rm.aN p G,Tb.look z.pl q=none:=λq hq=>by
    rw[a2]at hq;let#[j,hj,rfl]:=List.mem_map.mp hq;have e:=List.any_eq_false.mp ea ((Tb.look z.pl (p+(j:Int))).isSome) (List.mem_map.mpr #[j,hj,rfl]);cases w:Tb.look z.pl (p+(j:Int))with
    |none=>rfl
    |some _=>rw[w]at e;show absurd rfl e
   by_cases c2:bF<mY Z+G
   .rw[decide_eq_true c2];show k "NoRoom" H6 (S4.trans (S.trans s6)) #[λw=>absurd w ao,λ_=>#[z,O,ap,a4,c2]]
   .rw[decide_eq_false c2];show k "" H6 (S4.trans (S.trans s6)) #[λ_=>#[z,O,ap,a4,af],λw=>absurd w ao]
  |drop t p G =>
   show cE λ_ J I=>?_;show eM (bD rfl) bE rfl bX (bJ (eqT (bD rfl) bE rfl (J _ ?_)));let#[p0,p1,m0,m1]:=aT;show#[0,0,d,0,cy.of Y,λc=>absurd c (by rintro⟨c,_⟩;show absurd (show HT.di 4 0 (some 2)=0 from c) av),λ_ p' as=>?_];have s2:=Tb.ar (X:=.tup [.int p,.int G]) as;have ec:∀x:Str,fL [V.str x,V.int t,V.int p,V.int G] (some 2) none=[V.int p,V.int G]:=λ_=>rfl;dsimp only[xw];rw[ec];show#[p',[.int p,.int G],rfl,cy.of ae,5,0,_,0,4];have a7:=s2 _ _ Y;have M2:=M1.same s2;generalize upd H1 p' (.tup [.int p,.int G])=H2 at *;show cE λ_ ab ac=>?_;show#[0,_,0,rfl,0,?_];rw[decide_eq_false af];show bJ ?_;show#[0,_,0,rfl,0,?_];rw[decide_eq_false af];show bJ ?_;show#[0,0,_,0,5,0,rfl,0,?_];by_cases c:(64:Int)<p+G
   .rw[decide_eq_true c];show ab _ (k "NoPage" H2 (L.trans s2) #[λw=>absurd w ao,λw=>absurd w ao])
   rw[decide_eq_false c];show ac _ ?_;clear ab ac;have ap:¬ Rm.bU p G:=λh=>by
    rcases h with h|h|h<;>omega
   show#[0,0,0,_,0,5,0,#[af,af,af,af],?_];show ir (lo:=p) (n:=(p+G-p).toNat) (λi ys H3=>ys=((List.range i).map λj:Nat=>(Tb.look z.pl (p+j)).isSome).map V.bl/\H3=H2) #[1] ?_ ?_
   .rintro i ys H3 hi ⟨rfl,rfl⟩;show#[0,0,z.ra,0,dU (M2.rm _ am),3,rfl]
    .rw[BY,BY,LV];omega
    .rw[Oc,Ln,Ln];change _++[V.bl ((Tb.look z.pl (p+(i:Int))).map eS).isSome]=_;rw[N7];rfl
   rintro ys H3 ⟨rfl,rfl⟩ l R;have s3:=Tb.ar (X:=.lst (((List.range (p+G-p).toNat).map λj:Nat=>(Tb.look z.pl (p+j)).isSome).map V.bl)) R;have h3:upd H3 l (.lst (((List.range (p+G-p).toNat).map λj:Nat=>(Tb.look z.pl (p+j)).isSome).map V.bl)) l=some (.lst (((List.range (p+G-p).toNat).map λj:Nat=>(Tb.look z.pl (p+j)).isSome).map V.bl)):=ae;have a2:Rm.aN p G=(List.range (p+G-p).toNat).map λj:Nat=>p+j:=(by unfold Rm.aN;rw[show p+G-p=G by omega]);generalize upd H3 l (.lst (((List.range (p+G-p).toNat).map λj:Nat=>(Tb.look z.pl (p+j)).isSome).map V.bl))=H4 at *;have M4:=M2.same s3;have S4:=L.trans (s2.trans s3);show nameQ ?_;dsimp only;show cE λ_ J I=>?_;show eqT (bD rfl) bE rfl (J _ ?_);show#[by change 2<=sizeLine;decide,λl2 aB=>?_];have S:=Tb.ar (X:=.lst [.str "NoPage",.str ""]) aB;have h5:upd H4 l2 (.lst [.str "NoPage",.str ""]) l2=some (.lst [.str "NoPage",.str ""]):=ae;show#[0,l,0,bA.of (S _ _ h3),?_];show .inr #[0,l2,2,0,rfl,bA.of h5,at2 _,?_];cases ea:(((List.range (p+G-p).toNat).map λj:Nat=>(Tb.look z.pl (p+j)).isSome)).all id with
   |false=>show k "NoPage" _ (S4.trans S) #[λw=>absurd w ao,λw=>absurd w ao]
   |true =>
    show k "" _ (S4.trans S) #[λ_=>#[z,O,ap,λq hq=>?_],λw=>absurd w ao];rw[a2]at hq;let#[j,hj,rfl]:=List.mem_map.mp hq;have e:=List.all_eq_true.mp ea ((Tb.look z.pl (p+(j:Int))).isSome) (List.mem_map.mpr #[j,hj,rfl]);intro w;rw[w]at e;cases e
end
theorem DX:∀{L:List (List Int)}{i o:Nat},(∀r∈L,r.length=8)->o<8->L.flatten[8*i+o]?=(L[i]?).bind (·[o]?)
 | [],i,o,_,_=>by simp
 |r::L,0,o,h,G=>by
  have:=h r Ls;rw[MO,L4 (by omega +splitNatSub)];simp
 |r::L,i+1,o,h,G=>by
  have:=h r Ls;rw[MO,LY (by omega +splitNatSub),show 8*(i+1)+o-r.length=8*i+o by omega +splitNatSub,DX (λx I=>h x (Lx _ I)) G];simp
theorem xt {ad:Int}{n:Nat}{i:Nat}(h:i<(Rm.au ad n).length):(Rm.au ad n)[i]?=some (ad/8+i):=by
 unfold Rm.au at h ⊢;by_cases e:((n:Nat):Int)=0
 .rw[Q0 e]at h;cases h
 .rw[QZ e]at h ⊢;unfold Rm.aN at h ⊢;rw[BY,LV]at h;rw[K4,NM h];rfl
theorem E1 {ad:Int}{n:Nat}{j:Nat}(h:j<n):((ad+j)/8-ad/8).toNat<(Rm.au ad n).length:=by
 unfold Rm.au;rw[QZ (by omega +splitNatSub)];unfold Rm.aN;rw[BY,LV];change _<((ad+n-1)/8-ad/8+1).toNat;omega +splitNatSub
variable {F:Int->List Int}{ad:Int}{n:Nat}
theorem Bv (L:∀q∈Rm.au ad n,(F q).length=8) {i o:Nat}(hi:i<(Rm.au ad n).length) (J:o<8):(bR F (Rm.au ad n))[8*i+o]?=(F (ad/8+i))[o]?:=by
 unfold bR;rw[DX (λr G=>by let#[q,I,rfl]:=List.mem_map.mp G;show L q I) J,K4,xt hi];rfl
noncomputable def wU (F:Int->List Int) (ad:Int) (n:Nat):List Int:=(List.range n).map λj:Nat=>(F ((ad+(j:Int))/8)).getD ((ad+(j:Int))%8).toNat 0
theorem CH (J:∀q∈Rm.au ad n,(F q).length=8):((bR F (Rm.au ad n)).drop (ad%8).toNat).take n=wU F ad n:=by
 show Nd λj=>?_;unfold wU;rw[Ot,Ou,K4];by_cases G:j<n
 .rw[Q0 G,NM G];have hi:=E1 (ad:=ad) G;have e:(ad%8).toNat+j=8*((ad+j)/8-ad/8).toNat+((ad+j)%8).toNat:=(by omega +splitNatSub);have I:ad/8+(((ad+j)/8-ad/8).toNat:Int)=(ad+j)/8:=(by omega +splitNatSub);rw[e,Bv J hi (by omega +splitNatSub),I];have L:(ad+(j:Int))/8∈Rm.au ad n:=by
   have:=Ld (xt hi);rw[I]at this;show this
  have:=J _ L;change _=some ((F ((ad+(j:Int))/8)).getD ((ad+(j:Int))%8).toNat 0);rw[LU,Lb (by omega +splitNatSub)];rfl
 .rw[QZ G,LX (by rw[LV];omega +splitNatSub)];rfl
noncomputable def js (r:List Int) (ad:Int) (cs:List Int) (q:Int):List Int:=(List.range 8).map λo:Nat=>if ad<=8*q+(o:Int)/\8*q+(o:Int)<ad+cs.length then cs.getD (8*q+(o:Int)-ad).toNat 0 else r.getD o 0
theorem gD {r:List Int}{cs:List Int}{q:Int}:(js r ad cs q).length=8:=by unfold js;rw[BY,LV]
theorem gS {r:List Int}{cs:List Int}{q:Int}{o:Nat}(h:o<8):(js r ad cs q)[o]?=some (if ad<=8*q+(o:Int)/\8*q+(o:Int)<ad+cs.length then cs.getD (8*q+(o:Int)-ad).toNat 0 else r.getD o 0):=by
 unfold js;rw[K4,NM h];rfl
theorem BL {r:List Int}{q:Int}(h:r.length=8):js r ad [] q=r:=by
 show Nd λo=>?_;by_cases G:o<8
 .rw[gS G,QZ (by rw[PF];omega +splitNatSub),LU,Lb (by omega +splitNatSub)];rfl
 .rw[LX (by rw[gD];omega +splitNatSub),LX (by omega +splitNatSub)]
theorem yr {r cs:List Int}{c:Int}{q:Int}:js r ad (cs++[c]) q=if (ad+(cs.length:Int))/8=q then(js r ad cs q).set ((ad+(cs.length:Int))%8).toNat c else js r ad cs q:=by
 have I:(cs++[c]).length=cs.length+1:=(by rw[Li];rfl);have L:∀k:Nat,k<cs.length->(cs++[c]).getD k 0=cs.getD k 0:=λk h=>(by rw[LU,LU,L4 h]);have N:(cs++[c]).getD cs.length 0=c:=(by rw[LU,LY (HC _)];simp);show Nd λo=>?_;by_cases G:o<8
 .by_cases e:(ad+(cs.length:Int))/8=q
  .rw[Q0 e,List.getElem?_set,gD,gS G,gS G,I];by_cases J:((ad+(cs.length:Int))%8).toNat=o
   .rw[Q0 J,Q0 (show((ad+(cs.length:Int))%8).toNat<8 by omega +splitNatSub),Q0 (by omega +splitNatSub),show(8*q+(o:Int)-ad).toNat=cs.length by omega +splitNatSub,N]
   .rw[QZ J];by_cases h:ad<=8*q+(o:Int)/\8*q+(o:Int)<ad+cs.length
    .rw[Q0 h,Q0 (by omega +splitNatSub),L _ (by omega +splitNatSub)]
    .rw[QZ h,QZ (by omega +splitNatSub)]
  .rw[QZ e,gS G,gS G,I];by_cases h:ad<=8*q+(o:Int)/\8*q+(o:Int)<ad+cs.length
   .rw[Q0 h,Q0 (by omega +splitNatSub),L _ (by omega +splitNatSub)]
   .rw[QZ h,QZ (by omega +splitNatSub)]
 .have:(if (ad+(cs.length:Int))/8=q then(js r ad cs q).set ((ad+(cs.length:Int))%8).toNat c else js r ad cs q).length=8:=(by split<;>simp[gD]);rw[LX (by rw[gD];omega +splitNatSub),LX (by omega +splitNatSub)]
theorem Av {cs:List Int}(J:∀q∈Rm.au ad cs.length,(F q).length=8) {i:Nat}(hi:i<(Rm.au ad cs.length).length) (N:(Rm.ed (bR F (Rm.au ad cs.length)) (ad%8).toNat cs).length=8*(Rm.au ad cs.length).length):(eT F ad cs)[i]?=some (js (F (ad/8+i)) ad cs (ad/8+i)):=by
 unfold eT Rm.gh;rw[K4,NM hi];change some _=some _;congr 1;have wl:(bR F (Rm.au ad cs.length)).length=8*(Rm.au ad cs.length).length:=by
  unfold bR;have:∀(L:List (List Int)),(∀r∈L,r.length=8)->L.flatten.length=8*L.length:=λL=>by
   induction L with
   |nil=>intro _;rfl
   |cons r L U=>intro h;rw[MO,Li,h r Ls,U λx S=>h x (Lx _ S),Lo];omega +splitNatSub
  rw[this _ (λr O=>by let#[q,G,rfl]:=List.mem_map.mp O;show J q G),BY]
 show Nd λo=>?_;by_cases I:o<8
 .rw[Ot,Q0 I,Ou,gS I];have G:ad/8+(i:Int)∈Rm.au ad cs.length:=Ld (xt hi);have O:=J _ G;have R:(bR F (Rm.au ad cs.length))[8*i+o]?=some ((F (ad/8+i)).getD o 0):=by
   rw[Bv J hi I,LU,Lb (by omega +splitNatSub)];rfl
  unfold Rm.ed at N ⊢;rw[Li,Li,Lp,Mv]at N;by_cases Y:8*i+o<(ad%8).toNat
  .rw[QZ (by omega +splitNatSub),LJ,L4 (by rw[Lp];omega +splitNatSub),Ot,Q0 Y,R]
  .by_cases c2:8*i+o<(ad%8).toNat+cs.length
   .rw[Q0 (by omega +splitNatSub),LJ,LY (by rw[Lp];omega +splitNatSub),Lp,L4 (by omega +splitNatSub),LU,show 8*i+o-min (ad%8).toNat (bR F (Rm.au ad cs.length)).length=(8*(ad/8+(i:Int))+(o:Int)-ad).toNat by omega +splitNatSub,Lb (by omega +splitNatSub)];rfl
   .rw[QZ (by omega +splitNatSub),LY (by rw[Li,Lp];omega +splitNatSub),Ou,Li,Lp,show(ad%8).toNat+cs.length+(8*i+o-(min (ad%8).toNat (bR F (Rm.au ad cs.length)).length+cs.length))=8*i+o by omega +splitNatSub,R]
 .rw[LX (by rw[Lp];omega +splitNatSub),LX (by rw[gD];omega +splitNatSub)]
theorem IQ {s:Pg.PS}{W:dv}{cv:Int->Int->List Int}{t:Int}{x:TD}(L:Pg.RI s (ents W)) (J:Cv s W cv) (G:Tb.look W t=some x) (N:¬ Rm.dn ad n (x.t.map (·.1))):∀q∈Rm.au ad n,(cv t q).length=8:=λq I=>by
 have h:=(Rm.gR N).2 q I;cases e:Tb.look x.t q with
 |none=>show absurd h (Tb.bP e)
 |some O=>show yz.len L.good (J t x G q O e)
theorem Dl (O:∀q∈Rm.au ad n,(F q).length=8):(bR F (Rm.au ad n)).length=8*(Rm.au ad n).length:=by
 have:∀(L:List (List Int)),(∀r∈L,r.length=8)->L.flatten.length=8*L.length:=λL=>by
  induction L with
  |nil=>intro _;rfl
  |cons r L N=>intro h;rw[MO,Li,h r Ls,N λx I=>h x (Lx _ I),Lo];omega +splitNatSub
 unfold bR;rw[this _ (λr G=>by let#[q,J,rfl]:=List.mem_map.mp G;show O q J),BY]
noncomputable def tW (cv:Int->Int->List Int) (t ad:Int) (cs:List Int):Int->Int->List Int:=λt' q=>if t'=t/\q∈Rm.au ad cs.length then js (cv t q) ad cs q else cv t' q
theorem vd {cv:Int->Int->List Int}{t:Int}{cs:List Int}{O:List Int}(L:¬ Rm.dn ad cs.length O) (I:∀q∈Rm.au ad cs.length,(cv t q).length=8):gc cv t (((Rm.au ad cs.length).zip (eT (cv t) ad cs)).reverse)=tW cv t ad cs:=by
 have R:=Rm.nN L (ws:=bR (cv t) (Rm.au ad cs.length)) (Dl I);have U:(eT (cv t) ad cs).length=(Rm.au ad cs.length).length:=(by unfold eT Rm.gh;rw[BY,LV]);have J:((Rm.au ad cs.length).zip (eT (cv t) ad cs)).map (·.1)=Rm.au ad cs.length:=List.map_fst_zip (by omega +splitNatSub);have S:((((Rm.au ad cs.length).zip (eT (cv t) ad cs)).reverse).map (·.1)).Nodup:=by
  rw[List.map_reverse,J];show((List.reverse_perm _).nodup_iff).mpr (jZ _ _)
 funext t' q;unfold gc tW;by_cases c:t'=t
 .rw[Q0 c];by_cases m:q∈Rm.au ad cs.length
  .rw[Q0 #[c,m]];let#[i,hi,e]:=Mo m;have G:=xt hi;rw[Lb hi,e]at G;have N:=Option.some.inj G;rw[Tb.bK S (List.mem_reverse.mpr (Ld (i:=i) (a:=(q,js (cv t q) ad cs q)) (by rw[List.getElem?_zip_eq_some];show#[by rw[Lb hi,e],by rw[N];show Av I hi R])))];rfl
  .rw[QZ (λh=>m h.2)];have:Tb.look (((Rm.au ad cs.length).zip (eT (cv t) ad cs)).reverse) q=none:=by
    cases e:Tb.look (((Rm.au ad cs.length).zip (eT (cv t) ad cs)).reverse) q with
    |none=>rfl
    |some r=>show absurd (by rw[<-J];show List.mem_map.mpr #[_,List.mem_reverse.mp (Tb.ay e),rfl]) m
   rw[this];rfl
 .rw[QZ c,QZ (λh=>c h.1)]
noncomputable def tF (D:Dd) (h h':Int->Bool):Prop:=match D with
 |.begin t=>∀t',h' t'=(decide (t'=t)||h t')
 |.close t=>∀t',h' t'=(decide (t'≠t)&&h t')
 |.copy _ o=>∀t',h' t'=(decide (t'=o)||h t')
 |_=>∀t',h' t'=h t'
noncomputable def vV {α:Type}(I:α) (ok:α->Prop) (D:Dd) (e G:Int->Int->Option α):Prop:=match D with
 |.begin t=>∀t' q,G t' q=if t'=t then none else e t' q
 |.close t=>∀t' q,G t' q=if t'=t then none else e t' q
 |.map t p m=>∀t' q,G t' q=if t'=t/\q∈Rm.aN p m then some I else e t' q
 |.drop t p m=>∀t' q,G t' q=if t'=t/\q∈Rm.aN p m then none else e t' q
 |.poke t ad _ cs=>∀t' q,if t'=t/\q∈Rm.au ad cs.length then ∃k,G t' q=some k/\ok k else G t' q=e t' q
 |.copy t o=>∀t' q,G t' q=if t'=o then e t q else e t' q
noncomputable def hW (W:dv) (t:Int):Bool:=(Tb.look W t).isSome
noncomputable def eW (W:dv) (t q:Int):Option Pg.Ent:=(Tb.look W t).bind λx=>Tb.look x.t q
noncomputable def hZ (Z:Zs) (t:Int):Bool:=(Tb.look Z t).isSome
noncomputable def eZ (Z:Zs) (t q:Int):Option Int:=(Tb.look Z t).bind λz=>(Tb.look z.pl q).map (·.2)
structure Tw (W:dv) (Z:Zs):Prop where
 h:∀t,hW W t=hZ Z t
 e:∀t q,(eW W t q).map isNone=(eZ Z t q).map λv=>decide (v=0)
theorem map_if {α G:Type}{c:Prop} [Decidable c] {f:α->G}{a b:Option α}:(if c then a else b).map f=if c then a.map f else b.map f:=by split<;>rfl
theorem Tw.next {W W':dv}{Z Z':Zs}{D:Dd}(T:Tw W Z) (h1:tF D (hW W) (hW W')) (h2:tF D (hZ Z) (hZ Z')) (G:vV none (λx=>∃k,x=some k) D (eW W) (eW W')) (I:vV 0 (λv=>v≠0) D (eZ Z) (eZ Z')):Tw W' Z':=by
 show#[λt'=>?_,λt' q=>?_]
 .cases D with
  |begin t=>show(h1 t').trans (by rw[T.h t'];show(h2 t').symm)
  |close t=>show(h1 t').trans (by rw[T.h t'];show(h2 t').symm)
  |copy t o=>show(h1 t').trans (by rw[T.h t'];show(h2 t').symm)
  |map t p m=>show(h1 t').trans ((T.h t').trans (h2 t').symm)
  |drop t p m=>show(h1 t').trans ((T.h t').trans (h2 t').symm)
  |poke t ad c cs=>show(h1 t').trans ((T.h t').trans (h2 t').symm)
 .cases D with
  |begin t=>rw[G t' q,I t' q,map_if,map_if,T.e];rfl
  |close t=>rw[G t' q,I t' q,map_if,map_if,T.e];rfl
  |copy t o=>rw[G t' q,I t' q,map_if,map_if,T.e,T.e]
  |map t p m=>rw[G t' q,I t' q,map_if,map_if,T.e];rfl
  |drop t p m=>rw[G t' q,I t' q,map_if,map_if,T.e];rfl
  |poke t ad c cs =>
   have L:=G t' q;have J:=I t' q;by_cases z:t'=t/\q∈Rm.au ad cs.length
   .rw[Q0 z]at L J;let#[k,R,j,rfl]:=L;let#[v,N,O]:=J;rw[R,N];change some (isNone (some j))=some (decide (v=0));rw[decide_eq_false O];rfl
   .rw[QZ z]at L J;rw[L,J];show T.e t' q
theorem wd {W:dv}{t:Int}{x y:TD}(h:Tb.look W t=some x) (t':Int):hW (Tb.aU W t y) t'=hW W t':=by
 unfold hW;rw[Tb.bO t' h];by_cases z:t'=t
 .rw[Q0 z,z,h];rfl
 .rw[QZ z]
theorem uU {W:dv}{t:Int}{x y:TD}(h:Tb.look W t=some x) (t' q:Int):eW (Tb.aU W t y) t' q=if t'=t then Tb.look y.t q else eW W t' q:=by
 unfold eW;rw[Tb.bO t' h];by_cases z:t'=t
 .rw[Q0 z,Q0 z];rfl
 .rw[QZ z,QZ z]
theorem xM {W:dv}{t:Int}{x:TD}(h:Tb.look W t=some x) (q:Int):eW W t q=Tb.look x.t q:=by unfold eW;rw[h];rfl
noncomputable def D9 (W:dv) (tt:Int):Dd->Prop
 |.begin t=>Tb.look W t=none
 |.close t=>∃x,Tb.look W t=some x
 |.map t p m=>∃x,Tb.look W t=some x/\¬ Rm.bU p m/\(∀q∈Rm.aN p m,Tb.look x.t q=none)/\(ents W).length+m<=tt
 |.drop t p m=>∃x,Tb.look W t=some x/\¬ Rm.bU p m/\∀q∈Rm.aN p m,Tb.look x.t q≠none
 |.poke t ad _ cs=>∃x,Tb.look W t=some x/\¬ Rm.dn ad cs.length (x.t.map (·.1))/\0<=ad/\ad<=1000/\cs.length<=100
 |.copy t o=>∃x,Tb.look W t=some x/\Tb.look W o=none/\(ents W).length+x.t.length<=tt
structure Jg (P:IF) (w:Ll) (K:PySem.W.Frag) (mg:Str->Option Value) (base:Heap) (c:CA):Prop where
 Kw:Md P w K mg base aS 3 c.C "begin" (m5 c)
 KZ:Md P w K mg base aS 6 c.C "close" (lY c)
 Jp:Md P w K mg base aS 4 c.C "map" (vW c)
 KS:Md P w K mg base aS 6 c.C "drop" (vh c)
 Kk:Md P w K mg base aS 5 c.C "copy" (qf c)
 Jq:Md P w K mg base aS 8 c.C "peek" (qd c)
 KP:Md P w K mg base aS 10 c.C "poke" (qm K c)
noncomputable def oV (D:Dd) (cv:Int->Int->List Int):Int->Int->List Int:=match D with
 |.map t p m=>gX cv t (Rm.aN p m)
 |.copy t o=>nA cv t o
 |.poke t ad _ cs=>tW cv t ad cs
 |_=>cv
noncomputable def Hg (D:Dd) (cv:Int->Int->List Int) (H H':Hp) (v:V):Prop:=match D with
 |_=>True
inductive jF (c:CA) (vs:List V) (H:Hp) (Q:VK) (e3:XK):Prop
 |mk (M:Addr->Prop) (a:RA) (s:Pg.PS) (W:dv) (cv:Int->Int->List Int) (d:Addr) (D:Dd) (_:vs=[.ref a.rp,.ref d]) (_:az c H M a s W) (_:Pg.RI s (ents W)) (_:Cv s W cv) (_:W.length<=1000) (_:lD H d D) (_:D9 W (bF s) D) (_:∀(H':Hp) (M':Addr->Prop) (s':Pg.PS) (W':dv) (cv':Int->Int->List Int) (v:V),az c H' M' a s' W'->Pg.RI s' (ents W')->(Cv s' W' cv'/\cv'=oV D cv/\Hg D cv H H' v)->Step H M (a.own W) H' M' (a.own W')->(∀b,(s'.ow b).length=(s.ow b).length)->W'.length<=W.length+1->tF D (hW W) (hW W')->vV none (λx=>∃k,x=some k) D (eW W) (eW W')->Q v H'):jF c vs H Q e3
section
variable {P:IF}{w:Ll}{K:PySem.W.Frag}{mg:Str->Option Value}{base:Heap}
theorem yw:aC ["_law_kept","_law_deed","_law_name","_law_task"] ["_law_kept","_law_deed"] (aw lI):=L2.bG
theorem xW {f:Addr}{fd:GX}{c:CA}(F:cM K "_law_called" "_law_called" lI f fd) (T:pb K mg c) (M:Jg P w K mg base c):a8 P w K mg base aS 11 f fd ["_law_kept","_law_deed"] (jF c):=by
 show F.ok yw (λvs H Q E h=>?_) (λaT A outer s H vs Q E hr h=>?_)
 .let#[MM,a,s',W,cv,d,D,rfl,_]:=h;rfl
 .let#[MM,a,s',W,cv,d,D,rfl,R,ri,ab,lw,hd,Y,q]:=h;show#[_,(ah (cN (cX jL (pv 1) fj (cU ak)) (dE rfl (bf (aY (i:=2) yw.nd rfl (Lc rfl)) (bf (aY (i:=3) yw.nd rfl (Lc rfl)) cV))))
   (ah (aV (aA bH (pv 2) aI (aH _)) (aj (aF (pm (pv 0) T.cl M.Kw hr ax (aa (pv 3) ai)))) aG)
   (ah (aV (aA bH (pv 2) aI (aH _)) (aj (aF (pm (pv 0) T.cl M.KZ hr ax (aa (pv 3) ai)))) aG)
   (ah (aV (aA bH (pv 2) aI (aH _)) (aj (aF (pm (pv 0) T.cl M.Jp hr ax (aa (pv 3) (aa (bq bB (pv 1) ak (λ_ _=>rfl)) (aa (bq bB (pv 1) ak (λ_ _=>rfl)) ai)))))) aG)
   (ah (aV (aA bH (pv 2) aI (aH _)) (aj (aF (pm (pv 0) T.cl M.KS hr ax (aa (pv 3) (aa (bq bB (pv 1) ak (λ_ _=>rfl)) (aa (bq bB (pv 1) ak (λ_ _=>rfl)) ai)))))) aG)
   (ah (aV (aA bH (pv 2) aI (aH _)) (aj (aF (pm (pv 0) T.cl M.Kk hr ax (aa (pv 3) (aa (bq bB (pv 1) ak (λ_ _=>rfl)) ai))))) aG)
   (ah (aV (aA bH (pv 2) aI (aH _)) cw aG)
   (aj (aF (pm (pv 0) T.cl M.KP hr ax (aa (pv 3) (aa (bq bB (pv 1) ak (λ_ _=>rfl)) (aa (bq bB (pv 1) ak (λ_ _=>rfl)) ai))))))))))))),?_]
  show share (λσ H1=>bh H H1/\σ=[some (.ref a.rp),some (.ref d),some (.str (DQ D)),some (.int (Dk D))]) (λu' ap=>?A) ?B
  case A =>
   show#[0,0,d,0,cy.of hd.1,λc=>?_,λ_ p hp=>?_]
   .show#[d,0,cy.of hd.1,by rw[zb c];rfl,by rw[zb c];show#[_,0,_,0,rfl,ap _ _ #[bh.refl H,rfl]]]
   .rw[B7];show#[p,0,cy.of ae,5,0,_,0,rfl,ap _ _ #[Tb.ar hp,rfl]]
  case B =>
  rintro σ H1 ⟨s1,rfl⟩;have R1:=R.same s1;have S1:=R.iB s1;have ac:H1 d=some (.tup (xw D)):=s1 _ _ hd.1;let#[dx,ho]:=R1.ob;have no:∀mm:Str,¬ mm = "rooms" -> ¬ mm = "total" -> ¬ mm = "paging" -> (eF a.A.pg (bF s') a.rd).lookup mm=none:=λmm=>fJ _ _ _;have l0:∀{t y},(Tb.aU W t y).length<=W.length+1:=λ{t y}=>(by rw[Tb.gK];omega);cases D with
  |begin t =>
   show cE λ_ J G=>?_;show eqT (bD rfl) bE rfl (J _ ?_);show#[0,a.rp,dx,0,ho,no "begin" ao ao ao,0,MM,a,s',W,t,rfl,R1,Y,lw,λH2 M2 y ey R2 O=>?_];have en:ents (W++[(t,y)])=ents W:=(by rw[nv,ey];show OL _);show q H2 M2 s' _ cv _ R2 (by rw[en];show ri) #[λt' x I j e he=>?_,rfl,trivial] (S1.trans O) (λ_=>rfl) (by rw[Li];show HC _) ?_ ?_
   .rw[Tb.br t' Y]at I;by_cases z:t'=t
    .rw[Q0 z]at I;cases I;rw[ey]at he;cases he
    .rw[QZ z]at I;show ab t' x I j e he
   .intro t';unfold hW;rw[Tb.br t' Y];by_cases z:t'=t
    .rw[Q0 z,decide_eq_true z];rfl
    .rw[QZ z,decide_eq_false z];rfl
   .intro t' j;unfold eW;rw[Tb.br t' Y];by_cases z:t'=t
    .rw[Q0 z,Q0 z,MY,ey];rfl
    .rw[QZ z,QZ z]
  |close t =>
   let#[x,I]:=Y;show cE λ_ J G=>?_;show eM (bD rfl) bE rfl bX (G _ ?_);show cE λ_ J G=>?_;show eqT (bD rfl) bE rfl (J _ ?_);show#[0,a.rp,dx,0,ho,no "close" ao ao ao,0,MM,a,s',W,cv,t,x,rfl,R1,ri,ab,I,λH2 M2 s2 R2 U S O am=>q H2 M2 s2 _ cv _ R2 U #[S,rfl,trivial] (S1.trans O) am (Ly (Nq _ _) (ON _)) ?_ ?_]
   .intro t';unfold hW;rw[Tb.cj];by_cases z:t'=t
    .rw[Q0 z,decide_eq_false (λy=>y z)];rfl
    .rw[QZ z,decide_eq_true z];rfl
   .intro t' q;unfold eW;rw[Tb.cj];by_cases z:t'=t
    .rw[Q0 z,Q0 z];rfl
    .rw[QZ z,QZ z]
  |map t p m =>
   let#[x,I,N,f2,f3]:=Y;show cE λ_ J G=>?_;show eM (bD rfl) bE rfl bX (G _ ?_);show cE λ_ J G=>?_;show eM (bD rfl) bE rfl bX (G _ ?_);show cE λ_ J G=>?_;show eqT (bD rfl) bE rfl (J _ ?_);show#[0,a.rp,dx,0,ho,no "map" ao ao ao,0,0,d,2,.int p,1,cy.of ac,rfl,0,d,2,.int m,1,cy.of ac,rfl,MM,a,s',W,cv,t,p,m,x,rfl,R1,ri,ab,lw,I,N,f2,f3,λH2 M2 y R2 U S hy O=>q H2 M2 s' _ _ _ R2 U #[S,rfl,trivial] (S1.trans O) (λ_=>rfl) l0 (wd I) λt' j=>?_];rw[uU I];by_cases z:t'=t
   .rw[Q0 z,hy j];by_cases L:j∈Rm.aN p m
    .rw[Q0 L,Q0 #[z,L]]
    .rw[QZ L,QZ (λh=>L h.2),z,xM I]
   .rw[QZ z,QZ (λh=>z h.1)]
  |drop t p m =>
   let#[x,I,N,f2]:=Y;show cE λ_ J G=>?_;show eM (bD rfl) bE rfl bX (G _ ?_);show cE λ_ J G=>?_;show eM (bD rfl) bE rfl bX (G _ ?_);show cE λ_ J G=>?_;show eM (bD rfl) bE rfl bX (G _ ?_);show cE λ_ J G=>?_;show eqT (bD rfl) bE rfl (J _ ?_);show#[0,a.rp,dx,0,ho,no "drop" ao ao ao,0,0,d,2,.int p,1,cy.of ac,rfl,0,d,2,.int m,1,cy.of ac,rfl,MM,a,s',W,cv,t,p,m,x,rfl,R1,ri,ab,I,N,f2,λH2 M2 s2 y R2 U S hy O am=>q H2 M2 s2 _ _ _ R2 U #[S,rfl,trivial] (S1.trans O) am l0 (wd I) λt' j=>?_];rw[uU I];by_cases z:t'=t
   .rw[Q0 z,hy j];by_cases L:j∈Rm.aN p m
    .rw[Q0 L,Q0 #[z,L]]
    .rw[QZ L,QZ (λh=>L h.2),z,xM I]
   .rw[QZ z,QZ (λh=>z h.1)]
  |copy t o =>
   let#[x,I,N,f2]:=Y;show cE λ_ J G=>?_;show eM (bD rfl) bE rfl bX (G _ ?_);show cE λ_ J G=>?_;show eM (bD rfl) bE rfl bX (G _ ?_);show cE λ_ J G=>?_;show eM (bD rfl) bE rfl bX (G _ ?_);show cE λ_ J G=>?_;show eM (bD rfl) bE rfl bX (G _ ?_);show cE λ_ J G=>?_;show eqT (bD rfl) bE rfl (J _ ?_);show#[0,a.rp,dx,0,ho,no "copy" ao ao ao,0,0,d,2,.int o,1,cy.of ac,rfl,MM,a,s',W,cv,t,o,x,rfl,R1,ri,ab,lw,I,N,f2,λH2 M2 s2 y hy R2 U S O am=>q H2 M2 s2 _ _ _ R2 U #[S,rfl,trivial] (S1.trans O) am (by rw[Li];show HC _) ?_ ?_]
   .intro t';unfold hW;rw[Tb.br t' N];by_cases z:t'=o
    .rw[Q0 z,decide_eq_true z];rfl
    .rw[QZ z,decide_eq_false z];rfl
   .intro t' j;unfold eW;rw[Tb.br t' N];by_cases z:t'=o
    .rw[Q0 z,Q0 z,I];show hy j
    .rw[QZ z,QZ z]
  |poke t ad cc cs =>
   let#[x,I,N,f2,f3,f4]:=Y;show cE λ_ J G=>?_;show eM (bD rfl) bE rfl bX (G _ ?_);show cE λ_ J G=>?_;show eM (bD rfl) bE rfl bX (G _ ?_);show cE λ_ J G=>?_;show eM (bD rfl) bE rfl bX (G _ ?_);show cE λ_ J G=>?_;show eM (bD rfl) bE rfl bX (G _ ?_);show cE λ_ J G=>?_;show eM (bD rfl) bE rfl bX (G _ ?_);show cE λ_ J G=>?_;show eM (bD rfl) bE rfl bX (G _ ?_);show#[0,a.rp,dx,0,ho,no "poke" ao ao ao,0,0,d,2,.int ad,1,cy.of ac,rfl,0,d,2,.ref cc,1,cy.of ac,rfl,MM,a,s',W,cv,t,ad,cc,cs,x,rfl,R1,ri,ab,I,bA.of (s1 _ _ (hd.2 _ _ _ _ rfl)),af,f2,f3,N,λH2 M2 s2 y R2 U S as aB O am=>q H2 M2 s2 _ _ _ R2 U #[S,vd N (IQ ri ab I N),trivial] (S1.trans O) am l0 (wd I) λt' j=>?_];rw[uU I];by_cases z:t'=t
   .by_cases L:j∈Rm.au ad cs.length
    .rw[Q0 #[z,L],Q0 z];let#[k,hk]:=aB j L;show#[some k,hk,k,rfl]
    .rw[QZ (λh=>L h.2),Q0 z,as j L,z,xM I]
   .rw[QZ (λh=>z h.1),QZ z]
end
theorem du {α:Type}{f:α->V}{H:Hp}{a:Addr}{l:List (Int×α)}{t:Int}{x:α}(h:H a=some (.dK (Tb.dk f l))) (G:Tb.look l t=some x):dB H a (.int t) (some (f x)):=by
 have q:=dU (t:=t) h;rw[G]at q;show q
section
variable {H H':Hp}{m:MA}{bF pk:Int}{Z:Zs}{t:Int}{z:MT}
theorem cA.alive (M:cA H m bF pk Z):∀b,cY m Z b->(∃xs,H b=some (.lst xs))\/∃kvs,H b=some (.dK kvs):=by
 intro b h;rcases h with h|h|h|⟨x,G,h|h|⟨y,I,h⟩⟩<;>rw[h]
 .show .inr #[_,M.hm]
 .show .inr #[_,M.hr]
 .show .inr #[_,M.hs]
 .show .inr #[_,M.rm x G]
 .show .inr #[_,M.st x G]
 .let#[ns,h1,_]:=M.cl x G y I;show .inl #[_,h1]
theorem cA.add (M:cA H m bF pk Z) (Y:Tb.look Z t=none) (o:Off (λb=>b=m.lr\/b=m.ls) H H') (S:H' m.lr=some (.dK (Tb.dk gk (Z++[(t,z)])))) (hs:H' m.ls=some (.dK (Tb.dk sh (Z++[(t,z)])))) (h1:H' z.ra=some (.dK (Tb.dk eS z.pl))) (h2:H' z.sa=some (.dK (Tb.dk oz z.pl)))
  (h3:∀y∈z.pl,∃ns:List Int,H' y.2.1=some (.lst (ns.map V.int))/\ns.length=8) (np:(z.pl.map (·.1)).Nodup) (U:∀y∈z.pl,0<=y.1/\y.1<64) (J:H z.ra=none) (L:H z.sa=none) (f3:z.ra≠z.sa):cA H' m bF pk (Z++[(t,z)]):=by
 have nl:∀{b xs},H b=some (.lst xs)->¬ (b=m.lr\/b=m.ls):=λe w=>by
  rcases w with w|w
  .rw[w,M.hr]at e;cases e
  .rw[w,M.hs]at e;cases e
 have N:∀x∈Z,z.ra≠x.2.ra/\z.sa≠x.2.sa/\z.ra≠x.2.sa/\z.sa≠x.2.ra:=λx G=>#[(λe=>by rw[e,M.rm x G]at J;cases J),(λe=>by rw[e,M.st x G]at L;cases L),(λe=>by rw[e,M.st x G]at J;cases J),(λe=>by rw[e,M.rm x G]at L;cases L)];show#[o _ _ M.hm (gE M.n3.1 M.n3.2.1),S,hs,λx G=>?_,λx G=>?_,λx G y I=>?_,?_,λx G=>?_,λx G=>?_,λx G y I O=>?_,λx G y I=>?_,λx G=>?_,M.n3]
 .rcases List.mem_append.mp G with G|G
  .show o _ _ (M.rm x G) (gE (M.d3 x G).2.1 (M.d3 x G).2.2.1)
  .rw[List.mem_singleton.mp G];show h1
 .rcases List.mem_append.mp G with G|G
  .show o _ _ (M.st x G) (gE (M.d3 x G).2.2.2.2.1 (M.d3 x G).2.2.2.2.2)
  .rw[List.mem_singleton.mp G];show h2
 .rcases List.mem_append.mp G with G|G
  .let#[ns,R,e2]:=M.cl x G y I;show#[ns,o _ _ R (nl R),e2]
  .rw[List.mem_singleton.mp G]at I;show h3 y I
 .rw[Ln];show fQ M.nd (Tb.bP Y)
 .rcases List.mem_append.mp G with G|G
  .show M.np x G
  .rw[List.mem_singleton.mp G];show np
 .rcases List.mem_append.mp G with G|G
  .show M.rg x G
  .rw[List.mem_singleton.mp G];show U
 .rcases List.mem_append.mp G with G|G<;>rcases List.mem_append.mp I with I|I
  .show M.da x G y I O
  .rw[List.mem_singleton.mp I];show#[G0 (N x G).1,G0 (N x G).2.1]
  .rw[List.mem_singleton.mp G];show#[(N y I).1,(N y I).2.1]
  .show absurd (by rw[List.mem_singleton.mp G,List.mem_singleton.mp I]) O
 .rcases List.mem_append.mp G with G|G<;>rcases List.mem_append.mp I with I|I
  .show M.rs x G y I
  .rw[List.mem_singleton.mp I];show G0 (N x G).2.2.2
  .rw[List.mem_singleton.mp G];show(N y I).2.2.1
  .rw[List.mem_singleton.mp G,List.mem_singleton.mp I];show f3
 .rcases List.mem_append.mp G with G|G
  .show M.d3 x G
  .rw[List.mem_singleton.mp G];show#[(λe=>by rw[e,M.hm]at J;cases J),(λe=>by rw[e,M.hr]at J;cases J),(λe=>by rw[e,M.hs]at J;cases J),(λe=>by rw[e,M.hm]at L;cases L),(λe=>by rw[e,M.hr]at L;cases L),(λe=>by rw[e,M.hs]at L;cases L)]
theorem cA.del (M:cA H m bF pk Z) (o:Off (λb=>b=m.lr\/b=m.ls) H H') (L:H' m.lr=some (.dK (Tb.dk gk (Tb.bg Z t)))) (hs:H' m.ls=some (.dK (Tb.dk sh (Tb.bg Z t)))):cA H' m bF pk (Tb.bg Z t):=by
 have O:∀{b xs},H b=some (.lst xs)->¬ (b=m.lr\/b=m.ls):=λe w=>by
  rcases w with w|w
  .rw[w,M.hr]at e;cases e
  .rw[w,M.hs]at e;cases e
 have sub:∀{x},x∈Tb.bg Z t->x∈Z:=λh=>(Tb.cf h).1;show#[o _ _ M.hm (gE M.n3.1 M.n3.2.1),L,hs,λx G=>?_,λx G=>?_,λx G y I=>?_,Tb.nG M.nd,λx G=>M.np x (sub G),λx G=>M.rg x (sub G),λx G y I=>M.da x (sub G) y (sub I),λx G y I=>M.rs x (sub G) y (sub I),λx G=>M.d3 x (sub G),M.n3]
 .have G:=sub G;show o _ _ (M.rm x G) (gE (M.d3 x G).2.1 (M.d3 x G).2.2.1)
 .have G:=sub G;show o _ _ (M.st x G) (gE (M.d3 x G).2.2.2.2.1 (M.d3 x G).2.2.2.2.2)
 .let#[ns,J,N]:=M.cl x (sub G) y I;show#[ns,o _ _ J (O J),N]
theorem cA.EA (M:cA H m bF pk Z) (S:Tb.look Z t=some z) {pk':Int}{pl:List (Int×Addr×Int)}(o:Off (λb=>b=m.md\/b=z.ra\/b=z.sa) H H') (hm:H' m.md=some (.dK (ox m.lr m.ls bF pk'))) (h1:H' z.ra=some (.dK (Tb.dk eS pl))) (h2:H' z.sa=some (.dK (Tb.dk oz pl)))
  (h3:∀y∈pl,∃ns:List Int,H' y.2.1=some (.lst (ns.map V.int))/\ns.length=8) (np:(pl.map (·.1)).Nodup) (hg:∀y∈pl,0<=y.1/\y.1<64):cA H' m bF pk' (Tb.aU Z t #[z.ra,z.sa,pl]):=by
 have I:=Tb.ay S;have nl:∀{b xs},H b=some (.lst xs)->¬ (b=m.md\/b=z.ra\/b=z.sa):=λe w=>by
  rcases w with w|w|w
  .rw[w,M.hm]at e;cases e
  .rw[w,M.rm _ I]at e;cases e
  .rw[w,M.st _ I]at e;cases e
 have O:∀{b},b≠m.md->b≠z.ra->b≠z.sa->¬ (b=m.md\/b=z.ra\/b=z.sa):=λa b c w=>w.elim a λw=>w.elim b c;have N:=M.d3 _ I;show#[hm,3,λx G=>?_,λx G=>?_,λx G y J=>?_,by rw[Tb.fN];show M.nd,λx G=>?_,λx G=>?_,λx G y J L=>?_,λx G y J=>?_,λx G=>?_,M.n3]
 .rw[Tb.rR (f:=gk) (a:=(#[z.ra,z.sa,pl]:MT)) (b:=z) M.nd S rfl];show o _ _ M.hr (O (G0 M.n3.1) (G0 N.2.1) (G0 N.2.2.2.2.1))
 .rw[Tb.rR (f:=sh) (a:=(#[z.ra,z.sa,pl]:MT)) (b:=z) M.nd S rfl];show o _ _ M.hs (O (G0 M.n3.2.1) (G0 N.2.2.1) (G0 N.2.2.2.2.2))
 .rcases Tb.mem_set G with rfl|⟨G,L⟩
  .show h1
  .show o _ _ (M.rm x G) (O (M.d3 x G).1 (M.da x G _ I L).1 (M.rs x G _ I))
 .rcases Tb.mem_set G with rfl|⟨G,L⟩
  .show h2
  .show o _ _ (M.st x G) (O (M.d3 x G).2.2.2.1 (G0 (M.rs _ I x G)) (M.da x G _ I L).2)
 .rcases Tb.mem_set G with rfl|⟨G,L⟩
  .show h3 y J
  .let#[ns,U,e2]:=M.cl x G y J;show#[ns,o _ _ U (nl U),e2]
 .rcases Tb.mem_set G with rfl|⟨G,L⟩
  .show np
  .show M.np x G
 .rcases Tb.mem_set G with rfl|⟨G,L⟩
  .show hg
  .show M.rg x G
 .rcases Tb.mem_set G with rfl|⟨G,R⟩<;>rcases Tb.mem_set J with rfl|⟨J,Y⟩
  .show absurd rfl L
  .show M.da (t,z) I y J (G0 Y)
  .show M.da x G (t,z) I R
  .show M.da x G y J L
 .rcases Tb.mem_set G with rfl|⟨G,R⟩<;>rcases Tb.mem_set J with rfl|⟨J,Y⟩
  .show M.rs (t,z) I (t,z) I
  .show M.rs (t,z) I y J
  .show M.rs x G (t,z) I
  .show M.rs x G y J
 .rcases Tb.mem_set G with rfl|⟨G,R⟩
  .show N
  .show M.d3 x G
theorem cA.Ej (M:cA H m bF pk Z) {l:Addr}{xs:List V}(J:H l=some (.lst xs)) {ns':List Int}(R:ns'.length=8):cA (upd H l (.lst (ns'.map V.int))) m bF pk Z:=by
 have o:Off (· = l) H (upd H l (.lst (ns'.map V.int))):=Off.wr rfl;have I:∀{b kvs},H b=some (.dK kvs)->¬ b=l:=λe w=>(by rw[w,J]at e;cases e);show#[o _ _ M.hm (I M.hm),o _ _ M.hr (I M.hr),o _ _ M.hs (I M.hs),λx G=>o _ _ (M.rm x G) (I (M.rm x G)),λx G=>o _ _ (M.st x G) (I (M.st x G)),λx G y N=>?_,M.nd,M.np,M.rg,M.da,M.rs,M.d3,M.n3];by_cases w:y.2.1=l
 .show#[ns',by rw[w,ae],R]
 .let#[ns,O,L]:=M.cl x G y N;show#[ns,o _ _ O w,L]
end
section
variable {Z:Zs}{t:Int}{z y:MT}
theorem vT (h:Tb.look Z t=some z) (t':Int):hZ (Tb.aU Z t y) t'=hZ Z t':=by
 unfold hZ;rw[Tb.bO t' h];by_cases c:t'=t
 .rw[Q0 c,c,h];rfl
 .rw[QZ c]
theorem uD (h:Tb.look Z t=some z) (t' q:Int):eZ (Tb.aU Z t y) t' q=if t'=t then(Tb.look y.pl q).map (·.2)else eZ Z t' q:=by
 unfold eZ;rw[Tb.bO t' h];by_cases c:t'=t
 .rw[Q0 c,Q0 c];rfl
 .rw[QZ c,QZ c]
theorem wY (h:Tb.look Z t=some z) (q:Int):eZ Z t q=(Tb.look z.pl q).map (·.2):=by unfold eZ;rw[h];rfl
end
theorem J8 {t u:TS}{D:Ends}{σ:L2.St}{H:Hp}(h:t { D with nx:=u D } σ H):jG t u D σ H:=h
theorem BC {α:Type}{W:List (Int×α)}{t:Int}{x y:α}:Tb.aU (Tb.aU W t x) t y=Tb.aU W t y:=by
 unfold Tb.aU;rw[Me];show Mx λz _=>?_;change(if (if z.1=t then(t,x)else z).1=t then(t,y)else(if z.1=t then(t,x)else z))=if z.1=t then(t,y)else z
 by_cases c:z.1=t
 .rw[Q0 c,Q0 rfl,Q0 c]
 .simp only[QZ c]
theorem zR {α:Type}{W:List (Int×α)}{t:Int}{x y:α}(h:Tb.look W t=some x):Tb.look (Tb.aU W t y) t=some y:=by rw[Tb.bO t h,Q0 rfl]
theorem yk {Z:Zs}{t:Int}{z:MT}(G:(Z.map (·.1)).Nodup) (h:Tb.look Z t=some z):Tb.aU Z t #[z.ra,z.sa,z.pl]=Z:=by
 unfold Tb.aU
 conv=>rhs;rw[<-List.map_id Z]
 show Mx λy I=>?_;change(if y.1=t then(t,(#[z.ra,z.sa,z.pl]:MT))else y)=y;by_cases c:y.1=t
 .have:=Tb.bK G I;rw[c,h]at this;rw[Q0 c,Option.some.inj this, <-c]
 .rw[QZ c]
theorem cA.len {H:Hp}{m:MA}{bF pk:Int}{Z:Zs}(M:cA H m bF pk Z) {x:Int×MT}(G:x∈Z):x.2.pl.length<=64:=by
 have:=Tb.BZ 64 0 (x.2.pl.map (·.1)) (M.np x G) λq I=>by
  let#[y,J,rfl]:=List.mem_map.mp I;have:=M.rg x G y J;omega
 rwa [BY]at this
theorem mR {m:MA}{Z:Zs}{t:Int}{z:MT}{pl:List (Int×Addr×Int)}{H:Hp}(N:Tb.look Z t=some z) (h:∀y∈pl,(∃I∈z.pl,y.2.1=I.2.1)\/H y.2.1=none):∀b,cY m (Tb.aU Z t #[z.ra,z.sa,pl]) b->cY m Z b\/H b=none:=by
 intro b w;have J:=Tb.ay N;rcases w with w|w|w|⟨x,G,w⟩
 .show .inl (.inl w)
 .show .inl (.inr (.inl w))
 .show .inl (.inr (.inr (.inl w)))
 .rcases Tb.mem_set G with rfl|⟨G,_⟩
  .rcases w with w|w|⟨y,L,w⟩
   .show .inl (.inr (.inr (.inr #[_,J,.inl w])))
   .show .inl (.inr (.inr (.inr #[_,J,.inr (.inl w)])))
   .rcases h y L with⟨I,h1,h2⟩|h
    .show .inl (.inr (.inr (.inr #[_,J,.inr (.inr #[I,h1,w.trans h2])])))
    .rw[w];show .inr h
  .show .inl (.inr (.inr (.inr #[x,G,w])))
theorem eD {ad q:Int}{n:Nat}:q∈Rm.au ad n↔∃j:Nat,j<n/\(ad+j)/8=q:=by
 unfold Rm.au;by_cases e:((n:Nat):Int)=0
 .rw[Q0 e];show#[(λh=>nomatch h),(λ⟨j,h,_⟩=>by omega)]
 .rw[QZ e];unfold Rm.aN Rm.jJ Rm.iT;rw[QM];constructor
  .rintro⟨k,G,rfl⟩;have G:=List.mem_range.mp G;show#[(8*(ad/8+k)-ad).toNat,af,af]
  .rintro⟨j,I,rfl⟩;show#[((ad+j)/8-ad/8).toNat,List.mem_range.mpr af,af]
theorem CK (G ls:Addr) (bF pk pk':Int):putK (ox G ls bF pk) (Sum.inr "pokes") (.int pk')=ox G ls bF pk':=by
 unfold putK ox;rw[Q0 (by simp)];simp only[Mm,Qg,QZ JJ,QZ Jo,QZ Jm,if_true,decide_eq_true_eq]
theorem pQ {pl G:List (Int×Addr×Int)}(h:(G.map λy=>(y.1,y.2.1))=pl.map λy=>(y.1,y.2.1)) (q:Int):Tb.look G q=none↔Tb.look pl q=none:=by
 have J:G.map (·.1)=pl.map (·.1):=by
  have:=congrArg (List.map (·.1)) h;rw[Me,Me]at this;show this
 have I:∀{l:List (Int×Addr×Int)},Tb.look l q=none↔¬ q∈l.map (·.1):=λ{l}=>#[Tb.bP,λh=>by
  cases e:Tb.look l q with
  |none=>rfl
  |some a=>show absurd (List.mem_map.mpr #[_,Tb.ay e,rfl]) h]
 rw[I,I,J]
theorem kh {α G:Type}(g:α->G) (k:Int):∀l:List (Int×α),Tb.look (l.map λx=>(x.1,g x.2)) k=(Tb.look l k).map g
 | []=>rfl
 |x::l=>by
  rw[Mm,Tb.aP,Tb.aP,kh g k l];by_cases e:x.1=k
  .rw[Q0 e,Q0 e];rfl
  .rw[QZ e,QZ e]
theorem lR {α:Type}(f:α->V) (l:List (Int×α)) (o:Int) (a:α):Tb.dk f (l++[(o,a)])=Tb.dk f l++[(Sum.inl o,f a)]:=by
 unfold Tb.dk;rw[Ln];rfl
theorem Hv {pl G:List (Int×Addr×Int)}(h:(G.map λy=>(y.1,y.2.2))=pl.map λy=>(y.1,y.2.2)):Tb.dk oz G=Tb.dk oz pl:=by
 have e:∀l:List (Int×Addr×Int),Tb.dk oz l=(l.map λy=>(y.1,y.2.2)).map λp=>((Sum.inl p.1:Key),V.int p.2):=λl=>by
  unfold Tb.dk;rw[Me];rfl
 rw[e,e,h]
noncomputable def uc (m:MA) (H:Hp) (Z:Zs) (H':Hp) (Z':Zs):Prop:=Off (cY m Z) H H'/\∀b,cY m Z' b->cY m Z b\/H b=none
noncomputable def eA (Z:Zs) (t q:Int):Option Addr:=(Tb.look Z t).bind λz=>(Tb.look z.pl q).map (·.1)
structure Ct (H:Hp) (Z:Zs) (cv:Int->Int->List Int):Prop where
 at_:∀t q a,eA Z t q=some a->H a=some (.lst ((cv t q).map V.int))
 inj:∀t q t' q' a,eA Z t q=some a->eA Z t' q'=some a->t=t'/\q=q'
section
variable {H H':Hp}{Z Z':Zs}{cv cv':Int->Int->List Int}{t:Int}{z z':MT}
theorem rL (h:Tb.look Z t=none) (t' q:Int):eA (Z++[(t,z)]) t' q=if t'=t then(Tb.look z.pl q).map (·.1)else eA Z t' q:=by
 unfold eA;rw[Tb.br t' h];split<;>rfl
theorem Fc (t' q:Int):eA (Tb.bg Z t) t' q=if t'=t then none else eA Z t' q:=by
 unfold eA;rw[Tb.cj];split<;>rfl
theorem kg (h:Tb.look Z t=some z) (t' q:Int):eA (Tb.aU Z t z') t' q=if t'=t then(Tb.look z'.pl q).map (·.1)else eA Z t' q:=by
 unfold eA;rw[Tb.bO t' h];split<;>rfl
theorem AW (h:Tb.look Z t=some z) (q:Int):eA Z t q=(Tb.look z.pl q).map (·.1):=by unfold eA;rw[h];rfl
theorem Ct.keep (C:Ct H Z cv) (k:∀a xs,H a=some (.lst xs)->H' a=some (.lst xs)) (e:∀t q a,eA Z' t q=some a->eA Z t q=some a):Ct H' Z' cv :=
 #[λt q a h=>k _ _ (C.at_ t q a (e _ _ _ h)),λt q t' G a h h'=>C.inj _ _ _ _ _ (e _ _ _ h) (e _ _ _ h')]
theorem Ct.congr (C:Ct H Z cv) (e:∀t q a,eA Z t q=some a->cv t q=cv' t q):Ct H Z cv':=#[λt q a h=>by rw[<-e t q a h];show C.at_ t q a h,C.inj]
theorem Ct.new {I:Int}{l:Addr}{r:List Int}(C:Ct H Z cv) (t:Int) (e:∀t' q,eA Z' t' q=if t'=t/\q=I then some l else eA Z t' q) (O:H' l=some (.lst (r.map V.int))) (f:H l=none) (k:∀a xs,H a=some (.lst xs)->H' a=some (.lst xs)):Ct H' Z' (λt' q=>if t'=t/\q=I then r else cv t' q):=by
 have L:∀{t' q},eA Z t' q=some l->False:=λh=>(by have:=C.at_ _ _ _ h;rw[f]at this;cases this);show#[λt' q a h=>?_,λt' q N J a h h2=>?_]
 .rw[e]at h;by_cases c:t'=t/\q=I
  .rw[Q0 c]at h ⊢;cases h;show O
  .rw[QZ c]at h;rw[QZ c];show k _ _ (C.at_ _ _ _ h)
 .rw[e]at h h2;by_cases c:t'=t/\q=I
  .rw[Q0 c]at h;cases h;by_cases G:N=t/\J=I
   .show#[c.1.trans G.1.symm,c.2.trans G.2.symm]
   .rw[QZ G]at h2;show(L h2).elim
  .rw[QZ c]at h;by_cases G:N=t/\J=I
   .rw[Q0 G]at h2;cases h2;show(L h).elim
   .rw[QZ G]at h2;show C.inj _ _ _ _ _ h h2
theorem Ct.cell {G:Int}{l:Addr}{r:List Int}(C:Ct H Z cv) (I:eA Z t G=some l):Ct (upd H l (.lst (r.map V.int))) Z (λt' q=>if t'=t/\q=G then r else cv t' q):=by
 show#[λt' q a h=>?_,C.inj];by_cases c:t'=t/\q=G
 .rw[c.1,c.2,I]at h;cases h;rw[Q0 c];show ae
 .rw[QZ c,ag (λz=>c (by rw[z]at h;show C.inj _ _ _ _ _ h I))];show C.at_ _ _ _ h
theorem Ct.Kf {o:Int}{d1 d2:Addr}{pl:List (Int×Addr×Int)}(C:Ct H Z cv) (R:Tb.look Z o=none) (h:∀u∈pl,H' u.2.1=some (.lst ((cv t u.1).map V.int))/\H u.2.1=none) (nd:(pl.map (·.2.1)).Nodup) (k:∀a xs,H a=some (.lst xs)->H' a=some (.lst xs)):Ct H' (Z++[(o,#[d1,d2,pl])]) (nA cv t o):=by
 have pg:∀{q a},(Tb.look pl q).map (·.1)=some a->∃u∈pl,u.1=q/\u.2.1=a:=λ{q a} e=>by
  let#[u,h1,h2]:=Option.map_eq_some_iff.mp e;show#[(q,u),Tb.ay h1,rfl,h2]
 have U:∀{t' q a},eA Z t' q=some a->∀u∈pl,u.2.1=a->False:=λh1 u J e=>by
  have:=C.at_ _ _ _ h1;rw[<-e,(h u J).2]at this;cases this
 show#[λt' q a e=>?_,λt' q Y q2 a e G=>?_]
 .rw[rL R]at e;unfold nA;by_cases c:t'=o
  .rw[Q0 c]at e;let#[u,J,rfl,rfl]:=pg e;rw[Q0 c];show(h u J).1
  .rw[QZ c]at e;rw[QZ c];show k _ _ (C.at_ _ _ _ e)
 .rw[rL R]at e G;by_cases c:t'=o
  .rw[Q0 c]at e;let#[u,J,rfl,rfl]:=pg e;by_cases I:Y=o
   .rw[Q0 I]at G;let#[L,N,rfl,g]:=pg G;show#[c.trans I.symm,?_];let#[i,hi,S]:=Mo J;let#[j,hj,O]:=Mo N;have:i=j:=by
     show Decidable.byContradiction λn=>mW nd i j (a:=u.2.1) (b:=L.2.1) ?_ ?_ n g.symm
     .rw[K4,Lb hi,S];rfl
     .rw[K4,Lb hj,O];rfl
    subst this;rw[<-S, <-O]
   .rw[QZ I]at G;show(U G u J rfl).elim
  .rw[QZ c]at e;by_cases I:Y=o
   .rw[Q0 I]at G;let#[L,N,_,g]:=pg G;show(U e L N g).elim
   .rw[QZ I]at G;show C.inj _ _ _ _ _ e G
end
noncomputable def CM (cv:Int->Int->List Int) (t p:Int) (i:Nat):Int->Int->List Int:=λt' q=>if t'=t/\p<=q/\q<p+(i:Int)then replicate 8 0 else cv t' q
theorem Aa {cv:Int->Int->List Int}{t p:Int}:CM cv t p 0=cv:=by
 funext t' q;unfold CM;rw[QZ af]
theorem Bx {cv:Int->Int->List Int}{t p:Int}{i:Nat}:CM cv t p (i+1)=λt' q=>if t'=t/\q=p+(i:Int)then replicate 8 0 else CM cv t p i t' q:=by
 funext t' q;unfold CM;by_cases c:t'=t/\q=p+(i:Int)
 .rw[Q0 c,Q0 af]
 .rw[QZ c];by_cases G:t'=t/\p<=q/\q<p+(i:Int)
  .rw[Q0 G,Q0 af]
  .rw[QZ G,QZ af]
theorem Cw {cv:Int->Int->List Int}{t p G:Int}:CM cv t p (p+G-p).toNat=gX cv t (Rm.aN p G):=by
 funext t' q;unfold CM gX Rm.aN;have:(q∈(List.range G.toNat).map λk:Nat=>p+(k:Int))↔(p<=q/\q<p+((p+G-p).toNat:Int)):=by
  rw[QM];constructor
  .rintro⟨j,I,rfl⟩;have:=List.mem_range.mp I;omega
  .intro h;show#[(q-p).toNat,List.mem_range.mpr af,af]
 by_cases c:t'=t/\p<=q/\q<p+((p+G-p).toNat:Int)
 .rw[Q0 c,Q0 #[c.1,this.mpr c.2]]
 .rw[QZ c,QZ (λh=>c #[h.1,this.mp h.2])]
theorem xY {r cs:List Int}{ad q:Int}(h:r.length=8) (n:¬ q∈Rm.au ad cs.length):js r ad cs q=r:=by
 show Nd λo=>?_;by_cases G:o<8
 .rw[gS G,QZ (λc=>n (eD.mpr #[(8*q+(o:Int)-ad).toNat,af,af])),LU,Lb af];rfl
 .rw[LX (by rw[gD];omega),LX af]
theorem nu:∀{xs ys:List Int},xs.map V.int=ys.map V.int->xs=ys
 | [],[],_=>rfl
 | [],_::_,h=>by cases h
 |_::_,[],h=>by cases h
 |x::xs,y::ys,h=>by
  injection h with h1 h2;injection h1 with h1;rw[h1,nu h2]
theorem Ct.FY {H:Hp}{m:MA}{bF pk:Int}{Z:Zs}{cv:Int->Int->List Int}{t q:Int}{a:Addr}(C:Ct H Z cv) (M:cA H m bF pk Z) (h:eA Z t q=some a):(cv t q).length=8:=by
 let#[z,h1,h2]:=Option.bind_eq_some_iff.mp h;let#[y,L,I]:=Option.map_eq_some_iff.mp h2;let#[ns,J,G]:=M.cl _ (Tb.ay h1) _ (Tb.ay L);have:=C.at_ t q a h;rw[<-I,J]at this;rw[<-nu (HO.lst.inj (Option.some.inj this))];show G
noncomputable def DZ (cv:Int->Int->List Int) (t ad:Int) (cs:List Int):Int->Int->List Int:=λt' q=>if t'=t then js (cv t q) ad cs q else cv t' q
inductive oi (vs:List V) (H:Hp) (Q:VK) (e3:XK):Prop
 |mk (m:MA) (bF pk:Int) (Z:Zs) (d:Addr) (D:Dd) (_:vs=[.ref m.md,.ref d]) (_:cA H m bF pk Z) (_:0<=pk) (_:Z.length<=1000) (_:lD H d D) (_:Dp Z bF D) (_:(∀t ad c cs,D=.poke t ad c cs->¬ cY m Z c/\0<=ad/\ad<=1000/\cs.length<=100)) (_:∀(H':Hp) (pk':Int) (Z':Zs) (v:V),cA H' m bF pk' Z'->(0<=pk'/\∀cv,Ct H Z cv->Ct H' Z' (oV D cv)/\Hg D cv H H' v)->uc m H Z H' Z'->Z'.length<=Z.length+1->tF D (hZ Z) (hZ Z')->vV 0 (λv=>v≠0) D (eZ Z) (eZ Z')->Q v H'):oi vs H Q e3
section
variable {P:IF}{w:Ll}{K:PySem.W.Frag}{mg:Str->Option Value}{base:Heap}
theorem lu:aC ["_law_model_here","_law_deed","_law_rooms","_law_stands","_law_name","_law_task","_law_page","_law_cells","_law_k","_law_cell","_law_at"] ["_law_model_here","_law_deed"] (aw Ad):=L2.bG
theorem Du {f:Addr}{fd:GX}(F:cM K "_law_done" "_law_done" Ad f fd) (T:nV mg):a8 P w K mg base aS 1 f fd ["_law_model_here","_law_deed"] oi:=by
 show F.ok lu (λvs H Q E h=>?_) (λfb A outer s H vs Q E hr h=>?_)
 .let#[m,bF,pk,Z,d,D,rfl,_]:=h;rfl
 .let#[m,bF,pk,Z,d,D,rfl,M,p0,lz,hd,fi,d9,k]:=h;have hs:sizeLine=16777216:=Lh;show#[_,(ah (cN (cR (aa (a9 (aZ hr) (pv 0) aI (λ_ _=>rfl)) (aa (a9 (aZ hr) (pv 0) aI (λ_ _=>rfl)) ai))) (dE rfl (bf (aY (i:=2) lu.nd rfl (OU rfl)) (bf (aY (i:=3) lu.nd rfl (Lc rfl)) cV))))
   (ah (cN (cX jL (pv 1) fj (cU ak)) (dE rfl (bf (aY (i:=4) lu.nd rfl (Lc rfl)) (bf (aY (i:=5) lu.nd rfl (OU rfl)) cV))))
   (ah (aV (aA bH (pv 4) aI (aH _)) (aj (cN (cR (aa dr (aa dr ai))) (dE rfl (bf (eh (pv 2) (pv 5) (set_dict (aZ hr))) (bf (eh (pv 3) (pv 5) (set_dict (aZ hr))) cV))))) (aj (aV (aA bH (pv 4) aI (aH _)) (ah (aM (eG (pv 2) (pv 5) #[1,1]))
   (aj (aM (eG (pv 3) (pv 5) #[1,1])))) (aj (aV (aA bH (pv 4) aI (aH _)) (aj (de Lr rfl (gp (by rfl) T.range (aa (bq bB (pv 1) ak (λ_ _=>rfl)) (aa (aD bt (bq bB (pv 1) ak (λ_ _=>rfl)) (bq bB (pv 1) ak (λ_ _=>rfl))) ai))) (aY (i:=6) lu.nd rfl (Lc rfl)) (aj (cN (cR (aa (aD lZ (cn (aa ak ai)) ak) (aa ak ai))) (dE rfl (bf (eh (a9 (aZ hr) (pv 2) (pv 5) (λ_ _=>rfl)) (pv 6) (set_dict (aZ hr))) (bf (eh (a9 (aZ hr) (pv 3) (pv 5) (λ_ _=>rfl)) (pv 6) (set_dict (aZ hr))) cV))))))) (aj (aV (aA bH (pv 4) aI (aH _)) (aj (de Lr rfl (gp (by rfl) T.range (aa (bq bB (pv 1) ak (λ_ _=>rfl)) (aa (aD bt (bq bB (pv 1) ak (λ_ _=>rfl)) (bq bB (pv 1) ak (λ_ _=>rfl))) ai))) (aY (i:=6) lu.nd rfl (Lc rfl)) (ah (aM (eG (a9 (aZ hr) (pv 2) (pv 5) (λ_ _=>rfl)) (pv 6) #[1,1]))
   (aj (aM (eG (a9 (aZ hr) (pv 3) (pv 5) (λ_ _=>rfl)) (pv 6) #[1,1])))))) (aj (aV (aA bH (pv 4) aI (aH _)) (ah (cN (cg vI (by rfl) T.dict qR (aa (a9 (aZ hr) (pv 3) (pv 5) (λ_ _=>rfl)) ai)) (eh (pv 3) (bq bB (pv 1) ak (λ_ _=>rfl)) (set_dict (aZ hr))))
   (ah (cN dr (eh (pv 2) (bq bB (pv 1) ak (λ_ _=>rfl)) (set_dict (aZ hr))))
   (aj (lP (de Lr rfl (t5 (a9 (aZ hr) (pv 2) (pv 5) (λ_ _=>rfl))) (dE rfl (bf (aY (i:=6) lu.nd rfl (Lc rfl)) (bf (aY (i:=7) lu.nd rfl (Lc rfl)) cV))) (aj (cN (cg dQ (by rfl) T.list eY (aa (pv 7) ai)) (eh (a9 (aZ hr) (pv 2) (bq bB (pv 1) ak (λ_ _=>rfl)) (λ_ _=>rfl)) (pv 6) (set_dict (aZ hr)))))))))) (aj (aV (aA bH (pv 4) aI (aH _)) cw (aj (de Lr rfl (C8 (by rfl) T.enumerate (aa (bq bB (pv 1) ak (λ_ _=>rfl)) ai)) (dE rfl (bf (aY (i:=8) lu.nd rfl (Lc rfl)) (bf (aY (i:=9) lu.nd rfl (Lc rfl)) cV))) (ah (aO (i:=10) lu.nd rfl (Lc rfl) (aD bt (bq bB (pv 1) ak (λ_ _=>rfl)) (pv 8)))
   (ah (cN (pv 9) (eh (a9 (aZ hr) (a9 (aZ hr) (pv 2) (pv 5) (λ_ _=>rfl)) (aD bZ (pv 10) ak) (λ_ _=>rfl)) (aD bN (pv 10) ak) set_list))
   (aj (aV (PW.pt (j7 (aA bH (pv 8) ak (aH _)) (jn (aA bH (aD bN (pv 10) ak) ak (aH _))))) (ah (cN (aD bt (a9 (aZ hr) (pv 0) aI (λ_ _=>rfl)) ak) (eh (pv 0) aI (set_dict (aZ hr))))
   (aj (cN (a9 (aZ hr) (pv 0) aI (λ_ _=>rfl)) (eh (a9 (aZ hr) (pv 3) (pv 5) (λ_ _=>rfl)) (aD bZ (pv 10) ak) (set_dict (aZ hr)))))) aG)))))))))))))))))
   (aj (aF mZ))))),?_]
  show share (λσ H1=>bh H H1/\σ=[some (.ref m.md),some (.ref d),some (.ref m.lr),some (.ref m.ls),none,none,none,none,none,none,none]) (λu' as=>?A) ?B
  case A =>
   show#[0,m.md,.ref m.lr,rfl,M.g (wq _ _ _ _),0,m.md,.ref m.ls,rfl,M.g (Kj _ _ _ _),by change 2<=sizeLine;decide,λtp bv=>?_];show#[tp,0,cy.of ae,5,0,_,0,rfl,as _ _ #[Tb.ar bv,rfl]]
  case B =>
  rintro σ H0 ⟨s0,rfl⟩;have cP:H0 d=some (.tup (xw D)):=s0 _ _ hd.1;show share (λσ H1=>bh H H1/\σ=[some (.ref m.md),some (.ref d),some (.ref m.lr),some (.ref m.ls),some (.str (DQ D)),some (.int (Dk D)),none,none,none,none,none]) (λu' as=>?A2) ?B2
  case A2 =>
   show#[0,0,d,0,cy.of cP,λc=>?_,λ_ p hp=>?_]
   .show#[d,0,cy.of cP,by rw[zb c];rfl,by rw[zb c];show#[_,0,_,0,rfl,as _ _ #[s0,rfl]]]
   .rw[B7];show#[p,0,cy.of ae,5,0,_,0,rfl,as _ _ #[s0.trans (Tb.ar hp),rfl]]
  case B2 =>
  rintro σ H1 ⟨s1,rfl⟩;have M1:=M.same s1;have aB:H1 d=some (.tup (xw D)):=s1 _ _ hd.1;show share (λσ H2=>Bb λ(pk':Int) (Z':Zs)=>xU (cA H2 m bF pk' Z') (0<=pk'/\∀cv,Ct H Z cv->Ct H2 Z' (oV D cv)/\Hg D cv H H2 .non) (uc m H Z H2 Z') (Z'.length<=Z.length+1) (tF D (hZ Z) (hZ Z')) (vV 0 (λv=>v≠0) D (eZ Z) (eZ Z'))) (λu' as=>?A3) ?B3
  case B3 =>
   rintro σ H2 ⟨pk',Z',a1,a2,a3,a4,a5,a6⟩;show k H2 pk' Z' .non a1 a2 a3 a4 a5 a6
  case A3 =>
  show J8 ?_;dsimp only;have zo:∀{b},H b=none->H1 b=none->True:=λ_ _=>trivial;cases D with
  |begin t =>
   show fY λ_ _ N J=>?_;show eqT (bD rfl) bE rfl (eL (N _ _ _ ?_));clear N J;have fi:Tb.look Z t=none:=fi;intro I h1 L h2;have bb:L≠I:=λe=>(by rw[e,ae]at h2;cases h2);have d8:H1 L=none:=(by rw[ag bb]at h2;show h2);have sA:=(Tb.ar (X:=.dK []) h1).trans (Tb.ar (X:=.dK []) h2);have e1:upd (upd H1 I (.dK [])) L (.dK []) I=some (.dK []):=(by rw[ag (G0 bb),ae]);have e2:upd (upd H1 I (.dK [])) L (.dK []) L=some (.dK []):=ae;generalize upd (upd H1 I (.dK [])) L (.dK [])=H2 at *;show#[by change 2<=sizeLine;decide,λtp bv=>?_];have sB:=Tb.ar (X:=.tup [.ref I,.ref L]) bv;show#[tp,0,cy.of ae,5,0,?_];have M3:=(M1.same sA).same sB;have e1:=sB _ _ e1;have e2:=sB _ _ e2;have S3:=s1.trans (sA.trans sB);generalize upd H2 tp (.tup [.ref I,.ref L])=H3 at *;show#[0,0,m.lr,0,gB.k (k:=Sum.inl t) M3.hr (by rw[Tb.bW];omega),?_];rw[show(V.ref I)=gk #[I,L,[]]from rfl,Tb.cF (f:=gk) fi];show#[_,0,0,0,m.ls,0,gB.k (k:=Sum.inl t) (by rw[ag (G0 M3.n3.2.2)];show M3.hs) (by rw[Tb.bW];omega),4];rw[show(V.ref L)=sh #[I,L,[]]from rfl,Tb.cF (f:=sh) fi];have oC:Off (λb=>b=m.lr\/b=m.ls) H3 (upd (upd H3 m.lr (.dK (Tb.dk gk (Z++[(t,#[I,L,[]])])))) m.ls (.dK (Tb.dk sh (Z++[(t,#[I,L,[]])])))):=λb o e w=>(by rw[ag (λy=>w (.inr y)),ag (λy=>w (.inl y))];show e);have bI:∀{b},H b=none->b≠m.lr/\b≠m.ls:=λh=>#[(λe=>by rw[e,M.hr]at h;cases h),(λe=>by rw[e,M.hs]at h;cases h)];have f1:H I=none:=s1.free h1;have f2:H L=none:=s1.free d8;have M4:cA (upd (upd H3 m.lr (.dK (Tb.dk gk (Z++[(t,#[I,L,[]])])))) m.ls (.dK (Tb.dk sh (Z++[(t,#[I,L,[]])])))) m bF pk (Z++[(t,#[I,L,[]])]):=
    M.add fi (λb o e w=>oC b o (S3 b o e) w) (by rw[ag M.n3.2.2,ae]) ae (oC _ _ e1 λw=>w.elim (bI f1).1 (bI f1).2) (oC _ _ e2 λw=>w.elim (bI f2).1 (bI f2).2) (λy G=>by cases G) MN (λy G=>by cases G) f1 f2 (G0 bb)
   show as _ _ #[pk,_,M4,#[p0,λcv C=>#[C.keep (λa xs e=>oC a _ (S3 a _ e) (λw=>by rcases w with w|w;rw[w,M.hr]at e;cases e;rw[w,M.hs]at e;cases e)) (λt' q a h=>by rw[rL fi]at h;by_cases c:t'=t;rw[Q0 c]at h;cases h;rw[QZ c]at h;show h),trivial]],#[λb o e w=>oC b o (S3 b o e) λy=>w (y.elim (λy=>.inr (.inl y)) λy=>.inr (.inr (.inl y))),λb w=>?_],by rw[Li];show HC _,λt'=>?_,λt' q=>?_]
   .rcases w with w|w|w|⟨x,hx,w⟩
    .show .inl (.inl w)
    .show .inl (.inr (.inl w))
    .show .inl (.inr (.inr (.inl w)))
    .rcases List.mem_append.mp hx with hx|hx
     .show .inl (.inr (.inr (.inr #[x,hx,w])))
     .rw[List.mem_singleton.mp hx]at w;rcases w with w|w|⟨y,G,_⟩
      .rw[w];show .inr f1
      .rw[w];show .inr f2
      .cases G
   .unfold hZ;rw[Tb.br t' fi];by_cases c:t'=t
    .rw[Q0 c,decide_eq_true c];rfl
    .rw[QZ c,decide_eq_false c];rfl
   .unfold eZ;rw[Tb.br t' fi];by_cases c:t'=t
    .rw[Q0 c,Q0 c];rfl
    .rw[QZ c,QZ c]
  |close t =>
   show fY λ_ _ N J=>?_;show eM (bD rfl) bE rfl bX (bJ (J _ _ _ ?_));clear N J;show fY λ_ _ N J=>?_;show eqT (bD rfl) bE rfl (eL (N _ _ _ ?_));clear N J;let#[z,O]:=fi;show#[0,m.lr,rfl,.inl #[_,.inl M1.hr],0,_,Sum.inl t,gk z,M1.hr,rfl,by rw[Tb.cK,O];rfl,?_];rw[Tb.eJ];show#[0,m.ls,rfl,.inl #[_,.inl (by rw[ag (G0 M1.n3.2.2)];show M1.hs)],0,_,Sum.inl t,sh z,by rw[ag (G0 M1.n3.2.2)];show M1.hs,rfl,by rw[Tb.cK,O];rfl,?_];rw[Tb.eJ];have oC:Off (λb=>b=m.lr\/b=m.ls) H1 (upd (upd H1 m.lr (.dK (Tb.dk gk (Tb.bg Z t)))) m.ls (.dK (Tb.dk sh (Tb.bg Z t)))):=λb o e w=>(by rw[ag (λy=>w (.inr y)),ag (λy=>w (.inl y))];show e);have M4:=M1.del (t:=t) oC (by rw[ag M.n3.2.2,ae]) ae;show as _ _ #[pk,_,M4,#[p0,λcv C=>#[C.keep (λa xs e=>oC a _ (s1 a _ e) (λw=>by rcases w with w|w;rw[w,M.hr]at e;cases e;rw[w,M.hs]at e;cases e)) (λt' q a h=>by rw[Fc]at h;by_cases c:t'=t;rw[Q0 c]at h;cases h;rw[QZ c]at h;show h),trivial]],#[λb o e w=>oC b o (s1 b o e) λy=>w (y.elim (λy=>.inr (.inl y)) λy=>.inr (.inr (.inl y))),λb w=>.inl ?_],Ly (Nq _ _) (ON _),λt'=>?_,λt' q=>?_]
   .rcases w with w|w|w|⟨x,hx,w⟩
    .show .inl w
    .show .inr (.inl w)
    .show .inr (.inr (.inl w))
    .show .inr (.inr (.inr #[x,(Tb.cf hx).1,w]))
   .unfold hZ;rw[Tb.cj];by_cases c:t'=t
    .rw[Q0 c,decide_eq_false (λy=>y c)];rfl
    .rw[QZ c,decide_eq_true c];rfl
   .unfold eZ;rw[Tb.cj];by_cases c:t'=t
    .rw[Q0 c,Q0 c];rfl
    .rw[QZ c,QZ c]
  |map t p mm =>
   show fY λ_ _ N J=>?_;show eM (bD rfl) bE rfl bX (bJ (J _ _ _ ?_));clear N J;show fY λ_ _ N J=>?_;show eM (bD rfl) bE rfl bX (bJ (J _ _ _ ?_));clear N J;show fY λ_ _ N J=>?_;show eqT (bD rfl) bE rfl (eL (N _ _ _ ?_));clear N J;let#[z,O,bc,d6,_]:=fi;have ab:=Tb.ay O;have b1:¬ mm<1:=λw=>bc (.inl w);have b2:¬ p<0:=λw=>bc (.inr (.inl w));have b3:¬ 64<p+mm:=λw=>bc (.inr (.inr w));show#[0,d,2,.int p,1,cy.of aB,rfl,0,d,2,.int p,1,cy.of aB,rfl,0,d,2,.int mm,1,cy.of aB,5,0,5,0,#[af,af,af,af],?_];show kr (lo:=p) (n:=(p+mm-p).toNat) (λi σ H2=>Bb λ(v6:Option V) (pl:List (Int×Addr×Int))=>xU (σ=[some (.ref m.md),some (.ref d),some (.ref m.lr),some (.ref m.ls),some (.str "map"),some (.int t),v6,none,none,none,none]) (cA H2 m bF pk (Tb.aU Z t #[z.ra,z.sa,pl])) ((∀q,(Tb.look pl q).map (·.2)=if p<=q/\q<p+(i:Int)then some 0 else(Tb.look z.pl q).map (·.2))) ((∀y∈pl,y∈z.pl\/H y.2.1=none)) (Off (cY m Z) H H2) ((∀b,H2 b=none->H b=none)/\∀cv,Ct H Z cv->Ct H2 (Tb.aU Z t #[z.ra,z.sa,pl]) (CM cv t p i))) #[_,z.pl,rfl,by rw[yk M.nd O];show M1,λq=>by rw[QZ af],λy G=>.inl G,λb o e _=>s1 b o e,λb e=>s1.free e,λcv C=>by rw[Aa,yk M.nd O];show C.keep (λa xs e=>s1 _ _ e) λ_ _ _ h=>h] ?_ ?_
   .rintro i σ H2 hi ⟨v6,pl,rfl,M2,am,bd,o2,bC,S⟩;have ap:=zR (y:=(#[z.ra,z.sa,pl]:MT)) O;have R:=Tb.ay ap;have cr:p+(i:Int)∈Rm.aN p mm:=by
     unfold Rm.aN;show List.mem_map.mpr #[i,List.mem_range.mpr af,rfl]
    have bz:Tb.look pl (p+(i:Int))=none:=by
     have:=am (p+(i:Int));rw[QZ af,d6 _ cr]at this;show Option.map_eq_none_iff.mp this
    have b7:=M2.len R;show#[av,λl1 dm=>?_];show#[l1,(8),0,rfl,ae,af,af,by rw[Mb];omega,λl2 cC=>?_];have sA:=(Tb.ar (X:=.lst [V.int 0]) dm).trans (Tb.ar (X:=.lst ((replicate (8:Int).toNat [V.int 0]).flatten)) cC);have f2:H2 l2=none:=(Tb.ar (X:=.lst [V.int 0]) dm).free cC;have e2:upd (upd H2 l1 (.lst [V.int 0])) l2 (.lst ((replicate (8:Int).toNat [V.int 0]).flatten)) l2=some (.lst ((replicate 8 (0:Int)).map V.int)):=ae;generalize upd (upd H2 l1 (.lst [V.int 0])) l2 (.lst ((replicate (8:Int).toNat [V.int 0]).flatten))=H3 at *;show#[by change 2<=sizeLine;decide,λtp bv=>?_];have sB:=Tb.ar (X:=.tup [.ref l2,.int 0]) bv;show#[tp,0,cy.of ae,5,0,?_];have M4:=(M2.same sA).same sB;have S4:=sA.trans sB;have e4:=sB _ _ e2;generalize upd H3 tp (.tup [.ref l2,.int 0])=H4 at *;show#[0,0,m.lr,0,du M4.hr ap,0,z.ra,0,gB.k (k:=Sum.inl (p+(i:Int))) (M4.rm _ R) (by rw[Tb.bW];have:pl.length<=64:=b7;change pl.length<_;omega),?_];have e5:putK (Tb.dk eS pl) (Sum.inl (p+(i:Int))) (.ref l2)=Tb.dk eS (pl++[(p+(i:Int),(l2,0))]):=Tb.cF (f:=eS) (a:=(l2,0)) bz;have e6:putK (Tb.dk oz pl) (Sum.inl (p+(i:Int))) (.int 0)=Tb.dk oz (pl++[(p+(i:Int),(l2,0))]):=Tb.cF (f:=oz) (a:=(l2,0)) bz;have dz:=M.d3 _ ab;have aT:=M.rs _ ab _ ab;change AG _ _ _ _ (upd H4 z.ra (.dK (putK (Tb.dk eS pl) (Sum.inl (p+(i:Int))) (.ref l2)))) _;rw[e5];have o5:Off (· = z.ra) H4 (upd H4 z.ra (.dK (Tb.dk eS (pl++[(p+(i:Int),(l2,0))])))):=Off.wr rfl;show#[_,0,0,0,m.ls,0,du (o5 _ _ M4.hs (G0 dz.2.2.1)) ap,0,z.sa,0,gB.k (k:=Sum.inl (p+(i:Int))) (o5 _ _ (M4.st _ R) (G0 aT)) (by rw[Tb.bW];have:pl.length<=64:=b7;change pl.length<_;omega),4];have o6:Off (λb=>b=m.md\/b=z.ra\/b=z.sa) H4 (upd (upd H4 z.ra (.dK (Tb.dk eS (pl++[(p+(i:Int),(l2,0))])))) z.sa (.dK (putK (Tb.dk oz pl) (Sum.inl (p+(i:Int))) (.int 0)))):=λb o e w=>(by rw[ag (λy=>w (.inr (.inr y))),ag (λy=>w (.inr (.inl y)))];show e);have M7:=M4.EA (pk':=pk) (pl:=pl++[(p+(i:Int),(l2,0))]) ap o6 (by rw[ag (G0 dz.2.2.2.1),ag (G0 dz.1)];show M4.hm) (by change upd _ z.sa _ z.ra=_;rw[ag aT,ae]) (by change upd _ z.sa _ z.sa=_;rw[ae,e6]) (λy G=>by
      rcases List.mem_append.mp G with G|G
      .let#[ns,c1,S]:=M4.cl _ R y G;show#[ns,o6 _ _ c1 (λw=>by
        rcases w with w|w|w
        .rw[w,M4.hm]at c1;cases c1
        .rw[w,M4.rm _ R]at c1;cases c1
        .rw[w,M4.st _ R]at c1;cases c1),S]
      .rw[List.mem_singleton.mp G];show#[replicate 8 0,o6 _ _ e4 (λw=>by
        have w:l2=m.md\/l2=z.ra\/l2=z.sa:=w;rcases w with w|w|w
        .rw[w,M4.hm]at e4;cases e4
        .rw[w,M4.rm _ R]at e4;cases e4
        .rw[w,M4.st _ R]at e4;cases e4),by simp]) (by rw[Ln];show fQ (M2.np _ R) (Tb.bP bz)) (λy G=>by
      rcases List.mem_append.mp G with G|G
      .show M2.rg _ R y G
      .rw[List.mem_singleton.mp G];change 0<=p+(i:Int)/\p+(i:Int)<64;omega)
    rw[BC]at M7;show#[_,pl++[(p+(i:Int),(l2,0))],rfl,M7,λq=>?_,λy G=>?_,λb o e w=>o6 b o (S4 b o (o2 b o e w)) λy=>w ?_,λb e=>bC b (S4.free (cz (cz e).2).2),λcv C=>?_]
    .rw[Tb.br q bz];by_cases c:q=p+(i:Int)
     .rw[Q0 c,Q0 (by rw[c];omega)];rfl
     .rw[QZ c,am q];by_cases S:p<=q/\q<p+(i:Int)
      .rw[Q0 S,Q0 af]
      .rw[QZ S,QZ af]
    .rcases List.mem_append.mp G with G|G
     .show bd y G
     .rw[List.mem_singleton.mp G];show .inr (bC l2 f2)
    .rcases y with y|y|y
     .show .inl y
     .show .inr (.inr (.inr #[_,ab,.inl y]))
     .show .inr (.inr (.inr #[_,ab,.inr (.inl y)]))
    .rw[Bx];show(S cv C).new t (λt' q=>?_) (o6 _ _ e4 (λw=>by
      rcases w with w|w|w
      .rw[w,M4.hm]at e4;cases e4
      .rw[w,M4.rm _ R]at e4;cases e4
      .rw[w,M4.st _ R]at e4;cases e4)) f2 (λa xs e=>by
      have e:=S4 _ _ e;show o6 a _ e (λw=>?_);rcases w with w|w|w
      .rw[w,M4.hm]at e;cases e
      .rw[w,M4.rm _ R]at e;cases e
      .rw[w,M4.st _ R]at e;cases e)
     rw[kg O,kg O];by_cases c:t'=t
     .rw[Q0 c,Q0 c];change(Tb.look (pl++[(p+(i:Int),(l2,0))]) q).map (·.1)=_;rw[Tb.br q bz];by_cases c3:q=p+(i:Int)
      .rw[Q0 c3,Q0 #[c,c3]];rfl
      .rw[QZ c3,QZ (λh=>c3 h.2)]
     .rw[QZ c,QZ c,QZ (λh=>c h.1)]
   .rintro σ H2 ⟨v6,pl,rfl,M2,am,bd,o2,bC,S⟩;show as _ _ #[pk,_,M2,#[p0,λcv C=>#[by rw[show oV (.map t p mm) cv=CM cv t p (p+mm-p).toNat from Cw.symm];show S cv C,trivial]],#[o2,mR O λy G=>(bd y G).imp (λh=>#[y,h,rfl]) id],by rw[Tb.gK];omega,vT O,λt' q=>?_];rw[uD O];have bx:q∈Rm.aN p mm↔(p<=q/\q<p+((p+mm-p).toNat:Int)):=by
     unfold Rm.aN;rw[QM];constructor
     .rintro⟨j,hj,rfl⟩;have:=List.mem_range.mp hj;omega
     .intro h;show#[(q-p).toNat,List.mem_range.mpr af,af]
    by_cases c:t'=t
    .rw[Q0 c,am q];by_cases S:q∈Rm.aN p mm
     .rw[Q0 (bx.mp S),Q0 #[c,S]]
     .rw[QZ (λh=>S (bx.mpr h)),QZ (λh=>S h.2),c,wY O]
    .rw[QZ c,QZ (λh=>c h.1)]
  |drop t p mm =>
   show fY λ_ _ N J=>?_;show eM (bD rfl) bE rfl bX (bJ (J _ _ _ ?_));clear N J;show fY λ_ _ N J=>?_;show eM (bD rfl) bE rfl bX (bJ (J _ _ _ ?_));clear N J;show fY λ_ _ N J=>?_;show eM (bD rfl) bE rfl bX (bJ (J _ _ _ ?_));clear N J;show fY λ_ _ N J=>?_;show eqT (bD rfl) bE rfl (eL (N _ _ _ ?_));clear N J;let#[z,O,bc,eb]:=fi;have ab:=Tb.ay O;have b1:¬ mm<1:=λw=>bc (.inl w);have b2:¬ p<0:=λw=>bc (.inr (.inl w));have b3:¬ 64<p+mm:=λw=>bc (.inr (.inr w));show#[0,d,2,.int p,1,cy.of aB,rfl,0,d,2,.int p,1,cy.of aB,rfl,0,d,2,.int mm,1,cy.of aB,5,0,5,0,#[af,af,af,af],?_];show kr (lo:=p) (n:=(p+mm-p).toNat) (λi σ H2=>Bb λ(v6:Option V) (pl:List (Int×Addr×Int))=>xU (σ=[some (.ref m.md),some (.ref d),some (.ref m.lr),some (.ref m.ls),some (.str "drop"),some (.int t),v6,none,none,none,none]) (cA H2 m bF pk (Tb.aU Z t #[z.ra,z.sa,pl])) ((∀q,(Tb.look pl q).map (·.2)=if p<=q/\q<p+(i:Int)then none else(Tb.look z.pl q).map (·.2))) ((∀y∈pl,y∈z.pl\/H y.2.1=none)) (Off (cY m Z) H H2) (∀cv,Ct H Z cv->Ct H2 (Tb.aU Z t #[z.ra,z.sa,pl]) cv)) #[_,z.pl,rfl,by rw[yk M.nd O];show M1,λq=>by rw[QZ af],λy G=>.inl G,λb o e _=>s1 b o e,λcv C=>by rw[yk M.nd O];show C.keep (λa xs e=>s1 _ _ e) λ_ _ _ h=>h] ?_ ?_
   .rintro i σ H2 hi ⟨v6,pl,rfl,M2,am,bd,o2,S⟩;have ap:=zR (y:=(#[z.ra,z.sa,pl]:MT)) O;have R:=Tb.ay ap;have cr:p+(i:Int)∈Rm.aN p mm:=by
     unfold Rm.aN;show List.mem_map.mpr #[i,List.mem_range.mpr af,rfl]
    obtain⟨y,G⟩:∃y,Tb.look pl (p+(i:Int))=some y:=by
     have h1:=am (p+(i:Int));rw[QZ af]at h1;cases e:Tb.look pl (p+(i:Int))with
     |some y=>show#[y,rfl]
     |none =>
      rw[e]at h1;show absurd (Option.map_eq_none_iff.mp h1.symm) (eb _ cr)
    have dz:=M.d3 _ ab;have aT:=M.rs _ ab _ ab;show#[0,0,m.lr,0,du M2.hr ap,z.ra,rfl,.inl #[_,.inl (M2.rm _ R)],0,_,Sum.inl (p+(i:Int)),eS y,M2.rm _ R,rfl,by rw[Tb.cK,G];rfl,?_];rw[Tb.eJ];have o5:Off (· = z.ra) H2 (upd H2 z.ra (.dK (Tb.dk eS (Tb.bg pl (p+(i:Int)))))):=Off.wr rfl;have h5:=o5 _ _ (M2.st _ R) (G0 aT);show#[0,0,m.ls,0,du (o5 _ _ M2.hs (G0 dz.2.2.1)) ap,z.sa,rfl,.inl #[_,.inl h5],0,_,Sum.inl (p+(i:Int)),oz y,h5,rfl,by rw[Tb.cK,G];rfl,?_];rw[Tb.eJ];have o6:Off (λb=>b=m.md\/b=z.ra\/b=z.sa) H2 (upd (upd H2 z.ra (.dK (Tb.dk eS (Tb.bg pl (p+(i:Int)))))) z.sa (.dK (Tb.dk oz (Tb.bg pl (p+(i:Int)))))):=λb o e w=>(by rw[ag (λy=>w (.inr (.inr y))),ag (λy=>w (.inr (.inl y)))];show e);have M7:=M2.EA (pk':=pk) (pl:=Tb.bg pl (p+(i:Int))) ap o6 (by rw[ag (G0 dz.2.2.2.1),ag (G0 dz.1)];show M2.hm) (by change upd _ z.sa _ z.ra=_;rw[ag aT,ae]) (by change upd _ z.sa _ z.sa=_;rw[ae]) (λy G=>by
      let#[ns,c1,S]:=M2.cl _ R y (Tb.cf G).1;show#[ns,o6 _ _ c1 (λw=>by
        rcases w with w|w|w
        .rw[w,M2.hm]at c1;cases c1
        .rw[w,M2.rm _ R]at c1;cases c1
        .rw[w,M2.st _ R]at c1;cases c1),S]) (Tb.nG (M2.np _ R)) (λy G=>M2.rg _ R y (Tb.cf G).1)
    rw[BC]at M7;show#[_,Tb.bg pl (p+(i:Int)),rfl,M7,λq=>?_,λy G=>bd y (Tb.cf G).1,λb o e w=>o6 b o (o2 b o e w) λy=>w ?_,λcv C=>(S cv C).keep (λa xs e=>?_) λt' q' a h=>?_]
    .rw[Tb.cj];by_cases c:q=p+(i:Int)
     .rw[Q0 c,Q0 (by rw[c];omega)];rfl
     .rw[QZ c,am q];by_cases S:p<=q/\q<p+(i:Int)
      .rw[Q0 S,Q0 af]
      .rw[QZ S,QZ af]
    .rcases y with y|y|y
     .show .inl y
     .show .inr (.inr (.inr #[_,ab,.inl y]))
     .show .inr (.inr (.inr #[_,ab,.inr (.inl y)]))
    .show o6 a _ e (λw=>?_);rcases w with w|w|w
     .rw[w,M2.hm]at e;cases e
     .rw[w,M2.rm _ R]at e;cases e
     .rw[w,M2.st _ R]at e;cases e
    .rw[kg O]at h ⊢;by_cases c:t'=t
     .rw[Q0 c]at h ⊢;have h:(Tb.look (Tb.bg pl (p+(i:Int))) q').map (·.1)=some a:=h;rw[Tb.cj]at h;by_cases c3:q'=p+(i:Int)
      .rw[Q0 c3]at h;cases h
      .rw[QZ c3]at h;show h
     .rw[QZ c]at h ⊢;show h
   .rintro σ H2 ⟨v6,pl,rfl,M2,am,bd,o2,bC⟩;show as _ _ #[pk,_,M2,#[p0,λcv C=>#[bC cv C,trivial]],#[o2,mR O λy G=>(bd y G).imp (λh=>#[y,h,rfl]) id],by rw[Tb.gK];omega,vT O,λt' q=>?_];rw[uD O];have bx:q∈Rm.aN p mm↔(p<=q/\q<p+((p+mm-p).toNat:Int)):=by
     unfold Rm.aN;rw[QM];constructor
     .rintro⟨j,hj,rfl⟩;have:=List.mem_range.mp hj;omega
     .intro h;show#[(q-p).toNat,List.mem_range.mpr af,af]
    by_cases c:t'=t
    .rw[Q0 c,am q];by_cases S:q∈Rm.aN p mm
     .rw[Q0 (bx.mp S),Q0 #[c,S]]
     .rw[QZ (λh=>S (bx.mpr h)),QZ (λh=>S h.2),c,wY O]
    .rw[QZ c,QZ (λh=>c h.1)]
  |copy t o =>
   show fY λ_ _ N J=>?_;show eM (bD rfl) bE rfl bX (bJ (J _ _ _ ?_));clear N J;show fY λ_ _ N J=>?_;show eM (bD rfl) bE rfl bX (bJ (J _ _ _ ?_));clear N J;show fY λ_ _ N J=>?_;show eM (bD rfl) bE rfl bX (bJ (J _ _ _ ?_));clear N J;show fY λ_ _ N J=>?_;show eM (bD rfl) bE rfl bX (bJ (J _ _ _ ?_));clear N J;show fY λ_ _ N J=>?_;show eqT (bD rfl) bE rfl (eL (N _ _ _ ?_));clear N J;let#[z,O,eo,_]:=fi;have ab:=Tb.ay O;have dz:=M.d3 _ ab;have aT:=M.rs _ ab _ ab;have ej:t≠o:=λe=>(by rw[e,eo]at O;cases O);show#[0,0,m.ls,0,du M1.hs O,z.sa,0,M1.st _ ab,λL h2=>?_];have f2:H L=none:=s1.free h2;have sA:=Tb.ar (X:=.dK (Tb.dk oz z.pl)) h2;have e2:upd H1 L (.dK (Tb.dk oz z.pl)) L=some (.dK (Tb.dk oz z.pl)):=ae;have M2:=M1.same sA;have S2:=s1.trans sA;have ei:=sA _ _ aB;generalize upd H1 L (.dK (Tb.dk oz z.pl))=H2 at *;show#[0,0,d,2,.int o,1,cy.of ei,rfl,m.ls,0,gB.k (k:=Sum.inl o) M2.hs (by rw[Tb.bW];omega),?_];rw[show(V.ref L)=sh #[L,L,[]]from rfl,Tb.cF (f:=sh) eo,lR];change jG _ _ _ _ (upd H2 m.ls (.dK (Tb.dk sh Z++[(Sum.inl o,V.ref L)])));have o3:Off (· = m.ls) H2 (upd H2 m.ls (.dK (Tb.dk sh Z++[(Sum.inl o,V.ref L)]))):=Off.wr rfl;have c5:upd H2 m.ls (.dK (Tb.dk sh Z++[(Sum.inl o,V.ref L)])) m.ls=some (.dK (Tb.dk sh Z++[(Sum.inl o,V.ref L)])):=ae;generalize upd H2 m.ls (.dK (Tb.dk sh Z++[(Sum.inl o,V.ref L)]))=H3 at *;have da:L≠m.ls:=λe=>(by rw[e,M.hs]at f2;cases f2);have dV:L≠m.lr:=λe=>(by rw[e,M.hr]at f2;cases f2);have ec:∀{b kvs},H b=some (.dK kvs)->b≠m.ls->H3 b=some (.dK kvs):=λe n=>o3 _ _ (S2 _ _ e) n;have d4:∀{b xs},H b=some (.tup xs)->H3 b=some (.tup xs):=λe=>o3 _ _ (S2 _ _ e) (λw=>by rw[w,M.hs]at e;cases e);have fa:∀{b xs},H b=some (.lst xs)->H3 b=some (.lst xs):=λe=>o3 _ _ (S2 _ _ e) (λw=>by rw[w,M.hs]at e;cases e);intro I h1;have f1:H I=none:=by
    cases e:H I with
    |none=>rfl
    |some u =>
     by_cases w:I=m.ls
     .rw[w,c5]at h1;cases h1
     .rw[o3 _ _ (S2 _ _ e) w]at h1;cases h1
   have bb:I≠L:=λe=>(by rw[e,o3 _ _ e2 da]at h1;cases h1);have b5:I≠m.lr:=λe=>(by rw[e,M.hr]at f1;cases f1);have cS:I≠m.ls:=λe=>(by rw[e,M.hs]at f1;cases f1);have ev:upd H3 I (.dK []) m.lr=some (.dK (Tb.dk gk Z)):=(by rw[ag (G0 b5)];show ec M.hr M.n3.2.2);show#[0,0,d,2,.int o,1,cy.of (Tb.ar h1 _ _ (d4 hd.1)),rfl,m.lr,0,gB.k (k:=Sum.inl o) ev (by rw[Tb.bW];omega),?_];rw[show(V.ref I)=gk #[I,L,[]]from rfl,Tb.cF (f:=gk) eo];have o5:Off (λb=>b=m.lr\/b=m.ls) H (upd (upd H3 I (.dK [])) m.lr (.dK (Tb.dk gk (Z++[(o,#[I,L,[]])])))):=λb u e w=>by
    rw[ag (λy=>w (.inl y)),ag (aq e f1)];show o3 _ _ (S2 _ _ e) λy=>w (.inr y)
   have dI:upd (upd H3 I (.dK [])) m.lr (.dK (Tb.dk gk (Z++[(o,#[I,L,[]])]))) m.lr=some (.dK (Tb.dk gk (Z++[(o,#[I,L,[]])]))):=ae;have dO:upd (upd H3 I (.dK [])) m.lr (.dK (Tb.dk gk (Z++[(o,#[I,L,[]])]))) m.ls=some (.dK (Tb.dk sh Z++[(Sum.inl o,V.ref L)])):=(by rw[ag (G0 M.n3.2.2),ag (G0 cS)];show c5);have ef:upd (upd H3 I (.dK [])) m.lr (.dK (Tb.dk gk (Z++[(o,#[I,L,[]])]))) I=some (.dK []):=(by rw[ag b5,ae]);have dL:upd (upd H3 I (.dK [])) m.lr (.dK (Tb.dk gk (Z++[(o,#[I,L,[]])]))) L=some (.dK (Tb.dk oz z.pl)):=(by rw[ag dV,ag (G0 bb)];show o3 _ _ e2 da);generalize upd (upd H3 I (.dK [])) m.lr (.dK (Tb.dk gk (Z++[(o,#[I,L,[]])])))=H5 at *;have bl:∀{b},b≠m.lr->b≠m.ls->¬ (b=m.lr\/b=m.ls):=λa b w=>w.elim a b;have hn:∀(ob:Obj) u',H z.ra≠some (.cH ob u'):=λob u' w=>(by rw[M.rm _ ab]at w;cases w);have eN:Tb.look (Z++[(o,(#[I,L,[]]:MT))]) t=some z:=(by rw[Tb.br t eo,QZ ej];show O);have ep:Tb.look (Z++[(o,(#[I,L,[]]:MT))]) o=some #[I,L,[]]:=(by rw[Tb.br o eo,Q0 rfl]);have eP:=o5 _ _ (M.rm _ ab) (bl dz.2.1 dz.2.2.1);show#[0,0,m.lr,0,du dI eN,z.ra,0,eP,hn,λob=>?_];have b0:I≠z.ra:=λe=>(by rw[e,M.rm _ ab]at f1;cases f1);have dj:L≠z.ra:=λe=>(by rw[e,M.rm _ ab]at f2;cases f2);have oF:Off (· = z.ra) H5 (upd H5 z.ra (.cH ob (.dK (Tb.dk eS z.pl)))):=Off.wr rfl;have hF:upd H5 z.ra (.cH ob (.dK (Tb.dk eS z.pl))) z.ra=some (.cH ob (.dK (Tb.dk eS z.pl))):=ae;have b4:=oF _ _ ef b0;have dM:=oF _ _ dL dj;have b6:=oF _ _ dI (G0 dz.2.1);have dp:=oF _ _ dO (G0 dz.2.2.1);have ce:=oF _ _ (o5 _ _ hd.1 (bl (λw=>by have:=hd.1;rw[w,M.hr]at this;cases this) (λw=>by have:=hd.1;rw[w,M.hs]at this;cases this))) (λw=>by have:=hd.1;rw[w,M.rm _ ab]at this;cases this);have c9:∀{b},upd H5 z.ra (.cH ob (.dK (Tb.dk eS z.pl))) b=none->H b=none:=λ{b} e=>by
    cases e2:H b with
    |none=>rfl
    |some u =>
     exfalso;by_cases w1:b=z.ra
     .rw[w1,hF]at e;cases e
     .by_cases w2:b=m.lr
      .rw[w2,b6]at e;cases e
      .by_cases w3:b=m.ls
       .rw[w3,dp]at e;cases e
       .rw[oF _ _ (o5 _ _ e2 (bl w2 w3)) w1]at e;cases e
   have eH:∀y∈z.pl,∃ns:List Int,upd H5 z.ra (.cH ob (.dK (Tb.dk eS z.pl))) y.2.1=some (.lst (ns.map V.int))/\ns.length=8:=λy G=>by
    let#[ns,c1,S]:=M.cl _ ab y G;show#[ns,oF _ _ (o5 _ _ c1 (bl (λw=>by rw[w,M.hr]at c1;cases c1) (λw=>by rw[w,M.hs]at c1;cases c1))) (λw=>by rw[w,M.rm _ ab]at c1;cases c1),S]
   have OF:∀b u,H b=some u->b≠m.lr->b≠m.ls->b≠z.ra->upd H5 z.ra (.cH ob (.dK (Tb.dk eS z.pl))) b=some u:=λb u e a1 a2 a3=>oF _ _ (o5 _ _ e (bl a1 a2)) a3;generalize upd H5 z.ra (.cH ob (.dK (Tb.dk eS z.pl)))=HF at *;have bn:(z.pl.map (·.1)).Nodup:=M.np _ ab;show pH (a:=z.ra) (o:=ob) (kvs:=Tb.dk eS z.pl) (λi σ H6=>IT λ(v6 v7:Option V) (pl:List (Int×Addr×Int))=>FD (σ=[some (.ref m.md),some (.ref d),some (.ref m.lr),some (.ref m.ls),some (.str "copy"),some (.int t),v6,v7,none,none,none]) (H6 I=some (.dK (Tb.dk eS pl))) ((pl.map λy=>(y.1,y.2.2))=((z.pl.take i).map λy=>(y.1,y.2.2))) ((∀y∈pl,(∃ns:List Int,H6 y.2.1=some (.lst (ns.map V.int))/\ns.length=8)/\HF y.2.1=none)) (Off (· = I) HF H6/\(pl.map (·.2.1)).Nodup/\∀cv,Ct H Z cv->∀u∈pl,H6 u.2.1=some (.lst ((cv t u.1).map V.int))))
    #[2,[],rfl,b4,rfl,(λy G=>by cases G),λ_ _ e _=>e,MN,λcv C u Y=>by cases Y] (λi σ H6 _ z0=>by let#[_,_,_,_,_,_,_,o6]:=z0;show o6.1 _ _ hF (G0 b0)) ?_ ?_
   .rintro i kk v σ H6 T' hk hT ⟨v6,v7,pl,rfl,ci,a7,bi,o6,cx,ch⟩;have df:(z.pl.map λx:Int×Addr×Int=>((Sum.inl x.1:Key),eS x.2))[i]?=some (kk,v):=hk;rw[K4]at df;let#[y,G,e]:=Option.map_eq_some_iff.mp df;cases e;have c4:=Ld G;let#[hi,e0]:=List.getElem?_eq_some_iff.mp G;have b7:z.pl.length<=64:=M.len ab;have e9:pl.length=i:=by
     have:=congrArg List.length a7;rw[BY,BY,Lp]at this;omega
    have ee:Tb.look pl y.1=none:=by
     cases e:Tb.look pl y.1 with
     |none=>rfl
     |some u =>
      exfalso;have h1:(y.1,u.2)∈pl.map λy=>(y.1,y.2.2):=List.mem_map.mpr #[_,Tb.ay e,rfl];rw[a7]at h1;let#[y',h2,h3]:=List.mem_map.mp h1;let#[j,hj,e3]:=Mo h2;rw[NK]at e3;rw[Lp]at hj;show mW bn j i (a:=y'.1) (b:=y.1) ?_ ?_ af (Ol h3).1
      .rw[K4,Lb af,e3];rfl
      .rw[K4,G];rfl
    let#[ns,c1,S]:=eH y c4;have ek:y.2.1≠I:=λw=>(by rw[w,b4]at c1;cases c1);have sT:=Tb.ar (X:=.tup [kV (Sum.inl y.1),eS y.2]) hT;show#[T',[.int y.1,.ref y.2.1],rfl,cy.of ae,5,0,_,0,4];have c7:=sT _ _ (o6 _ _ c1 ek);have bY:=sT _ _ ci;have eq:=sT _ _ (o6 _ _ b6 (G0 b5));have ey:=sT _ _ (o6 _ _ ce (λw=>by rw[w,b4]at ce;cases ce));have O7:Off (· = I) HF (upd H6 T' (.tup [kV (Sum.inl y.1),eS y.2])):=λb u e w=>sT _ _ (o6 _ _ e w);have C7:∀u∈pl,(∃ns:List Int,upd H6 T' (.tup [kV (Sum.inl y.1),eS y.2]) u.2.1=some (.lst (ns.map V.int))/\ns.length=8)/\HF u.2.1=none:=λu Y=>by
     let#[#[ba,a1,a2],a3]:=bi u Y;show#[#[ba,sT _ _ a1,a2],a3]
    have em:∀cv,Ct H Z cv->(∀u∈pl,upd H6 T' (.tup [kV (Sum.inl y.1),eS y.2]) u.2.1=some (.lst ((cv t u.1).map V.int)))/\ns.map V.int=(cv t y.1).map V.int:=λcv C=>by
     show#[λu Y=>sT _ _ (ch cv C u Y),?_];have e:=C.at_ t y.1 y.2.1 (by rw[AW O,Tb.bK bn c4];rfl);have e2:=OF _ _ e (λw=>by rw[w,M.hr]at e;cases e) (λw=>by rw[w,M.hs]at e;cases e) (λw=>by rw[w,M.rm _ ab]at e;cases e);show HO.lst.inj (Option.some.inj (c1.symm.trans e2))
    generalize upd H6 T' (.tup [kV (Sum.inl y.1),eS y.2])=H7 at *;show#[0,y.2.1,0,.inl (bA.of c7),λl hl=>?_];have sL:=Tb.ar (X:=.lst (ns.map V.int)) hl;have ca:HF l=none:=by
     cases e:HF l with
     |none=>rfl
     |some u =>
      by_cases w:l=I
      .rw[w,bY]at hl;cases hl
      .rw[O7 _ _ e w]at hl;cases hl
    have dl:l≠I:=λw=>(by rw[w,b4]at ca;cases ca);show#[0,0,d,2,.int o,1,cy.of (sL _ _ ey),rfl,m.lr,0,du (sL _ _ eq) ep,0,I,0,gB.k (k:=Sum.inl y.1) (sL _ _ bY) (by rw[Tb.bW];omega),?_];have e8:putK (Tb.dk eS pl) (Sum.inl y.1) (.ref l)=Tb.dk eS (pl++[(y.1,(l,y.2.2))]):=Tb.cF (f:=eS) (a:=(l,y.2.2)) ee;show#[2,pl++[(y.1,(l,y.2.2))],rfl,by rw[<-e8];show ae,?_,λu Y=>?_,λb u e w=>by rw[ag w];show sL _ _ (O7 _ _ e w),?_,λcv C u Y=>?_]
    .rw[Ln,a7,Mp,G,Ln];rfl
    .rcases List.mem_append.mp Y with Y|Y
     .let#[#[ba,a1,a2],a3]:=C7 u Y;show#[#[ba,by rw[ag (λw=>by rw[w,bY]at a1;cases a1)];show sL _ _ a1,a2],a3]
     .rw[List.mem_singleton.mp Y];show#[#[ns,by change upd _ I _ l=_;rw[ag dl,ae],S],ca]
    .rw[Ln];show fQ cx (λm'=>?_);let#[u,Y,e]:=List.mem_map.mp m';let#[#[ba,a1,_],_]:=C7 u Y;rw[e,hl]at a1;cases a1
    .let#[g1,g2]:=em cv C;rcases List.mem_append.mp Y with Y|Y
     .have a1:=g1 u Y;rw[ag (λw=>by rw[w,bY]at a1;cases a1)];show sL _ _ a1
     .rw[List.mem_singleton.mp Y];change upd _ I _ l=_;rw[ag dl,ae];show congrArg (λx=>some (HO.lst x)) g2
   .rintro σ H6 ⟨v6,v7,pl,rfl,ci,a7,bi,o6,cx,ch⟩;rw[Tb.bW,Mq]at a7;show#[z.ra,ob,_,o6 _ _ hF (G0 b0),hn,?_];have o7:Off (λb=>b=m.lr\/b=m.ls) H (upd H6 z.ra (.dK (Tb.dk eS z.pl))):=λb u e w=>by
     by_cases w1:b=z.ra
     .rw[w1,ae, <-e,w1,M.rm _ ab]
     .rw[ag w1];show o6 _ _ (OF b u e (λy=>w (.inl y)) (λy=>w (.inr y)) w1) (aq e f1)
    have dd:(pl.map (·.1))=z.pl.map (·.1):=by
     have:=congrArg (List.map (·.1)) a7;rw[Me,Me]at this;show this
    have M8:cA (upd H6 z.ra (.dK (Tb.dk eS z.pl))) m bF pk (Z++[(o,#[I,L,pl])]):=M.add (z:=#[I,L,pl]) eo o7
     (by rw[ag (G0 dz.2.1),lR];rw[lR]at b6;show o6 _ _ b6 (G0 b5))
     (by rw[ag (G0 dz.2.2.1),lR];show o6 _ _ dp (G0 cS))
     (by change upd H6 z.ra _ I=_;rw[ag b0];show ci)
     (by change upd H6 z.ra _ L=_;rw[ag dj,o6 _ _ dM (G0 bb),Hv a7])
     (λy G=>by
      let#[#[ba,a1,a2],a3]:=bi y G;show#[ba,by rw[ag (λw=>by rw[w,hF]at a3;cases a3)];show a1,a2])
     (by rw[dd];show bn)
     (λy G=>by
      have h1:y.1∈pl.map (·.1):=List.mem_map.mpr #[y,G,rfl];rw[dd]at h1;let#[y',h2,h3]:=List.mem_map.mp h1;rw[<-h3];show M.rg _ ab y' h2) f1 f2 bb
    show as _ _ #[pk,_,M8,#[p0,λcv C=>#[C.Kf eo (λu Y=>#[by rw[ag (λw=>by have:=(bi u Y).2;rw[w,hF]at this;cases this)];show ch cv C u Y,c9 (bi u Y).2]) cx (λa xs e=>o7 a _ e (λw=>by rcases w with w|w;rw[w,M.hr]at e;cases e;rw[w,M.hs]at e;cases e)),trivial]],#[λb u e w=>o7 b u e λy=>w (y.elim (λy=>.inr (.inl y)) λy=>.inr (.inr (.inl y))),λb w=>?_],by rw[Li];show HC _,λt'=>?_,λt' q=>?_]
    .rcases w with w|w|w|⟨x,hx,w⟩
     .show .inl (.inl w)
     .show .inl (.inr (.inl w))
     .show .inl (.inr (.inr (.inl w)))
     .rcases List.mem_append.mp hx with hx|hx
      .show .inl (.inr (.inr (.inr #[x,hx,w])))
      .rw[List.mem_singleton.mp hx]at w;rcases w with w|w|⟨y,G,w⟩
       .rw[w];show .inr f1
       .rw[w];show .inr f2
       .rw[w];show .inr (c9 (bi y G).2)
    .unfold hZ;rw[Tb.br t' eo];by_cases c:t'=o
     .rw[Q0 c,decide_eq_true c];rfl
     .rw[QZ c,decide_eq_false c];rfl
    .unfold eZ;rw[Tb.br t' eo];by_cases c:t'=o
     .rw[Q0 c,Q0 c,O];change(Tb.look pl q).map (·.2)=(Tb.look z.pl q).map (·.2);have h1:=kh (λx:Addr×Int=>x.2) q pl;have h2:=kh (λx:Addr×Int=>x.2) q z.pl;rw[<-h1, <-h2];change Tb.look (pl.map λy=>(y.1,y.2.2)) q=Tb.look (z.pl.map λy=>(y.1,y.2.2)) q;rw[a7]
     .rw[QZ c,QZ c]
  |poke t ad c cs =>
   show fY λ_ _ N J=>?_;show eM (bD rfl) bE rfl bX (bJ (J _ _ _ ?_));clear N J;show fY λ_ _ N J=>?_;show eM (bD rfl) bE rfl bX (bJ (J _ _ _ ?_));clear N J;show fY λ_ _ N J=>?_;show eM (bD rfl) bE rfl bX (bJ (J _ _ _ ?_));clear N J;show fY λ_ _ N J=>?_;show eM (bD rfl) bE rfl bX (bJ (J _ _ _ ?_));clear N J;show fY λ_ _ N J=>?_;show eM (bD rfl) bE rfl bX (bJ (J _ _ _ ?_));clear N J;show fY λ_ _ N J=>?_;show eM (bD rfl) bE rfl bX (bJ (J _ _ _ ?_));clear N J;let#[z,O,fc,ew]:=fi;let#[eC,a0,a1,n1]:=d9 _ _ _ _ rfl;have ab:=Tb.ay O;have db:=s1 _ _ (hd.2 _ _ _ _ rfl);have dz:=M.d3 _ ab;have aT:=M.rs _ ab _ ab;have bn:¬ cY m Z d:=λw=>by
    rcases M1.alive d w with⟨_,e⟩|⟨_,e⟩
    .rw[aB]at e;cases e
    .rw[aB]at e;cases e
   show#[0,d,2,.ref c,1,cy.of aB,rfl,c,rfl,#[_,bA.of db],?_];show zL (K:=K) (a:=c) (xs:=cs.map V.int) (λi σ H2=>BX λ(v8 v9 b9:Option V) (ac:Int) (pl:List (Int×Addr×Int))=>IL (σ=[some (.ref m.md),some (.ref d),some (.ref m.lr),some (.ref m.ls),some (.str "poke"),some (.int t),none,none,v8,v9,b9]) (cA H2 m bF ac (Tb.aU Z t #[z.ra,z.sa,pl])) (0<=ac) ((pl.map λy=>(y.1,y.2.1))=(z.pl.map λy=>(y.1,y.2.1))) ((∀q,(∃j:Nat,j<i/\(ad+j)/8=q)->∃v,(Tb.look pl q).map (·.2)=some v/\v≠0)) ((∀q,(¬ ∃j:Nat,j<i/\(ad+j)/8=q)->(Tb.look pl q).map (·.2)=(Tb.look z.pl q).map (·.2))) (Off (cY m Z) H1 H2/\∀cv,Ct H Z cv->Ct H2 (Tb.aU Z t #[z.ra,z.sa,pl]) (DZ cv t ad (cs.take i))))
    #[2,_,pk,z.pl,rfl,by rw[yk M.nd O];show M1,p0,rfl,λq ⟨j,h,_⟩=>af,λ_ _=>rfl,λ_ _ e _=>e,λcv C=>by
     rw[yk M.nd O];show(C.keep (λa xs e=>s1 _ _ e) (λ_ _ _ h=>h)).congr λt' q a h=>?_;unfold DZ;by_cases U:t'=t
     .rw[Q0 U,Po,U,BL (C.FY M (by rw[<-U];show h))]
     .rw[QZ U]] (λi σ H2 _ z0=>by let#[_,_,_,_,_,_,_,_,_,_,_,o2]:=z0;show bA.of (o2.1 _ _ db eC)) ?_ ?_
   .rintro i x σ H2 T' hx hT ⟨v8,v9,b9,ac,pl,rfl,M2,p2,be,am,bm,o2,S⟩;have hi:i<cs.length:=(by simpa using(List.getElem?_eq_some_iff.mp hx).1);rw[K4]at hx;let#[cell,el,rfl]:=Option.map_eq_some_iff.mp hx;have ap:=zR (y:=(#[z.ra,z.sa,pl]:MT)) O;have R:=Tb.ay ap;have sT:=Tb.ar (X:=.tup [.int i,.int cell]) hT;have M3:=M2.same sT;show#[T',[.int i,.int cell],rfl,cy.of ae,5,0,_,0,4];have d7:=sT _ _ (o2 _ _ aB bn);have c3:∀cv,Ct H Z cv->Ct (upd H2 T' (.tup [.int i,.int cell])) (Tb.aU Z t #[z.ra,z.sa,pl]) (DZ cv t ad (cs.take i)):=λcv C=>(S cv C).keep (λa xs e=>sT _ _ e) λ_ _ _ h=>h;have O3:Off (cY m Z) H1 (upd H2 T' (.tup [.int i,.int cell])):=λb o e w=>sT _ _ (o2 _ _ e w);generalize upd H2 T' (.tup [.int i,.int cell])=H3 at *;show#[0,d,2,.int ad,1,cy.of d7,rfl,0,_,0,4];obtain⟨y,G⟩:∃y,Tb.look pl ((ad+(i:Int))/8)=some y:=by
     cases e:Tb.look pl ((ad+(i:Int))/8)with
     |some y=>show#[y,rfl]
     |none=>show absurd ((pQ be _).mp e) (ew i hi)
    let#[ns,c1,S]:=M3.cl _ R _ (Tb.ay G);have c1:H3 y.1=some (.lst (ns.map V.int)):=c1;have hj:xu (ns.map V.int).length ((ad+(i:Int))%8)=some ((ad+(i:Int))%8).toNat:=by
     unfold xu;rw[BY,Q0 af,Q0 af]
    show#[0,0,0,m.lr,0,du M3.hr ap,0,_,0,rfl,#[av,av],z.ra,0,du (M3.rm _ R) G,0,_,0,rfl,(by change(0:Int)<8;decide),y.1,2,0,rfl,c1,hj,?_];rw[<-QL];have M4:=M3.Ej c1 (ns':=ns.set ((ad+(i:Int))%8).toNat cell) (by rw[LR];show S);obtain⟨y',dT,ea⟩:∃y'∈z.pl,y'.2.1=y.1:=by
     have h1:((ad+(i:Int))/8,y.1)∈pl.map λy=>(y.1,y.2.1):=List.mem_map.mpr #[_,Tb.ay G,rfl];rw[be]at h1;let#[y',h2,h3]:=List.mem_map.mp h1;show#[y',h2,(Ol h3).2]
    have O4:Off (cY m Z) H1 (upd H3 y.1 (.lst ((ns.set ((ad+(i:Int))%8).toNat cell).map V.int))):=λb o e w=>by
     rw[ag (λh=>w (.inr (.inr (.inr #[_,ab,.inr (.inr #[y',dT,h.trans ea.symm])]))))];show O3 b o e w
    have c6:eA (Tb.aU Z t #[z.ra,z.sa,pl]) t ((ad+(i:Int))/8)=some y.1:=by
     rw[kg O,Q0 rfl];change(Tb.look pl ((ad+(i:Int))/8)).map (·.1)=some y.1;rw[G];rfl
    have C4:∀cv,Ct H Z cv->Ct (upd H3 y.1 (.lst ((ns.set ((ad+(i:Int))%8).toNat cell).map V.int))) (Tb.aU Z t #[z.ra,z.sa,pl]) (DZ cv t ad (cs.take (i+1))):=λcv C=>by
     have D:=c3 cv C;have en:ns=DZ cv t ad (cs.take i) t ((ad+(i:Int))/8):=nu (HO.lst.inj (Option.some.inj (c1.symm.trans (D.at_ _ _ _ c6))));have et:cs.take (i+1)=cs.take i++[cell]:=(by rw[Mp,el];rfl);have lt:(cs.take i).length=i:=(by rw[Lp];omega);show(D.cell (r:=ns.set ((ad+(i:Int))%8).toNat cell) c6).congr λt' q a _=>?_;unfold DZ at en ⊢;rw[Q0 rfl]at en;by_cases U:t'=t
     .rw[Q0 U,Q0 U,et,yr,lt];by_cases cq:q=(ad+(i:Int))/8
      .rw[Q0 #[U,cq],Q0 cq.symm,en,cq]
      .rw[QZ (λh=>cq h.2),QZ (G0 cq)]
     .rw[QZ (λh=>U h.1),QZ U,QZ U]
    generalize upd H3 y.1 (.lst ((ns.set ((ad+(i:Int))%8).toNat cell).map V.int))=H4 at *;dsimp only;show BP λQ N J=>?_;show#[0,rfl,0,?_];have cT:∀Hx,Hx=H4->Q true Hx:=λHx ex=>by
     subst ex;show N _ ?_;show#[0,m.md,.int ac,rfl,M4.g (IH _ _ _ _),_,0,rfl,0,m.md,0,gB.k (k:=Sum.inr "pokes") M4.hm (by change 4<sizeLine;omega),?_];dsimp only;rw[CK];have o5:Off (· = m.md) Hx (upd Hx m.md (.dK (ox m.lr m.ls bF (ac+1)))):=Off.wr rfl;have g5:dB (upd Hx m.md (.dK (ox m.lr m.ls bF (ac+1)))) m.md (.str "pokes") (some (.int (ac+1))):=by
      have q:=dB.k (k:=Sum.inr "pokes") (H:=upd Hx m.md (.dK (ox m.lr m.ls bF (ac+1)))) ae;rw[IH]at q;show q
     show#[0,m.md,.int (ac+1),rfl,g5,0,0,m.ls,0,du (o5 _ _ M4.hs (G0 M.n3.2.1)) ap,0,_,0,rfl,#[av,av],z.sa,0,gB.k (k:=Sum.inl ((ad+(i:Int))/8)) (o5 _ _ (M4.st _ R) dz.2.2.2.1) (by rw[Tb.bW];have:pl.length<=64:=M2.len R;change pl.length<_;omega),?_];have e6:putK (Tb.dk oz pl) (Sum.inl ((ad+(i:Int))/8)) (.int (ac+1))=Tb.dk oz (Tb.aU pl ((ad+(i:Int))/8) (y.1,ac+1)):=Tb.iC (f:=oz) (a:=(y.1,ac+1)) G;have e7:Tb.dk eS (Tb.aU pl ((ad+(i:Int))/8) (y.1,ac+1))=Tb.dk eS pl:=Tb.rR (f:=eS) (a:=(y.1,ac+1)) (b:=y) (M2.np _ R) G rfl;have o6:Off (λb=>b=m.md\/b=z.ra\/b=z.sa) Hx (upd (upd Hx m.md (.dK (ox m.lr m.ls bF (ac+1)))) z.sa (.dK (putK (Tb.dk oz pl) (Sum.inl ((ad+(i:Int))/8)) (.int (ac+1))))):=λb o e w=>(by rw[ag (λy=>w (.inr (.inr y))),ag (λy=>w (.inl y))];show e);have M7:=M4.EA (pk':=ac+1) (pl:=Tb.aU pl ((ad+(i:Int))/8) (y.1,ac+1)) ap o6 (by rw[ag (G0 dz.2.2.2.1),ae]) (by change upd _ z.sa _ z.ra=_;rw[ag aT,ag dz.1,e7];show M4.rm _ R) (by change upd _ z.sa _ z.sa=_;rw[ae,e6]) (λu Y=>by
       have d5:∃u'∈pl,u'.2.1=u.2.1:=by
        rcases Tb.mem_set Y with rfl|⟨Y,_⟩
        .show#[_,Tb.ay G,rfl]
        .show#[u,Y,rfl]
       let#[u',h1,h2]:=d5;let#[ba,I,L]:=M4.cl _ R u' h1;rw[<-h2];show#[ba,o6 _ _ I (λw=>by
        rcases w with w|w|w
        .rw[w,M4.hm]at I;cases I
        .rw[w,M4.rm _ R]at I;cases I
        .rw[w,M4.st _ R]at I;cases I),L]) (by rw[Tb.fN];show M2.np _ R) (λu Y=>by
       rcases Tb.mem_set Y with rfl|⟨Y,_⟩
       .have h9:=M2.rg _ R ((ad+(i:Int))/8,y) (Tb.ay G);show h9
       .show M2.rg _ R u Y)
     rw[BC]at M7;show#[2,_,ac+1,Tb.aU pl ((ad+(i:Int))/8) (y.1,ac+1),rfl,M7,af,?_,λq hq=>?_,λq hq=>?_,λb o e w=>o6 b o (O4 b o e w) λu=>w ?_,λcv C=>(C4 cv C).keep (λa xs e=>?_) λt' q a h=>?_]
     .rw[<-be];unfold Tb.aU;rw[Me];show Mx λu Y=>?_;change((if u.1=(ad+(i:Int))/8 then((ad+(i:Int))/8,(y.1,ac+1))else u).1,(if u.1=(ad+(i:Int))/8 then((ad+(i:Int))/8,(y.1,ac+1))else u).2.1)=(u.1,u.2.1);by_cases U:u.1=(ad+(i:Int))/8
      .have h1:=Tb.bK (M2.np _ R) Y;rw[U,G]at h1;rw[Q0 U, <-U,Option.some.inj h1]
      .rw[QZ U]
     .rw[Tb.bO q G];by_cases U:q=(ad+(i:Int))/8
      .rw[Q0 U];show#[ac+1,rfl,af]
      .rw[QZ U];let#[j,h1,h2]:=hq;show am q #[j,?_,h2];by_cases b8:j=i
       .subst b8;show absurd h2.symm U
       .omega
     .rw[Tb.bO q G,QZ (λU=>hq #[i,Nat.lt_succ_self _,U.symm])];show bm q λ⟨j,h1,h2⟩=>hq #[j,NT h1,h2]
     .rcases u with u|u|u
      .show .inl u
      .show .inr (.inr (.inr #[_,ab,.inl u]))
      .show .inr (.inr (.inr #[_,ab,.inr (.inl u)]))
     .show o6 a _ e (λw=>?_);rcases w with w|w|w
      .rw[w,M4.hm]at e;cases e
      .rw[w,M4.rm _ R]at e;cases e
      .rw[w,M4.st _ R]at e;cases e
     .rw[kg O]at h ⊢;by_cases U:t'=t
      .rw[Q0 U]at h ⊢;have h:(Tb.look (Tb.aU pl ((ad+(i:Int))/8) (y.1,ac+1)) q).map (·.1)=some a:=h;change(Tb.look pl q).map (·.1)=some a;rw[Tb.bO q G]at h;by_cases cq:q=(ad+(i:Int))/8
       .rw[Q0 cq]at h;rw[cq,G];show h
       .rw[QZ cq]at h;show h
      .rw[QZ U]at h ⊢;show h
    show gf (λ_=>cT _ rfl) (λc0=>?_);show#[0,_,0,rfl,(by change(0:Int)<8;decide),rfl,0,?_];show sY (λ_=>cT _ rfl) (λc8=>J _ ?_);have c0:¬ ((i:Nat):Int)=0:=λh=>c0 (by rw[h];simp);have c8:¬ (ad+(i:Int))%8=0:=λh=>c8 (decide_eq_true (show V.int ((ad+(i:Int))%8)=V.int 0 by rw[h]));show#[2,_,ac,pl,rfl,M4,p2,be,λq ⟨j,h1,h2⟩=>?_,λq hq=>bm q λ⟨j,h1,h2⟩=>hq #[j,NT h1,h2],O4,C4];by_cases b8:j=i
    .subst b8;show am q #[j-1,af,af]
    .show am q #[j,af,h2]
   .rintro σ H2 ⟨v8,v9,b9,ac,pl,rfl,M2,p2,be,am,bm,o2,S⟩;rw[BY]at am bm S;have eX:∀y∈pl,(∃y'∈z.pl,y.2.1=y'.2.1)\/H y.2.1=none:=λy G=>by
     have h1:(y.1,y.2.1)∈pl.map λy=>(y.1,y.2.1):=List.mem_map.mpr #[y,G,rfl];rw[be]at h1;let#[y',h2,h3]:=List.mem_map.mp h1;show .inl #[y',h2,(Ol h3).2.symm]
    show as _ _ #[ac,_,M2,#[p2,λcv C=>#[(S cv C).congr (λt' q a h=>by
     rw[Mq];change DZ cv t ad cs t' q=tW cv t ad cs t' q;unfold DZ tW;by_cases U:t'=t
     .rw[Q0 U];by_cases cm:q∈Rm.au ad cs.length
      .rw[Q0 #[U,cm]]
      .rw[QZ (λh=>cm h.2),U];rw[U,kg O,Q0 rfl]at h;let#[u,Y,_]:=Option.map_eq_some_iff.mp h;have Y:Tb.look pl q=some u:=Y;cases e5:Tb.look z.pl q with
       |none=>rw[(pQ be q).mpr e5]at Y;cases Y
       |some u'=>show xY (C.FY M (a:=u'.1) (by rw[AW O,e5];rfl)) cm
     .rw[QZ U,QZ (λh=>U h.1)]),trivial]],#[λb o e w=>o2 b o (s1 b o e) w,mR O eX],by rw[Tb.gK];omega,vT O,λt' q=>?_]
    rw[uD O];by_cases U:t'=t
    .by_cases S:q∈Rm.au ad cs.length
     .rw[Q0 #[U,S],Q0 U];show am q (eD.mp S)
     .rw[QZ (λh=>S h.2),Q0 U,bm q (λh=>S (eD.mpr h)),U,wY O]
    .rw[QZ (λh=>U h.1),QZ U]
end
structure xK (c:CA) (H:Hp) (M:Addr->Prop) (a:RA) (m:MA) (nf ns k:Nat) (s:Pg.PS) (cv:Int->Int->List Int) (pk:Int) (W:dv) (Z:Zs):Prop where
 R:az c H M a s W
 ri:Pg.RI s (ents W)
 cv:Cv s W cv
 D:cA H m (bF s) pk Z
 p0:0<=pk
 sp:∀b,cY m Z b->M b/\¬ a.own W b
 tw:Tw W Z
 lf:(s.ow true).length=nf
 ls:(s.ow false).length=ns
 zn:Z≠[]
 lw:W.length<=k
 lz:Z.length<=k
section
variable {c:CA}{H H' H2:Hp}{M M':Addr->Prop}{a:RA}{m:MA}{nf ns k:Nat}{s s':Pg.PS}{cv:Int->Int->List Int}{pk tt:Int}{W W':dv}{Z Z':Zs}
theorem xK.same (S:xK c H M a m nf ns k s cv pk W Z) (e:bh H H'):xK c H' M a m nf ns k s cv pk W Z:=#[S.R.same e,S.ri,S.cv,S.D.same e,S.p0,S.sp,S.tw,S.lf,S.ls,S.zn,S.lw,S.lz]
theorem q8 (R:az c H M a s W) (D:cA H m tt pk Z) (sp:∀b,cY m Z b->M b/\¬ a.own W b) {pk':Int}(I:cA H' m tt pk' Z') (st:uc m H Z H' Z') :
  az c H' (λb=>(M b/\¬ cY m Z b)\/cY m Z' b) a s W/\∀b,cY m Z' b->((M b/\¬ cY m Z b)\/cY m Z' b)/\¬ a.own W b:=by
 show#[R.D8 (B:=cY m Z) st.1 sp D.alive (λb z=>z.elim (λz=>.inl z.1) λz=>(st.2 b z).elim (λz=>.inl (sp b z).1) .inr) (λb z w=>.inl #[z,w]) (λb z e=>?_),λb z=>#[.inr z,?_]]
 .rcases z with z|z
  .cases G:H b with
   |none=>show R.mt b z.1 G
   |some u=>rw[st.1 b u G z.2]at e;cases e
  .rcases I.alive b z with⟨_,h⟩|⟨_,h⟩
   .rw[e]at h;cases h
   .rw[e]at h;cases h
 .rcases st.2 b z with z|z
  .show(sp b z).2
  .show λw=>R.mt b (R.dw b w) z
theorem mx (D:cA H m tt pk Z) (sp:∀b,cY m Z b->M b/\¬ a.own W b) (st:Step H M (a.own W) H' M' (a.own W')):cA H' m tt pk Z/\∀b,cY m Z b->M' b/\¬ a.own W' b:=by
 show#[D.off st.off λb z=>(sp b z).2,λb z=>#[st.mm b (sp b z).1 (sp b z).2,λw=>?_]];rcases st.on b w with w|w
 .show(sp b z).2 w
 .rcases D.alive b z with⟨_,h⟩|⟨_,h⟩
  .rw[w]at h;cases h
  .rw[w]at h;cases h
theorem jz {α L:Type}{l:List (Int×α)}{G:List (Int×L)}(O:(l.map (·.1)).Nodup) (N:(G.map (·.1)).Nodup) (h:∀q,Tb.look l q=none↔Tb.look G q=none):(l.map (·.1)).Perm (G.map (·.1)):=by
 have I:∀{J:Type}{l:List (Int×J)}{q:Int},q∈l.map (·.1)↔¬ Tb.look l q=none:=λ{J l q}=>#[λh e=>Tb.bP e h,λh=>by
  cases e:Tb.look l q with
  |none=>show absurd e h
  |some a=>show List.mem_map.mpr #[_,Tb.ay e,rfl]]
 rw[List.perm_ext_iff_of_nodup O N];intro q;rw[I,I,h q]
theorem Tw.look (T:Tw W Z) (t:Int):Tb.look W t=none↔Tb.look Z t=none:=by
 have h:=T.h t;unfold hW hZ at h;cases I:Tb.look W t with
 |none=>cases G:Tb.look Z t with
  |none=>show#[λ_=>rfl,λ_=>rfl]
  |some z=>rw[I,G]at h;cases h
 |some x=>cases G:Tb.look Z t with
  |none=>rw[I,G]at h;cases h
  |some z=>show#[nofun,nofun]
theorem Tw.yf (T:Tw W Z) {t:Int}{x:TD}{z:MT}(J:Tb.look W t=some x) (L:Tb.look Z t=some z) (q:Int):Tb.look x.t q=none↔Tb.look z.pl q=none:=by
 have h:=T.e t q;rw[xM J,wY L]at h;cases I:Tb.look x.t q with
 |none=>cases G:Tb.look z.pl q with
  |none=>show#[λ_=>rfl,λ_=>rfl]
  |some z=>rw[I,G]at h;cases h
 |some x=>cases G:Tb.look z.pl q with
  |none=>rw[I,G]at h;cases h
  |some z=>show#[nofun,nofun]
theorem Tw.get (T:Tw W Z) {t:Int}{z:MT}(G:Tb.look Z t=some z):∃x,Tb.look W t=some x:=by
 cases e:Tb.look W t with
 |some x=>show#[x,rfl]
 |none=>rw[(T.look t).mp e]at G;cases G
theorem AK {l G:List Int}(p:l.Perm G):l.sum=G.sum:=by
 induction p with
 |nil=>rfl
 |cons x _ J=>rw[MV,MV,J]
 |swap x y l=>rw[MV,MV,MV,MV];lia
 |trans _ _ L I=>show L.trans I
theorem Tw.len (T:Tw W Z) (R:az c H M a s W) (D:cA H m tt pk Z) {t:Int}{x:TD}{z:MT}(I:Tb.look W t=some x) (G:Tb.look Z t=some z):x.t.length=z.pl.length:=by
 have:=(jz (R.tb _ (Tb.ay I)).nd (D.np _ (Tb.ay G)) (T.yf I G)).length_eq;rw[BY,BY]at this;show this
theorem Tw.held (T:Tw W Z) (R:az c H M a s W) (D:cA H m tt pk Z):mY Z=((ents W).length:Int):=by
 rw[<-ml];have p:=(jz R.nd D.nd T.look).symm;have q:=AK (p.map λt:Int=>(((Tb.look W t).map λx=>(x.t.length:Int)).getD 0));rw[Me,Me]at q;unfold mY heldW;rw[show(Z.map λx=>(x.2.pl.length:Int))=Z.map ((λt:Int=>(((Tb.look W t).map λx=>(x.t.length:Int)).getD 0))∘(·.1))from Mx λx G=>by
  have J:=Tb.bK D.nd G;let#[y,I]:=T.get J;change((x.2.pl.length:Nat):Int)=(((Tb.look W x.1).map λx=>(x.t.length:Int)).getD 0);rw[I, <-T.len R D I J];rfl]
 rw[q];show congrArg List.sum (Mx λx G=>?_);change(((Tb.look W x.1).map λx=>(x.t.length:Int)).getD 0)=(x.2.t.length:Int);rw[Tb.bK R.nd G];rfl
theorem wI {x:TD}{z:MT}{ad:Int}{n:Nat}(N:∀q,Tb.look x.t q=none↔Tb.look z.pl q=none) (S:0<=ad) (h:BU z.pl ad n):¬ Rm.dn ad n (x.t.map (·.1)):=by
 let#[h1,h2]:=h;rintro(w|⟨w,G⟩)
 .lia
 .rcases G with G|G
  .unfold Rm.bU Rm.jJ Rm.iT at G;lia
  .show G λq L=>?_;have R:q∈Rm.au ad n:=by
    unfold Rm.au;rw[QZ af];show L
   let#[j,O,e]:=eD.mp R;have J:=h2 j O;rw[e]at J;cases I:Tb.look x.t q with
   |none=>show absurd ((N q).mp I) J
   |some v=>show List.mem_map.mpr #[_,Tb.ay I,rfl]
theorem Ec (T:Tw W Z) (R:az c H M a s W) (D:cA H m tt pk Z) {Dd:Dd}(ok:zr Dd) (f:Dp Z (bF s) Dd):D9 W (bF s) Dd:=by
 have O:=T.held R D;cases Dd with
 |begin t =>
  cases e:Tb.look W t with
  |none=>show e
  |some x =>
   have:=T.h t;unfold hW hZ at this;rw[e,show Tb.look Z t=none from f]at this;cases this
 |close t=>let#[z,G]:=f;show T.get G
 |map t p S =>
  let#[z,G,J,L,U]:=f;let#[x,I]:=T.get G;show#[x,I,J,λq N=>(T.yf I G q).mpr (L q N),by rw[<-O];show U]
 |drop t p S =>
  let#[z,G,J,L]:=f;let#[x,I]:=T.get G;show#[x,I,J,λq N w=>L q N ((T.yf I G q).mp w)]
 |poke t ad Y cs =>
  let#[z,G,J]:=f;let#[x,I]:=T.get G;show#[x,I,wI (T.yf I G) ok.1 J,ok.1,ok.2.1,ok.2.2.2]
 |copy t o =>
  let#[z,G,J,L]:=f;let#[x,I]:=T.get G;show#[x,I,(T.look o).mpr J,by rw[<-O,T.len R D I G];show L]
end
inductive rh (c:CA) (vs:List V) (H:Hp) (Q:VK) (e3:XK):Prop
 |mk (n:Int) (_:vs=[.int n]) (_:∀(H':Hp) (t:Addr) (M:Addr->Prop) (a:RA) (m:MA) (s:Pg.PS) (cv:Int->Int->List Int) (pk:Int) (W:dv) (Z:Zs),bh H H'->xK c H' M a m (ou n) (pO n) 1 s cv pk W Z->Ct H' Z cv->(∀b,M b->H b=none)->H' t=some (.tup [.ref a.rp,.ref m.md])->Q (.ref t) H'):rh c vs H Q e3
section
variable {P:IF}{w:Ll}{K:PySem.W.Frag}{mg:Str->Option Value}{base:Heap}
theorem AV:aC ["_law_m","_law_frames","_law_slots","_law_kept","_law_model_here"] ["_law_m"] (aw vZ):=L2.bG
theorem zH {f ap:Addr}{fd aB:GX}{c:CA}(F:cM K "_law_begun" "_law_begun" vZ f fd) (TR:pb K mg c) (MK:Jg P w K mg base c) (MR:Mk K c.C ap) (bb:mg "Rooms" = some (.ref c.C)) (bc:Df P w K mg base aS 1 "_law_sizes" qS) (a4:a8 P w K mg base aS 5 ap aB ["self","frames","slots"] (rG c)) (bl:Binds K aB ["self","frames","slots"] []) (a0:Df P w K mg base aS 1 "_law_model" qO) (aT:Df P w K mg base aS 1 "_law_done" oi):a8 P w K mg base aS 7 f fd ["_law_m"] (rh c):=by
 show F.ok AV (λvs H Q E h=>?_) (λbz A outer s H vs Q E I h=>?_)
 .let#[n,rfl,_]:=h;rfl
 .let#[n,rfl,k]:=h;have hs:sizeLine=16777216:=Lh;let#[_,f2,bv]:=wD n;let#[_,bn]:=vS n;show#[_,(ah (cN (pc bc I ax (aa (pv 0) ai)) (dE rfl (bf (aY (i:=1) AV.nd rfl (Lc rfl)) (bf (aY (i:=2) AV.nd rfl (Lc rfl)) cV))))
   (ah (aO (i:=3) AV.nd rfl (Lc rfl) (lL MR a4 (I.mono av) (by rfl) bb bl .nil ax (aa (pv 1) (aa (pv 2) ai))))
   (ah (aO (i:=4) AV.nd rfl (Lc rfl) (pc a0 I ax (aa (aD bt (pv 1) (pv 2)) ai)))
   (ah (aM (pm (pv 3) TR.cl MK.Kw I ax (aa ak ai)))
   (ah (aM (pc aT I ax (aa (pv 4) (aa (cR (aa aI (aa ak ai))) ai))))
   (aj (aF (cR (aa (pv 3) (aa (pv 4) ai)))))))))),?_]
  show#[0,n,rfl,λH1 t1 s1 bC a7=>#[t1,0,cy.of a7,5,0,_,0,4]];show#[0,0,λrp dx np bm bx=>#[rp,dx,ou n,pO n,rfl,af,by omega +splitNatSub,af,ae,λH2 M a ea R fr o2=>#[4]]];have s2:bh H1 H2:=λb u e=>o2 b u (by rw[ag (aq e np),ag (aq e bm)];show e) (aq e np);have as:∀b,M b->H b=none:=λb z=>s1.free (cz (cz (fr b z)).2).2;clear o2 fr;rw[<-ea];have et:bF (s0 (ou n) (pO n))=((ou n:Nat):Int)+((pO n:Nat):Int):=by
   unfold bF;rw[show((s0 (ou n) (pO n)).ow true).length=ou n from LW,show((s0 (ou n) (pO n)).ow false).length=pO n from LW];lia
  show#[0,0,_,0,rfl,0,λH3 m s3 g1 g2 g3 Y=>?_];rw[<-et]at Y;have L:=s1.trans s2;have ba:∀b,cY m [] b->H3 b≠none:=λb z e=>by
   rcases Y.alive b z with⟨_,h⟩|⟨_,h⟩
   .rw[e]at h;cases h
   .rw[e]at h;cases h
  have O:∀b,cY m [] b->H2 b=none:=λb z=>by
   rcases z with z|z|z|⟨x,G,_⟩
   .rw[z];show g1
   .rw[z];show g2
   .rw[z];show g3
   .cases G
  have S:=R.D8 (H':=H3) (B:=λ_=>False) (M':=λb=>M b\/cY m [] b) (λb o e _=>s3 b o e) (λb z=>z.elim) (λb z=>z.elim) (λb z=>z.elim .inl λz=>.inr (O b z)) (λb z _=>.inl z) (λb z e=>z.elim (λz=>(R.same s3).mt b z e) λz=>ba b z e);have be:∀b,cY m [] b->(M b\/cY m [] b)/\¬ a.own [] b:=λb z=>#[.inr z,λw=>R.mt b (R.dw b w) (O b z)];let#[a6,ho]:=S.ob;show#[0,a.rp,a6,0,ho,fJ _ _ _ ao ao ao,_,a,_,[],(1),rfl,S,rfl,LD _,λH4 M4 y U R4 ab=>?_];let#[D4,ac]:=mx Y be ab;have am:∀b,M4 b->H b=none:=λb z=>by
   rcases ab.mn b z with z|z
   .show z.elim (as b) λz=>L.free (O b z)
   .show L.free (s3.free z)
  have S4:bh H H4:=λb u e=>ab.off b u (s3 _ _ (L _ _ e)) λw=>by
   have:=S.dw b w;rcases this with h|h
   .rw[as b h]at e;cases e
   .rw[L.free (O b h)]at e;cases e
  show#[0,by change 2<=sizeLine;decide,λd hd=>?_];have J:=Tb.ar (X:=.tup [V.str "begin",V.int 1]) hd;show#[m,_,(0),[],d,.begin 1,rfl,D4.same J,Int.le_refl _,LD _,#[ae,λ_ _ _ _ e=>by cases e],rfl,(λ_ _ _ _ e=>by cases e),λH6 bi N v D6 p6 z6 l6 h6 e6=>?_];have R5:=R4.same J;let#[R6,a2]:=q8 R5 (D4.same J) ac D6 z6;have a3:∀b,((M4 b/\¬ cY m [] b)\/cY m N b)->H b=none:=λb z=>by
   rcases z with z|z
   .show am b z.1
   .rcases z6.2 b z with z|z
    .show am b (ac b z).1
    .show S4.free (J.free z)
  have S6:bh H H6:=λb u e=>z6.1 b u (J _ _ (S4 _ _ e)) λw=>(by rw[am b (ac b w).1]at e;cases e);show#[0,0,by change 2<=sizeLine;decide,λtp a5=>?_];have st:=Tb.ar (X:=.tup [.ref a.rp,.ref m.md]) a5;have bd:Pg.RI (s0 (ou n) (pO n)) (ents ([]++[(1,y)])):=by
   rw[nv,U];show GV af
  have T0:Tw [] []:=#[λ_=>rfl,λ_ _=>rfl];have T6:Tw ([]++[(1,y)]) N:=T0.next (D:=.begin 1) (λt'=>by
    unfold hW;rw[Tb.br t' rfl];by_cases z:t'=1
    .rw[Q0 z,decide_eq_true z];rfl
    .rw[QZ z,decide_eq_false z];rfl) h6 (λt' q=>by
    unfold eW;rw[Tb.br t' rfl];by_cases z:t'=1
    .rw[Q0 z,Q0 z,MY,U];rfl
    .rw[QZ z,QZ z]) e6
  have a1:N≠[]:=λe=>by
   have:=T6.h 1;rw[e]at this;unfold hW hZ at this;rw[Tb.br 1 rfl,Q0 rfl]at this;cases this
  show k _ tp _ a m _ (λ_ _=>[]) bi _ N (S6.trans st) (xK.same #[R6,bd,λt x G q e he=>?_,D6,p6.1,a2,T6,LW,LW,a1,HC _,l6] st) (by have C0:Ct (upd H4 d (.tup [V.str "begin",V.int 1])) [] (λ_ _=>[]):=#[λ_ _ _ e=>(by cases e),λ_ _ _ _ _ e=>(by cases e)];show(p6.2 _ C0).1.keep (λa xs e=>st _ _ e) λ_ _ _ h=>h) a3 ae;rw[Tb.br t rfl]at G;by_cases z:t=1
  .rw[Q0 z]at G;cases G;rw[U]at he;cases he
  .rw[QZ z]at G;cases G
end
end Lw
namespace L2
open PySem PySem.Spec PyProof.Rows
section
variable {X:Cx}{CX:ui}{k j:Nat}{C:Addr}{sp:Sp}{E:XK}{x m:Str}{p pos apos:Nu}{e o:LC}{es:List LC}{ta:TE}{t:TA}
theorem KH {pl:Om Bool}(I:PE X.si o ta) (c:pG X.K C) (F:Md X.prog X.w X.K X.mg X.base (su X.prog X.w) k C m sp) (G:cZ j X.A) (O:PA X.si (e::es) t) (hex:X.ex=[]:=by rfl) (L:k<=j:=by decide)
  (N:starEach (e::es) X.env=(false,eval e X.env)::starEach es X.env:=by rfl) (R:(backTo pos (starEach es X.env)).any (·.1)=false:=by rfl)
  (J:eval (.Call (.Attribute o m apos) (e::es) [] pos) X.env=(do
   let ov <-eval o X.env
   OG apos.atName
   let (f,first) <-NR [ov] (NP ov m pl)
   Pb pos f first (backTo pos (starEach (e::es) X.env)) (NX pos (MZ [] X.env))):=by rfl) :
  Gk X (.Call (.Attribute o m apos) (e::es) [] pos) (z9 C m sp [] ta t):=by
 let#[f,fd,_,g,b,q]:=F;show zE I c q g (G.mono L) hex b .nil O N R J
theorem J5 (F:Df X.prog X.w X.K X.mg X.base (su X.prog X.w) k x sp) (G:cZ j X.A) (N:PA X.si (e::es) t) (hex:X.ex=[]:=by rfl) (J:Gl X x:=by rfl) (L:k<=j:=by decide)
  (R:(x==("__debug__" : Str))=false:=by decide) (I:starEach (e::es) X.env=(false,eval e X.env)::starEach es X.env:=by rfl) (O:(backTo pos (starEach es X.env)).any (·.1)=false:=by rfl) :
  Gk X (.Call (.Name x p) (e::es) [] pos) (zZ sp [] t):=by
 let#[f,fd,_,g,b,q,r]:=F;show Bl g (G.mono L) hex J q r b .nil N R I O
noncomputable def Dx:uk:=λ_ _ _ _=>False
theorem er {sts:List LI}:p9 X sts Dx:=λ_ _ _ _ _ _ _ h=>h.elim
end
end L2
namespace St
open PySem L2
theorem Hc {n:Int}(h1 : -1000000<=n) (h2:n<=1000000):n.natAbs.log2<1920:=by
 by_cases z:n.natAbs=0
 .rw[z];decide
 .rw[Nat.log2_lt z];show Nat.lt_of_le_of_lt (show n.natAbs<=1000000 by omega +splitNatSub) (LH (show 1000000<2^20 by decide) (Nat.pow_le_pow_right av av))
inductive jY (CR:Addr) (vs:List V) (H:Hp) (Q:VK) (e3:XK):Prop
 |mk (h t:Int) (_:vs=[.int h,.int t]) (_:h<=1000000) (_:0<=t) (_:t<h) (_:e3 (.ref CR) none H):jY CR vs H Q e3
inductive qX (c:CA) (CR:Addr) (vs:List V) (H:Hp) (Q:VK) (e3:XK):Prop
 |mk (M:Addr->Prop) (a:RA) (s:Pg.PS) (W:dv) (t p m:Int) (x:TD) (_:vs=[.ref a.rp,.int t,.int p,.int m]) (_:az c H M a s W) (_:W.length<=1000) (_:(ents W).length<=900000) (_:Tb.look W t=some x) (_:¬ Rm.bU p m) (_:(∀q∈Rm.aN p m,Tb.look x.t q=none)) (_:bF s<(ents W).length+m) (_:∀(H':Hp),bh H H'->e3 (.ref CR) none H'):qX c CR vs H Q e3
inductive mr (c:CA) (CR:Addr) (vs:List V) (H:Hp) (Q:VK) (e3:XK):Prop
 |mk (M:Addr->Prop) (a:RA) (s:Pg.PS) (W:dv) (t o:Int) (x:TD) (_:vs=[.ref a.rp,.int t,.int o]) (_:az c H M a s W) (_:W.length<=1000) (_:(ents W).length+x.t.length<=900000) (_:Tb.look W t=some x) (_:Tb.look W o=none) (_:bF s<(ents W).length+x.t.length) (_:∀(H':Hp),bh H H'->e3 (.ref CR) none H'):mr c CR vs H Q e3
section
variable {P:IF}{w:Ll}{K:PySem.W.Frag}{mg:Str->Option Value}{base:Heap}
theorem yq {f CR:Addr}{fd:GX}(F:cM K "refuse_above" "refuse_above" qC f fd) (XR:Rm.Gb K mg "NoRoom" CR):a8 P w K mg base (su P w) 1 f fd ["held","total"] (jY CR):=by
 show F.IX Hm (λvs H Q E h=>?_) (λab A outer s H vs Q E Y h=>?_)
 .let#[h,t,rfl,_]:=h;rfl
 .let#[h,t,rfl,b1,b2,c,S]:=h;have hs:sizeLine=16777216:=Lh;show#[_,(ix (kq (aA gz (pv 0) (pv 1) (aH _)) (ix (x6 rfl XR.Ku XR.KW rfl rfl (aa (Cf (rq (D7 (pv 0)) (rq aI (rq (D7 (pv 1)) ES)))) ai))) gx)),?_];have I:h.natAbs.log2<1920:=Hc (by omega +splitNatSub) (by omega +splitNatSub);have L:t.natAbs.log2<1920:=Hc (by omega +splitNatSub) (by omega +splitNatSub);have U:=wR I;have l2:=wR L;have G:(Str.empty:Str).length=0:=rfl;have N:(Str.ofString " pages are more than ").length=21:=ao;have O:(Str.empty++toString h:Str).length<=sizeLine:=(by rw[len_app,G];omega +splitNatSub);have R:(Str.empty++toString h++Str.ofString " pages are more than " : Str).length<=sizeLine:=(by rw[len_app,len_app,G,N];omega +splitNatSub);have J:(Str.empty++toString h++Str.ofString " pages are more than " ++ toString t:Str).length<=sizeLine:=(by rw[len_app,len_app,len_app,G,N];omega +splitNatSub);show#[0,0,_,0,rfl,0,?_];show gf (λc=>?_) (λz=>absurd (decide_eq_true c) z);show#[0,h,rfl,I,0,O,0,R,0,t,rfl,L,0,J,J,(by change 1<=sizeLine;decide),S]
theorem Aq {f CR:Addr}{fd:GX}{c:CA}(F:cM K "map" "Rooms.map" xj f fd) (T:pb K mg c) (TT:Tb.Txt K mg c.T) (GR:Df P w K mg base aS 1 "room_of" dy) (GM:Df P w K mg base aS 2 "pages_to_map" Rm.lH) (GA:Df P w K mg base (su P w) 1 "refuse_above" (jY CR)) (ac:Md P w K mg base aS 1 c.T "pages" (Tb.dW c.T)) (GH:Md P w K mg base aS 2 c.C "held" (fX c)):a8 P w K mg base (su P w) 4 f fd ["self","task","page","many"] (qX c CR):=by
 show F.IX vC (λvs H Q E h=>?_) (λa5 A outer s H vs Q E I h=>?_)
 .let#[M,a,s',W,t,p,m,x,rfl,_]:=h;rfl
 .let#[M,a,s',W,t,p,m,x,rfl,R,lw,le,L,G,aB,a1,q]:=h;let#[dx,ho]:=R.ob;have J:=R.tb _ (Tb.ay L);let#[am,ht]:=J.at_.ob;have b1:¬ m<1:=λz=>G (.inl z);have b2:¬ p<0:=λz=>G (.inr (.inl z));have b3:¬ 64<p+m:=λz=>G (.inr (.inr z));have pl:=nX G;show#[_,(cu (kl (aO (i:=4) vC.nd rfl (Lc rfl) (pc GR I ax (aa (aL (pv 0) rfl) (aa (pv 1) ai)))))
   (cu (kl (aO (i:=5) vC.nd rfl (Lc rfl) (pc GM I ax (aa (qx (pv 4) TT.cl ac I ax) (aa (pv 2) (aa (pv 3) ai))))))
   (cu (oq (J5 GA I (aa (aD bt (qx (pv 0) T.cl GH I ax) (aK bo (by rfl) T.len boot_len (aa (pv 5) ai))) (aa (aL (pv 0) rfl) ai))))
   er))),?_]
  show#[0,a.rp,c.C,dx,_,0,ho,T.cl,T.nR,eV _ _ _,0,a.rd,W,t,x,rfl,R.hd,L,?_];show#[0,x.p,am,0,ht,Tb.aW _ ao,x.p,x.fs,x.tb,rfl,J.at_,λH1 O ns s1 a3 ap pm a4=>?_];show#[0,0,O,ns,p,m,rfl,ap,G,λz h1 h2=>absurd (aB z h1) ((J.mem pm z).mp h2),λH2 l2 s2 a2 S=>?_];have N:=s1.trans s2;have R2:=R.same N;let#[aT,ab]:=R2.ob;show#[0,a.rp,aT,0,ab,fJ _ _ _ ao ao ao,M,a,s',W,rfl,R2,lw,λH3 s3=>?_];have a0:=s3 _ _ S;have Y:=R2.same s3;let#[as,U]:=Y.ob;show#[0,l2,0,.inl (bA.of a0),_,0,rfl,0,a.rp,c.C,as,_,0,U,T.cl,T.nT,CG _ _ _,_,0,3,?_,q H3 (N.trans s3)]
  .rw[BY,pl];omega
  .unfold bF;omega
  .rw[BY,pl];omega
theorem xZ {f CR:Addr}{fd:GX}{c:CA}(F:cM K "copy" "Rooms.copy" qk f fd) (T:pb K mg c) (TT:Tb.Txt K mg c.T) (GR:Df P w K mg base aS 1 "room_of" dy) (GS:Df P w K mg base aS 1 "refuse_second_room" iy) (GA:Df P w K mg base (su P w) 1 "refuse_above" (jY CR)) (ab:Md P w K mg base aS 1 c.T "pages" (Tb.dW c.T)) (GH:Md P w K mg base aS 2 c.C "held" (fX c)):a8 P w K mg base (su P w) 5 f fd ["self","task","other"] (mr c CR):=by
 show F.IX qU (λvs H Q E h=>?_) (λa4 A outer s H vs Q E G h=>?_)
 .let#[M,a,s',W,t,o,x,rfl,_]:=h;rfl
 .let#[M,a,s',W,t,o,x,rfl,R,lw,le,O,aT,a1,q]:=h;let#[dx,S]:=R.ob;have I:=R.tb _ (Tb.ay O);let#[ac,ht]:=I.at_.ob;show#[_,(cu (kl (aO (i:=3) qU.nd rfl (Lc rfl) (pc GR G ax (aa (aL (pv 0) rfl) (aa (pv 1) ai)))))
   (cu (kl (aM (pc GS G ax (aa (aL (pv 0) rfl) (aa (pv 2) ai)))))
   (cu (kl (aO (i:=4) qU.nd rfl (Lc rfl) (qx (pv 3) TT.cl ab G ax)))
   (cu (oq (J5 GA G (aa (aD bt (qx (pv 0) T.cl GH G ax) (aK bo (by rfl) T.len boot_len (aa (pv 4) ai))) (aa (aL (pv 0) rfl) ai))))
   er)))),?_]
  show#[0,a.rp,c.C,dx,_,0,S,T.cl,T.nR,eV _ _ _,0,a.rd,W,t,x,rfl,R.hd,O,?_];show#[0,a.rp,c.C,dx,_,0,S,T.cl,T.nR,eV _ _ _,0,a.rd,W,o,rfl,R.hd,aT,?_];show#[0,x.p,ac,0,ht,Tb.aW _ ao,x.p,x.fs,x.tb,rfl,I.at_,λH1 U ns L a2 as pm a3=>?_];have J:=R.same L;have N:ns.length=x.t.length:=I.len pm;let#[am,ap]:=J.ob;show#[0,a.rp,am,0,ap,fJ _ _ _ ao ao ao,M,a,s',W,rfl,J,lw,λH3 s3=>?_];have a0:=s3 _ _ as;have R3:=J.same s3;let#[aB,Y]:=R3.ob;show#[0,U,0,.inl (bA.of a0),_,0,rfl,0,a.rp,c.C,aB,_,0,Y,T.cl,T.nT,CG _ _ _,_,0,3,?_,q H3 (L.trans s3)]
  .rw[BY,N];omega
  .unfold bF;omega
  .rw[BY,N];omega
end
end St
namespace L2
theorem E3 {t u:uk}{D:Ends}{R:XR}{σ:St}{H:Hp}(I:St->Hp->Prop) (mk:∀G,(∀σ H,I σ H->G D R σ H)->xA t G D R σ H) (h:∀σ H,I σ H->u D R σ H):xA t u D R σ H:=mk u h
end L2
namespace Lw
open PySem L2 St
noncomputable def Ap (W:dv) (tt:Int):Dd->Prop
 |.map t p m=>∃x,Tb.look W t=some x/\¬ Rm.bU p m/\(∀q∈Rm.aN p m,Tb.look x.t q=none)/\tt<(ents W).length+m
 |.copy t o=>∃x,Tb.look W t=some x/\Tb.look W o=none/\(ents W).length+x.t.length<=900000/\tt<(ents W).length+x.t.length
 |_=>False
inductive kY (c:CA) (CR:Addr) (vs:List V) (H:Hp) (Q:VK) (e3:XK):Prop
 |mk (M:Addr->Prop) (a:RA) (s:Pg.PS) (W:dv) (d:Addr) (D:Dd) (_:vs=[.ref a.rp,.ref d]) (_:az c H M a s W) (_:W.length<=1000) (_:(ents W).length<=900000) (_:lD H d D) (_:Ap W (bF s) D) (_:∀(H':Hp),bh H H'->e3 (.ref CR) none H'):kY c CR vs H Q e3
section
variable {P:IF}{w:Ll}{K:PySem.W.Frag}{mg:Str->Option Value}{base:Heap}
theorem uJ {f CR:Addr}{fd:GX}{c:CA}(F:cM K "_law_called" "_law_called" lI f fd) (T:pb K mg c) (Jp:Md P w K mg base (su P w) 4 c.C "map" (qX c CR)) (Kk:Md P w K mg base (su P w) 5 c.C "copy" (mr c CR)):a8 P w K mg base (su P w) 6 f fd ["_law_kept","_law_deed"] (kY c CR):=by
 show F.IX yw (λvs H Q E h=>?_) (λac A outer s H vs Q E hr h=>?_)
 .let#[O,a,s',W,d,D,rfl,_]:=h;rfl
 .let#[O,a,s',W,d,D,rfl,R,lw,le,hd,J,q]:=h;show#[_,(cu (kl (cN (cX jL (pv 1) fj (cU ak)) (dE rfl (bf (aY (i:=2) yw.nd rfl (Lc rfl)) (bf (aY (i:=3) yw.nd rfl (Lc rfl)) cV)))))
   (cu (kq (aA bH (pv 2) aI (aH _)) er gx)
   (cu (kq (aA bH (pv 2) aI (aH _)) er gx)
   (cu (kq (aA bH (pv 2) aI (aH _)) (ix (xp (KH (pv 0) T.cl Jp hr (aa (pv 3) (aa (bq bB (pv 1) ak (λ_ _=>rfl)) (aa (bq bB (pv 1) ak (λ_ _=>rfl)) ai)))))) gx)
   (cu (kq (aA bH (pv 2) aI (aH _)) er gx)
   (cu (kq (aA bH (pv 2) aI (aH _)) (ix (xp (KH (pv 0) T.cl Kk hr (aa (pv 3) (aa (bq bB (pv 1) ak (λ_ _=>rfl)) ai))))) gx)
   er)))))),?_]
  show E3 (λσ H1=>bh H H1/\σ=[some (.ref a.rp),some (.ref d),some (.str (DQ D)),some (.int (Dk D))]) (λu' ab=>?A) ?B
  case A =>
   show#[0,0,d,0,cy.of hd.1,λc=>?_,λ_ p hp=>?_]
   .show#[d,0,cy.of hd.1,by rw[zb c];rfl,by rw[zb c];show#[_,0,_,0,rfl,ab _ _ #[bh.refl H,rfl]]]
   .rw[B7];show#[p,0,cy.of ae,5,0,_,0,rfl,ab _ _ #[Tb.ar hp,rfl]]
  case B =>
  rintro σ H1 ⟨N,rfl⟩;have R1:=R.same N;have S:H1 d=some (.tup (xw D)):=N _ _ hd.1;let#[dx,ho]:=R1.ob;have no:∀L:Str,¬ L = "rooms" -> ¬ L = "total" -> ¬ L = "paging" -> (eF a.A.pg (bF s') a.rd).lookup L=none:=λL=>fJ _ _ _;cases D with
  |begin t=>show absurd J id
  |close t=>show absurd J id
  |drop t p m=>show absurd J id
  |poke t p m q=>show absurd J id
  |map t p m =>
   let#[x,hx,Y,U,f3]:=J;show lg λ_ I G=>?_;show eM (bD rfl) bE rfl bX (G _ ?_);show lg λ_ I G=>?_;show eM (bD rfl) bE rfl bX (G _ ?_);show lg λ_ I G=>?_;show eqT (bD rfl) bE rfl (I _ ?_);show#[0,a.rp,dx,0,ho,no "map" ao ao ao,0,0,d,2,.int p,1,cy.of S,rfl,0,d,2,.int m,1,cy.of S,rfl,O,a,s',W,t,p,m,x,rfl,R1,lw,le,hx,Y,U,f3,λH2 s2=>q H2 (N.trans s2)]
  |copy t o =>
   let#[x,hx,Y,U,f3]:=J;show lg λ_ I G=>?_;show eM (bD rfl) bE rfl bX (G _ ?_);show lg λ_ I G=>?_;show eM (bD rfl) bE rfl bX (G _ ?_);show lg λ_ I G=>?_;show eM (bD rfl) bE rfl bX (G _ ?_);show lg λ_ I G=>?_;show eM (bD rfl) bE rfl bX (G _ ?_);show lg λ_ I G=>?_;show eqT (bD rfl) bE rfl (I _ ?_);show#[0,a.rp,dx,0,ho,no "copy" ao ao ao,0,0,d,2,.int o,1,cy.of S,rfl,O,a,s',W,t,o,x,rfl,R1,lw,U,hx,Y,f3,λH2 s2=>q H2 (N.trans s2)]
end
noncomputable abbrev mD:LI:=top 49
inductive km (c:CA) (vs:List V) (H:Hp) (Q:VK) (e3:XK):Prop
 |mk (M:Addr->Prop) (a:RA) (s:Pg.PS) (W:dv) (d:Addr) (D:Dd) (_:vs=[.ref a.rp,.ref d]) (_:az c H M a s W) (_:W.length<=1000) (_:(ents W).length<=900000) (_:lD H d D) (_:Ap W (bF s) D) (_:∀(H':Hp),bh H H'->Q (.bl true) H'):km c vs H Q e3
section
variable {P:IF}{w:Ll}{K:PySem.W.Frag}{mg:Str->Option Value}{base:Heap}
theorem CB:aC ["_law_kept","_law_deed","_law_error","caught"] ["_law_kept","_law_deed"] (aw mD):=L2.bG
theorem vy {f CR:Addr}{fd:GX}{c:CA}(F:cM K "_law_refused" "_law_refused" mD f fd) (XR:Rm.Gb K mg "NoRoom" CR) (J:exmOne K (.ref CR) (.ref CR)=some true) (L:Df P w K mg base (su P w) 6 "_law_called" (kY c CR)):a8 P w K mg base aS 7 f fd ["_law_kept","_law_deed"] (km c):=by
 show F.ok CB (λvs H Q E h=>?_) (λY A outer s H vs Q E O h=>?_)
 .let#[G,a,s',W,d,D,rfl,_]:=h;rfl
 .let#[G,a,s',W,d,D,rfl,R,N,le,hd,U,q]:=h;show#[_,(ah (aO (i:=2) CB.nd rfl (Lc rfl) mZ)
   (ah (EN rfl rfl rfl rfl XR.Ku CB.nd (i:=3) rfl rfl (ix (oq (J5 L O (aa (pv 0) (aa (pv 1) ai))))) (λ_=>(aj (aO (i:=2) CB.nd rfl (Lc rfl) (pv 3)))))
   (aj (aF (jP Dt (pv 2) mZ (aH _)))))),?_]
  show#[0,0,G,a,s',W,d,D,rfl,R,N,le,hd,U,λH1 I=>#[J,λe S=>?_]];show#[0,?_];show#[0,4];show q _ (I.trans (Tb.ar S))
end
noncomputable abbrev AH:LI:=top 48
theorem zz {ps:List Int}{f:Int->Bool}(G:∀q,f q=false↔q∈ps) (J:ps.Nodup) (L:∀q∈ps,0<=q/\q<64):((List.range 64).filter λj:Nat=>f j).length+ps.length=64:=by
 have p:(((List.range 64).filter λj:Nat => !f j).map λj:Nat=>(j:Int)).Perm ps:=by
  show(List.perm_ext_iff_of_nodup ?_ J).mpr λq=>?_
  .show List.Pairwise.map (λj:Nat=>(j:Int)) (λa b h=>by omega +splitNatSub) (List.nodup_range.filter _)
  .constructor
   .intro h;let#[j,I,rfl]:=List.mem_map.mp h;have:=(List.mem_filter.mp I).2;show(G _).mp (by simpa using this)
   .intro h;let#[a,b]:=L q h;show List.mem_map.mpr #[q.toNat,List.mem_filter.mpr #[List.mem_range.mpr (by omega +splitNatSub),?_],by omega +splitNatSub];rw[show((q.toNat:Nat):Int)=q by omega +splitNatSub,(G q).mpr h];rfl
 have e:=p.length_eq;rw[BY, <-List.countP_eq_length_filter]at e;rw[<-List.countP_eq_length_filter, <-e];have:=List.length_eq_countP_add_countP (λj:Nat=>f j) (l:=List.range 64);rw[LV]at this;have c:(List.range 64).countP (λa:Nat=>decide ¬f a=true)=(List.range 64).countP (λj:Nat => !f j):=List.countP_congr λj _=>(by simp);rw[c]at this;show this.symm
theorem yj {α:Type}{Z:List (Int×α)}(G:(Z.map (·.1)).Nodup) (h:1<Z.length) (o:Int):∃t,t≠o/\∃z,Tb.look Z t=some z:=by
 match Z,G,h with
 |a::b::r,G,_ =>
  by_cases e:a.1=o
  .show#[b.1,λI=>?_,b.2,Tb.bK G (Lx _ (Ls))];have:=(List.nodup_cons.mp G).1;show this (by change a.1∈b.1::_;rw[e, <-I];show Ls)
  .show#[a.1,e,a.2,Tb.bK G Ls]
theorem EE (Z:Zs):0<=mY Z:=by
 unfold mY
 induction Z with
 |nil=>show Int.le_refl _
 |cons a r G=>rw[Mm,MV];omega +splitNatSub
noncomputable def DC (z:MT) (q:Int):Bool:=(Tb.look z.pl q).isNone
noncomputable def oP (z:MT):List Int:=((List.range 64).filter λj:Nat=>DC z j).map λj:Nat=>(j:Int)
inductive vt (vs:List V) (H:Hp) (Q:VK) (e3:XK):Prop
 |mk (n:Int) (m:MA) (bF pk:Int) (Z:Zs) (tl:Addr) (ts:List Int) (_:vs=[.int n,.ref m.md,.ref tl]) (_:cA H m bF pk Z) (_:Z≠[]) (_:Z.length<=1000) (_:bF<=100) (_:H tl=some (.lst (ts.map V.int))) (_:ts.length=5) (_:∀(H':Hp) (d:Addr) (D:Dd),bh H H'->lD H' d D->zr D->(∀t ad c cs,D=.poke t ad c cs->H c=none)->(∀o,D=.close o->∃t,t≠o/\∃z,Tb.look Z t=some z)->Q (.ref d) H'):vt vs H Q e3
section
variable {P:IF}{w:Ll}{K:PySem.W.Frag}{mg:Str->Option Value}{base:Heap}
theorem oM:aC ["_law_m","_law_model_here","_law_tasks","_law_rooms","_law_there","_law_task","_law_rest","_law_other","_law_left","_law_free","_law_kind","_law_first"] ["_law_m","_law_model_here","_law_tasks"] (aw AH):=L2.bG
theorem Cz {f:Addr}{fd:GX}(F:cM K "_law_growing" "_law_growing" AH f fd) (T:nV mg) (bm:Df P w K mg base aS 1 "_law_held" gN):a8 P w K mg base aS 2 f fd ["_law_m","_law_model_here","_law_tasks"] vt:=by
 show F.ok oM (λvs H Q E h=>?_) (λbx A outer s H vs Q E O h=>?_)
 .let#[n,m,bF,pk,Z,tl,ts,rfl,_]:=h;rfl
 .let#[n,m,bF,pk,Z,tl,ts,rfl,M,zn,lz,tb,bi,l5,k]:=h;have hs:sizeLine=16777216:=Lh;show#[_,(ah (aO (i:=3) oM.nd rfl (OU rfl) (a9 (aZ O) (pv 1) aI (λ_ _=>rfl)))
   (ah (aO (i:=4) oM.nd rfl (Lc rfl) (aK (dY rfl) (by rfl) T.sorted fC (aa (pv 3) ai)))
   (ah (cN (cR (aa (bq cG (pv 4) (aD bN (aD bZ (pv 0) ak) (aK bo (by rfl) T.len boot_len (aa (pv 4) ai))) (λ_ _=>rfl)) (aa (aD bZ (pv 0) ak) ai))) (dE rfl (bf (aY (i:=5) oM.nd rfl (OU rfl)) (bf (aY (i:=6) oM.nd rfl (Lc rfl)) cV))))
   (ah (aO (i:=7) oM.nd rfl (Lc rfl) (bq cG (pv 2) (aD bN (aD bZ (pv 0) ak) (aK bo (by rfl) T.len boot_len (aa (pv 2) ai))) (λ_ _=>rfl)))
   (ah (aO (i:=8) oM.nd rfl (Lc rfl) (aD nW (a9 (aZ O) (pv 1) aI (λ_ _=>rfl)) (pc bm O ax (aa (pv 1) ai))))
   (ah (xv (i:=9) (cl:=[("_law_task",s.heap.objs.size+2),("_law_rooms",s.heap.objs.size+1)]) (caps:=[("_law_rooms",3),("_law_task",5)]) oM.nd rfl (Lc rfl) #[rfl,ao,ao,rfl,by kernel_rfl,by intro p hp;simp only[LO,Lm,or_false]at hp;rcases hp with rfl|rfl<;>first|rfl|show#[rfl,.inl rfl,.inl rfl]|show#[rfl,.inl rfl,.inr rfl],by kernel_rfl,by intro p hp;simp only[LO,Lm,or_false]at hp;rcases hp with rfl|rfl<;>first|rfl|show#[rfl,.inl rfl,.inl rfl]|show#[rfl,.inl rfl,.inr rfl],ao] rfl (yl (by rfl) T.range (aa ak ai)) (λ_ _ _ _=>CN (gb (eg (aZ O) (pv 0) (a9 (aZ O) (pv 1) (pv 2) (λ_ _=>rfl))))) (λ_ _ _ _=>(pv 0)))
   (ah (aO (i:=10) oM.nd rfl (Lc rfl) (aD bN (pv 0) ak))
   (ah (aV (PW.pt (gM (aA bH (pv 10) ak (aH _)) (fO (gb (eg (aZ O) (pv 7) (pv 3)))))) (aj (aF (cR (aa aI (aa (pv 7) ai))))) aG)
   (ah (aV (PW.pt (gM (aA bH (pv 10) ak (aH _)) (fO (gb (eg (aZ O) (pv 7) (pv 3)))))) (aj (aF (cR (aa aI (aa (pv 5) (aa (pv 7) ai)))))) aG)
   (ah (aV (PW.pt (gM (aA bH (pv 10) ak (aH _)) (gM (gb (kL (aZ O) (pv 7) (pv 3))) (fO (aA gz (aK fG (by rfl) T.len boot_len (aa (pv 3) ai)) ak (aH _)))))) (aj (aF (cR (aa aI (aa (pv 7) ai))))) aG)
   (ah (aV (PW.pt (gM (aA bH (pv 10) ak (aH _)) (fO (aA iu (aK bo (by rfl) T.len boot_len (aa (pv 9) ai)) ak (aH _))))) (aj (aF (cR (aa aI (aa (pv 5) (aa (bq cG (aK (dY rfl) (by rfl) T.sorted fC (aa (a9 (aZ O) (pv 3) (pv 5) (λ_ _=>rfl)) ai)) (aD bN (pv 6) (aD nW ak (aK bo (by rfl) T.len boot_len (aa (pv 9) ai)))) (λ_ _=>rfl)) (aa ak ai))))))) aG)
   (ah (aV (PW.pt (gM (aA bH (pv 10) ak (aH _)) (fO (aA gz (aK fG (by rfl) T.len boot_len (aa (a9 (aZ O) (pv 3) (pv 5) (λ_ _=>rfl)) ai)) ak (aH _))))) (aj (aF (cR (aa aI (aa (pv 5) (aa (aD eU ak (bq cG (aK (dY rfl) (by rfl) T.sorted fC (aa (a9 (aZ O) (pv 3) (pv 5) (λ_ _=>rfl)) ai)) (aD bN (pv 6) (aK fG (by rfl) T.len boot_len (aa (a9 (aZ O) (pv 3) (pv 5) (λ_ _=>rfl)) ai))) (λ_ _=>rfl))) (aa (cn (aa (aD bN (pv 6) ak) ai)) ai))))))) aG)
   (ah (aO (i:=11) oM.nd rfl (Lc rfl) (bq cG (aD rQ (pv 9) (cn (aa ak ai))) (aD bN (pv 6) (aD bt (aK bo (by rfl) T.len boot_len (aa (pv 9) ai)) ak)) (λ_ _=>rfl)))
   (aj (aF (cR (aa aI (aa (pv 5) (aa (pv 11) (aa (aK (pA rfl) (by rfl) T.max BA (aa ak (aa (aD bt (pv 8) (bq cG (cn (aa (BQ uA ak) (aa ak (aa ak (aa (BQ uA ak) ai))))) (aD bN (aD bZ (pv 6) ak) ak) (λ_ _=>rfl))) ai))) ai)))))))))))))))))))),?_]
  have bd:(Tb.dk gk Z).map (·.1)=(Z.map (·.1)).map Sum.inl:=(by unfold Tb.dk;rw[Me,Me];rfl);show gv λ_ G=>?_;show#[0,m.md,.ref m.lr,rfl,M.g (wq _ _ _ _),G _ _ ?_];clear G;show gv λ_ G=>?_;show#[0,m.lr,_,Z.map (·.1),rfl,M.hr,bd,M.nd,by rw[BY];show lz,λR ks bl aB _=>G _ _ ?_];clear G;have s1:=Tb.ar (X:=.lst (ks.map V.int)) bl;have h1:upd H R (.lst (ks.map V.int)) R=some (.lst (ks.map V.int)):=ae;have M1:=M.same s1;generalize upd H R (.lst (ks.map V.int))=H1 at *;have bv:0<ks.length:=by
   rw[aB.length_eq,BY];show List.length_pos_iff.mpr zn
  let#[b1,b2]:=at_of (xs:=ks) (i:=n/7%(ks.length:Int)) (n:=ks.length) (MU _ af) (MG _ af) rfl;generalize ks.getD (n/7%(ks.length:Int)).toNat 0=tk at b1 b2;obtain⟨z,ez⟩:∃z,Tb.look Z tk=some z:=by
   have h2:=aB.mem_iff.mp b2;cases e:Tb.look Z tk with
   |some z=>show#[z,rfl]
   |none=>show absurd h2 (Tb.bP e)
  have U:=Tb.ay ez;show Kl λ_ G=>?_;show#[0,0,_,0,rfl,#[av,av],0,R,0,.inl (bA.of h1),_,0,rfl,by change(0:Int)<((ks.map V.int).length:Nat);rw[BY];lia,R,2,.int tk,1,bA.of h1,by rw[BY];show b1,?_];show#[0,_,0,rfl,#[av,av],by change 2<=sizeLine;decide,λp hp=>G _ _ #[p,0,cy.of ae,5,0,_,0,4]];clear G
  try dsimp only at hp
  try dsimp only
  generalize n/700=I at *;have s2:=Tb.ar (X:=.tup [V.int tk,V.int I]) hp;have M2:=M1.same s2;have S2:=s1.trans s2;generalize upd H1 p (.tup [V.int tk,V.int I])=H2 at *;have aT:=S2 _ _ bi;show gv λ_ G=>?_;let#[b3,_]:=at_of (xs:=ts) (i:=n/70%5) (n:=5) af af af;generalize ts.getD (n/70%5).toNat 0=J at b3;show#[0,0,_,0,rfl,#[av,av],0,tl,0,.inl (bA.of aT),_,0,rfl,by change(0:Int)<((ts.map V.int).length:Nat);rw[BY,l5];decide,tl,2,.int J,1,bA.of aT,by rw[BY,l5];show b3,G _ _ ?_];clear G;show gv λ_ G=>?_;show#[0,m.md,.int bF,rfl,M2.g (Di _ _ _ _),0,m,bF,pk,Z,rfl,M2,lz,λH3 s3=>#[_,0,rfl,G _ _ ?_]];clear G;have M3:=M2.same s3;have S3:=S2.trans s3;have a6:(Tb.dk eS z.pl).map (·.1)=(z.pl.map (·.1)).map Sum.inl:=(by unfold Tb.dk;rw[Me,Me];rfl);have bz:∀q∈z.pl.map (·.1),0<=q/\q<64:=λq hq=>by
   let#[y,hy,e]:=List.mem_map.mp hq;rw[<-e];show M.rg _ U y hy
  have ff:∀q,DC z q=false↔q∈z.pl.map (·.1):=λq=>by
   unfold DC;cases e:Tb.look z.pl q with
   |none=>show#[λw=>(by cases w),λw=>absurd w (Tb.bP e)]
   |some x=>show#[λ_=>List.mem_map.mpr #[_,Tb.ay e,rfl],λ_=>rfl]
  have fl:(oP z).length+z.pl.length=64:=by
   have:=zz ff (M.np _ U) bz;rw[BY]at this;unfold oP;rw[BY];show this
  have fb:∀q∈oP z,0<=q/\q<64:=λq hq=>by
   let#[j,hj,rfl]:=List.mem_map.mp hq;have:=List.mem_range.mp (List.mem_filter.mp hj).1;omega +splitNatSub
  have bC:0<=mY Z:=EE Z;show gv λ_ G=>?_;show#[0,av,av,?_];show mC (lo:=0) (n:=64) (λi ys H4=>ys=(((List.range i).filter λj:Nat=>DC z j).map λj:Nat=>(j:Int)).map V.int/\H4=H3) #[1] ?_ ?_
  .rintro i ys H4 hi ⟨rfl,rfl⟩;show#[0,0,0,m.lr,0,du M3.hr ez,z.ra,0,dU (t:=0+(i:Int)) (M3.rm _ U),?_];have e0:(0:Int)+(i:Int)=i:=Int.zero_add _;cases e:Tb.look z.pl (0+(i:Int))with
   |none =>
    have fi:DC z (i:Int)=true:=(by unfold DC;rw[<-e0,e];rfl);show#[true,rfl,eL #[0,3,rfl]]
    .rw[BY,BY];have:=Nq (λj:Nat=>DC z j) (List.range i);rw[LV]at this;omega +splitNatSub
    .rw[Oc,List.filter_append,Ln,Ln,e0];show congrArg _ ?_;rw[List.filter_cons_of_pos (by show fi)];rfl
   |some v =>
    have fi:¬ DC z (i:Int)=true:=(by unfold DC;rw[<-e0,e];show λw=>by cases w);show#[false,rfl,bJ #[?_,rfl]];rw[Oc,List.filter_append,List.filter_cons_of_neg (by show fi),List.filter_nil,OL]
  rintro ys as ⟨rfl,e3⟩ l hl;subst e3;show G _ _ ?_;clear G;have s4:=Tb.ar (X:=.lst ((oP z).map V.int)) hl;have h4:upd as l (.lst ((oP z).map V.int)) l=some (.lst ((oP z).map V.int)):=ae;have M4:=M3.same s4;have S4:=S3.trans s4;change jG _ _ _ _ (upd as l (.lst ((oP z).map V.int)));generalize upd as l (.lst ((oP z).map V.int))=H4 at *;show gv λ_ G=>?_;show#[0,_,0,rfl,(by change(0:Int)<7;decide),G _ _ ?_];clear G
  try dsimp only
  generalize n%7=kd at *;have ab:∀{Hx d} (D:Dd),bh H4 Hx->lD Hx d D->zr D->(∀t ad c cs,D=.poke t ad c cs->H c=none)->(∀o,D=.close o->∃t,t≠o/\∃z,Tb.look Z t=some z)->Q (.ref d) Hx:=λ{Hx d} D sx a1 a2 a3 a4=>k Hx d D (S4.trans sx) a1 a2 a3 a4;show ip (λσ N=>N=H4/\σ=[some (.int n),some (.ref m.md),some (.ref tl),some (.ref m.lr),some (.ref R),some (.int tk),some (.int I),some (.int J),some (.int (bF-mY Z)),some (.ref l),some (.int kd),none]) (λ_ QQ S L=>?A1) ?B1
  case A1 =>
   show#[0,rfl,0,?_];show gf (λ_=>?_) (λ_=>L _ #[1]);show#[0,0,m.lr,0,dU (t:=J) M4.hr,?_];cases eo:Tb.look Z J with
   |some _=>show#[false,rfl,L _ #[1]]
   |none=>show#[true,rfl,S _ #[0,by change 2<=sizeLine;decide,λd hd=>ab (.begin J) (Tb.ar hd) #[ae,λ_ _ _ _ e=>by cases e] trivial (λ_ _ _ _ e=>by cases e) (λ_ e=>by cases e)]]
  case B1 =>
  rintro σ H5 ⟨e5,rfl⟩;subst e5;show ip (λσ N=>N=H5/\σ=[some (.int n),some (.ref m.md),some (.ref tl),some (.ref m.lr),some (.ref R),some (.int tk),some (.int I),some (.int J),some (.int (bF-mY Z)),some (.ref l),some (.int kd),none]) (λ_ QQ S L=>?A2) ?B2
  case A2 =>
   show#[0,rfl,0,?_];show gf (λ_=>?_) (λ_=>L _ #[1]);show#[0,0,m.lr,0,dU (t:=J) M4.hr,?_];cases eo:Tb.look Z J with
   |some _=>show#[false,rfl,L _ #[1]]
   |none=>show#[true,rfl,S _ #[0,0,by change 3<=sizeLine;decide,λd hd=>ab (.copy tk J) (Tb.ar hd) #[ae,λ_ _ _ _ e=>by cases e] trivial (λ_ _ _ _ e=>by cases e) (λ_ e=>by cases e)]]
  case B2 =>
  rintro σ H6 ⟨e6,rfl⟩;subst e6;show ip (λσ N=>N=H6/\σ=[some (.int n),some (.ref m.md),some (.ref tl),some (.ref m.lr),some (.ref R),some (.int tk),some (.int I),some (.int J),some (.int (bF-mY Z)),some (.ref l),some (.int kd),none]) (λ_ QQ S L=>?A3) ?B3
  case A3 =>
   show#[0,rfl,0,?_];show gf (λ_=>?_) (λ_=>L _ #[1]);show#[0,0,m.lr,0,dU (t:=J) M4.hr,?_];cases eo:Tb.look Z J with
   |none=>show#[false,rfl,bJ (L _ #[1])]
   |some _ =>
    show#[true,rfl,eL ?_];show#[0,m.lr,0,M4.hr,_,0,rfl,0,?_];rw[Tb.bW];show sY (λc=>S _ ?_) (λ_=>L _ #[1]);have c:=of_decide_eq_true c;show#[0,by change 2<=sizeLine;decide,λd hd=>ab (.close J) (Tb.ar hd) #[ae,λ_ _ _ _ e=>by cases e] trivial (λ_ _ _ _ e=>by cases e) (λo e=>yj M.nd (by omega +splitNatSub) o)]
  case B3 =>
  rintro σ H7 ⟨e7,rfl⟩;subst e7;have a7:z.pl.length<=64:=(by omega +splitNatSub);show ip (λσ N=>N=H7/\σ=[some (.int n),some (.ref m.md),some (.ref tl),some (.ref m.lr),some (.ref R),some (.int tk),some (.int I),some (.int J),some (.int (bF-mY Z)),some (.ref l),some (.int kd),none]) (λ_ QQ S L=>?A4) ?B4
  case A4 =>
   show#[0,rfl,0,?_];show gf (λ_=>?_) (λ_=>L _ #[1]);show#[0,l,0,.inl (bA.of h4),_,0,rfl,0,?_];rw[BY];show sY (λc=>S _ ?_) (λ_=>L _ #[1]);have c:=of_decide_eq_true c;show#[0,0,0,m.lr,0,du M4.hr ez,z.ra,_,z.pl.map (·.1),rfl,M4.rm _ U,a6,M4.np _ U,by rw[BY];show Ly a7 av,λl2 ps am ac _=>?_];have lp:ps.length=z.pl.length:=(by rw[ac.length_eq,BY]);let#[b5,b6]:=at_of (xs:=ps) (i:=I%(64-((oP z).length:Int))) (n:=64-((oP z).length:Int)) (MU _ (by omega +splitNatSub)) (MG _ (by omega +splitNatSub)) (by omega +splitNatSub);generalize ps.getD (I%(64-((oP z).length:Int))).toNat 0=Y at b5 b6;let#[z0,z1]:=bz Y (ac.mem_iff.mp b6);have s8:=Tb.ar (X:=.lst (ps.map V.int)) am;have h8:upd H7 l2 (.lst (ps.map V.int)) l2=some (.lst (ps.map V.int)):=ae;show#[0,0,l,0,.inl (bA.of (s8 _ _ h4)),_,0,5,0,4,l2,2,.int Y,1,bA.of h8,?_,by change 4<=sizeLine;decide,λd hd=>ab (.drop tk Y 1) (s8.trans (Tb.ar hd)) #[ae,λ_ _ _ _ e=>by cases e] #[z0,z1,av,av] (λ_ _ _ _ e=>by cases e) (λ_ e=>by cases e)]
   .change(0:Int)<64-(((oP z).map V.int).length:Nat);rw[BY];omega +splitNatSub
   .rw[BY];show b5
  case B4 =>
  rintro σ H8 ⟨e8,rfl⟩;subst e8;show ip (λσ N=>N=H8/\σ=[some (.int n),some (.ref m.md),some (.ref tl),some (.ref m.lr),some (.ref R),some (.int tk),some (.int I),some (.int J),some (.int (bF-mY Z)),some (.ref l),some (.int kd),none]) (λ_ QQ S L=>?A5) ?B5
  case A5 =>
   show#[0,rfl,0,?_];show gf (λ_=>?_) (λ_=>L _ #[1]);show#[0,0,m.lr,0,du M4.hr ez,z.ra,0,M4.rm _ U,_,0,rfl,0,?_];rw[Tb.bW];show sY (λc=>S _ ?_) (λ_=>L _ #[1]);have c:(0:Int)<(z.pl.length:Nat):=of_decide_eq_true c;show#[0,0,0,m.lr,0,du M4.hr ez,z.ra,_,z.pl.map (·.1),rfl,M4.rm _ U,a6,M4.np _ U,by rw[BY];show Ly a7 av,λl2 ps am ac _=>?_];have lp:ps.length=z.pl.length:=(by rw[ac.length_eq,BY]);let#[b5,b6]:=at_of (xs:=ps) (i:=I%(z.pl.length:Int)) (n:=z.pl.length) (MU _ (by omega +splitNatSub)) (MG _ (by omega +splitNatSub)) (by omega +splitNatSub);generalize ps.getD (I%(z.pl.length:Int)).toNat 0=Y at b5 b6;let#[z0,z1]:=bz Y (ac.mem_iff.mp b6);have s8:=Tb.ar (X:=.lst (ps.map V.int)) am;have h8:upd H8 l2 (.lst (ps.map V.int)) l2=some (.lst (ps.map V.int)):=ae;have M8:=M4.same s8;generalize upd H8 l2 (.lst (ps.map V.int))=N at *;show#[0,0,0,m.lr,0,du M8.hr ez,z.ra,0,M8.rm _ U,_,0,4,l2,2,.int Y,1,bA.of h8,?_,_,0,rfl,.inl #[av,av],0,_,0,rfl,(by change(0:Int)<256;decide),(by change 1<=sizeLine;decide),λc1 ba=>?_]
   .change(0:Int)<((Tb.dk eS z.pl).length:Nat);rw[Tb.bW];omega +splitNatSub
   .rw[Tb.bW];show b5
   have s9:=Tb.ar (X:=.lst [V.int (I%256)]) ba;have h9:upd N c1 (.lst [V.int (I%256)]) c1=some (.lst [V.int (I%256)]):=ae;show#[by change 4<=sizeLine;decide,λd hd=>?_];have a0:=Tb.ar (X:=.tup [V.str "poke",V.int tk,V.int (8*Y),V.ref c1]) hd;show ab (.poke tk (8*Y) c1 [I%256]) (s8.trans (s9.trans a0)) #[ae,λ_ _ _ _ e=>by cases e;show a0 _ _ h9] #[by omega +splitNatSub,by omega +splitNatSub,HC 1,(by change 1<=100;decide)] (λ_ _ _ _ e=>by cases e;show S4.free (s8.free ba)) (λ_ e=>by cases e)
  case B5 =>
  rintro σ N ⟨e9,rfl⟩;subst e9;show gv λ_ G=>?_;let#[b7,b8]:=at_of (xs:=oP z++[0]) (i:=I%(((oP z).length:Int)+1)) (n:=((oP z).length:Int)+1) (MU _ (by omega +splitNatSub)) (MG _ (by omega +splitNatSub)) (by rw[Li];rfl);generalize (oP z++[0]).getD (I%(((oP z).length:Int)+1)).toNat 0=fq at b7 b8;have a5:0<=fq/\fq<64:=by
   rcases List.mem_append.mp b8 with w|w
   .show fb _ w
   .rw[List.mem_singleton.mp w];decide
  show#[0,(by change 1<=sizeLine;decide),λp2 bb=>?_];have sA:=Tb.ar (X:=.lst [V.int 0]) bb;show#[l,p2,_,0,rfl,sA _ _ h4,ae,?_,λp3 be=>?_]
  .rw[BY];change(oP z).length+1<=_;omega +splitNatSub
  have sB:=Tb.ar (X:=.lst ((oP z).map V.int++[V.int 0])) be;show#[0,0,l,0,.inl (bA.of (sB _ _ (sA _ _ h4))),_,0,5,0,4,p3,2,.int fq,1,bA.of ae,?_,G _ _ ?_]
  .change(0:Int)<(((oP z).map V.int).length:Nat)+1;omega +splitNatSub
  .rw[BY];rw[Ln]at b7;show b7
  clear G;have SB:=sA.trans sB;generalize upd (upd N p2 (.lst [V.int 0])) p3 (.lst ((oP z).map V.int++[V.int 0]))=HB at *;let#[b9,ap]:=at_of (xs:=[-1,0,1, -9]) (i:=I/64%4) (n:=4) (by omega +splitNatSub) (by omega +splitNatSub) rfl;generalize ([-1,0,1, -9]:List Int).getD (I/64%4).toNat 0=cc at b9 ap;have bn : -9<=cc/\cc<=1:=by
   simp only[LO,Lm,or_false]at ap;rcases ap with rfl|rfl|rfl|rfl<;>decide
  show#[0,0,0,0,0,by change 4<=sizeLine;decide,λl9 bc=>?_];have sC:=Tb.ar (X:=.lst [V.int (-1),V.int 0,V.int 1,V.int (-9)]) bc;show#[0,_,0,rfl,#[av,av],_,0,rfl,(by change(0:Int)<4;decide),l9,2,.int cc,1,bA.of ae,b9,_,0,5,0,by change 4<=sizeLine;decide,λd hd=>?_];show ab (.map tk fq (if bF-mY Z+cc>1 then bF-mY Z+cc else 1)) (SB.trans (sC.trans (Tb.ar hd))) #[ae,λ_ _ _ _ e=>by cases e] #[a5.1,a5.2,3] (λ_ _ _ _ e=>by cases e) (λ_ e=>by cases e)
  .split<;>omega +splitNatSub
  .split<;>omega +splitNatSub
end
noncomputable abbrev my:LI:=top 44
noncomputable abbrev Be:LI:=top 47
inductive kF (vs:List V) (H:Hp) (Q:VK) (e3:XK):Prop
 |mk (p q:Addr) (xs:List Int) (_:vs=[.ref p,.ref q]) (_:H p=some (.lst (xs.map V.int))) (_:H q=some (.lst (xs.map V.int))) (_:xs.length<=100) (_:∀H',bh H H'->Q (.bl true) H'):kF vs H Q e3
theorem Km {c:CA}{H H':Hp}{M M' B:Addr->Prop}{a:RA}{s:Pg.PS}{W:dv}(R:az c H M a s W) (o:Off B H H') (G:∀b,B b->M b/\¬ a.own W b) (J:∀{b C dx fs},H b=some (.ins C dx fs)->¬ B b) (S:∀b xs,H b=some (.tup xs)->¬ B b) (U:∀b,M' b->M b\/H b=none) (L:∀b,M b->¬ B b->M' b) (mt:∀b,M' b->H' b≠none):az c H' M' a s W:=by
 let#[dx,h1]:=R.ob;let#[am,N]:=R.pg.fr.ob;let#[ac,O]:=R.pg.sl.ob;show#[#[dx,o _ _ h1 (J h1)],R.pg.move o (λb z=>(G b z).1) U (λb z y=>(G b y).2 (.inl z)) (J N) (J O) S,#[R.ok.ds,λb z=>L b (R.ok.mm b z) λq=>?_],mt,o _ _ R.hd (λz=>(G _ z).2 (.inr (.inl rfl))),R.nd,λx I=>?_,λx I b z=>#[L b (R.dm x I b z).1 λq=>(G b q).2 (.inr (.inr #[x,I,z])),(R.dm x I b z).2],R.np,R.dj,L _ R.DV (λz=>(G _ z).2 (.inr (.inl rfl))),R.BW,R.zd]
 .simp only[LO,Lm,or_false]at z;rcases z with z|z|z|z|z|z|z|z|z<;>rw[z]at q
  .show(G _ q).2 (.inl (PA.fg 0 rfl))
  .show J N q
  .show(G _ q).2 (.inl (PA.fg 1 rfl))
  .show(G _ q).2 (.inl (PA.fg 2 rfl))
  .show J O q
  .show(G _ q).2 (.inl (PA.fg 3 rfl))
  .show(G _ q).2 (.inl (PA.fg 4 rfl))
  .show(G _ q).2 (.inl (PA.fg 5 rfl))
  .show(G _ q).2 (.inl (PA.fg 6 rfl))
 .let#[ab,Y]:=(R.tb x I).at_.ob;show(R.tb x I).off o (J Y) (λb z y=>(G b y).2 (.inr (.inr #[x,I,z]))) S
theorem x8 {F:Int->List Int}{q:Int}(h:(F q).length=8):wU F (8*q) 8=F q:=by
 show Nd λj=>?_;unfold wU;rw[K4];by_cases G:j<8
 .rw[NM G];change some ((F ((8*q+(j:Int))/8)).getD ((8*q+(j:Int))%8).toNat 0)=_;rw[show(8*q+(j:Int))/8=q by omega,show((8*q+(j:Int))%8).toNat=j by omega,LU,Lb af];rfl
 .rw[LX (by rw[LV];omega),LX af];rfl
structure oy (c:CA) (H0:Hp) (M0:Addr->Prop) (a:RA) (s0:Pg.PS) (W:dv) (cv:Int->Int->List Int) (H:Hp) (M:Addr->Prop) (s:Pg.PS):Prop where
 R:az c H M a s W
 ri:Pg.RI s (ents W)
 cv:Cv s W cv
 st:Step H0 M0 (a.own W) H M (a.own W)
 ln:∀b,(s.ow b).length=(s0.ow b).length
section
variable {c:CA}{H0 H H':Hp}{M0 M M':Addr->Prop}{a:RA}{s0 s s':Pg.PS}{W:dv}{cv:Int->Int->List Int}
theorem oy.same (P:oy c H0 M0 a s0 W cv H M s) (h:bh H H'):oy c H0 M0 a s0 W cv H' M s:=#[P.R.same h,P.ri,P.cv,P.st.trans (P.R.iB h),P.ln]
theorem oy.next (P:oy c H0 M0 a s0 W cv H M s) (R:az c H' M' a s' W) (I:Pg.RI s' (ents W)) (h:Cv s' W cv) (st:Step H M (a.own W) H' M' (a.own W)) (G:∀b,(s'.ow b).length=(s.ow b).length):oy c H0 M0 a s0 W cv H' M' s':=#[R,I,h,P.st.trans st,λb=>(G b).trans (P.ln b)]
end
section
variable {c:CA}{H0 H H2 H3 H4:Hp}{M0 M M2 M3 M4:Addr->Prop}{a:RA}{s s0 s2 s3 s4:Pg.PS}{W:dv}{cv:Int->Int->List Int}{r:Addr}{kvs:List (Key×V)}{ob:Obj}
theorem oy.cH (P:oy c H0 M0 a s0 W cv H3 M3 s3) (G:H3 r=some (.dK kvs)) (I:M3 r/\¬ a.own W r):oy c (upd H3 r (.cH ob (.dK kvs))) M3 a s3 W cv (upd H3 r (.cH ob (.dK kvs))) M3 s3:=by
 have R:az c (upd H3 r (.cH ob (.dK kvs))) M3 a s3 W:=P.R.D8 (B:=(· = r)) (Off.wr rfl) (λb z=>by rw[z];show I) (λb z=>.inr #[_,(congrArg H3 z).trans G]) (λb z=>.inl z) (λb z _=>z) (λb z e=>by
  by_cases q:b=r
  .rw[q,ae]at e;cases e
  .rw[ag q]at e;show P.R.mt b z e)
 show#[R,P.ri,P.cv,R.refl,λ_=>rfl]
theorem oy.back (P:oy c H0 M0 a s0 W cv H3 M3 s3) (J:H3 r=some (.dK kvs)) (I:M3 r/\¬ a.own W r) (G:oy c (upd H3 r (.cH ob (.dK kvs))) M3 a s3 W cv H4 M4 s4):oy c H0 M0 a s0 W cv (upd H4 r (.dK kvs)) M4 s4:=by
 have h2:=G.st.off r _ ae I.2;have O:Off (a.own W) H3 (upd H4 r (.dK kvs)):=λb u q n=>by
  by_cases z:b=r
  .rw[z,ae, <-q,z,J]
  .rw[ag z];show G.st.off _ _ (by rw[ag z];show q) n
 have L:∀b,M4 b->upd H4 r (.dK kvs) b≠none:=λb z q=>by
  by_cases y:b=r
  .rw[y,ae]at q;cases q
  .rw[ag y]at q;show G.R.mt b z q
 have N:M4 r:=G.st.mm _ I.1 I.2;have R2:az c (upd H4 r (.dK kvs)) M4 a s4 W:=Km (B:=(· = r)) G.R (Off.wr rfl) (λb z=>by rw[z];show#[N,I.2]) (λq z=>by rw[z,h2]at q;cases q) (λb xs q z=>by rw[z,h2]at q;cases q) (λb z=>.inl z) (λb z _=>z) L;show#[R2,G.ri,G.cv,P.st.trans #[O,G.st.mm,λb z=>(G.st.mn b z).imp id λq=>(cz q).2,λb z=>.inl z,P.R.mt,P.R.dw],λb=>(G.ln b).trans (P.ln b)]
theorem zv {m:MA}{nf ns G:Nat}{pk:Int}{Z:Zs}(S:xK c H M a m nf ns G s cv pk W Z) (C:Ct H Z cv) (P:oy c H M a s W cv H2 M2 s2):xK c H2 M2 a m nf ns G s2 cv pk W Z/\Ct H2 Z cv:=by
 let#[N,I]:=mx S.D S.sp P.st;show#[#[P.R,P.ri,P.cv,?_,S.p0,I,S.tw,(P.ln true).trans S.lf,(P.ln false).trans S.ls,S.zn,S.lw,S.lz],#[λt q b h=>?_,C.inj]]
 .rw[vm P.ln];show N
 .let#[z,h1,h2]:=Option.bind_eq_some_iff.mp h;let#[y,L,J]:=Option.map_eq_some_iff.mp h2;show P.st.off _ _ (C.at_ _ _ _ h) (S.sp _ (.inr (.inr (.inr #[_,Tb.ay h1,.inr (.inr #[_,Tb.ay L,J.symm])])))).2
end
inductive qP (c:CA) (vs:List V) (H:Hp) (Q:VK) (e3:XK):Prop
 |mk (M:Addr->Prop) (a:RA) (m:MA) (nf ns kk:Nat) (s:Pg.PS) (cv:Int->Int->List Int) (pk:Int) (W:dv) (Z:Zs) (_:vs=[.ref a.rp,.ref m.md]) (_:xK c H M a m nf ns kk s cv pk W Z) (_:Ct H Z cv) (_:kk<=1000) (_:∀H' M' s',xK c H' M' a m nf ns kk s' cv pk W Z->Ct H' Z cv->Step H M (a.own W) H' M' (a.own W)->Q (.bl true) H'):qP c vs H Q e3
section
variable {P:IF}{w:Ll}{K:PySem.W.Frag}{mg:Str->Option Value}{base:Heap}
theorem Kh:aC ["_law_found","_law_due_here"] ["_law_found","_law_due_here"] (aw my):=L2.bG
theorem vJ {f:Addr}{fd:GX}(F:cM K "_law_numbers" "_law_numbers" my f fd) (T:nV mg) (O:Df P w K mg base aS 1 "_law_whole" qg) :
  a8 P w K mg base aS 2 f fd ["_law_found","_law_due_here"] kF:=by
 show F.ok Kh (λvs H Q E h=>?_) (λU A outer s H vs Q E J h=>?_)
 .let#[p,q,xs,rfl,_]:=h;rfl
 .let#[p,q,xs,rfl,G,R,I,k]:=h;have hs:sizeLine=16777216:=Lh;show#[_,(ah (aV (PW.pt (j7 (rH (fK (aK d0 (by rfl) T.B0 bV (aa (pv 0) (aa (fw (v:=.ty "list") (by rfl) T.list eY rfl) ai))))) (jn (aA (E6 J.kT) (pv 0) (pv 1) (aH _))))) (aj (aF k9)) aG)
   (aj (aF (aK (kI rfl) (by rfl) T.all vo (aa (iR (cl:=[]) (caps:=[]) #[rfl,ao,ao,rfl,by kernel_rfl,by intro p G;simp at G,by kernel_rfl,by intro p G;simp at G,ao] rfl (eu (pv 0)) (λ_ _ _ _=>gO) (λ_ _ _ _=>(pc O J ax (aa (pv 0) ai)))) ai))))),?_]
  show#[0,.ref p,"list",_,true,rfl,.lst G,E4 _,true,rfl,bJ ?_];show#[0,0,p,q,_,0,rfl,bA.of G,bA.of R,gn _,gn _,0,?_];rw[pF,decide_eq_true rfl];show bJ ?_;show#[0,p,rfl,#[_,bA.of G],?_];show vq (K:=K) (a:=p) (xs:=xs.map V.int) (λi ys H2=>i<=xs.length/\ys=(replicate i true).map V.bl/\H2=H) #[LD _,1] (λi ys H2 _ z=>by rw[z.2.2];show bA.of G) ?_ ?_
  .rintro i x ys H2 L ⟨hi,rfl,rfl⟩;rw[K4]at L;let#[n,S,rfl]:=Option.map_eq_some_iff.mp L;show#[0,n,4,(List.getElem?_eq_some_iff.mp S).1,?_,rfl]
   .rw[BY,LW];omega
   .rw[List.replicate_succ',Ln];rfl
  .rintro ys H2 ⟨_,rfl,rfl⟩ l I;show#[l,0,bA.of ae,?_];rw[show(replicate (List.map V.int xs).length true).all id=true from List.all_eq_true.mpr λb N=>(List.mem_replicate.mp N).2];show k _ (Tb.ar I)
theorem Dr:aC ["_law_kept","_law_model_here","_law_task","_law_room","_law_page"] ["_law_kept","_law_model_here"] (aw Be):=L2.bG
theorem Dj {f:Addr}{fd:GX}{c:CA}(F:cM K "_law_all_right" "_law_all_right" Be f fd) (TR:pb K mg c) (MK:Jg P w K mg base c) (a7:Df P w K mg base aS 2 "_law_numbers" kF) (bx:Df P w K mg base aS 1 "_law_held" gN) (bi:Md P w K mg base aS 2 c.C "held" (fX c)) :
  a8 P w K mg base aS 11 f fd ["_law_kept","_law_model_here"] (qP c):=by
 show F.ok Dr (λvs H Q E h=>?_) (λbC A outer s H vs Q E O h=>?_)
 .let#[M,a,m,nf,ns,kk,s',cv,pk,W,Z,rfl,_]:=h;rfl
 .let#[M,a,m,nf,ns,kk,s',cv,pk,W,Z,rfl,S,C,bz,k]:=h;have hs:sizeLine=16777216:=Lh;have ac:M m.lr/\¬ a.own W m.lr:=S.sp _ (.inr (.inl rfl));have hn:∀(ob:Obj) u',H m.lr≠some (.cH ob u'):=λob u' w=>(by rw[S.D.hr]at w;cases w);show#[_,(ah (lP (de Lr rfl (t5 (a9 (aZ O) (pv 1) aI (λ_ _=>rfl))) (dE rfl (bf (aY (i:=2) Dr.nd rfl (Lc rfl)) (bf (aY (i:=3) Dr.nd rfl (Lc rfl)) cV))) (aj (lP (de Lr rfl (qp (pv 3)) (aY (i:=4) Dr.nd rfl (Lc rfl)) (aj (aV (rH (fK (pc a7 O ax (aa (pm (pv 0) TR.cl MK.Jq O ax (aa (pv 2) (aa (aD eU ak (pv 4)) (aa ak ai)))) (aa (a9 (aZ O) (pv 3) (pv 4) (λ_ _=>rfl)) ai))))) (aj (aF k9)) aG)))))))
   (aj (aF (jP bH (qx (pv 0) TR.cl bi O ax) (pc bx O ax (aa (pv 1) ai)) (aH _))))),?_]
  show#[0,m.md,.ref m.lr,rfl,S.D.g (wq _ _ _ _),m.lr,0,S.D.hr,hn,λob=>?_];have oF:Off (· = m.lr) H (upd H m.lr (.cH ob (.dK (Tb.dk gk Z)))):=Off.wr rfl;have hF:upd H m.lr (.cH ob (.dK (Tb.dk gk Z))) m.lr=some (.cH ob (.dK (Tb.dk gk Z))):=ae;have PS:oy c H M a s' W cv H M s':=#[S.R,S.ri,S.cv,S.R.refl,λ_=>rfl];have P0:=PS.cH (ob:=ob) S.D.hr ac;have back:∀{H9 M9 N},oy c (upd H m.lr (.cH ob (.dK (Tb.dk gk Z)))) M a s' W cv H9 M9 N->oy c H M a s' W cv (upd H9 m.lr (.dK (Tb.dk gk Z))) M9 N:=λP=>PS.back S.D.hr ac P;have bl:∀x∈Z,upd H m.lr (.cH ob (.dK (Tb.dk gk Z))) x.2.ra=some (.dK (Tb.dk eS x.2.pl)):=λx hx=>oF _ _ (S.D.rm x hx) (S.D.d3 x hx).2.1;have a1:∀t q I,eA Z t q=some I->upd H m.lr (.cH ob (.dK (Tb.dk gk Z))) I=some (.lst ((cv t q).map V.int)):=λt q I e=>oF _ _ (C.at_ _ _ _ e) (λz=>by have:=C.at_ _ _ _ e;rw[z,S.D.hr]at this;cases this);have zo:∀t q I,eA Z t q=some I->cY m Z I:=λt q I e=>by
   let#[z,h1,h2]:=Option.bind_eq_some_iff.mp e;let#[y,Y,h4]:=Option.map_eq_some_iff.mp h2;show .inr (.inr (.inr #[_,Tb.ay h1,.inr (.inr #[_,Tb.ay Y,h4.symm])]))
  generalize bI:upd H m.lr (.cH ob (.dK (Tb.dk gk Z)))=HF at *;show pH (a:=m.lr) (o:=ob) (kvs:=Tb.dk gk Z) (λj σ H2=>∃(v2 v3 v4:Option V) (M2:Addr->Prop) (s2:Pg.PS),σ=[some (.ref a.rp),some (.ref m.md),v2,v3,v4]/\oy c HF M a s' W cv H2 M2 s2) #[2,_,M,s',rfl,P0] (λj σ H2 _ z0=>by let#[_,_,_,_,_,_,I2]:=z0;show I2.st.off _ _ hF ac.2) ?_ ?_
  .rintro j be v σ H2 T' hk bn ⟨v2,v3,v4,M2,s2,rfl,P2⟩;have ab:(Z.map λx:Int×MT=>((Sum.inl x.1:Key),gk x.2))[j]?=some (be,v):=hk;rw[K4]at ab;let#[x,hx,e]:=Option.map_eq_some_iff.mp ab;cases e;have L:=Ld hx;have ez:Tb.look Z x.1=some x.2:=Tb.bK S.D.nd L;let#[xx,am]:=S.tw.get ez;have aB:=S.tw.yf am ez;show#[T',[.int x.1,.ref x.2.ra],rfl,cy.of ae,5,0,_,0,4];have P3:=P2.same (Tb.ar (X:=.tup [kV (Sum.inl x.1),gk x.2]) bn);generalize upd H2 T' (.tup [kV (Sum.inl x.1),gk x.2])=H3 at *;have U:¬ a.own W x.2.ra:=(S.sp _ (.inr (.inr (.inr #[x,L,.inl rfl])))).2;have ap:M2 x.2.ra/\¬ a.own W x.2.ra:=#[P3.st.mm _ (S.sp _ (.inr (.inr (.inr #[x,L,.inl rfl])))).1 U,U];have Y:=P3.st.off _ _ (bl x L) U;have as:∀(ob:Obj) u',H x.2.ra≠some (.cH ob u'):=λob u' w=>(by rw[S.D.rm x L]at w;cases w);show#[0,x.2.ra,0,Y,as,λJ=>?_];have hG:upd H3 x.2.ra (.cH J (.dK (Tb.dk eS x.2.pl))) x.2.ra=some (.cH J (.dK (Tb.dk eS x.2.pl))):=ae;have PG:=P3.cH (ob:=J) Y ap;have bd:∀{H9 M9 N},oy c (upd H3 x.2.ra (.cH J (.dK (Tb.dk eS x.2.pl)))) M2 a s2 W cv H9 M9 N->oy c HF M a s' W cv (upd H9 x.2.ra (.dK (Tb.dk eS x.2.pl))) M9 N:=λP=>P3.back Y ap P;have a3:∀t q I,eA Z t q=some I->upd H3 x.2.ra (.cH J (.dK (Tb.dk eS x.2.pl))) I=some (.lst ((cv t q).map V.int)):=λt q I e=>by
    have e2:=P3.st.off _ _ (a1 t q I e) (S.sp _ (zo _ _ _ e)).2;rw[ag (λz=>by rw[z,Y]at e2;cases e2)];show e2
   generalize upd H3 x.2.ra (.cH J (.dK (Tb.dk eS x.2.pl)))=HG at *;show tV (a:=x.2.ra) (o:=J) (kvs:=Tb.dk eS x.2.pl) (λi σ H4=>∃(v4:Option V) (M4:Addr->Prop) (s4:Pg.PS),σ=[some (.ref a.rp),some (.ref m.md),some (.int x.1),some (.ref x.2.ra),v4]/\oy c HG M2 a s2 W cv H4 M4 s4) #[_,M2,s2,rfl,PG] (λi σ H4 _ z0=>by let#[_,_,_,_,G]:=z0;show G.st.off _ _ hG U) ?_ ?_
   .rintro i bc v σ H4 hk ⟨a5,M4,s4,rfl,G⟩;have ab:(x.2.pl.map λy:Int×Addr×Int=>((Sum.inl y.1:Key),eS y.2))[i]?=some (bc,v):=hk;rw[K4]at ab;let#[#[pg,y],hy,e]:=Option.map_eq_some_iff.mp ab;cases e;have bb:=Ld hy;have ep:Tb.look x.2.pl pg=some y:=Tb.bK (S.D.np x L) bb;show nameQ ?_;dsimp only;show BP λQQ ji je=>?_;let#[g0,g1]:=S.D.rg x L (pg,y) (Tb.ay ep);have g0:0<=pg:=g0;have g1:pg<64:=g1;have hb:=wI (x:=xx) (z:=x.2) (ad:=8*pg) (n:=8) aB af #[af,λi hi=>by rw[show(8*pg+(i:Int))/8=pg by omega,ep];show λq=>by cases q];let#[bv,ba]:=G.R.ob;have ea:eA Z x.1 pg=some y.1:=(by rw[AW ez,ep];rfl);have l8:=C.FY S.D ea;show#[0,a.rp,bv,0,ba,fJ _ _ _ ao ao ao,0,0,_,0,4,M4,a,s4,W,cv,x.1,8*pg,(8),xx,rfl,G.R,G.ri,G.cv,am,av,af,af,hb,λH5 M5 s5 l R5 a0 a4 aT a6 fl hl=>?_]
    .show .inl #[av,av]
    have P5:=G.next R5 a0 a4 aT a6;rw[CH (IQ G.ri G.cv am hb),x8 l8]at hl;have h5:=P5.st.off _ _ hG U;have c5:=P5.st.off _ _ (a3 _ _ _ ea) (S.sp _ (zo _ _ _ ea)).2;show#[0,0,x.2.ra,0,(.inl #[_,Sum.inl pg,.inr #[J,h5],rfl,by rw[Tb.cK,ep];rfl]:dB _ _ _ (some (eS y))),l,y.1,cv x.1 pg,rfl,hl,c5,af,λH6 s6=>#[true,rfl,je _ #[_,M5,s5,rfl,P5.same s6]]]
   .rintro σ H4 ⟨a5,M4,s4,rfl,G⟩;show#[x.2.ra,J,_,G.st.off _ _ hG U,as,2,_,M4,s4,rfl,bd G]
  .rintro σ H2 ⟨v2,v3,v4,M2,s2,rfl,P2⟩;show#[m.lr,ob,_,P2.st.off _ _ hF ac.2,hn,?_];have PE:=back P2;let#[S2,C2]:=zv S C PE;let#[bm,a2]:=S2.R.ob;show#[0,a.rp,bm,0,a2,fJ _ _ _ ao ao ao,M2,a,s2,W,rfl,S2.R,by have:=S.lw;omega,λH8 s8=>?_];have P8:=PE.same s8;show#[0,m,_,pk,Z,rfl,(S2.same s8).D,by have:=S.lz;omega,λH9 N=>#[4]];have P9:=P8.same N;let#[S9,C9]:=zv S C P9;rw[S.tw.held S.R S.D,decide_eq_true rfl];show k _ M2 s2 S9 C9 P9.st
end
structure Lv (c:CA) (H0:Hp) (a:RA) (m:MA) (nf ns:Nat) (tl:Addr) (tv:HO) (k:Nat) (H:Hp) (M:Addr->Prop) (s:Pg.PS) (cv:Int->Int->List Int) (pk:Int) (W:dv) (Z:Zs):Prop where
 S:xK c H M a m nf ns k s cv pk W Z
 C:Ct H Z cv
 sm:bh H0 H
 fr:∀b,M b->H0 b=none
 ht:H tl=some tv
 nt:¬ M tl
section
variable {c:CA}{H0 H H':Hp}{M M':Addr->Prop}{a:RA}{m:MA}{nf ns k:Nat}{tl:Addr}{tv:HO}{s s':Pg.PS}{cv cv':Int->Int->List Int}{pk:Int}{W W':dv}{Z:Zs}
theorem Ct.same (C:Ct H Z cv) (h:bh H H'):Ct H' Z cv:=C.keep (λa xs e=>h _ _ e) λ_ _ _ h=>h
theorem Lv.same (L:Lv c H0 a m nf ns tl tv k H M s cv pk W Z) (h:bh H H'):Lv c H0 a m nf ns tl tv k H' M s cv pk W Z:=#[L.S.same h,L.C.same h,L.sm.trans h,L.fr,h _ _ L.ht,L.nt]
theorem xK.up (S:xK c H M a m nf ns k s cv pk W Z) {j:Nat}(h:k<=j):xK c H M a m nf ns j s cv pk W Z:=#[S.R,S.ri,S.cv,S.D,S.p0,S.sp,S.tw,S.lf,S.ls,S.zn,Ly S.lw h,Ly S.lz h]
theorem Lv.up (L:Lv c H0 a m nf ns tl tv k H M s cv pk W Z) {j:Nat}(h:k<=j):Lv c H0 a m nf ns tl tv j H M s cv pk W Z:=#[L.S.up h,L.C,L.sm,L.fr,L.ht,L.nt]
theorem Lv.step (L:Lv c H0 a m nf ns tl tv k H M s cv pk W Z) (S:xK c H' M' a m nf ns k s' cv pk W Z) (C:Ct H' Z cv) (st:Step H M (a.own W) H' M' (a.own W)):Lv c H0 a m nf ns tl tv k H' M' s' cv pk W Z:=by
 have G:bh H0 H':=λb u e=>st.off b u (L.sm _ _ e) λw=>(by rw[L.fr b (L.S.R.dw b w)]at e;cases e);show#[S,C,G,λb z=>(st.mn b z).elim (L.fr b) λz=>L.sm.free z,st.off _ _ L.ht λw=>L.nt (L.S.R.dw _ w),λz=>(st.mn _ z).elim L.nt λz=>by rw[L.ht]at z;cases z]
theorem Cg {D:Dd}{L:Zs}(S:Z≠[]) (h:tF D (hZ Z) (hZ L)) (Y:∀o,D=.close o->∃t,t≠o/\∃z,Tb.look Z t=some z):L≠[]:=λe=>by
 have I:∀t,hZ L t=false:=λt=>(by rw[e];rfl);obtain⟨G,J⟩:∃G,hZ Z G=true:=by
  cases O:Z with
  |nil=>show absurd O S
  |cons x r =>
   show#[x.1,?_];unfold hZ;rw[Tb.aP,Q0 rfl];rfl
 cases D with
 |begin t=>have:=h G;rw[I G,J]at this;simp at this
 |close o =>
  let#[N,U,z1,R]:=Y o rfl;have:=h N;rw[I N,decide_eq_true U]at this;unfold hZ at this;rw[R]at this;cases this
 |copy t o=>have:=h G;rw[I G,J]at this;simp at this
 |map t p q=>have:=h G;rw[I G,J]at this;cases this
 |drop t p q=>have:=h G;rw[I G,J]at this;cases this
 |poke t p q r=>have:=h G;rw[I G,J]at this;cases this
theorem Lv.zg (L:Lv c H0 a m nf ns tl tv k H M s cv pk W Z) {d:Addr}{D:Dd}(hd:lD H d D) (J:∀t ad G cs,D=.poke t ad G cs->¬ M G) {H2:Hp}{N:Zs}(I:uc m H Z H2 N):lD H2 d D:=by
 show#[I.1 _ _ hd.1 λw=>?_,λt ad G cs e=>I.1 _ _ (hd.2 t ad G cs e) λw=>J t ad G cs e (L.S.sp _ w).1];rcases L.S.D.alive _ w with⟨_,h⟩|⟨_,h⟩
 .rw[hd.1]at h;cases h
 .rw[hd.1]at h;cases h
theorem Lv.HL (L:Lv c H0 a m nf ns tl tv k H M s cv pk W Z) {D:Dd}(a7:∀o,D=.close o->∃t,t≠o/\∃z,Tb.look Z t=some z)
  {H2:Hp}{Y:Int}{I:Zs}{v:V}(D2:cA H2 m (bF s) Y I) (p2:0<=Y/\∀cv,Ct H Z cv->Ct H2 I (oV D cv)/\Hg D cv H H2 v) (N:uc m H Z H2 I) (l2:I.length<=Z.length+1) (h2:tF D (hZ Z) (hZ I)) (e2:vV 0 (λv=>v≠0) D (eZ Z) (eZ I))
  {H3:Hp}{M3:Addr->Prop}{s3:Pg.PS}{J:dv}{O:Int->Int->List Int}{v3:V}(R3:az c H3 M3 a s3 J) (a0:Pg.RI s3 (ents J)) (c3:Cv s3 J O/\O=oV D cv/\Hg D cv H2 H3 v3) (st:Step H2 (λb=>(M b/\¬ cY m Z b)\/cY m I b) (a.own W) H3 M3 (a.own J)) (U:∀b,(s3.ow b).length=(s.ow b).length) (lw:J.length<=W.length+1) (h3:tF D (hW W) (hW J)) (e3:vV none (λx=>∃k,x=some k) D (eW W) (eW J)) :
  Lv c H0 a m nf ns tl tv (k+1) H3 M3 s3 O Y J I:=by
 have G:=L.S;let#[am,ac]:=q8 G.R G.D G.sp D2 N;have ap:bh H0 H2:=λb u e=>N.1 b u (L.sm _ _ e) λw=>(by rw[L.fr b (G.sp b w).1]at e;cases e);have aT:∀b,((M b/\¬ cY m Z b)\/cY m I b)->H0 b=none:=λb z=>by
  rcases z with z|z
  .show L.fr b z.1
  .rcases N.2 b z with z|z
   .show L.fr b (G.sp b z).1
   .show L.sm.free z
 have aB:=N.1 _ _ L.ht λw=>L.nt (G.sp _ w).1;have as:¬ ((M tl/\¬ cY m Z tl)\/cY m I tl):=λz=>by
  rcases z with z|z
  .show L.nt z.1
  .rcases N.2 _ z with z|z
   .show L.nt (G.sp _ z).1
   .rw[L.ht]at z;cases z
 let#[a5,a1]:=mx D2 ac st;have ba:=G.tw.next h3 h2 e3 e2;have a4:bh H0 H3:=λb u e=>st.off b u (ap _ _ e) λw=>(by rw[aT b (am.dw b w)]at e;cases e);have a3:∀b,M3 b->H0 b=none:=λb z=>(st.mn b z).elim (aT b) λz=>ap.free z;have a2:=st.off _ _ aB λw=>as (am.dw _ w);have a6:¬ M3 tl:=λz=>(st.mn _ z).elim as λz=>(by rw[aB]at z;cases z);have ab:Ct H2 I O:=(by rw[c3.2.1];show(p2.2 cv L.C).1);show#[#[R3,a0,c3.1,?_,p2.1,a1,ba,(U true).trans G.lf,(U false).trans G.ls,Cg G.zn h2 a7,3],?_,a4,a3,a2,a6]
 .rw[vm U];show a5
 .have:=G.lw;omega +splitNatSub
 .have:=G.lz;omega +splitNatSub
 .show#[λt q b h=>?_,ab.inj];let#[z,h5,hh]:=Option.bind_eq_some_iff.mp h;let#[y,h6,h7]:=Option.map_eq_some_iff.mp hh;show st.off _ _ (ab.at_ _ _ _ h) (ac _ (.inr (.inr (.inr #[_,Tb.ay h5,.inr (.inr #[_,Tb.ay h6,h7.symm])])))).2
theorem Lv.back {j:Nat}{H3:Hp}{M3:Addr->Prop}{s3:Pg.PS}{O:Int->Int->List Int}{Y:Int}{I:dv}{J:Zs}(L:Lv c H0 a m nf ns tl tv k H M s cv pk W Z) (G:Lv c H0 a m nf ns tl tv j H3 M3 s3 O Y I J) (hz:∀t,hZ J t=hZ Z t) (hw:∀t,hW I t=hW W t):Lv c H0 a m nf ns tl tv k H3 M3 s3 O Y I J:=by
 have i1:∀q,Tb.look J q=none↔Tb.look Z q=none:=λq=>by
  have:=hz q;unfold hZ at this;rw[<-NC, <-NC, <-PK, <-PK,this]
 have i2:∀q,Tb.look I q=none↔Tb.look W q=none:=λq=>by
  have:=hw q;unfold hW at this;rw[<-NC, <-NC, <-PK, <-PK,this]
 have N:=(jz G.S.D.nd L.S.D.nd i1).length_eq;have U:=(jz G.S.R.nd L.S.R.nd i2).length_eq;rw[BY,BY]at N U;have S:=G.S;show#[#[S.R,S.ri,S.cv,S.D,S.p0,S.sp,S.tw,S.lf,S.ls,S.zn,by rw[U];show L.S.lw,by rw[N];show L.S.lz],G.C,G.sm,G.fr,G.ht,G.nt]
theorem He (T:Tw W Z) {tt:Int}{pk:Int}(R:az c H M a s W) (D:cA H m tt pk Z) {Dd:Dd}(N:mY Z<=800000) (f:HK Z (bF s) Dd):Ap W (bF s) Dd:=by
 have O:=T.held R D;cases Dd with
 |map t p mm =>
  let#[z,N,I,L,U]:=f;let#[x,G]:=T.get N;show#[x,G,I,λq S=>(T.yf G N q).mpr (L q S),by rw[<-O];show U]
 |copy t o =>
  let#[z,J,I,L]:=f;let#[x,G]:=T.get J;have l:=T.len R D G J;have Y:z.pl.length<=64:=D.len (Tb.ay J);show#[x,G,(T.look o).mpr I,3]
  .omega +splitNatSub
  .rw[<-O,l];show L
 |begin t=>show f
 |close t=>show f
 |drop t p q=>show f
 |poke t p q r=>show f
end
noncomputable abbrev uG:LI:=top 50
inductive qM (c:CA) (vs:List V) (H:Hp) (Q:VK) (e3:XK):Prop
 |mk (n:Int) (H0:Hp) (M:Addr->Prop) (a:RA) (m:MA) (nf ns k:Nat) (tl:Addr) (tv:HO) (s:Pg.PS) (cv:Int->Int->List Int) (pk:Int) (W:dv) (Z:Zs) (_:vs=[.ref a.rp,.ref m.md,.int n]) (_:Lv c H0 a m nf ns tl tv k H M s cv pk W Z) (_:k<=1000) (_:∀H' M' s' cv' pk' W' Z',Lv c H0 a m nf ns tl tv k H' M' s' cv' pk' W' Z'->Q (.bl true) H'):qM c vs H Q e3
section
variable {P:IF}{w:Ll}{K:PySem.W.Frag}{mg:Str->Option Value}{base:Heap}
theorem DH:aC ["_law_kept","_law_model_here","_law_m","_law_task","_law_page","_law_deed"] ["_law_kept","_law_model_here","_law_m"] (aw uG):=L2.bG
theorem Bo {f:Addr}{fd:GX}{c:CA}(F:cM K "_law_poked" "_law_poked" uG f fd) (T:nV mg) (b9:Df P w K mg base aS 1 "_law_held" gN) (bv:Df P w K mg base aS 1 "_law_done" oi) (b5:Df P w K mg base aS 11 "_law_called" (jF c)) (b8:Df P w K mg base aS 11 "_law_all_right" (qP c)):a8 P w K mg base aS 12 f fd ["_law_kept","_law_model_here","_law_m"] (qM c):=by
 show F.ok DH (λvs H Q E h=>?_) (λce A outer s H vs Q E U h=>?_)
 .let#[n,H0,M,a,m,nf,ns,kk,tl,tv,s',cv,pk,W,Z,rfl,_]:=h;rfl
 .let#[n,H0,M,a,m,nf,ns,kk,tl,tv,s',cv,pk,W,Z,rfl,L,hk,q]:=h;have hs:sizeLine=16777216:=Lh;show#[_,(ah (aV (aA iu (pc b9 U ax (aa (pv 1) ai)) (a9 (aZ U) (pv 1) aI (λ_ _=>rfl)) (aH _)) (aj (aF k9)) aG)
   (ah (de Lr rfl (eu (aK (dY rfl) (by rfl) T.sorted fC (aa (a9 (aZ U) (pv 1) aI (λ_ _=>rfl)) ai))) (aY (i:=3) DH.nd rfl (Lc rfl)) (aj (de Lr rfl (eu (aK (dY rfl) (by rfl) T.sorted fC (aa (a9 (aZ U) (a9 (aZ U) (pv 1) aI (λ_ _=>rfl)) (pv 3) (λ_ _=>rfl)) ai))) (aY (i:=4) DH.nd rfl (Lc rfl)) (ah (aO (i:=5) DH.nd rfl (Lc rfl) (cR (aa aI (aa (pv 3) (aa (aD bt (aD eU ak (pv 4)) (aD bN (pv 2) ak)) (aa (cn (aa (aD bN (aD bt (aD bt (pv 2) (aD eU ak (pv 4))) (pv 3)) ak) ai)) ai))))))
   (ah (aM (pc bv U ax (aa (pv 1) (aa (pv 5) ai))))
   (aj (aM (pc b5 U ax (aa (pv 0) (aa (pv 5) ai))))))))))
   (aj (aF (pc b8 U ax (aa (pv 0) (aa (pv 1) ai))))))),?_]
  show ip (λσ H1=>bh H H1/\σ=[some (.ref a.rp),some (.ref m.md),some (.int n),none,none,none]) (λ_ QQ ji je=>?A) ?B
  case A =>
   show#[0,m,_,pk,Z,rfl,L.S.D,Ly L.S.lz hk,λH1 s1=>?_];have D1:=L.S.D.same s1;show#[0,m.md,.int (bF s'),rfl,D1.g (Di _ _ _ _),_,0,rfl,0,?_];show sY (λ_=>ji _ (q _ _ _ _ _ _ _ (L.same s1))) (λ_=>je _ #[s1,rfl])
  case B =>
  rintro σ H1 ⟨s1,rfl⟩;have L1:=L.same s1;have bb:(Tb.dk gk Z).map (·.1)=(Z.map (·.1)).map Sum.inl:=(by unfold Tb.dk;rw[Me,Me];rfl);show#[0,m.md,.ref m.lr,rfl,L1.S.D.g (wq _ _ _ _),m.lr,_,Z.map (·.1),rfl,L1.S.D.hr,bb,L1.S.D.nd,by rw[BY];show Ly L1.S.lz hk,λO ks aT a1 _=>#[O,rfl,#[_,bA.of ae],?_]];have s2:=Tb.ar (X:=.lst (ks.map V.int)) aT;have L2:=L1.same s2;have n1:¬ M O:=λw=>L1.S.R.mt _ w aT;have a6:∀t∈ks,hZ Z t=true:=λt ht=>by
   unfold hZ;cases e:Tb.look Z t with
   |some z=>rfl
   |none=>show absurd (a1.mem_iff.mp ht) (Tb.bP e)
  have h1:upd H1 O (.lst (ks.map V.int)) O=some (.lst (ks.map V.int)):=ae;generalize upd H1 O (.lst (ks.map V.int))=H2 at *;show dZ (K:=K) (a:=O) (xs:=ks.map V.int) (λi σ H4=>∃(v3 v4 v5:Option V) (M:Addr->Prop) (s:Pg.PS) (cv:Int->Int->List Int) (pk:Int) (W:dv) (Z:Zs),σ=[some (.ref a.rp),some (.ref m.md),some (.int n),v3,v4,v5]/\Lv c H0 a m nf ns tl tv kk H4 M s cv pk W Z/\(H4 O=some (.lst (ks.map V.int))/\¬ M O)/\∀t∈ks,hZ Z t=true)
   #[2,_,M,s',cv,pk,W,Z,rfl,L2,#[h1,n1],a6] (λi σ H4 _ z0=>by let#[_,_,_,_,_,_,_,_,_,_,_,#[h,_],_]:=z0;show bA.of h) ?_ ?_
  .clear L L1 L2 n1 a6 h1 s1 s2 aT a1 bb;rintro i u σ H4 hu ⟨v3,v4,v5,M,s4,cv,pk,W,Z,rfl,J,⟨h1,n1⟩,a0⟩;rw[K4]at hu;let#[tk,b3,rfl]:=Option.map_eq_some_iff.mp hu;have tm:=Ld b3;obtain⟨z,Y⟩:∃z,Tb.look Z tk=some z:=by
    have:=a0 tk tm;unfold hZ at this;show Option.isSome_iff_exists.mp this
   have ab:=Tb.ay Y;have bd:(Tb.dk eS z.pl).map (·.1)=(z.pl.map (·.1)).map Sum.inl:=(by unfold Tb.dk;rw[Me,Me];rfl);have be:z.pl.length<=64:=J.S.D.len ab;show#[0,m.md,.ref m.lr,rfl,J.S.D.g (wq _ _ _ _),0,m.lr,0,du J.S.D.hr Y,z.ra,_,z.pl.map (·.1),rfl,J.S.D.rm _ ab,bd,J.S.D.np _ ab,by rw[BY];show Ly be av,λl2 ps ap as _=>#[l2,rfl,#[_,bA.of ae],?_]];have bz:∀q∈ps,0<=q/\q<64:=λq hq=>by
    let#[y,hy,e]:=List.mem_map.mp (as.mem_iff.mp hq);rw[<-e];show J.S.D.rg _ ab y hy
   have pz:∀q∈ps,eZ Z tk q≠none:=λq hq=>by
    unfold eZ;rw[Y,MY];cases e:Tb.look z.pl q with
    |none=>show absurd (as.mem_iff.mp hq) (Tb.bP e)
    |some v=>show λw=>by cases w
   have s2:=Tb.ar (X:=.lst (ps.map V.int)) ap;have L5:=J.same s2;have n2:¬ M l2:=λw=>J.S.R.mt _ w ap;have h2:upd H4 l2 (.lst (ps.map V.int)) l2=some (.lst (ps.map V.int)):=ae;have a3:=s2 _ _ h1;generalize upd H4 l2 (.lst (ps.map V.int))=H5 at *;show dZ (K:=K) (a:=l2) (xs:=ps.map V.int) (λi σ H4=>∃(v4 v5:Option V) (M:Addr->Prop) (s:Pg.PS) (cv:Int->Int->List Int) (pk:Int) (W:dv) (Z:Zs),σ=[some (.ref a.rp),some (.ref m.md),some (.int n),some (.int tk),v4,v5]/\Lv c H0 a m nf ns tl tv kk H4 M s cv pk W Z/\(H4 O=some (.lst (ks.map V.int))/\¬ M O)/\(∀t∈ks,hZ Z t=true)/\(H4 l2=some (.lst (ps.map V.int))/\¬ M l2)/\∀q∈ps,eZ Z tk q≠none)
    #[2,M,s4,cv,pk,W,Z,rfl,L5,#[a3,n1],a0,#[h2,n2],pz] (λi σ H4 _ z0=>by let#[_,_,_,_,_,_,_,_,_,_,_,_,#[h,_],_]:=z0;show bA.of h) ?_ ?_
   .clear J L5 a3 n1 a0 h2 n2 pz s2 h1 ap as bd be ab Y z M s4 cv pk W Z;rintro j u σ H6 hu ⟨v4,v5,M,s6,cv,pk,W,Z,rfl,L6,⟨h1,n1⟩,aB,⟨h2,n2⟩,pz⟩;rw[K4]at hu;let#[I,bC,rfl]:=Option.map_eq_some_iff.mp hu;have pm:=Ld bC;let#[z0,z1]:=bz I pm;have m0:=MU n (show(8:Int)≠0 by decide);have m1:=MG n (show(0:Int)<8 by decide);show gv λ_ jt=>?_;show#[0,0,_,0,rfl,.inl #[av,av],0,_,0,rfl,(by change(0:Int)<8;decide),_,0,rfl,0,0,_,0,rfl,.inl #[av,av],_,0,rfl,0,_,0,5,0,rfl,(by change(0:Int)<256;decide),(by change 1<=sizeLine;decide),λN bi=>#[by change 4<=sizeLine;decide,λd hd=>jt _ _ ?_]];clear jt;have s7:=Tb.ar (X:=.lst [V.int ((n+3*I+tk)%256)]) bi;have h7:upd H6 N (.lst [V.int ((n+3*I+tk)%256)]) N=some (.lst [V.int ((n+3*I+tk)%256)]):=ae;have s8:=Tb.ar (X:=.tup [V.str "poke",V.int tk,V.int (8*I+n%8),V.ref N]) hd;have G:=L6.same (s7.trans s8);have ba:lD (upd (upd H6 N (.lst [V.int ((n+3*I+tk)%256)])) d (.tup [V.str "poke",V.int tk,V.int (8*I+n%8),V.ref N])) d (.poke tk (8*I+n%8) N [(n+3*I+tk)%256]):=#[ae,λ_ _ _ _ e=>by cases e;show s8 _ _ h7];have nc:¬ M N:=λw=>L6.S.R.mt _ w bi;have b4:=(s7.trans s8) _ _ h1;have b7:=(s7.trans s8) _ _ h2;change jG _ _ _ _ (upd (upd H6 N (.lst [V.int ((n+3*I+tk)%256)])) d (.tup [V.str "poke",V.int tk,V.int (8*I+n%8),V.ref N]));generalize upd (upd H6 N (.lst [V.int ((n+3*I+tk)%256)])) d (.tup [V.str "poke",V.int tk,V.int (8*I+n%8),V.ref N])=H8 at *;generalize (n+3*I+tk)%256=vv at *;have fi:Dp Z (bF s6) (.poke tk (8*I+n%8) N [vv]):=by
     have:=pz I pm;unfold eZ at this;cases Y:Tb.look Z tk with
     |none=>rw[Y]at this;show absurd rfl this
     |some z =>
      rw[Y,MY]at this;show#[z,Y,?_,λi hi=>?_]
      .change 8*I+n%8+((1:Nat):Int)<=512;omega +splitNatSub
      .have hi:i=0:=Nat.lt_one_iff.mp hi;subst hi;rw[show(8*I+n%8+((0:Nat):Int))/8=I by omega +splitNatSub];intro w;rw[w]at this;show this rfl
    have ac:zr (.poke tk (8*I+n%8) N [vv]):=#[by omega +splitNatSub,by omega +splitNatSub,HC 1,by change 1<=100;decide];show#[0,0,m,_,pk,Z,d,0,G.S.D,G.S.p0,Ly G.S.lz hk,ba,fi,(λt ad cc cs e=>?_),λH9 a2 Z2 v D2 p2 z2 l9 h9 e9=>?_]
    .cases e;show#[λw=>nc (G.S.sp _ w).1,ac.1,ac.2.1,ac.2.2.2]
    let#[R9,_]:=q8 G.S.R G.S.D G.S.sp D2 z2;show#[0,0,_,a,s6,W,cv,d,0,R9,G.S.ri,G.S.cv,Ly G.S.lw hk,G.zg ba (λt ad cc cs e=>by cases e;show nc) z2,Ec G.S.tw G.S.R G.S.D ac fi,λbI a4 a7 a5 bc ca b0 b1 bY bn bm b6 bl b2=>?_];have dd:∀{tl tv},Lv c H0 a m nf ns tl tv kk H8 M s6 cv pk W Z->Lv c H0 a m nf ns tl tv (kk+1) bI a4 a7 bc a2 a5 Z2:=λL=>L.HL (λo e=>by cases e) D2 p2 z2 l9 h9 e9 b0 b1 bY bn bm b6 bl b2;have bx:=G.back (dd G) h9 bl;have LA:=dd #[G.S,G.C,G.sm,G.fr,b4,n1];have LB:=dd #[G.S,G.C,G.sm,G.fr,b7,n2];show#[2,a4,a7,bc,a2,a5,Z2,rfl,bx,#[LA.ht,LA.nt],λt ht=>(h9 t).trans (aB t ht),#[LB.ht,LB.nt],λq hq=>?_];have am:=e9 tk q;by_cases zc:tk=tk/\q∈Rm.au (8*I+n%8) [vv].length
    .rw[Q0 zc]at am;let#[_,e,_]:=am;rw[e];show λw=>by cases w
    .rw[QZ zc]at am;rw[am];show pz q hq
   .rintro σ H6 ⟨v4,v5,M,s6,cv,pk,W,Z,rfl,L6,w1,aB,_,_⟩;show#[2,_,M,s6,cv,pk,W,Z,rfl,L6,w1,aB]
  .rintro σ H4 ⟨v3,v4,v5,M,s4,cv,pk,W,Z,rfl,J,_,_⟩;show#[0,0,M,a,m,nf,ns,kk,s4,cv,pk,W,Z,rfl,J.S,J.C,hk,λH' M' s' S' C' st=>q _ _ _ _ _ _ _ (J.step S' C' st)]
end
noncomputable abbrev Gf:LI:=top 51
noncomputable def wL (K:PySem.W.Frag):Sp:=λvs H Q _=>∃(a:Addr) (ns:List Int),vs=[.ref a]/\bA K H a (ns.map V.int)/\ns.length<=63/\∀H',Q (.bl true) H'
theorem Ez (Z:Zs) (h:∀x∈Z,x.2.pl.length<=64):mY Z<=64*(Z.length:Int):=by
 unfold mY
 induction Z with
 |nil=>show Int.le_refl _
 |cons a r I =>
  have h1:=h a Ls;have h2:=I λx G=>h x (Lx _ G);rw[Mm,MV,Lo];omega +splitNatSub
section
variable {P:IF}{w:Ll}{K:PySem.W.Frag}{mg:Str->Option Value}{base:Heap}
theorem ja:aC ["_law_script","_law_m","_law_kept","_law_model_here","_law_low","_law_tasks","_law_k","_law_number_here","_law_deed","_law_word"] ["_law_script"] (aw Gf):=L2.bG
theorem Fl {f:Addr}{fd:GX}{c:CA}(F:cM K "law" "law" Gf f fd) (T:nV mg) (TR:pb K mg c) (bb:Df P w K mg base aS 2 "_law_number" (mG K)) (dL:Df P w K mg base aS 7 "_law_begun" (rh c)) (c3:Df P w K mg base aS 2 "_law_growing" vt) (b3:Df P w K mg base aS 2 "_law_due" AF) (ci:Df P w K mg base aS 1 "_law_done" oi) (db:Df P w K mg base aS 11 "_law_called" (jF c)) (dz:Df P w K mg base aS 1 "_law_held" gN) (dM:Df P w K mg base aS 7 "_law_refused" (km c)) (bi:Df P w K mg base aS 12 "_law_poked" (qM c)) (dm:Df P w K mg base aS 11 "_law_all_right" (qP c)) (c7:Md P w K mg base aS 2 c.C "held" (fX c)) :
  a8 P w K mg base aS 13 f fd ["_law_script"] (wL K):=by
 show F.ok ja (λvs H Q E h=>?_) (λd1 A outer s H vs Q E U h=>?_)
 .let#[a,ns,rfl,_]:=h;rfl
 .let#[sc,ns,rfl,a4,dV,k]:=h;have hs:sizeLine=16777216:=Lh;show#[_,(ah (aO (i:=1) ja.nd rfl (Lc rfl) (pc bb U ax (aa (pv 0) (aa ak ai))))
   (ah (cN (pc dL U ax (aa (pv 1) ai)) (dE rfl (bf (aY (i:=2) ja.nd rfl (Lc rfl)) (bf (aY (i:=3) ja.nd rfl (Lc rfl)) cV))))
   (ah (aO (i:=4) ja.nd rfl (Lc rfl) (bq cG (cn (aa ak (aa (aD nW (BQ uA ak) (aD bN (aD bZ (pv 1) ak) (aD ve ak ak))) ai))) (aD bN (aD bZ (pv 1) ak) ak) (λ_ _=>rfl)))
   (ah (aO (i:=5) ja.nd rfl (Lc rfl) (cn (aa ak (aa ak (aa (aD bt (aD bN (aD bZ (pv 1) ak) (aD ve ak ak)) ak) (aa (pv 4) (aa ak ai)))))))
   (ah (de Lr rfl (gp (by rfl) T.range (aa ak (aa (aK (pA rfl) (by rfl) T.max BA (aa ak (aa (aK bo (by rfl) T.len boot_len (aa (cX gH (pv 0) fj (cU ak)) ai)) ai))) ai))) (aY (i:=6) ja.nd rfl (Lc rfl)) (ah (aO (i:=7) ja.nd rfl (Lc rfl) (pc bb U ax (aa (pv 0) (aa (pv 6) ai))))
   (ah (aO (i:=8) ja.nd rfl (Lc rfl) (pc c3 U ax (aa (pv 7) (aa (pv 3) (aa (pv 5) ai)))))
   (ah (aO (i:=9) ja.nd rfl (Lc rfl) (pc b3 U ax (aa (pv 3) (aa (pv 8) ai))))
   (ah (aV (PW.pt (gM (aA bH (pv 9) aI (aH _)) (fO (rH (fK (pc dM U ax (aa (pv 2) (aa (pv 8) ai)))))))) (aj (aF k9)) aG)
   (ah (aV (aA bH (pv 9) aI (aH _)) (ah (aM (pc ci U ax (aa (pv 3) (aa (pv 8) ai))))
   (aj (aM (pc db U ax (aa (pv 2) (aa (pv 8) ai)))))) aG)
   (ah (aV (aA Ih (qx (pv 2) TR.cl c7 U ax) (pc dz U ax (aa (pv 3) ai)) (aH _)) (aj (aF k9)) aG)
   (aj (aV (PW.pt (gM (aA bH (aD bN (pv 6) ak) ak (aH _)) (fO (rH (fK (pc bi U ax (aa (pv 2) (aa (pv 3) (aa (pv 7) ai))))))))) (aj (aF k9)) aG)))))))))
   (aj (aF (z7 (pc bi U ax (aa (pv 2) (aa (pv 3) (aa (pv 1) ai)))) (vO (pc dm U ax (aa (pv 2) (aa (pv 3) ai)))))))))))),?_]
  show gv λ_ J=>?_;show#[0,sc,ns,(0),rfl,a4,by omega +splitNatSub,by omega +splitNatSub,λG H1 s1=>J _ _ ?_];clear J;show#[0,G,rfl,λH3 t3 M a m I cv pk W Z s3 S3 C3 bI h3=>#[t3,0,cy.of h3,5,0,_,0,4]];have fr:∀b,M b->H b=none:=λb z=>s1.free (bI b z);have bC:=s1.trans s3;clear bI h3 s1 s3
  try dsimp only
  show gv λ_ J=>?_;have w0:=MU (G/20000) (show(2:Int)≠0 by decide);have w1:=MG (G/20000) (show(0:Int)<2 by decide);let#[b1,_]:=at_of (xs:=[0, -1-G/20000%10^OD 59]) (i:=G/20000%2) (n:=2) w0 w1 rfl;generalize dT:([0, -1-G/20000%10^OD 59]:List Int).getD (G/20000%2).toNat 0=lo at b1;show#[0,0,_,0,rfl,#[av,av],_,0,rfl,#[av,av,av],_,0,rfl,(by change(0:Int)<10^OD 59;decide),_,0,rfl,by change 2<=sizeLine;decide,λl0 b0=>#[0,_,0,rfl,#[av,av],_,0,rfl,(by change(0:Int)<2;decide),l0,2,.int lo,1,bA.of ae,b1,J _ _ ?_]];clear J;have s4:=Tb.ar (X:=.lst ([0, -1-G/20000%10^OD 59].map V.int)) b0;show gv λ_ J=>?_;show#[0,_,0,rfl,#[av,av],_,0,rfl,#[av,av,av],_,0,rfl,(by change(0:Int)<10^OD 59;decide),_,0,rfl,0,by change 5<=sizeLine;decide,λtl ba=>J _ _ ?_];clear J;have s5:=Tb.ar (X:=.lst ([1,2,G/20000%10^OD 59+3,lo,12].map V.int)) ba;generalize bv:([1,2,G/20000%10^OD 59+3,lo,12]:List Int)=ts at s5;have l5:ts.length=5:=(by rw[<-bv];rfl);have bz:¬ M tl:=λz=>S3.R.mt tl z (s4.free ba);have L5:Lv c H a m (ou G) (pO G) tl (.lst (ts.map V.int)) 1 (upd (upd H3 l0 (.lst ([0, -1-G/20000%10^OD 59].map V.int))) tl (.lst (ts.map V.int))) M I cv pk W Z:=#[S3.same (s4.trans s5),C3.same (s4.trans s5),bC.trans (s4.trans s5),fr,ae,bz];subst bv;change jG _ _ _ _ (upd (upd H3 l0 (.lst ([0, -1-G/20000%10^OD 59].map V.int))) tl (.lst ([1,2,G/20000%10^OD 59+3,lo,12].map V.int)));clear s4 s5;generalize ([1,2,G/20000%10^OD 59+3,lo,12]:List Int)=ts at *;clear b0 ba S3 bC bz fr C3;generalize upd (upd H3 l0 (.lst ([0, -1-G/20000%10^OD 59].map V.int))) tl (.lst (ts.map V.int))=H5 at *;let#[_,_,d3]:=wD G;let#[_,d2]:=vS G;have d4:∀{H M k s cv pk W Z},Lv c H a m (ou G) (pO G) tl (.lst (ts.map V.int)) k H M s cv pk W Z->bF s<=100:=λL=>by
   unfold bF;rw[L.S.lf,L.S.ls];omega +splitNatSub
  have bd:=Rm.eR a4 (L5.sm _);have ec:fL (ns.map V.int) none (some (63:Int))=(ns.take 63).map V.int:=Rm.wo (s:=63);show#[0,0,sc,0,bd,λp6 bc=>?_];have s6:=Tb.ar (X:=.lst (fL (ns.map V.int) none (some (63:Int)))) bc;show#[p6,0,.inl (bA.of ae),_,0,?_];rw[ec]at s6 ⊢;rw[BY,Lp];generalize eN:(if ((min 63 ns.length:Nat):Int)>8 then((min 63 ns.length:Nat):Int)else 8)=N;have hN:8<=N/\N<=63:=(by rw[<-eN];split<;>omega +splitNatSub);show#[_,0,#[av,av,by omega +splitNatSub,by omega +splitNatSub],?_];show kr (lo:=1) (n:=(N-1).toNat) (λi σ H7=>∃(v6 v7 v8 v9:Option V) (M:Addr->Prop) (I:Pg.PS) (cv:Int->Int->List Int) (pk:Int) (W:dv) (Z:Zs),σ=[some (.ref sc),some (.int G),some (.ref a.rp),some (.ref m.md),some (.int lo),some (.ref tl),v6,v7,v8,v9]/\Lv c H a m (ou G) (pO G) tl (.lst (ts.map V.int)) (i+1) H7 M I cv pk W Z)
   #[2,2,M,I,cv,pk,W,Z,rfl,L5.same s6] ?_ ?_
  .clear bc s6 L5 bd ec M I cv pk W Z;rintro i σ H7 hi ⟨v6,v7,v8,v9,M,I,cv,pk,W,Z,rfl,L7⟩;show gv λ_ J=>?_;show#[0,0,sc,ns,1+i,by rw[Int.natCast_add];rfl,Rm.eR a4 (L7.sm _),by omega +splitNatSub,by omega +splitNatSub,λnh H8 s8=>J _ _ ?_];clear J;have L8:=L7.same s8;clear L7 s8;show gv λ_ J=>?_;show#[0,0,0,nh,m,_,pk,Z,tl,ts,rfl,L8.S.D,L8.S.zn,by have:=L8.S.lz;omega +splitNatSub,?_,L8.ht,l5,λH9 d D s9 hd ac bx bY=>J _ _ ?_]
   .unfold bF;rw[L8.S.lf,L8.S.ls];omega +splitNatSub
   clear J;have L9:=L8.same s9;have a7:∀t ad cc cs,D=.poke t ad cc cs->¬ M cc:=λt ad cc cs e z=>L8.S.R.mt cc z (bx t ad cc cs e);clear L8 bx s9;show gv λ_ J=>?_;show#[0,0,m,_,pk,Z,d,D,rfl,L9.S.D,by have:=L9.S.lz;omega +splitNatSub,hd,ac,λr bn aT a6=>J _ _ ?_];clear J;have Y:=L9.same aT;have a0:lD bn d D:=#[aT _ _ hd.1,λt ad cc cs e=>aT _ _ (hd.2 t ad cc cs e)];clear L9 hd aT;have c8:mY Z<=64*(Z.length:Int):=Ez Z λx hx=>Y.S.D.len hx;have c2:=Y.S.lz;have b7:=Y.S.lw;have c6:=Y.S.tw.held Y.S.R Y.S.D;show ip (λσ a1=>bh bn a1/\σ=[some (.ref sc),some (.int G),some (.ref a.rp),some (.ref m.md),some (.int lo),some (.ref tl),some (.int (1+(i:Int))),some (.int nh),some (.ref d),some (.str r)]) (λ_ QQ ji je=>?A1) ?B1
   case A1 =>
    show#[0,rfl,0,?_];show gf (λcr=>?_) (λ_=>je _ #[bh.refl _,rfl]);have nr:=a6.2 (V.str.inj (of_decide_eq_true cr));show#[0,0,M,a,I,W,d,D,rfl,Y.S.R,by omega +splitNatSub,by omega +splitNatSub,a0,He Y.S.tw Y.S.R Y.S.D (by omega +splitNatSub) nr,λa1 ab=>#[true,rfl,je _ #[ab,rfl]]]
   case B1 =>
   rintro σ a1 ⟨ab,rfl⟩;have O:=Y.same ab;have a2:lD a1 d D:=#[ab _ _ a0.1,λt ad cc cs e=>ab _ _ (a0.2 t ad cc cs e)];clear Y a0 ab c8 c2 b7 c6;show ip (λσ a5=>∃(M:Addr->Prop) (I:Pg.PS) (cv:Int->Int->List Int) (pk:Int) (W:dv) (Z:Zs),σ=[some (.ref sc),some (.int G),some (.ref a.rp),some (.ref m.md),some (.int lo),some (.ref tl),some (.int (1+(i:Int))),some (.int nh),some (.ref d),some (.str r)]/\Lv c H a m (ou G) (pO G) tl (.lst (ts.map V.int)) (i+1+1) a5 M I cv pk W Z) (λcT QQ ji je=>?A2) ?B2
   case A2 =>
    show#[0,rfl,0,?_];show sY (λcr=>ji _ ?_) (λ_=>je _ #[M,I,cv,pk,W,Z,rfl,O.up (ON _)]);have fi:=a6.1 (V.str.inj (of_decide_eq_true cr));show#[0,0,m,_,pk,Z,d,D,rfl,O.S.D,O.S.p0,by have:=O.S.lz;omega +splitNatSub,a2,fi,(λt ad cc cs e=>?_),λa5 b6 Z2 v be c1 a3 ce cC c5=>?_]
    .subst e;show#[λw=>a7 _ _ _ _ rfl (O.S.sp _ w).1,ac.1,ac.2.1,ac.2.2.2]
    let#[b4,_]:=q8 O.S.R O.S.D O.S.sp be a3;show#[0,0,_,a,I,W,cv,d,D,rfl,b4,O.S.ri,O.S.cv,by have:=O.S.lw;omega +splitNatSub,O.zg a2 a7 a3,Ec O.S.tw O.S.R O.S.D ac fi,λda c0 as cq dI v df dl c4 cP c9 cx ca b9=>?_];show cT _ _ #[c0,as,dI,b6,cq,Z2,rfl,O.HL bY be c1 a3 ce cC c5 df dl c4 cP c9 cx ca b9]
   case B2 =>
   clear O a2 a6 bY a7 ac M I cv pk W Z;rintro σ a5 ⟨M,I,cv,pk,W,Z,rfl,ap⟩;show cE λQQ ji je=>?_;let#[dj,bl]:=ap.S.R.ob;show#[0,a.rp,dj,0,bl,fJ _ _ _ ao ao ao,M,a,I,W,rfl,ap.S.R,by have:=ap.S.lw;omega +splitNatSub,λda as=>?_];have aB:=ap.same as;show#[0,m,_,pk,Z,rfl,aB.S.D,by have:=aB.S.lz;omega +splitNatSub,λdO bm=>#[rfl,0,?_]];have am:=aB.same bm;rw[am.S.tw.held am.S.R am.S.D];show sY (λcr=>absurd cr ?_) (λ_=>je _ ?_)
   .simp
   clear ji je ap aB as bm bl;show BP λQQ ji je=>?_;show#[0,_,0,rfl,(by change(0:Int)<9;decide),rfl,0,?_];show gf (λ_=>?_) (λ_=>je _ #[2,2,M,I,cv,pk,W,Z,rfl,am]);show#[0,0,0,nh,H,M,a,m,2,_,tl,_,I,cv,pk,W,Z,rfl,am,by omega +splitNatSub,λd5 b2 b8 cS b5 ch dd cm=>#[true,rfl,je _ #[2,2,b2,b8,cS,b5,ch,dd,rfl,cm]]]
  .rintro σ H7 ⟨v6,v7,v8,v9,M,I,cv,pk,W,Z,rfl,L7⟩;show#[0,0,0,G,H,M,a,m,2,_,tl,_,I,cv,pk,W,Z,rfl,L7,by omega +splitNatSub,λH8 M8 s8 IQ dp W8 Z8 L8=>?_];show#[true,rfl,eL ?_];show#[0,0,M8,a,m,2,_,s8,IQ,dp,W8,Z8,rfl,L8.S,L8.C,by omega +splitNatSub,λH9 _ _ _ _ _=>k H9]
end
end Lw
end
namespace Hd
open PySem PySem.W PyProof.Rows
def qB:List Obj->List Obj×List Obj
 | []=>([],[])
 | [a]=>([a],[])
 |a::b::r=>(a::(qB r).1,b::(qB r).2)
def build:Nat->List Obj->BT
 |0,_=>.nil
 |_+1,[]=>.nil
 |f+1,o::r=>.node o (build f (qB r).1) (build f (qB r).2)
def topT (tb:String->Option Builtin) (p:Program) (w:World) (m:Nat) (an:Option Value):Nat->SharedT->Thread->Option SharedT
 |0,_,_=>none
 |k+1,x,t=>match through t with
  |true=>some x
  |false=>match stepOk m an t with
   |false=>none
   |true=>match stepT (denote tb) p w x t with
    |some (y,u)=>topT tb p w m an k y u
    |none=>none
theorem topT_of {tb:String->Option Builtin}{p:Program}{w:World}{m:Nat}{an:Option Value}:∀{k:Nat}{x z:SharedT}{t:Thread},topT tb p w m an k x t=some z->topRun tb p w m an k x.abs t=some z.abs:=by
 intro k
 induction k with
 |zero=>intro x z t e;cases e
 |succ k G =>
  intro x z t e;unfold topT at e;unfold topRun;cases a:through t with
  |true=>rw[a]at e;cases e;rfl
  |false =>
   rw[a]at e;cases b:stepOk m an t with
   |false=>rw[b]at e;cases e
   |true =>
    rw[b]at e;cases c:stepT (denote tb) p w x t with
    |none=>rw[c]at e;cases e
    |some r =>
     obtain⟨y,u⟩:=r;rw[c]at e;rw[stepT_spec c];exact G e
def Aw (p q:Program) (loose:List Str) (I:Shared->Bool) (G:Bool) (h:Heap) (s:Shared):=
 (staticsOk (importedModules p.main.body) h s.heap&&namesBound p s.heap&&gensDone s&&laidKept h s.heap,openSeen q loose (importedModules p.main.body) I G s)
theorem Ds {p q:Program}{loose:List Str}{L:Shared->Bool}{α:Type}{O:Shared->α}{R:World->α}{N M m:Nat}{J:Bool}{H:Params->Heap}{T:Params->BT}{life:Life}{gs:Array GenState}{d:Drawn}{k:Nat}{an:Option Value}
  (hO:∀w:World,(fencedOpening treeTable p w N).map (λs=>(s.heap,s.gens,s.drawn,s.toks))=some (H w.params,gs,d,k))
  (hT:∀P,absHeap (T P) m life=H P)
  (hS:∀w:World,((H w.params).isNs mainGlobals&&gs.size==0,(H w.params).objs.size,(H w.params).nsMap mainGlobals "__annotations__")=(true,m,an))
  (le:Nat.ble M N=true)
  (run:∀(w:World) (os:OsState),(topT treeTable p w m an M ⟨T w.params,m,life,gs,d,k,os⟩ (topStub p)).map (λs=>(Aw p q loose L J (H w.params) s.abs,O s.abs))=some ((true,openGood q loose),R w)) :
  LeftO p q loose L O R N J:=by
 intro w;obtain⟨s,a,b⟩:=Option.map_eq_some_iff.mp (hO w);obtain⟨h,I,d',G,os⟩:=s;simp only[Prod.mk.injEq]at b;obtain⟨rfl,rfl,rfl,rfl⟩:=b;have z:=hS w;simp only[Prod.mk.injEq]at z;obtain⟨z1,z2,z3⟩:=z;obtain⟨x,c,e⟩:=Option.map_eq_some_iff.mp (run w os);have r:=topT_of c;have ab:(SharedT.mk (T w.params) m life I d' G os).abs=⟨H w.params,I,d',G,os⟩:=by
  unfold SharedT.abs;rw[hT]
 rw[ab]at r;have r:=topRun_mono (N-M) _ _ _ _ r;rw[show M+(N-M)=N from Nat.add_sub_cancel' (Nat.le_of_ble_eq_true le)]at r;simp only[Aw,Prod.mk.injEq]at e;obtain⟨⟨S,U⟩,Y⟩:=e;have t:topFrom treeTable p w N ⟨H w.params,I,d',G,os⟩=some x.abs:=by
  unfold topFrom;dsimp only;rw[z1,z2,z3,r];simp only[bind_some,S]
 unfold openEnds;rw[a];simp only[bind_some,t,Option.map_some,U,Y]
theorem both {r:OpenRow}{q:Program}{loose:List Str}{d:DefRec}{G:List (Str×Expr)}{N:Nat}(H:Hook)
  (h1:defOf q r.name=some (d,G)) (h2:r.prog.theDef r.name=some (d.params,d.body,d.scope)) (R:kwWritten? d.params.kwonlyargs d.params.kw_defaults=some G) (O:(!r.writes||r.records.isEmpty)=true)
  (L:r.wellSaid=true) (J:(chainsOk q&&opensWell r.prog&&(frees r.toRowW&&r.within.isEmpty))=true) (I:r.prog.bare) (S:r.toRowW.promised)
  (h:LeftO r.prog q loose (λs=>xlAt q [] s&&recOk r.records s) H.obs H.val N/\WalkO q loose (XL q []) H.says r.toRowW d G λf vs=>PySem.call f vs):r.Holds :=
 holds_open h.1 H.of H.keeps (λs e=>xl_of s (Bool.and_eq_true_iff.mp e).1) XL.keeps h1 h2 R (λs e=>recFacts_of (Bool.and_eq_true_iff.mp e).2) O L J I S h.2
noncomputable def DS (P:Params):BT:=build 12 (boot_heap P).objs.toList
def q:Program:=PySem.W.view PySem.Challenge.pw_ownroom_k18_held_and_no_room [51]
def loose:List Str:=[Str.ofString "_wall",Str.ofString "__name__",Str.ofString "KernelError",Str.ofString "ValueError",Str.ofString "NoOwner",Str.ofString "NoTask",Str.ofString "NoPage",Str.ofString "NoRoom",Str.ofString "Taken",Str.ofString "PAGE_CELLS",Str.ofString "Store",Str.ofString "lift",Str.ofString "settle",Str.ofString "Paging",Str.ofString "ROOM_PAGES",Str.ofString "room_of",Str.ofString "refuse_second_room",Str.ofString "refuse_above",Str.ofString "pages_from",Str.ofString "refuse_unmapped",Str.ofString "pages_to_map",Str.ofString "pages_to_drop",Str.ofString "pages_of_cells",Str.ofString "run_within",Str.ofString "pages_with",Str.ofString "STEP_PAGES",Str.ofString "own_copy",Str.ofString "Table",Str.ofString "BLANK",Str.ofString "Rooms",Str.ofString "_law_mixed",Str.ofString "_law_number",Str.ofString "_law_whole",Str.ofString "_law_model",Str.ofString "_law_held",Str.ofString "_law_stretch",Str.ofString "_law_due",Str.ofString "_law_done",Str.ofString "_law_called",Str.ofString "_law_numbers",Str.ofString "_law_sizes",Str.ofString "_law_begun",Str.ofString "_law_all_right",Str.ofString "_law_growing",Str.ofString "_law_refused",Str.ofString "_law_poked"]
local macro_rules | `(tactic| o_head $H) => `(tactic| refine Hd.both (q:=Hd.q) (loose:=Hd.loose) (N:=100000) $H (by rfl) (by rfl) (by rfl) (by rfl) (by assumption) ao ⟨rfl,rfl,rfl,rfl,rfl,ao⟩ ?$(Lean.mkIdent `hw):ident ?$(Lean.mkIdent `hc):ident)
open_top top for PySem.Challenge.rw_ownroom_k18_held_and_no_room
def at_:List Addr:=[2,3,15,17,18,20,21,22,29,30,31,32,35,42,43,44,47,54,55,56,59,66,67,68,71,78,79,80,83,90,91,92,102,104,105,107,108,109,111,112,114,115,116,118,119,121,122,123,125,126,128,129,130,132,133,135,136,137,139,140,142,143,144,146,147,149,150,151,153,154,156,157,158,160,161,163,164,165,166,167,168,169,172,174,175,177,178,179,181,182,184,185,193,195,196,198,199,200,202,203,205,206,207,209,210,212,213,214,216,217,219,220,221,223,224,226,227,228,230,231,233,234,235,237,238,240,241,242,244,245,247,248,249,251,252,254,255,256,258,259,261,262,263,265,266,268,269,270,272,273,275,276,277,279,280,282,283,284,286,287,289,290,291,292,293,294,295,298,300,301,303,304,305,307,308,310,311,312,314,315,317,318,319,321,322,324,325,326,328,329,331,332,333,335,336,338,339,340,342,343,345,346,347,349,350,352,353,354,356,357,359,360,361,364,365,366,369,370,378,380,381,383,384,385,387,388,390,391,392,394,395,397,398,399,401,402,404,405,406,408,409,411,412,413,415,416,418,419,420,421,422,423,424,427,435,437,438,440,441,442,444,445,447,448,449,451,452,454,455,456,458,459,461,462,463,465,466,468,469,470,472,473,475,476,477,479,480,482,483,484,486,487,489,490,491,494,495,496,498,499,501,502,503,505,506,508,509,510,512,513,515,516,517,519,520,522,523,524,526,527,529,530,531,532,533,534,535,538,540,541,543,544,545,547,548,550,551,552,554,555,557,558,559,561,562,564,565,566,569,570,571,574,575,576,579,580,581,584,585,586,588,589,591,592,593,596,597,598,600,601,603,604,605,607,608,610,611,612,614,615,617,618,619,622,623,624,626,627,629,630,631,633,634,636,637,638,640,641,643,644]
noncomputable def lhs (w:World) (os:OsState):=
 (topT treeTable PySem.Challenge.pw_ownroom_k18_held_and_no_room w 11 (some (.ref 6)) 100000 ⟨DS w.params,11, {},Array.mk [],boot_drawn,boot_toks,os⟩ (topStub PySem.Challenge.pw_ownroom_k18_held_and_no_room)).map
  λs=>(Aw PySem.Challenge.pw_ownroom_k18_held_and_no_room q loose (λs=>xlAt q [] s&&recOk PySem.Challenge.rw_ownroom_k18_held_and_no_room.row.records s) true (boot_heap w.params) s.abs,at_.map s.abs.heap.get?)
noncomputable def JR (K:Frag):=some ((true,openGood q loose),K.map λp=>some p.2)
theorem lhs_self:lhs=lhs:=rfl
theorem Az:JR=JR:=rfl
name_quick hdL for Hd.lhs by Hd.lhs_self
name_quick hdR for Hd.JR by Hd.Az
noncomputable def rhs (w:World):=some ((true,openGood q loose),(Hd.top.heap_39 w.params).map λp=>some p.2)
theorem same_ (w:World) (os:OsState):PySem.W.Fast.hdL w os=PySem.W.Fast.hdR (Hd.top.heap_39 w.params):=by kernel_rfl
theorem run_ (w:World) (os:OsState):lhs w os=rhs w:=((congrFun (congrFun PySem.W.Fast.hdL_eq w) os).trans (same_ w os)).trans (congrFun PySem.W.Fast.hdR_eq (Hd.top.heap_39 w.params)).symm
end Hd
section
local macro_rules|`(tactic|show $t)=>`(tactic|refine $t)
open Lean in
local macro_rules|`(#[$xs,*])=>do
 let T:=([← `(⟨_,rfl⟩),← `(⟨rfl,rfl⟩),← `(⟨_,_⟩),← `(⟨?_,?_⟩),← `(⟨rfl,?_⟩),← `(⟨rfl,_⟩)]:List (TSyntax `term))
 let mut r:Array (TSyntax `term):=Array.mk []
 for x in xs.getElems do
  match x.raw.isNatLit? with
  |some k=>
   match T[k]! with
   |`(⟨$ys,*⟩)=>r:=r++ys.getElems
   |_=>r:=r
  |_=>r:=r.push x
 `(⟨$r,*⟩)
open Lean in
local macro_rules|`(tactic|let $p:term:=$e)=>do
 let rec go (n:Nat)(t:Syntax):MacroM (TSyntax `rcasesPat):=do
  match n with
  |0=>Macro.throwUnsupported
  |n+1=>match t with
   |`($i:ident)=>`(rcasesPat|$i:ident)
   |`(_)=>`(rcasesPat|_)
   |`(#[$xs,*])=>do `(rcasesPat|⟨$(←xs.getElems.mapM fun x=>do `(Parser.Tactic.rcasesPatLo|$(←go n x):rcasesPat)),*⟩)
   |_=>Macro.throwUnsupported
 match p with
 |`(#[$_,*])=>do `(tactic|obtain $(←go 99 p):rcasesPat := $e)
 |_=>Macro.throwUnsupported
namespace Lw
open PySem L2
def Al:Nat->(List Value->Prop)->Prop
 |0,p=>p []
 |n+1,p=>∀a,Al n λl=>p (a::l)
theorem al:∀{n:Nat}{p:List Value->Prop},Al n p->∀us:List Value,us.length=n->p us
 |0,_,h,us,e=>by cases List.eq_nil_of_length_eq_zero e;show h
 |n+1,_,h,us,e=>by
  cases us with
  |nil=>cases e
  |cons a us=>show al (h a) us (Nat.succ.inj e)
inductive MI (K:PySem.W.Frag) (C:Addr) (m q:Str) (st:LI) (ps:List Str):Prop
 |mk (f:Addr) (fd:GX) (_:cM K m q st f fd) (_:Binds K fd ps []) (_:Meth K C m f):MI K C m q st ps
inductive DI (K:PySem.W.Frag) (x:Str) (st:LI) (ps:List Str):Prop
 |mk (f:Addr) (fd:GX) (_:cM K x x st f fd) (_:Binds K fd ps []) (_:QV K LS x=some (some (.ref f))):DI K x st ps
section
variable {K:PySem.W.Frag}{C f:Addr}{m q:Str}{st:LI}{ps:List Str}{od an:Option Addr}{sl:Array (Option Value)}{oc kV dc pm cd ct:Value}
theorem MI.of (a:N5 K (.ref C) m=some (some (.ref f))) (i:isFn K (.ref f)=true) (l:K.lookup f=some #[oc,od,.func (QJ m q (fW st) (eB st) (aw st) .none kV dc pm an cd ct),sl]) (c:QK K cd q=true) (k:OJ K (.ref f)=true)
  (b:∀kV G pm an I ct,Al ps.length λus=>Qo (QJ m q (fW st) (eB st) (aw st) .none kV G pm an I ct) #[us,[]]=pure (ps.zip us)):MI K C m q st ps :=
 #[2,rJ l c k,(rJ l c k).binds λ_ _ _ _ _ _=>al (b _ _ _ _ _ _),a,i,k]
theorem DI.of (a:QV K LS m=some (some (.ref f))) (l:K.lookup f=some #[oc,od,.func (QJ m m (fW st) (eB st) (aw st) .none kV dc pm an cd ct),sl]) (c:QK K cd m=true) (k:OJ K (.ref f)=true)
  (b:∀kV G pm an I ct,Al ps.length λus=>Qo (QJ m m (fW st) (eB st) (aw st) .none kV G pm an I ct) #[us,[]]=pure (ps.zip us)):DI K m st ps :=
 #[2,rJ l c k,(rJ l c k).binds λ_ _ _ _ _ _=>al (b _ _ _ _ _ _),a]
inductive CI (K:PySem.W.Frag) (C:Addr) (x:Str):Prop
 |mk (_:QV K LS x=some (some (.ref C))) (_:pG K C) (_:makesIn K C=true) (_:OJ K (.ref C)=true):CI K C x
end
def NI (K:PySem.W.Frag):List Str->Prop
 | []=>True
 |x::l=>QV K LS x=some none/\NI K l
def AI (K:PySem.W.Frag) (C:Addr):List Str->Prop
 | []=>True
 |x::l=>N5 K (.ref C) x=some none/\AI K C l
theorem all_mk {l:PySem.W.OpenLaw}{w:Ll}{K:PySem.W.Frag}{h:Heap}{mg:Str->Option Value}{fa L I N J ac aB:Addr}{m1 t8 t9:QW}{dp:Value}{fq:Option Addr}{mm:Array (Option Value)}{a2:Array Value}{nB:Nat}(X:K.In h) (G:h.Ns LS mg) (k2:mg "law" = some (.ref fa)) :
  CI K L "Store" -> AI K L ["owners","contents"]->MI K L "__init__" "Store.__init__" St.mU ["self","many"]->MI K L "take" "Store.take" St.Ah ["self"]->MI K L "less" "Store.less" St.AM ["self","n"]->MI K L "more" "Store.more" St.AS ["self","n"]->MI K L "free" "Store.free" St.Bf ["self"]->MI K L "count" "Store.count" St.vP ["self","n"]->MI K L "cells" "Store.cells" St.vi ["self","n"]->MI K L "put" "Store.put" St.Eu ["self","n","cells"]->MI K L "refuse_free" "Store.refuse_free" St.qr ["self","n"]->CI K I "Paging" -> AI K I ["frames","slots","places","last_sheet","in_frames"]->MI K I "__init__" "Paging.__init__" St.uQ ["self","frames","slots"]->MI K I "new_sheet" "Paging.new_sheet" St.ky ["self","cells"]->MI K I "share" "Paging.share" St.u4 ["self","sheet"]->MI K I "leave" "Paging.leave" St.wk ["self","sheet"]->MI K I "cells" "Paging.cells" St.rX ["self","sheet"]->MI K I "change" "Paging.change" St.qe ["self","sheet","cells"]->MI K I "fetch" "Paging.fetch" St.wx ["self","sheet"]->MI K I "bring_in" "Paging.bring_in" St.nH ["self","sheet","moved"]->MI K I "put_out" "Paging.put_out" St.qV ["self","sheet"]->MI K I "place" "Paging.place" St.wc ["self","sheet"]->MI K I "number_of" "Paging.number_of" St.kS ["self","sheet"]->MI K I "store_of" "Paging.store_of" St.nY ["self","sheet"]->MI K I "count" "Paging.count" St.r9 ["self","sheet"]->CI K N "Table" -> AI K N ["first_step"]->MI K N "__init__" "Table.__init__" Tb.mU ["self"]->MI K N "get" "Table.get" Tb.Fu ["self","page"]->MI K N "lay" "Table.lay" Tb.Ex ["self","page","entry"]->MI K N "clear" "Table.clear" Tb.vL ["self","page"]->MI K N "pages" "Table.pages" Tb.uR ["self"]->CI K J "Rooms" -> AI K J ["paging","total","rooms"]->MI K J "__init__" "Rooms.__init__" St.vA ["self","frames","slots"]->MI K J "begin" "Rooms.begin" St.qH ["self","task"]->MI K J "close" "Rooms.close" St.qh ["self","task"]->MI K J "map" "Rooms.map" St.xj ["self","task","page","many"]->MI K J "drop" "Rooms.drop" St.vf ["self","task","page","many"]->MI K J "peek" "Rooms.peek" St.wz ["self","task","address","many"]->MI K J "poke" "Rooms.poke" St.uN ["self","task","address","cells"]->MI K J "copy" "Rooms.copy" St.qk ["self","task","other"]->MI K J "held" "Rooms.held" St.vH ["self"]->MI K J "leave_pages" "Rooms.leave_pages" St.pZ ["self","table","pages"]->MI K J "cells_of" "Rooms.cells_of" St.qu ["self","entry"]->MI K J "sheet_with" "Rooms.sheet_with" St.rj ["self","entry","cells"]->DI K "lift" St.BH ["store","n"]->DI K "settle" St.rM ["store","moved"]->DI K "own_copy" Tb.xq ["value"]->DI K "room_of" St.qI ["rooms","task"]->DI K "refuse_second_room" St.rE ["rooms","task"]->DI K "refuse_above" St.qC ["held","total"]->DI K "pages_from" Rm.jl ["page","many"]->DI K "refuse_unmapped" Rm.kM ["mapped","pages"]->DI K "pages_to_map" Rm.uK ["mapped","page","many"]->DI K "pages_to_drop" Rm.rP ["mapped","page","many"]->DI K "pages_of_cells" Rm.mM ["mapped","address","many"]->DI K "run_within" Rm.qq ["whole","address","many"]->DI K "pages_with" Rm.Ax ["whole","address","cells"]->DI K "_law_mixed" Lw.uZ ["_law_cell","_law_k"]->DI K "_law_number" Lw.qY ["_law_script","_law_k"]->DI K "_law_whole" Lw.vx ["_law_found"]->DI K "_law_model" Lw.vz ["_law_total"]->DI K "_law_held" Lw.uH ["_law_model_here"]->DI K "_law_stretch" Lw.oo ["_law_room","_law_address","_law_many"]->DI K "_law_due" Lw.EB ["_law_model_here","_law_deed"]->DI K "_law_done" Lw.Ad ["_law_model_here","_law_deed"]->DI K "_law_called" Lw.lI ["_law_kept","_law_deed"]->DI K "_law_numbers" Lw.my ["_law_found","_law_due_here"]->DI K "_law_sizes" Lw.wC ["_law_m"]->DI K "_law_begun" Lw.vZ ["_law_m"]->DI K "_law_all_right" Lw.Be ["_law_kept","_law_model_here"]->DI K "_law_growing" Lw.AH ["_law_m","_law_model_here","_law_tasks"]->DI K "_law_refused" Lw.mD ["_law_kept","_law_deed"]->DI K "_law_poked" Lw.uG ["_law_kept","_law_model_here","_law_m"]->DI K "law" Lw.Gf ["_law_script"]->QV K LS "ROOM_PAGES" = some (some (.int 64 m1))->QV K LS "PAGE_CELLS" = some (some (.int 8 t8))->QV K LS "STEP_PAGES" = some (some (.int 8 t9))->NI K ["range","enumerate","sum","int","isinstance","min","max","list","len","dict","bool","tuple","sorted","all","any","zip"]->QV K LS "NoRoom" = some (some (.ref ac))->excIn K ac Au "ValueError.__new__" = true->exmOne K (.ref ac) (.ref ac)=some true->QV K LS "BLANK" = some (some (.ref aB))->K.lookup aB=some #[dp,fq,.seq a2 nB,mm]->dp=.type "tuple" -> Vals [V.str "blank"] a2.toList->a2.size<=1 ->
  ∃fd:GX,(∀(s:By) (v:Value),PV s fd #[[v],[]] [("_law_script",v)])/\∀base:Heap,K.In base->base.Ns LS mg->a8 l.prog w K mg base aS 13 fa fd ["_law_script"] (wL K):=by
 intro h0 h1 h2 h3 h4 h5 h6 h7 h8 h9 p6 k5 ii hd ho hl i1 gr n4 jt l9 op og nw hY k3 nz hM o6 i6 jr m3 pe ht nn p0 hI hD g3 mt nq hT ko l4 ot nP nd nb oe m0 fu hG hK lx o5 hX nM hA fl ms nS fv m2 ly e2 e8 i0 hO lz mu mb nT ga ia mB j1 qc q0 q1 q2 j2 pu hB i3 yB lB oB vB wB;let#[pz,lm,k0,hu]:=h0;let#[i8,mv,_]:=h1;let#[f1,d1,F1,b1,M1]:=h2;let#[f2,d2,F2,b2,M2]:=h3;let#[f3,d3,F3,b3,M3]:=h4;let#[f4,d4,F4,b4,M4]:=h5;let#[f5,d5,F5,b5,M5]:=h6;let#[f6,d6,F6,b6,M6]:=h7;let#[f7,d7,F7,b7,M7]:=h8;let#[f8,d8,F8,b8,M8]:=h9;let#[f9,d9,F9,b9,M9]:=p6;let#[hR,pq,l7,oI]:=k5;let#[l5,g9,hQ,o2,hj,_]:=ii;let#[w0,sK,nr,i9,b0]:=hd;let#[r2,ro,kd,fI,ka]:=ho;let#[sx,s8,f0,hx,pd]:=hl;let#[ux,ry,lA,fx,kk]:=i1;let#[t0,r8,ha,ne,p1]:=gr;let#[q5,sr,mS,n1,e0]:=n4;let#[ru,ri,fH,o9,hy]:=jt;let#[rk,v0,gs,p3,pw]:=l9;let#[v1,wT,hm,n2,pl]:=op;let#[wP,w5,n0,n7,nF]:=og;let#[r7,sB,gm,nk,fk]:=nw;let#[rn,sc,hP,g7,p4]:=hY;let#[tp,sy,pi,hE,hz]:=k3;let#[bv,li,db,ei]:=nz;let#[k4,_]:=hM;let#[ws,wS,me,bm,a6]:=o6;let#[tr,wh,ln,hS,it]:=i6;let#[v5,tn,iF,nL,l0]:=jr;let#[ql,qn,ib,l6,g1]:=m3;let#[u2,r5,ji,o7,lf]:=pe;let#[g8,hv,ki,e1]:=ht;let#[pD,kt,pn,_]:=nn;let#[sw,vn,go,fy,ev]:=p0;let#[wl,rz,hb,hn,pr]:=hI;let#[wE,w1,e6,kw,o1]:=hD;let#[w3,uL,bn,c5,eC]:=g3;let#[vv,ss,i2,nO,e3]:=mt;let#[rB,wn,md,fc,oR]:=nq;let#[ub,ww,ll,lc,ih]:=hT;let#[wu,r3,el,ep,cc]:=ko;let#[w4,qi,ls,lv,g6]:=l4;let#[rx,re,fb,n8,nc]:=ot;let#[qs,rr,hr,hf,fo]:=nP;let#[r0,sd,n6,mp,oD]:=nd;let#[v6,v4,bY,on,gd]:=nb;let#[s7,q3,eb,hp,je]:=oe;let#[rp,ti,a5,bz,dI]:=m0;let#[v7,q6,eH,no,gl]:=fu;let#[ra,se,dO,kn,nC]:=hG;let#[ut,t1,a3,dd,cr]:=hK;let#[w7,so,dm,mf,il]:=lx;let#[sC,t3,bI,nl,o4]:=o5;let#[r1,rg,c6,hH,py]:=hX;let#[va,sT,bi,fz,g5]:=nM;let#[s1,ul,c8,im,o3]:=hA;let#[rv,w2,eo,g4,k1]:=fl;let#[v8,sm,en,fT,fe]:=ms;let#[s5,q4,da,l2,ov]:=nS;let#[v3,w8,et,e9,nh]:=fv;let#[t2,sn,ch,gt,om]:=m2;let#[ua,v9,cq,oL,g2]:=ly;let#[qj,tw,bl,nt,lp]:=e2;let#[q9,vl,dz,i7,nI]:=e8;let#[vu,rt,ej,nR,ge]:=i0;let#[r4,rm,c1,hk,kv]:=hO;let#[s9,sA,aT,c7,ce]:=lz;let#[sU,rc,dj,iN,hN]:=mu;let#[sS,uy,ey,fr,l3]:=mb;let#[q7,vr,bd,kz,pT]:=nT;let#[wf,u8,ea,hw,ol]:=ga;let#[rb,qw,dV,o0,mN]:=ia;let#[tm,sa,dL,hg,kQ]:=mB;let#[s6,sL,dl,na,oA]:=j1;let#[xd,i4,c0,sb,hq]:=qc;let#[dT,j3,ez,po,dM,hC,n3,ab,am,ci,e4,ew,df,fi,i5,l1,_]:=j2;have e:=k2.symm.trans (Mf X G hq);cases e;show#[i4,λs v=>?_,λbase _ _=>?_]
 .let#[oc,od,kV,tz,pm,an,u1,ct,wv,rfl,lk,rs]:=c0.ex;show .of_eq rfl
 have TS:St.Txt K mg L:=#[lm,i8,mv,Lz X G am,Lz X G ab,#[_,Mf X G q1,#[0]]];have TT:Tb.Txt K mg N:=#[li,k4,#[_,Mf X G q2,#[0]]];have TQ:Tb.AZ mg:=#[Lz X G dM,Lz X G ew,Lz X G ab,Lz X G ci,Lz X G am,Lz X G df];have SX:Rm.zV mg:=#[#[_,Mf X G q0,#[0]],#[_,Mf X G q1,#[0]],Lz X G ab,Lz X G dT,Lz X G am];have TP:St.qQ K mg I:=#[pq,l5,g9,hQ,o2,hj,Lz X G ab];have O:St.pb K mg #[J,I,L,N]:=#[hv,pD,kt,pn,#[aB,Mf X G yB,.inr #[_,a2,nB,lB,oB,rfl,Ly wB av,vB]],#[_,Mf X G q1,#[0]],Lz X G am,Lz X G ez,Lz X G l1];have MT:Lw.nV mg:=#[Lz X G dT,Lz X G j3,Lz X G ez,Lz X G po,Lz X G dM,Lz X G hC,Lz X G n3,Lz X G ab,Lz X G am,Lz X G ci,Lz X G e4,Lz X G ew,Lz X G df,Lz X G fi,Lz X G i5];have cx:Rm.Gb K mg "NoRoom" ac:=#[Mf X G pu,hB];have hh:=St.qG (P:=l.prog) (w:=w) (base:=base) F1 TS;have ap:=Md.mk _ _ _ (St.Bj (P:=l.prog) (w:=w) (base:=base) F6 TS) b6 M6;have a4:=Md.mk _ _ _ (St.y7 F9 TS ap) b9 M9;have ek:=Md.mk _ _ _ (St.CV F3 TS a4) b3 M3;have c9:=Md.mk _ _ _ (St.AA F7 TS a4) b7 M7;have ca:=Md.mk _ _ _ (St.Fv F8 TS a4) b8 M8;have eq:=Md.mk _ _ _ (St.Dv F4 TS a4) b4 M4;have eP:=Md.mk _ _ _ (St.CJ (P:=l.prog) (w:=w) (base:=base) F2 TS) b2 M2;have ec:=Md.mk _ _ _ (St.CD (P:=l.prog) (w:=w) (base:=base) F5 TS) b5 M5;have lb:=Df.mk _ _ _ (Tb.AY (P:=l.prog) (w:=w) (base:=base) a5 TQ) bz (Mf X G dI) a5.kp;have GC:=Df.mk _ _ _ (Tb.Ci a5 TQ lb) bz (Mf X G dI) a5.kp;have bx:=Tb.qG (P:=l.prog) (w:=w) (base:=base) me TT;have a0:=Md.mk _ _ _ (Tb.E9 ln TT GC) hS it;have ba:=Md.mk _ _ _ (Tb.En iF TT GC) nL l0;have io:=Md.mk _ _ _ (Tb.Bh (P:=l.prog) (w:=w) (base:=base) ib TT TQ) l6 g1;have R:=Md.mk _ _ _ (Tb.zM (P:=l.prog) (w:=w) (base:=base) ji TT TQ) o7 lf;have GP:=Df.mk _ _ _ (Rm.rN (P:=l.prog) (w:=w) (base:=base) dm SX) mf (Mf X G il) dm.kp;have GU:=Df.mk _ _ _ (Rm.sV (P:=l.prog) (w:=w) (base:=base) (mg:=mg) bI) nl (Mf X G o4) bI.kp;have GM:=Df.mk _ _ _ (Rm.Ae c6 GP) hH (Mf X G py) c6.kp;have GD:=Df.mk _ _ _ (Rm.xS bi GP GU) fz (Mf X G g5) bi.kp;have GO:=Df.mk _ _ _ (Rm.wb c8 SX GP GU) im (Mf X G o3) c8.kp;have fD:=Df.mk _ _ _ (Rm.yo (P:=l.prog) (w:=w) (base:=base) eo SX) g4 (Mf X G k1) eo.kp;have iv:=Df.mk _ _ _ (Rm.Ck (P:=l.prog) (w:=w) (base:=base) en SX) fT (Mf X G fe) en.kp;have bC:=Df.mk _ _ _ (St.Dm bY TS c9 ap ek) on (Mf X G gd) bY.kp;have ee:=Df.mk _ _ _ (St.yg eb TS eP ca ap eq) hp (Mf X G je) eb.kp;have bb:=Md.mk _ _ _ (St.Bt (CS:=L) (P:=l.prog) (w:=w) (base:=base) n0 TP) n7 nF;have U:=Md.mk _ _ _ (St.tG gm TP bb) nk fk;have a1:=Md.mk _ _ _ (St.u7 hP TP bb) g7 p4;have e5:=Md.mk _ _ _ (St.yH pi TP TS a1 U ap) hE hz;have mw:=Md.mk _ _ _ (St.y0 ha TP TS a1 U c9) ne p1;have hF:=Md.mk _ _ _ (St.wa hm TP bC ee U) n2 pl;have cm:=Md.mk _ _ _ (St.tP gs TP TS ec hF ee) p3 pw;have bc:=Md.mk _ _ _ (St.rK kd TP TS ec cm) fI ka;have ef:=Md.mk _ _ _ (St.Ab fH TP bb cm bC) o9 hy;have m8:=Md.mk _ _ _ (St.BB f0 TP TS a1 U eq) hx pd;have c2:=Md.mk _ _ _ (St.BG lA TP TS a1 U ek ap) fx kk;have ik:=Md.mk _ _ _ (St.yx mS TP TS e5 bc c2 ef U ca) n1 e0;have jp:=St.zD nr TP #[k0,M1.at_,M1.fn,hu] (Mf X G pz) hh b1;have S:=Df.mk _ _ _ (St.yR (P:=l.prog) (w:=w) (base:=base) (mg:=mg) eH) no (Mf X G gl) eH.kp;have GS:=Df.mk _ _ _ (St.ya (P:=l.prog) (w:=w) (base:=base) (mg:=mg) dO) kn (Mf X G nC) dO.kp;have GA:=Df.mk _ _ _ (St.Am (P:=l.prog) (w:=w) (base:=base) (mg:=mg) a3) dd (Mf X G cr) a3.kp;have g0:=St.zY (c:=#[J,I,L,N]) go O #[l7,b0.at_,b0.fn,oI] (Mf X G hR) jp i9;have be:=Md.mk _ _ _ (St.oG (c:=#[J,I,L,N]) fb O TT TP a0 io c2) n8 nc;have oF:=Md.mk _ _ _ (St.Cd (c:=#[J,I,L,N]) i2 O TT S GD R be) nO e3;have pa:=Md.mk _ _ _ (St.yM (c:=#[J,I,L,N]) e6 O TT S R be) kw o1;have pp:=Md.mk _ _ _ (St.yn (c:=#[J,I,L,N]) hb O #[db,a6.at_,a6.fn,ei] (Mf X G bv) GS bx bm) hn pr;have c4:=Md.mk _ _ _ (St.vc (c:=#[J,I,L,N]) hr O TP mw) hf fo;have eX:=Md.mk _ _ _ (St.qJ (c:=#[J,I,L,N]) n6 O TP bc ik) mp oD;have Y:=Md.mk _ _ _ (St.AR (c:=#[J,I,L,N]) ls O TT R) lv g6;have oC:=Md.mk _ _ _ (St.Dc (c:=#[J,I,L,N]) bn O TT S GM GA R Y ba) c5 eC;have lw:=Md.mk _ _ _ (St.BS (c:=#[J,I,L,N]) md O TT TP S GO fD R a0 ef c4) fc oR;have hc:=Md.mk _ _ _ (St.Ak (c:=#[J,I,L,N]) ll O TT S GO iv R a0 ba c4 eX) lc ih;have n9:=Md.mk _ _ _ (St.BN (c:=#[J,I,L,N]) el O TT TP #[db,a6.at_,a6.fn,ei] (Mf X G bv) S GS GA bx bm R Y a0 ba m8) ep cc;have KT:Lw.Jg l.prog w K mg base #[J,I,L,N]:=#[pp,pa,oC,oF,n9,lw,hc];have ni:=Df.mk _ _ _ (Lw.zW (P:=l.prog) (w:=w) (base:=base) (mg:=mg) da) l2 (Mf X G ov) da.kp;have ft:=Df.mk _ _ _ (Lw.yX et MT ni) e9 (Mf X G nh) et.kp;have l8:=Df.mk _ _ _ (Lw.AD (P:=l.prog) (w:=w) (base:=base) (mg:=mg) ey) fr (Mf X G l3) ey.kp;have hL:=Df.mk _ _ _ (Lw.zm (P:=l.prog) (w:=w) (base:=base) (mg:=mg) cq) oL (Mf X G g2) cq.kp;have as:=Df.mk _ _ _ (Lw.zt (P:=l.prog) (w:=w) (base:=base) bl MT) nt (Mf X G lp) bl.kp;have n5:=Df.mk _ _ _ (Lw.wj (P:=l.prog) (w:=w) (base:=base) dz MT) i7 (Mf X G nI) dz.kp;have ff:=Df.mk _ _ _ (Lw.Ek ej MT as n5) nR (Mf X G ge) ej.kp;have a7:=Df.mk _ _ _ (Lw.Du (P:=l.prog) (w:=w) (base:=base) c1 MT) hk (Mf X G kv) c1.kp;have em:=Df.mk _ _ _ (Lw.xW aT O KT) c7 (Mf X G ce) aT.kp;have e7:=Df.mk _ _ _ (Lw.AN (P:=l.prog) (w:=w) (base:=base) ch MT) gt (Mf X G om) ch.kp;have kE:=Df.mk _ _ _ (Lw.vJ dj MT e7) iN (Mf X G hN) dj.kp;have eN:=Df.mk _ _ _ (Lw.Dj ea O KT kE as Y) hw (Mf X G ol) ea.kp;have la:=Df.mk _ _ _ (Lw.Cz dV MT as) o0 (Mf X G mN) dV.kp;have c3:=Df.mk _ _ _ (St.yq (P:=l.prog) (w:=w) (base:=base) a3 cx) dd (Mf X G cr) a3.kp;have lr:=Md.mk _ _ _ (St.Aq (c:=#[J,I,L,N]) bn O TT S GM c3 R Y) c5 eC;have mn:=Md.mk _ _ _ (St.xZ (c:=#[J,I,L,N]) el O TT S GS c3 R Y) ep cc;have ld:=Df.mk _ _ _ (Lw.uJ aT O lr mn) c7 (Mf X G ce) aT.kp;have qb:=Df.mk _ _ _ (Lw.vy dL cx i3 ld) hg (Mf X G kQ) dL.kp;have he:=Df.mk _ _ _ (Lw.Bo dl MT as a7 em eN) na (Mf X G oA) dl.kp;have qa:=Df.mk _ _ _ (Lw.zH bd O KT #[ki,ev.at_,ev.fn,e1] (Mf X G g8) l8 g0 fy hL a7) kz (Mf X G pT) bd.kp;show Lw.Fl c0 MT O ft qa la ff a7 em as qb he eN Y
theorem walk {l:PySem.W.OpenLaw}{q:IF}{loose:List Str}{XP:(Str->Option Value)->Heap->Prop}{G:Ll->Heap->Prop}{d:DefRec}{K:Params->PySem.W.Frag}(O:l.most=some 63) (L:d.params.defaults=[])
  (R:∀(w:Ll) (h:Heap),G w h->(K w.params).In h)
  (F:∀(w:Ll) (mg:Str->Option Value) (I:Addr) (h:Heap),(K w.params).In h->h.Ns LS mg->mg d.name=some (.ref I) ->
   ∃fd:GX,(∀(s:By) (u:Value),PV s fd #[[u],[]] [("_law_script",u)])/\∀base:Heap,(K w.params).In base->base.Ns LS mg->a8 l.prog w (K w.params) mg base aS 13 I fd ["_law_script"] (wL (K w.params))) :
  PySem.W.WalkO q loose XP G l.row.toRowW d [] (λf vs=>PySem.call f vs):=
 L2.B8 (n:=63) (k:=13) (x := "_law_script") (CX:=λ_=>aS) (sp:=λw=>wL (K w.params)) O av L #[rfl,av,av] R F (λ_ _ a ns J _ N=>#[a,ns,rfl,N,J,λ_=>rfl]) λ_ _ _ _ _ z=>z
end Lw
end
open PySem PySem.W PyProof.Rows
theorem PySem.Challenge.cw_ownroom_k18_held_and_no_room_holds : PySem.Challenge.rw_ownroom_k18_held_and_no_room.Holds := by
 refine Hd.top ⟨Hd.Ds (H:=boot_heap) (T:=Hd.DS) (life:={}) (m:=11) (M:=100000) (gs:=Array.mk []) (d:=boot_drawn) (k:=boot_toks) (an:=some (.ref 6)) (boot_open (by kernel_rfl) av (λs=>by kernel_rfl)) (λP=>by kernel_rfl) (λw=>by kernel_rfl) av (λw os=>Hd.run_ w os),?_⟩
 k_fill
 refine Lw.walk (l:=PySem.Challenge.rw_ownroom_k18_held_and_no_room) rfl rfl (λw h Y=>PySem.W.kIn_of Y) ?F
 case F =>
  intro w mg fa h KX G hmg;apply Lw.all_mk KX G hmg
  all_goals first
   |(apply Lw.MI.of<;>first|k_is|(first|exact λ_ _ _ _ _ _ _=>rfl|exact λ_ _ _ _ _ _ _ _=>rfl|exact λ_ _ _ _ _ _ _ _ _=>rfl|exact λ_ _ _ _ _ _ _ _ _ _=>rfl|exact λ_ _ _ _ _ _ _ _ _ _ _=>rfl))
   |(apply Lw.DI.of<;>first|k_is|(first|exact λ_ _ _ _ _ _ _=>rfl|exact λ_ _ _ _ _ _ _ _=>rfl|exact λ_ _ _ _ _ _ _ _ _=>rfl|exact λ_ _ _ _ _ _ _ _ _ _=>rfl|exact λ_ _ _ _ _ _ _ _ _ _ _=>rfl))
   |(apply Lw.CI.mk;k_is;(constructor<;>k_is);k_is;k_is)
   |(unfold Lw.NI;repeat' first|apply And.intro|exact trivial|k_is|unfold Lw.NI)
   |(unfold Lw.AI;repeat' first|apply And.intro|exact trivial|k_is|unfold Lw.AI)
   |k_is|k_exc|kts_exm|rfl|exact .cons ⟨_,rfl⟩ .nil|exact le_refl 1
