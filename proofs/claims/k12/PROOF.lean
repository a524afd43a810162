import PyProof.Rows.All
import Wide.All
import OpenK.AllK
import Wide.FinOn
import Lean
import PyProof.EqAt
import PyProof.EqKinds
import PyProof.TupleCall
import PySem.Challenge.RW_ownroom_k12_copies_apart
inductive ym {α β:Type}(p:α->β->Prop):Prop
 |mk (x0:α) (x1:β) (_:p x0 x1):ym p
inductive Fl {α β γ:Type}(p:α->β->γ->Prop):Prop
 |mk (x0:α) (x1:β) (x2:γ) (_:p x0 x1 x2):Fl p
inductive HB {α β γ δ:Type}(p:α->β->γ->δ->Prop):Prop
 |mk (x0:α) (x1:β) (x2:γ) (x3:δ) (_:p x0 x1 x2 x3):HB p
inductive AJ {α β γ δ ε:Type}(p:α->β->γ->δ->ε->Prop):Prop
 |mk (x0:α) (x1:β) (x2:γ) (x3:δ) (x4:ε) (_:p x0 x1 x2 x3 x4):AJ p
inductive Fj {α β γ δ ε ζ:Type}(p:α->β->γ->δ->ε->ζ->Prop):Prop
 |mk (x0:α) (x1:β) (x2:γ) (x3:δ) (x4:ε) (x5:ζ) (_:p x0 x1 x2 x3 x4 x5):Fj p
inductive qT (A0 A1 A2:Prop):Prop
 |mk (_:A0) (_:A1) (_:A2):qT A0 A1 A2
inductive EZ (A0 A1 A2 A3:Prop):Prop
 |mk (_:A0) (_:A1) (_:A2) (_:A3):EZ A0 A1 A2 A3
inductive EG (A0 A1 A2 A3 A4:Prop):Prop
 |mk (_:A0) (_:A1) (_:A2) (_:A3) (_:A4):EG A0 A1 A2 A3 A4
inductive xM (A0 A1 A2 A3 A4 A5:Prop):Prop
 |mk (_:A0) (_:A1) (_:A2) (_:A3) (_:A4) (_:A5):xM A0 A1 A2 A3 A4 A5
inductive HA (A0 A1 A2 A3 A4 A5 A6:Prop):Prop
 |mk (_:A0) (_:A1) (_:A2) (_:A3) (_:A4) (_:A5) (_:A6):HA A0 A1 A2 A3 A4 A5 A6
inductive HK (A0 A1 A2 A3 A4 A5 A6 A7:Prop):Prop
 |mk (_:A0) (_:A1) (_:A2) (_:A3) (_:A4) (_:A5) (_:A6) (_:A7):HK A0 A1 A2 A3 A4 A5 A6 A7
inductive FY (A0 A1 A2 A3 A4 A5 A6 A7 A8 A9 A10:Prop):Prop
 |mk (_:A0) (_:A1) (_:A2) (_:A3) (_:A4) (_:A5) (_:A6) (_:A7) (_:A8) (_:A9) (_:A10):FY A0 A1 A2 A3 A4 A5 A6 A7 A8 A9 A10
inductive GZ (A0 A1 A2 A3 A4 A5 A6 A7 A8 A9 A10 A11 A12:Prop):Prop
 |mk (_:A0) (_:A1) (_:A2) (_:A3) (_:A4) (_:A5) (_:A6) (_:A7) (_:A8) (_:A9) (_:A10) (_:A11) (_:A12):GZ A0 A1 A2 A3 A4 A5 A6 A7 A8 A9 A10 A11 A12
set_option Elab.async false
set_option linter.all false
set_option tactic.hygienic false
set_option maxRecDepth 100000
set_option maxHeartbeats 0
local macro_rules | `(tactic| omega) => `(tactic| lia)
theorem ao {p:Prop}(h:p:=by decide +kernel):p:=h
theorem ar {p:Prop}(h:p:=by decide):p:=h
theorem ae {p:Prop}(h:p:=by omega):p:=h
open PySem.W (instObj lookIn handedIn isFn plainOver takerIn makesIn emptyDict kitx_list kitx_tuple kitx_dict callWith_K0 KdlSrc kdl_dict)
open List (replicate all_cons foldl map_drop filter)
open Nat (le_refl)
open Option (getD_none bind_some isNone)
open Array (toList)
open PySem
open _root_.PySem renaming wpAny_bind->By,Shared->BY,wpAny_pure->DO,FuncData->J0,Program->J2,sizeLine_eq->J5,World->Kd,Around->Kk,bootBuiltins->Kq,Expr->Kt,Stmt->Ky,mainGlobals->KJ,wpAny_newObj_type->K4,wpAny_holding->K5,wpAny_truthy_bool->Lf,compareOp->Lo,wpAny_call_entry->Lq,wpAny_ite_split->Ly,tupleKind_room_in1->LB,wpAny_passesOwn->LD,sysModules->LH,wpAny_rule->LJ,wpAny_Call_Name_kw->LK,call_meetsIn->LL,attributeBase->LR,wpAny_mono->LU,wpAny_askSetting->LZ,behindInMarks->L1,call_meets->Mc,cLine->Me,keywordEach->Mf,wpAny_callSpecial?_slot->Mg,sliceBounds->Mh,Pos->Mj,wpAny_pyIter_list->Ml,codeAny->Mm,codeAny_mono->Mo,wpAny_Call_method->Mq,wpAny_setState_of->Mv,wpAny_standAt->MC,getItem->MD,binaryOp->MG,wpAny_execs_nil->MN,codeAny_builtin->MO,holding->MQ,wpAny_typeOf->MW,tupleKind->MZ,assignEach->Na,Scope->Nl,wpAny_assign_Name->Nn,foldedSetIterable->Np,seqIndex_of->Nq,wpAny_pyIter_slot->Nu,wpAny_comprehension_free->Nv,plainId_quiet->Ny,getMethod->Nz,backToKw->NA,wpAny_Call_method0_late->ND,wpAny_pyNext_range_end->NK,wpAny_pyIter_rangeiter->NL,IsPart->NM,wpAny_getItem_list_neg->NO,valueAt->NP,letOwnedTupleGo->NS,wpAny_isTrue_Compare1->NT,builtinLookup_eq_fast->NU,IsRangeIter->NV,subscripted->NY,lookup_relabel_local->N1,codeAny_call_builtin->N2,entryFor_alias->N3,isSubtype_type->N5,swapsWith->N6,Keyword->N7,callerA->N8,wpAny_setEntries_of->Oa,assignInOrder->Ob,wpAny_newList->Oe,assign->Oh,wpAny_pyIter_range->Oi,wpAny_call->Ol,intKind_is->Oq,setsByText->Ot,wpAny_setField_rec->Ou,intKind->Ov,GenState->Ox,standAt->Oy,Operator->Oz,BindsTo->OE,wpAny_sequenceKey->OH,wpAny_pyIter_enum->OI,wpAny_execs_cons->OL,rawInt->OM,wpAny_pyIter_zip->ON,wpAny_isInstance->OP,wpAny_field->OR,atKey->OS,builtinsNs->OZ,wpAny_Name->O0,bindName->O8,pyIter->Pa,bindArgs->Pd,callWith->Pf,bindL->Ph,bindC->Pj,typeIs_int->Pm,compEnvC->Po,entryFor->Px,Sem->Pz,cellsFrom->PL,seqIndex?->PM,hashInt->PN,setItem->PQ,Result->PR,argsOk->PX,Env->P1,CmpOp->P6,Tok->Qe
open _root_.List renaming length_map->DD,size_toArray->IF,getElem?_map->J3,getElem?_eq_getElem->J4,mem_of_getElem?->J7,length_append->J9,not_mem_nil->Kb,map_append->Ke,length_cons->Kf,length_take->Kg,mem_append_right->Kn,mem_cons_of_mem->Kp,append_assoc->Kr,mem_cons->Ku,mem_cons_self->Kv,getD_eq_getElem?_getD->Kw,getElem?_set_ne->Kx,length_set->KG,getElem?_set_self->KH,length_range->KL,length_replicate->KN,getElem?_eq_none->KO,take_of_length_le->KP,getElem?_append_right->KR,getElem?_append_left->KU,pairwise_append->KW,length_singleton->KZ,take_append_drop->K0,mem_append_left->K9,getElem_mem->La,map_map->Lc,getElem_of_mem->Lh,take_add_one->Li,take_length->Lk,map_cons->Lm,length_drop->Lr,filter_cons->Ls,drop_eq_getElem_cons->Lu,map_congr_left->Lx,nodup_nil->Lz,replicate_succ->LA,flatten_cons->LF,extract_eq_take_drop->LG,ext_getElem?->LN,sum_cons->LQ,take_sublist->LW,perm_append_comm->LY,getElem_take->Ms,reverse_append->Mt,getElem?_range->Mu,find?_cons->Mz,length_nil->MB,mem_singleton->ME,drop_sublist->MX,filter_eq_self->Nj,range_succ->Nk,getElem?_take->Nw,getElem?_drop->Nx,any_cons->NZ,take_zero->N9,append_nil->Oj,map_nil->OX,of_mem_zip->Pk,map_take->Py,map_set->PY,mem_map->PZ
open _root_.PyProof.Rows renaming wpS_bind->HC,wpS_pure->JY,arrOf->Ka,Keyed->Kc,pendingOf->Ki,SortSt->KA,wpS_forRange->KD,slot_tuple_getitem->KI,callWith_type1->KS,wpS_mono->Ln,numOf->LI,wpS_modify->LM,IntsAre->LX,oneType'->L4,failedOf->L6,wpS_get->Mr,assignInOrder_cons->Nb,AllBare->Nm,wpS_lift->NB,subscriptTail_builtinR->NN,pairsOf->NQ,pairsOf_size->NR,envOfC->NX,subscriptTail->Oc,listUpdate_at->Od,args_tuple_getitem->Om,assignInOrder_nil->OA,seqEpoch_at->OT,iadd_int->OW,K_congr->OY,boot_range->Pb,Subscript_->Pl,isInt_at->Pp,mirror->Pq,size_push'->Pt,wpS->P4,isInt->Qc,stC->Qd
open _root_.Ne renaming symm->JZ
open _root_.Nat renaming le_refl->J1,zero_le->Kl,ne_of_lt->Km,le_trans->Ko,lt_of_lt_of_le->Kz,lt_succ_of_lt->LS,lt_irrefl->LV,lt_succ_self->MU,le_succ->MV,min_eq_right->MY,min_eq_left->Nr,le_of_lt->Ow,ne_of_gt->OB,zero_add->Pr
open _root_.Or renaming inl->J6,inr->N0
open _root_.Bool renaming false_ne_true->J8,false_eq_true->KQ,eq_iff_iff->LO,and_false->Mp,and_eq_true->My,and_eq_true_iff->N4,true_and->PD,not_true->PF
open _root_.PySem.PassesOwn renaming never->Kh
open _root_.PySem.W renaming mg_none_of->Kj,mg_of->Lb,kitOne->Mb,kia_one->Mn,findIn->Nc,keepIn->NW,plainGet_of->OQ,plainGet->Pc,callWith_K->Pe,methodObj->PH,hasDictIn->PK,fnOf->PU,codeIn->PV,nsIn->Qg
open _root_.PySem.F renaming plainAttrs_list->KY,plainAttrs_dict->LP,slot_dict_get->L3,entry_dict_get->Ng,slot_list_remove->NF,slot_list_extend->NG,type_list_extend->NH
open _root_.Int renaming toNat_natCast->K6,emod_lt_of_pos->K8,emod_nonneg->Ll,toNat_of_nonneg->Ma,toNat->NJ
open _root_.Array renaming toList_append->K7,length_toList->Ld,getElem?_toList->Lj,perm_iff_toList_perm->LC,toList_push->MJ,toList_extract->Nh,toList_reverse->Ni,size_push->NC,size_map->Pu
open _root_.True renaming intro->Lg
open _root_.False renaming elim->Lp
open _root_.Classical renaming byContradiction->L0
open _root_.Option renaming bind_some->Mi,isSome_map->Nf,getD_some->OO
open _root_.PySem.Data renaming cell->Mw,fields->MF,seq->Pn
open _root_.PySem.Around renaming under_plainId->ML,under->OC
open _root_.PySem.SeqAt renaming EqAt->Nd
open _root_.Prod.mk renaming inj->Nt
open _root_.PySem.SeqAt.EqAt renaming int_str->Of,str_int->Og
open _root_.PyProof.Rows.SortSt renaming mk'->Oo
open _root_.PySem.Code renaming isFrame->OD,frames->Qb
open _root_.Prod renaming ext->OG
open _root_.PySem.pickOrder renaming go->OJ
open _root_.ForInStep renaming yield->OU
open _root_.Array.Perm renaming refl->OV
open _root_.PySem.Walks renaming list->Pw,range->P7
open _root_.PyProof.Rows.LSm renaming kept_iter->PB
open _root_.PyProof.Rows.IsTup renaming new->PJ
open _root_.PySem.IsRange renaming new->Qa
open _root_.PySem.W.WShape renaming has->Qf
theorem Qh {c:Prop}{h:Decidable c}(n:¬c){α:Sort u}{t e:α}:ite c t e=e:=if_neg n
theorem Qi {c:Prop}{h:Decidable c}(n:c){α:Sort u}{t e:α}:ite c t e=t:=if_pos n
section
local macro_rules|`(tactic|show $t)=>`(tactic|refine $t)
open Lean in
local macro_rules|`(#[$xs,*])=>do
 let T:=([← `(⟨_,rfl⟩),← `(⟨rfl,rfl⟩),← `(⟨_,_⟩),← `(⟨?_,?_⟩),← `(⟨rfl,?_⟩),← `(⟨rfl,_⟩)]:List (TSyntax `term))
 let mut r:Array (TSyntax `term):=Array.mk []
 for x in xs.getElems do
  match x.raw.isNatLit? with
  |some k=>
   match T[k]! with
   |`(⟨$ys,*⟩)=>r:=r++ys.getElems
   |_=>r:=r
  |_=>r:=r.push x
 `(⟨$r,*⟩)
open Lean in
local macro_rules|`(tactic|let $p:term:=$e)=>do
 let rec go (n:Nat)(t:Syntax):MacroM (TSyntax `rcasesPat):=do
  match n with
  |0=>Macro.throwUnsupported
  |n+1=>match t with
   |`($i:ident)=>`(rcasesPat|$i:ident)
   |`(_)=>`(rcasesPat|_)
   |`(#[$xs,*])=>do `(rcasesPat|⟨$(←xs.getElems.mapM fun x=>do `(Parser.Tactic.rcasesPatLo|$(←go n x):rcasesPat)),*⟩)
   |_=>Macro.throwUnsupported
 match p with
 |`(#[$_,*])=>do `(tactic|obtain $(←go 99 p):rcasesPat := $e)
 |_=>Macro.throwUnsupported
namespace L2
open PySem PySem.Spec PyProof.Rows
noncomputable abbrev Key:=Sum Int Str
noncomputable def ng:Key->Value->Bool
 |.inl k,v=>Value.isInt k v
 |.inr x,v=>Value.isStrOf x v
noncomputable def IK (w:Kd):Key->Int
 |.inl k=>PN k
 |.inr x=>hashStr w x
theorem cw:∀{k:Key}{v:Value},ng k v=true->(∃i t,k=Sum.inl i/\v=Value.int i t)\/(∃x t,k=Sum.inr x/\v=Value.str x t)
 |.inl i,v,h=>by
  let#[t,e]:=Value.isInt_shape (k:=i) (v:=v) h;show .inl #[i,t,rfl,e]
 |.inr x,v,h=>by
  let#[t,e]:=Value.isStrOf_shape (x:=x) (v:=v) h;show .inr #[x,t,rfl,e]
theorem yd (i:Int) (t:Qe):ng (.inl i) (.int i t)=true:=by simp[ng,Value.isInt]
theorem xi (x:Str) (t:Qe):ng (.inr x) (.str x t)=true:=by simp[ng,Value.isStrOf]
theorem Ek (a b:Int):decide ((Sum.inl a:Key)=Sum.inl b)=(a==b):=by
 by_cases e:a=b
 .subst e;simp
 .have h:¬ (Sum.inl a:Key)=Sum.inl b:=λq=>e (Sum.inl.inj q);rw[decide_eq_false h];show(beq_eq_false_iff_ne.mpr e).symm
theorem Ew (a b:Str):decide ((Sum.inr a:Key)=Sum.inr b)=decide (a=b):=by
 by_cases e:a=b
 .subst e;simp
 .have h:¬ (Sum.inr a:Key)=Sum.inr b:=λq=>e (Sum.inr.inj q);rw[decide_eq_false h,decide_eq_false e]
theorem C8 (a:Int) (b:Str):decide ((Sum.inl a:Key)=Sum.inr b)=false:=decide_eq_false (λq=>nomatch q)
theorem DC (a:Str) (b:Int):decide ((Sum.inr a:Key)=Sum.inl b)=false:=decide_eq_false (λq=>nomatch q)
noncomputable def br (prog:J2) (w:Kd):PySem.KeyKind prog w Key where
 is:=ng
 hash:=IK w
 inj:=λv a b O L=>by
  rcases cw O with⟨i,t,rfl,rfl⟩|⟨x,t,rfl,rfl⟩
  .rcases cw L with⟨j,u,rfl,e⟩|⟨y,u,rfl,e⟩
   .injection e with G _;rw[G]
   .show nomatch e
  .rcases cw L with⟨j,u,rfl,e⟩|⟨y,u,rfl,e⟩
   .show nomatch e
   .injection e with G _;rw[G]
 byValue:=λk v h=>by
  rcases cw h with⟨i,t,rfl,rfl⟩|⟨x,t,rfl,rfl⟩<;>rfl
 pyHash:=λJ h=>by
  rcases cw J with⟨i,t,rfl,rfl⟩|⟨x,t,rfl,rfl⟩
  .show wpAny_pyHash_int h
  .show wpAny_pyHash_str h
 eqBool:=λN J h=>by
  rcases cw N with⟨i,t,rfl,rfl⟩|⟨x,t,rfl,rfl⟩
  .rcases cw J with⟨j,u,rfl,rfl⟩|⟨y,u,rfl,rfl⟩
   .rw[Ek]at h;show wpAny_eqBool_int h
   .rw[C8]at h;show Of i t y u _ _ _ _ h
  .rcases cw J with⟨j,u,rfl,rfl⟩|⟨y,u,rfl,rfl⟩
   .rw[DC]at h;show Og x t j u _ _ _ _ h
   .rw[Ew]at h;show wpAny_eqBool_str h
 «strs» := λk x t v h=>by
  rcases cw h with⟨i,u,rfl,e⟩|⟨y,u,rfl,e⟩
  .show nomatch e
  .injection e with G _;subst G;cases v<;>rfl
theorem rL (prog:J2) (w:Kd) (i:Int) (t:Qe):(br prog w).is (.inl i) (.int i t)=true:=yd i t
theorem sj (prog:J2) (w:Kd) (x:Str) (t:Qe):(br prog w).is (.inr x) (.str x t)=true:=xi x t
inductive V where
 |non|bl (b:Bool)|int (i:Int)|str (x:Str)|byt (b:Array UInt8)|flt (b:UInt64)|ref (a:Addr)|ty (n:String)
 deriving DecidableEq
noncomputable def RelV:V->Value->Prop
 |.non,u=>u=Value.none
 |.bl b,u=>u=Value.bool b
 |.int i,u=>∃t,u=Value.int i t
 |.str x,u=>∃t,u=Value.str x t
 |.byt b,u=>∃t,u=Value.bytes b t
 |.flt b,u=>∃t,u=Value.float b t
 |.ref a,u=>u=Value.ref a
 |.ty n,u=>u=Value.type n
noncomputable abbrev Vals:List V->List Value->Prop:=Paired RelV
theorem Vals.length {xs:List V}{us:List Value}(r:Vals xs us):xs.length=us.length:=Paired.length r
theorem Vals.get:∀{xs:List V}{us:List Value}{i:Nat}{x:V},Vals xs us->xs[i]?=some x->∃u,us[i]?=some u/\RelV x u
 |_,_,_,_,.nil,e=>by simp at e
 |_,_,0,_,.cons r _,e=>by simp at e;subst e;show#[0,r]
 |_,_,i+1,x,.cons _ t,e=>by
  let#[u,h1,h2]:=Vals.get (i:=i) (x:=x) t (by simpa using e);show#[u,by simpa using h1,h2]
theorem Vals.set {x:V}{u:Value}(r:RelV x u):∀{xs:List V}{us:List Value}(i:Nat),Vals xs us->Vals (xs.set i x) (us.set i u)
 |_,_,_,.nil=>.nil
 |_,_,0,.cons _ t=>.cons r t
 |_,_,i+1,.cons q t=>.cons q (Vals.set r i t)
theorem Vals.append:∀{xs ys:List V}{us ws:List Value},Vals xs us->Vals ys ws->Vals (xs++ys) (us++ws)
 |_,_,_,_,.nil,s=>s
 |_,_,_,_,.cons r t,s=>.cons r (Vals.append t s)
theorem Vals.take:∀{xs:List V}{us:List Value}(n:Nat),Vals xs us->Vals (xs.take n) (us.take n)
 |_,_,0,_=>.nil
 |_,_,_+1,.nil=>.nil
 |_,_,n+1,.cons r t=>.cons r (Vals.take n t)
theorem Vals.drop:∀{xs:List V}{us:List Value}(n:Nat),Vals xs us->Vals (xs.drop n) (us.drop n)
 |_,_,0,r=>r
 |_,_,_+1,.nil=>.nil
 |_,_,n+1,.cons _ t=>Vals.drop n t
noncomputable def fO:Option V->Option Value->Prop
 |some v,some u=>RelV v u
 |none,none=>True
 |_,_=>False
noncomputable def KV {κ:Type}:List (κ×V)->List (κ×Value)->Prop:=Paired λ(p:κ×V) (q:κ×Value)=>p.1=q.1/\RelV p.2 q.2
noncomputable def kV:Key->V
 |.inl i=>.int i
 |.inr x=>.str x
inductive HO where
  |lst (xs:List V)
  |tup (xs:List V)
  |dK (kvs:List (Key×V))|dT (kvs:List (List Key×V))
  |set (S:Int->Bool) (n:Nat)
  |ins (C dx:Addr) (fs:List (Str×V))
  |own (x:Addr)
  |xd (fs:List (Str×V))
  |met (f x:Addr)
  |rng (lo hi:Int)
  |cu (o:Obj) (u:HO)
  |tbl (ps:Array Value)
  |ext (φ:Heap->Prop)
noncomputable abbrev Hp:=Addr->Option HO
noncomputable def upd (H:Hp) (a:Addr) (o:HO):Hp:=λb=>if b=a then some o else H b
theorem af {H:Hp}{a:Addr}{o:HO}:upd H a o a=some o:=by unfold upd;rw[Qi rfl]
theorem ah {H:Hp}{a b:Addr}{o:HO}(h:b≠a):upd H a o b=H b:=by unfold upd;rw[Qh h]
theorem cH {H:Hp}{a b:Addr}{o u:HO}(h:H a=some o) (h':H b=some u) (d:o≠u):a≠b:=by
 intro e;subst e;rw[h]at h';show d (Option.some.inj h')
theorem aq {H:Hp}{a b:Addr}{o:HO}(h:H a=some o) (h':H b=none):a≠b:=by
 intro e;subst e;rw[h]at h';cases h'
section
variable (P:J2) (w:Kd)
noncomputable def bR (H:Hp) (h:Heap) (a:Addr):HO->Prop
 |.lst xs=>xs.length<=sizeLine/\∃(its:List Value) (n:Nat),Vals xs its/\h.get? a=some { cls:=.type "list",data:=.seq its.toArray n }
 |.tup xs=>xs.length<=sizeLine/\∃its:List Value,Vals xs its/\IsTup h a its.toArray
 |.dK kvs=>kvs.length<=sizeLine/\(a==LH)=false/\∃vs,KV kvs vs/\h.DictOf (br P w) a vs
 |.dT kvs=>kvs.length<=sizeLine/\(a==LH)=false/\∃xs:List (List Key×Addr×Value),
   Paired (λ(p:List Key×V) (q:List Key×Addr×Value)=>p.1=q.1/\H q.2.1=some (.tup (p.1.map kV))/\RelV p.2 q.2.2) kvs xs /\
   ∃o es ep,h.get? a=some o/\o.ExactDict/\o.data=.dict es ep/\es.toList=xs.map (entryOfKey (MZ (br P w)))/\(xs.map (·.1)).Nodup
 |.set S n=>h.SetOf (Ov P w) a S n
 |.ins C dx fs=>H dx=some (.own a)/\fs.length<=1000/\dx≠a/\h.get? a=some (instObj C dx) /\
   ∃mA,h.Ns1 dx mA/\(∀f,fO (fs.lookup f) (mA f))/\PySem.Within mA (fs.map (·.1))
 |.own _=>∃o,h.get? a=some o
 |.xd fs=>∃mA,h.Ns1 a mA/\∀f,fO (fs.lookup f) (mA f)
 |.rng lo hi=>∃t u v,h.get? a=some { cls:=.type "range",data:=.fields ([.int lo t,.int hi u,.int 1 v].toArray) }
 |.cu o u=>h.get? a=some o/\bR H h a u
 |.tbl ps=>h.get? a=some { cls:=.none,data:=.fields ps }
 |.met f x=>h.get? a=some (PH (.ref f) (.ref x))
 |.ext G=>G h/\(∃o,h.get? a=some o)/\∀h1 h2:Heap, G h1->(∀o,h1.get? a=some o->h2.get? a=some o)->G h2
noncomputable def iZ (H:Hp) (h:Heap):Prop:=∀a o,H a=some o->bR P w H h a o
end
section
variable {P:J2}{w:Kd}{H H':Hp}{h h':Heap}{a:Addr}{o:HO}
theorem bR.lt (x:bR P w H h a o):a<h.objs.size:=by
 cases o with
 |lst xs=>let#[_,_,_,_,e]:=x;show Heap.lt_size e
 |tup xs=>let#[_,_,_,p]:=x;show p.lt
 |dK kvs=>let#[_,_,_,_,o,_,_,e,_]:=x;show Heap.lt_size e
 |dT kvs=>let#[_,_,_,_,o,_,_,e,_]:=x;show Heap.lt_size e
 |set S n=>let#[o,_,_,_,e,_]:=x;show Heap.lt_size e
 |ins C dx fs=>let#[_,_,_,e,_]:=x;show Heap.lt_size e
 |own y=>let#[_,e]:=x;show Heap.lt_size e
 |xd fs=>let#[_,#[_,_,_,e,_],_]:=x;show Heap.lt_size e
 |rng lo hi=>let#[_,_,_,e]:=x;show Heap.lt_size e
 |cu ob u=>let#[e,_]:=x;show Heap.lt_size e
 |tbl ps=>show Heap.lt_size (show h.get? a=some _ from x)
 |met f y=>show Heap.lt_size (show h.get? a=some _ from x)
 |ext G=>let#[_,#[_,e],_]:=x;show Heap.lt_size e
theorem Paired.Ay {α J:Type}{F G:α->J->Prop}:∀{l₁:List α}{l₂:List J},Paired F l₁ l₂->(∀a b,F a b->G a b)->Paired G l₁ l₂
 |_,_,.nil,_=>.nil
 |_,_,.cons r t,f=>.cons (f _ _ r) (Paired.Ay t f)
theorem bR.pI (x:bR P w H h a o) (k:∀b u,(b=a\/H b=some (.own a))->h.get? b=some u->h'.get? b=some u)
  (L:∀b,H b=some (.own a)->H' b=some (.own a)) (N:∀b xs,H b=some (.tup xs)->H' b=some (.tup xs)):bR P w H' h' a o:=by
 induction o with
 |lst xs=>let#[z,its,n,r,e]:=x;show#[z,its,n,r,k _ _ (.inl rfl) e]
 |tup xs=>let#[z,its,r,ob,e,c]:=x;show#[z,its,r,ob,k _ _ (.inl rfl) e,c]
 |dK kvs=>let#[z,y,vs,r,ob,es,ep,e,c]:=x;show#[z,y,vs,r,ob,es,ep,k _ _ (.inl rfl) e,c]
 |dT kvs =>
  let#[z,y,xs,r,ob,es,ep,e,c]:=x;show#[z,y,xs,Paired.Ay r λp q z=>#[z.1,N _ _ z.2.1,z.2.2],ob,es,ep,k _ _ (.inl rfl) e,c]
 |set S n=>let#[ob,es,ep,t,e,c]:=x;show#[ob,es,ep,t,k _ _ (.inl rfl) e,c]
 |ins C dx fs =>
  let#[d,z,J,e,mA,#[od,es,ep,O,c],r]:=x;show#[L _ d,z,J,k _ _ (.inl rfl) e,mA,#[od,es,ep,k _ _ (.inr d) O,c],r]
 |own y=>let#[ob,e]:=x;show#[ob,k _ _ (.inl rfl) e]
 |xd fs=>let#[mA,#[od,es,ep,e,c],r]:=x;show#[mA,#[od,es,ep,k _ _ (.inl rfl) e,c],r]
 |rng lo hi=>let#[t,u,v,e]:=x;show#[t,u,v,k _ _ (.inl rfl) e]
 |cu ob u G=>let#[e,q]:=x;show#[k _ _ (.inl rfl) e,G q]
 |tbl ps =>
  have e:h.get? a=some { cls:=.none,data:=.fields ps }:=x;change h'.get? a=some { cls:=.none,data:=.fields ps };show k a _ (.inl rfl) e
 |met f y =>
  have e:h.get? a=some (PH (.ref f) (.ref y)):=x;change h'.get? a=some (PH (.ref f) (.ref y));show k a _ (.inl rfl) e
 |ext U=>let#[p,#[o,e],st]:=x;show#[st _ _ p λo q=>k _ _ (.inl rfl) q,#[o,k _ _ (.inl rfl) e],st]
theorem iZ.lt (x:iZ P w H h) (e:H a=some o):a<h.objs.size:=(x a o e).lt
theorem iZ.fresh (x:iZ P w H h) (e:h.objs.size<=a):H a=none:=by
 cases q:H a with
 |none=>rfl
 |some u=>show absurd (Kz (x.lt q) e) (LV _)
theorem iZ.kept (x:iZ P w H h) (k:∀b u,h.get? b=some u->h'.get? b=some u):iZ P w H h':=λa o e =>
 (x a o e).pI (λb u _ q=>k b u q) (λ_ q=>q) λ_ _ q=>q
theorem iZ.laid (x:iZ P w H h) (k:∀b u,h.get? b=some u->h'.get? b=some u) (L:h.objs.size<=a) (new:bR P w (upd H a o) h' a o):iZ P w (upd H a o) h':=λb u e=>by
 have J:=x.fresh L;by_cases G:b=a
 .subst G;rw[af]at e;cases e;show new
 .rw[ah G]at e;show(x b u e).pI (λc v _ q=>k c v q) (λc q=>by rw[ah (aq q J)];show q) λc xs q=>by rw[ah (aq q J)];show q
end
noncomputable def Rd (H:Hp) (a:Addr) (u:HO):Prop:=H a=some u\/∃o,H a=some (.cu o u)
theorem Rd.ok {P:J2}{w:Kd}{H:Hp}{h:Heap}{a:Addr}{u:HO}(r:Rd H a u) (x:iZ P w H h):bR P w H h a u:=by
 rcases r with r|⟨o,r⟩
 .show x a u r
 .let#[_,q]:=x a _ r;show q
noncomputable def Gs:Option HO->Prop
 |some (.lst _)=>True
 |some (.dK _)=>True
 |some (.dT _)=>True
 |some (.set _ _)=>True
 |some (.ins _ _ _)=>True
 |some (.ext _)=>True
 |_=>False
section
variable {P:J2}{w:Kd}{H:Hp}{h h':Heap}{x e:Addr}{o':HO}
theorem iZ.write (ok:iZ P w H h) (N:Gs (H x)) (Y:e=x\/H e=some (.own x)) (k:∀b u,b≠e->h.get? b=some u->h'.get? b=some u) (ab:∃u,h'.get? e=some u)
  (new:bR P w (upd H x o') h' x o'):iZ P w (upd H x o') h':=λb u q=>by
 have O:∀c y,H c=some (.own y)->c≠x:=λc y r z=>(by subst z;rw[r]at N;show N);have ac:∀c xs,H c=some (.tup xs)->c≠x:=λc xs r z=>(by subst z;rw[r]at N;show N);by_cases J:b=x
 .subst J;rw[af]at q;cases q;show new
 .rw[ah J]at q;by_cases L:b=e
  .have U:H b=some (.own x):=by
    rcases Y with z|z
    .show absurd (L.trans z) J
    .rw[L];show z
   rw[q]at U;cases U;let#[v,hv]:=ab;show#[v,by rw[L];show hv]
  .show(ok b u q).pI (λc v G r=>k c v ?_ r) (λc r=>by rw[ah (O c b r)];show r) λc xs r=>(by rw[ah (ac c xs r)];show r);rcases G with rfl|G
   .show L
   .rintro rfl;rcases Y with z|z
    .show O c b G z
    .rw[G]at z;cases z;show J rfl
end
structure Un (fs ex:List Addr) (H H':Hp) (h h':Heap):Prop where
 keep:∀b o,h.get? b=some o->H b=none->b∉fs->b∉ex->h'.get? b=some o
 slot:∀b o,h.get? b=some o->H b=none->b∈fs->b∉ex->∃sl,h'.get? b=some { o with slots:=sl }
 free:∀b o,h.get? b=some o->H b=none->b∉ex->H' b=none
 there:∀b o,h.get? b=some o->b∉ex->∃o',h'.get? b=some o'
 pZ:∀b xs,H b=some (.tup xs)->H' b=some (.tup xs)
 nD:∀b o u,H b=some (.cu o u)->H' b=some (.cu o u)
 qe:∀b ps,H b=some (.tbl ps)->∃more,H' b=some (.tbl (ps++more))
section
variable {fs fs' ex ex':List Addr}{H H1 H2:Hp}{h h1 h2 h':Heap}{a x e:Addr}{o:HO}
theorem Un.any (u:Un fs ex H H1 h h1) {b:Addr}{ob:Obj}(q:h.get? b=some ob) (n:H b=none) (J:b∉ex):∃sl,h1.get? b=some { ob with slots:=sl }:=by
 by_cases G:b∈fs
 .show u.slot b ob q n G J
 .show#[ob.slots,u.keep b ob q n G J]
theorem Un.kept (k:∀b u,h.get? b=some u->h'.get? b=some u):Un fs ex H H h h' :=
 #[λb ob q _ _ _=>k b ob q,λb ob q _ _ _=>#[ob.slots,k b ob q],λ_ _ _ n _=>n,λb ob q _=>#[ob,k b ob q],λ_ _ q=>q,λ_ _ _ q=>q,λ_ ps q=>#[([].toArray),by rw[q];simp]]
theorem Un.refl:Un fs ex H H h h:=Un.kept λ_ _ q=>q
theorem Un.laid (k:∀b u,h.get? b=some u->h'.get? b=some u) (J:h.objs.size<=a) (G:H a=none):Un fs ex H (upd H a o) h h' where
 keep:=λb u q _ _ _=>k b u q
 slot:=λb u q _ _ _=>#[u.slots,k b u q]
 free:=λb u q n _=>by rw[ah (Km (Kz (Heap.lt_size q) J))];show n
 there:=λb u q _=>#[u,k b u q]
 pZ:=λb xs q=>by rw[ah (aq q G)];show q
 nD:=λb u xs q=>by rw[ah (aq q G)];show q
 qe:=λb ps q=>#[([].toArray),by rw[ah (aq q G),q];simp]
theorem Un.write (G:Gs (H x)) (U:e=x\/H e=some (.own x)) (k:∀b u,b≠e->h.get? b=some u->h'.get? b=some u) (Y:∃u,h'.get? e=some u):Un fs ex H (upd H x o) h h':=by
 have N:∀b,H b=none->b≠x:=λb n z=>(by subst z;rw[n]at G;show G);have L:∀b,H b=none->b≠e:=λb n z=>by
  subst z;rcases U with r|r
  .show N b n r
  .rw[n]at r;cases r
 have J:∀b u,H b=some u->¬ Gs (some u)->b≠x:=λb u q nm z=>(by subst z;rw[q]at G;show nm G);show#[λb u q n _ _=>k b u (L b n) q,λb u q n _ _=>#[u.slots,k b u (L b n) q],λb u q n _=>by rw[ah (N b n)];show n,λb u q _=>?_,
  λb xs q=>by rw[ah (J b _ q λz=>z)];show q,λb u xs q=>by rw[ah (J b _ q λz=>z)];show q,λb ps q=>#[([].toArray),by rw[ah (J b _ q λz=>z),q];simp]]
 by_cases O:b=e
 .subst O;show Y
 .show#[u,k b u O q]
end
noncomputable def Hr (h:Heap) (H:Hp):List Addr:=(List.range h.objs.size).filter λa=>(H a).isSome
noncomputable def pA (h:Heap) (H:Hp):Heap:=PySem.W.hideAll h (Hr h H)
theorem xf (h:Heap) (H:Hp):(pA h H).objs.size=h.objs.size:=PySem.W.hideAll_size _ _
theorem z7 {h:Heap}{H:Hp}{b:Addr}{o:Obj}(e:h.get? b=some o) (n:H b=none):(pA h H).get? b=some o :=
 PySem.W.hideAll_get _ e λG=>by
  have q:(H b).isSome=true:=(List.mem_filter.mp G).2;rw[n]at q;simp at q
theorem Bc {h:Heap}{H:Hp}{b:Addr}{o:Obj}(e:(pA h H).get? b=some o):h.get? b=some o/\H b=none:=by
 have G:h.get? b=some o:=PySem.W.of_hideAll (Hr h H) e;show#[G,?_];cases q:H b with
 |none=>rfl
 |some x =>
  have J:b∈Hr h H:=List.mem_filter.mpr #[List.mem_range.mpr (Heap.lt_size G),by simp[q]];have z:(pA h H).get? b=none:=PySem.W.hideAll_none (Hr h H) J;rw[z]at e;cases e
structure Mod (K:PySem.W.Frag) (mg:Str->Option Value) (base:Heap):Prop where
 FL:K.In base
 glob:base.Ns KJ mg
 blt:∃mb,base.Ns OZ mb/\∀x:Str,x ≠ "__name__" -> mb x=Kq x
 nolimit:base.NoLimit
structure Cx where
 prog:J2
 w:Kd
 K:PySem.W.Frag
 mg:Str->Option Value
 base:Heap
 A:Kk
 N:List Str
 s₀:BY
 H₀:Hp
 env:P1
 outer:List P1
 stack:List P1
 ex:List Addr
 fn:Str->Bool
 calm:Bool
 pn:List (Addr×Obj)
 xe:Value->BY->Prop
noncomputable def yl (l:List P1):List Addr:=l.filterMap (·.frame)
noncomputable abbrev Cx.fs (X:Cx):List Addr:=yl X.outer
noncomputable def HH (G:Nl) (x:Str):Prop:=G.names.lookup x=some .local\/G.names.lookup x=some .cell\/G.names.lookup x=some .free
noncomputable def Loc (G:Nl) (x:Str):Prop:=G.names.lookup x=some .local\/G.names.lookup x=some .cell
noncomputable def Look (env:P1) (h:Heap) (m:Str->Option Value) (x:Str) (u:Value):Prop :=
 (env.kindOf x=some .local/\m x=some u)\/((env.kindOf x=some .cell\/env.kindOf x=some .free)/\∃c,env.cells.lookup x=some c/\h.IsCell c (some u))
structure Cx.Ok (X:Cx):Prop where
 mod:Mod X.K X.mg X.base
 kind:X.env.scope.kind=.function
 glob:X.env.globals=KJ
 blt:X.env.builtins=OZ
 above:X.s₀.heap.objs.size<=X.env.locals
 inj:∀x y c,X.env.cells.lookup x=some c->X.env.cells.lookup y=some c->x=y
 has:∀x,(X.env.kindOf x=some .cell\/X.env.kindOf x=some .free)->∃c,X.env.cells.lookup x=some c
 E4:∀x c,X.fn x=true->X.env.cells.lookup x=some c->X.s₀.heap.objs.size<=c
 hd:X.calm=true->X.A.handled=none
 frames:X.A.frames=some X.stack
 FW:X.stack=X.outer\/(X.stack=X.env::X.outer/\X.env.frame=some X.env.locals)
 HZ:∀b∈X.ex,b≠X.env.locals/\∀x c,X.env.cells.lookup x=some c->c≠b
 bs:∀b o,X.base.get? b=some o->X.s₀.heap.get? b=some o/\X.H₀ b=none
 AK:X.base.objs.size<=X.s₀.heap.objs.size
 yi:∀b o,X.base.get? b=some o->b∉X.ex
 xw:∀b∈X.ex,b∉X.fs
 jY:X.s₀.heap.FunFrames X.base X.outer
 CL:∀b∈X.fs,X.H₀ b=none
structure Inv (X:Cx) (pins:List (Addr×Obj)) (σ:List (Option V)) (H:Hp) (s:BY):Prop where
 ok:X.Ok
 os:s.os=X.s₀.os
 bare:Nm s.gens
 base:Un X.fs X.ex X.H₀ H X.s₀.heap s.heap
 loc:∃m,s.heap.Ns X.env.locals m/\∀(i:Nat) (x:Str) (v:V),X.N[i]?=some x->σ[i]?=some (some v)->HH X.env.scope x->∃u,RelV v u/\Look X.env s.heap m x u
 cell:∀x c,X.env.cells.lookup x=some c->∃v,s.heap.IsCell c v
 free:H X.env.locals=none
 gO:∀x c,X.env.cells.lookup x=some c->H c=none
 pin:∀p∈X.pn++pins,s.heap.get? p.1=some p.2/\H p.1=none/\p.1≠X.env.locals/\p.1∉X.fs/\∀v,p.2.data≠.cell v
 bG:iZ X.prog X.w H s.heap
 len:σ.length=X.N.length
section
variable {X:Cx}{pins:List (Addr×Obj)}{σ:List (Option V)}{H H':Hp}{s:BY}{h':Heap}
theorem Cx.Ok.HY (ok:X.Ok) {b:Addr}{o:Obj}(e:X.base.get? b=some o):b∉X.fs:=λG=>by
 have:=(ok.jY.mem G).1;rw[e]at this;cases this
theorem Inv.bs (I:Inv X pins σ H s):∀b o,X.base.get? b=some o->s.heap.get? b=some o/\H b=none:=λb o e =>
 #[I.base.keep b o (I.ok.bs b o e).1 (I.ok.bs b o e).2 (I.ok.HY e) (I.ok.yi b o e),I.base.free b o (I.ok.bs b o e).1 (I.ok.bs b o e).2 (I.ok.yi b o e)]
theorem Inv.bk (I:Inv X pins σ H s):∀b o,X.base.get? b=some o->s.heap.get? b=some o:=λb o e=>(I.bs b o e).1
theorem Inv.mod (I:Inv X pins σ H s):Mod X.K X.mg X.base:=I.ok.mod
theorem Inv.kj (I:Inv X pins σ H s):X.K.In s.heap:=I.ok.mod.FL.keeps I.bk
theorem Inv.lt (I:Inv X pins σ H s):X.env.locals<s.heap.objs.size:=let ⟨_,G,_⟩:=I.loc;G.lt
theorem Inv.sz (I:Inv X pins σ H s):X.s₀.heap.objs.size<=s.heap.objs.size:=Ko I.ok.above (Ow I.lt)
theorem Inv.Hk (I:Inv X pins σ H s) {a:Addr}(h:s.heap.objs.size<=a):a∉X.fs:=λG=>by
 let#[_,o,J,_]:=I.ok.jY.mem G;show absurd (Kz (Heap.lt_size J) (Ko I.sz h)) (LV _)
theorem Inv.En (I:Inv X pins σ H s):∀x c,X.env.cells.lookup x=some c->c≠X.env.locals:=λx c e z=>by
 let#[v,o,G,hd]:=I.cell x c e;let#[m,#[o',es,ep,L,J,_],_]:=I.loc;rw[z,L]at G;cases G;rw[J]at hd;cases hd
theorem Inv.jY (I:Inv X pins σ H s):s.heap.FunFrames X.base X.outer:=by
 have all:∀(l:List P1),(∀b∈yl l,b∈X.fs)->X.s₀.heap.FunFrames X.base l->s.heap.FunFrames X.base l:=by
  intro l
  induction l with
  |nil=>intro _ _;trivial
  |cons env r O =>
   intro hs U;let#[hk,#[L,o,J,Y,ho,hd],hr]:=U;have N:L∈X.fs:=hs L (by unfold yl;rw[List.filterMap_cons,J];show Kv);let#[sl,e]:=I.base.slot L o ho (I.ok.CL L N) N λz=>I.ok.xw L z N;show#[hk,#[L,_,J,Y,e,hd],O (λb G=>hs b (by unfold yl;rw[List.filterMap_cons,J];show Kp _ G)) hr]
 show all X.outer (λ_ G=>G) I.ok.jY
theorem Inv.stack (I:Inv X pins σ H s):s.heap.FunFrames X.base X.stack:=by
 rcases I.ok.FW with e|⟨e,J⟩
 .rw[e];show I.jY
 .rw[e];let#[m,G,_]:=I.loc;show .cons (by rw[I.ok.kind];decide) J G ?_ I.jY;show Heap.get?_none_of_le (Ko I.ok.AK I.ok.above)
theorem Inv.qm (I:Inv X pins σ H s):∀b∈yl X.stack,b∈X.env.locals::X.fs:=λb G=>by
 rcases I.ok.FW with e|⟨e,J⟩
 .rw[e]at G;show Kp _ G
 .rw[e]at G;unfold yl at G;rw[List.filterMap_cons,J]at G;show G
theorem Inv.vK (I:Inv X pins σ H s):∀b∈yl X.stack,H b=none:=λb G=>by
 rcases List.mem_cons.mp (I.qm b G)with e|G
 .rw[e];show I.free
 .let#[_,o,J,_]:=I.ok.jY.mem G;show I.base.free b o J (I.ok.CL b G) λz=>I.ok.xw b z G
theorem Inv.step {g':Array Ox}{t':Nat}{d':Drawn}{ch:List Addr}(I:Inv X pins σ H s)
  (U:∀b∈ch,(b∈X.ex\/X.s₀.heap.objs.size<=b)/\b≠X.env.locals/\(∀x c,X.env.cells.lookup x=some c->c≠b)/\∀p∈X.pn++pins,p.1≠b)
  (keep:∀b o,b≠X.env.locals->b∉X.fs->b∉ch->s.heap.get? b=some o->H b=none->h'.get? b=some o)
  (slot:∀b o,b≠X.env.locals->b∈X.fs->b∉ch->s.heap.get? b=some o->H b=none->∃sl,h'.get? b=some { o with slots:=sl }) (free:∀b o,b∉ch->s.heap.get? b=some o->H b=none->H' b=none)
  (there:∀b o,b∉ch->s.heap.get? b=some o->∃o',h'.get? b=some o')
  (pZ:∀b xs,H b=some (.tup xs)->H' b=some (.tup xs)) (nD:∀b o u,H b=some (.cu o u)->H' b=some (.cu o u)) (qe:∀b ps,H b=some (.tbl ps)->∃as,H' b=some (.tbl (ps++as)))
  (ns:∀m,s.heap.Ns X.env.locals m->h'.Ns X.env.locals m) (bG:iZ X.prog X.w H' h') (hg:Nm g') :
  Inv X pins σ H' { s with heap:=h',gens:=g',drawn:=d',toks:=t' }:=by
 have am:∀b o,X.s₀.heap.get? b=some o->b≠X.env.locals:=λb o e=>Km (Kz (Heap.lt_size e) I.ok.above);have ab:∀b o,X.s₀.heap.get? b=some o->b∉X.ex->b∉ch:=λb o e G L=>by
  rcases(U b L).1 with z|z
  .show G z
  .show absurd (Kz (Heap.lt_size e) z) (LV _)
 have ac:∀x c,X.env.cells.lookup x=some c->∀v,s.heap.IsCell c v->h'.IsCell c v:=λx c e v ap=>by
  let#[o,N,hd]:=ap;have O:c∉ch:=λz=>(U c z).2.2.1 x c e rfl;by_cases hc:c∈X.fs
  .let#[sl,q]:=slot c o (I.En x c e) hc O N (I.gO x c e);show#[_,q,hd]
  .show#[o,keep c o (I.En x c e) hc O N (I.gO x c e),hd]
 show#[I.ok,I.os,hg,#[λb o e n L G=>?_,λb o e n L G=>?_,λb o e n G=>?_,λb o e G=>?_,λb xs e=>pZ b xs (I.base.pZ b xs e),λb o xs e=>nD b o xs (I.base.nD b o xs e),λb ps e=>?_],?_,λx c e=>?_,?_,λx c e=>?_,λp hp=>?_,bG,I.len]
 .show keep b o (am b o e) L (ab b o e G) (I.base.keep b o e n L G) (I.base.free b o e n G)
 .let#[sl,J]:=I.base.slot b o e n L G;let#[aB,Y]:=slot b _ (am b o e) L (ab b o e G) J (I.base.free b o e n G);show#[aB,Y]
 .let#[o',J]:=I.base.there b o e G;show free b o' (ab b o e G) J (I.base.free b o e n G)
 .let#[o',J]:=I.base.there b o e G;show there b o' (ab b o e G) J
 .let#[m1,J]:=I.base.qe b ps e;let#[m2,Y]:=qe b _ J;show#[m1++m2,by rw[Y,Array.append_assoc]]
 .let#[m,hn,hl]:=I.loc;show#[m,ns m hn,λi x v J Y e3=>?_];let#[u,r,l]:=hl i x v J Y e3;show#[u,r,?_];rcases l with l|⟨k,c,e,z⟩
  .show .inl l
  .show .inr #[k,c,e,ac x c e _ z]
 .let#[v,z]:=I.cell x c e;show#[v,ac x c e v z]
 .let#[m,#[o,_,_,N,_],_]:=I.loc;show free _ o (λz=>(U _ z).2.1 rfl) N I.free
 .let#[v,o,N,hd]:=I.cell x c e;show free c o (λz=>(U c z).2.2.1 x c e rfl) N (I.gO x c e)
 .let#[e,n,ne,nf,d]:=I.pin p hp;have O:p.1∉ch:=λz=>(U p.1 z).2.2.2 p hp rfl;show#[keep p.1 p.2 ne nf O e n,free p.1 p.2 O e n,ne,nf,d]
theorem Inv.un {t':Nat}(I:Inv X pins σ H s) (u:Un X.fs [] H H' s.heap h') (Y:iZ X.prog X.w H' h'):Inv X pins σ H' { s with heap:=h',toks:=t' }:=by
 let#[m,#[o,es,ep,L,r],_]:=id I.loc;let#[sl,U]:=u.any L I.free (by simp);show I.step (g':=s.gens) (d':=s.drawn) (ch:=[]) (λ_ z=>nomatch z) (λb o _ G _ e n=>u.keep b o e n G (by simp)) (λb o _ G _ e n=>u.slot b o e n G (by simp)) (λb o _ e n=>u.free b o e n (by simp)) (λb o _ e=>u.there b o e (by simp)) u.pZ u.nD u.qe (λm' hm=>by
  let#[o',O,N,J,r']:=hm;rw[L]at J;cases J;show#[_,O,N,U,r']) Y I.bare
theorem Inv.call {g':Array Ox}{t':Nat}{d':Drawn}{ch:List Addr}(I:Inv X pins σ H s) (u:Un (yl X.stack) ch H H' s.heap h') (bG:iZ X.prog X.w H' h') (U:Nm g')
  (L:∀b∈ch,(b∈X.ex\/X.s₀.heap.objs.size<=b)/\b≠X.env.locals/\(∀x c,X.env.cells.lookup x=some c->c≠b)/\∀p∈X.pn++pins,p.1≠b) :
  Inv X pins σ H' { s with heap:=h',gens:=g',drawn:=d',toks:=t' }:=by
 let#[m,#[o,es,ep,N,r],_]:=id I.loc;let#[sl,J]:=u.any N I.free λz=>(L _ z).2.1 rfl;show I.step (ch:=ch) L (λb o J hb G e n=>u.keep b o e n (λz=>(List.mem_cons.mp (I.qm b z)).elim J hb) G) (λb o _ _ G e n=>u.any e n G) (λb o G e n=>u.free b o e n G) (λb o G e=>u.there b o e G) u.pZ u.nD u.qe (λm' hm=>by
  let#[o',Y,ab,O,r']:=hm;rw[N]at O;cases O;show#[_,Y,ab,J,r']) bG U
theorem Inv.turned {t':Nat}{G:Addr}(I:Inv X pins σ H s) (k:∀b o,b≠G->s.heap.get? b=some o->h'.get? b=some o) (U:H G=none) (N:G≠X.env.locals)
  (h1:G∈X.ex\/X.s₀.heap.objs.size<=G) (h2:∀x c,X.env.cells.lookup x=some c->c≠G) (h3:∀p∈X.pn++pins,p.1≠G):Inv X pins σ H { s with heap:=h',toks:=t' }:=by
 have L:∀b u,H b=some u->b≠G:=λb u e z=>(by rw[z,U]at e;cases e);show I.step (g':=s.gens) (d':=s.drawn) (ch:=[G]) (λb O=>?_) (λb o _ _ J e _=>k b o (λz=>J (by simp[z])) e) (λb o _ _ J e _=>#[o.slots,k b o (λz=>J (by simp[z])) e]) (λ_ _ _ _ n=>n)
  (λb o J e=>#[o,k b o (λz=>J (by simp[z])) e]) (λ_ _ e=>e) (λ_ _ _ e=>e) (λb ps e=>#[([].toArray),by rw[e];simp]) (λm Y=>?_) (λb u e=>?_) I.bare
 .have e:b=G:=(by simpa using O);subst e;show#[h1,N,h2,h3]
 .let#[o,es,ep,ho,r]:=Y;show#[o,es,ep,k _ o (JZ N) ho,r]
 .show(I.bG b u e).pI (λc v J q=>k c v ?_ q) (λ_ q=>q) λ_ _ q=>q;rcases J with z|z
  .rw[z];show L b u e
  .show L c _ z
theorem Inv.tok (I:Inv X pins σ H s) (t:Nat):Inv X pins σ H { s with toks:=t }:=I.un (h':=s.heap) (t':=t) Un.refl I.bG
theorem Inv.kept {t':Nat}(I:Inv X pins σ H s) (k:∀b u,s.heap.get? b=some u->h'.get? b=some u):Inv X pins σ H { s with heap:=h',toks:=t' }:=I.un (Un.kept k) (I.bG.kept k)
theorem Inv.laid {a:Addr}{o:HO}{t':Nat}(I:Inv X pins σ H s) (k:∀b u,s.heap.get? b=some u->h'.get? b=some u) (G:s.heap.objs.size<=a) (new:bR X.prog X.w (upd H a o) h' a o) :
  Inv X pins σ (upd H a o) { s with heap:=h',toks:=t' }:=I.un (Un.laid k G (I.bG.fresh G)) (I.bG.laid k G new)
theorem Inv.write {x e:Addr}{o:HO}{t':Nat}(I:Inv X pins σ H s) (L:Gs (H x)) (J:e=x\/H e=some (.own x)) (k:∀b u,b≠e->s.heap.get? b=some u->h'.get? b=some u) (G:∃u,h'.get? e=some u)
  (new:bR X.prog X.w (upd H x o) h' x o):Inv X pins σ (upd H x o) { s with heap:=h',toks:=t' }:=I.un (Un.write L J k G) (I.bG.write L J k G new)
theorem Inv.lh {G:List (Addr×Obj)}(I:Inv X pins σ H s) (h:∀p∈G,s.heap.get? p.1=some p.2/\H p.1=none/\p.1≠X.env.locals/\p.1∉X.fs/\∀v,p.2.data≠.cell v):Inv X G σ H s :=
 #[I.ok,I.os,I.bare,I.base,I.loc,I.cell,I.free,I.gO,λp J=>(List.mem_append.mp J).elim (λz=>I.pin p (K9 _ z)) (h p),I.bG,I.len]
theorem rj {N:List Str}(L:N.Nodup) {i j:Nat}{x:Str}(a:N[i]?=some x) (b:N[j]?=some x):i=j:=by
 let#[h1,J]:=List.getElem?_eq_some_iff.mp a;let#[h2,G]:=List.getElem?_eq_some_iff.mp b;show(List.getElem_inj L).mp (J.trans G.symm)
theorem oH {M:Model}{A:Kk}{E:Value->BY->Prop}{i:Nat}{x:Str}{v:V}{u:Value}{Q:Unit->BY->Prop}(I:Inv X pins σ H s) (hN:X.N.Nodup) (hi:X.N[i]?=some x) (L:Loc X.env.scope x) (r:RelV v u)
  (h:∀s',Inv X pins (σ.set i (some v)) H s'->(∃a,Heap.SameBut a s.heap s'.heap/\(a=X.env.locals\/X.env.cells.lookup x=some a))->Q () s') (hf:X.fn x=true\/X.env.scope.names.lookup x=some .local:=by first|show .inl rfl|show .inr rfl|assumption):wpAny M A (storeName X.env x u) Q E s:=by
 let#[m,hn,hl]:=id I.loc;have a0:(X.env.scope.kind == .class||(X.env.scope.kind == .module&&X.env.locals != X.env.globals))=false:=(by rw[I.ok.kind];rfl);have am:i<σ.length:=(by rw[I.len];show(List.getElem?_eq_some_iff.mp hi).1);have En:=I.En;have aT:∀{a:Addr}{h':Heap},(∃o,s.heap.get? a=some o/\H a=none)->Heap.SameBut a s.heap h'->iZ X.prog X.w H h':=λ{a h'} ha hs b ob e=>by
  let#[_,_,as]:=ha;show(I.bG b ob e).pI (λc w' J q=>(hs.2 c ?_).trans q) (λ_ q=>q) λ_ _ q=>q;rintro rfl;rcases J with rfl|J
  .rw[as]at e;cases e
  .rw[as]at J;cases J
 rcases L with U|U
 .show wpAny_storeName_local U hn (λh' a1 hs=>?_) a0;let#[oL,_,_,a2,_]:=id hn;show h _ #[I.ok,I.os,I.bare,#[λb o e n Y L=>?_,λb o e n Y L=>?_,I.base.free,λb o e L=>?_,I.base.pZ,I.base.nD,I.base.qe],#[_,a1,λj y v' G O e3=>?_],λy c e=>?_,I.free,I.gO,λp hp=>?_,aT #[oL,a2,I.free] hs,by simpa using I.len] #[_,hs,.inl rfl]
  .show(hs.2 b (Km (Kz (Heap.lt_size e) I.ok.above))).trans (I.base.keep b o e n Y L)
  .let#[sl,G]:=I.base.slot b o e n Y L;show#[sl,(hs.2 b (Km (Kz (Heap.lt_size e) I.ok.above))).trans G]
  .let#[o',G]:=I.base.there b o e L;show#[o',(hs.2 b (Km (Kz (Heap.lt_size e) I.ok.above))).trans G]
  .by_cases hj:j=i
   .subst hj;rw[hi]at G;cases G;rw[KH am]at O;cases O;show#[u,r,.inl #[U,by simp]]
   .rw[Kx (JZ hj)]at O;let#[u',r',q]:=hl j y v' G O e3;show#[u',r',?_];rcases q with⟨k,e⟩|⟨k,c,e,z⟩
    .show .inl #[k,?_];have:y≠x:=λe=>hj (rj hN G (e▸hi));simp[this,e]
    .show .inr #[k,c,e,z.sameBut hs (En y c e)]
  .let#[w',z]:=I.cell y c e;show#[w',z.sameBut hs (En y c e)]
  .let#[e,n,ne,nf,d]:=I.pin p hp;show#[(hs.2 p.1 ne).trans e,n,ne,nf,d]
 .have ab:X.fn x=true:=by
   rcases hf with z|z
   .show z
   .rw[z]at U;cases U
  let#[c,J]:=I.ok.has x (.inl U);let#[w',z]:=I.cell x c J;show wpAny_storeName_cell I.ok.kind U J z (λh' ac hs=>?_);let#[oc,aB,a3]:=id z;show h { s with heap:=h' } #[I.ok,I.os,I.bare,#[λb o e n Y L=>?_,λb o e n Y L=>?_,I.base.free,λb o e L=>?_,I.base.pZ,I.base.nD,I.base.qe],#[m,hn.sameBut hs (JZ (En x c J)),λj y v' G O e3=>?_],λy c' e=>?_,I.free,I.gO,λp hp=>?_,aT #[oc,aB,I.gO x c J] hs,by simpa using I.len] #[c,hs,.inr J]
  .show(hs.2 b (Km (Kz (Heap.lt_size e) (I.ok.E4 x c ab J)))).trans (I.base.keep b o e n Y L)
  .let#[sl,G]:=I.base.slot b o e n Y L;show#[sl,(hs.2 b (Km (Kz (Heap.lt_size e) (I.ok.E4 x c ab J)))).trans G]
  .let#[o',G]:=I.base.there b o e L;show#[o',(hs.2 b (Km (Kz (Heap.lt_size e) (I.ok.E4 x c ab J)))).trans G]
  .by_cases hj:j=i
   .subst hj;rw[hi]at G;cases G;rw[KH am]at O;cases O;show#[u,r,.inr #[.inl U,c,J,ac]]
   .rw[Kx (JZ hj)]at O;let#[u',r',q]:=hl j y v' G O e3;show#[u',r',?_];rcases q with q|⟨k,c',e,z'⟩
    .show .inl q
    .show .inr #[k,c',e,z'.sameBut hs ?_];rintro rfl;show hj (rj hN G (I.ok.inj _ _ _ e J▸hi))
  .by_cases ap:c'=c
   .subst ap;show#[_,ac]
   .let#[w2,z2]:=I.cell y c' e;show#[w2,z2.sameBut hs ap]
  .let#[e,n,ne,nf,d]:=I.pin p hp;show#[(hs.2 p.1 ?_).trans e,n,ne,nf,d];intro q;rw[q,aB]at e;have q':oc=p.2:=Option.some.inj e;show d w' (by rw[<-q'];show a3)
theorem ir {M:Model}{A:Kk}{E:Value->BY->Prop}{i:Nat}{x:Str}{v:V}{u:Value}{Q:Unit->BY->Prop}(I:Inv X pins σ H s) (O:X.N.Nodup) (hi:X.N[i]?=some x) (L:Loc X.env.scope x) (r:RelV v u)
  (h:∀s',Inv X pins (σ.set i (some v)) H s'->Q () s') (G:X.fn x=true\/X.env.scope.names.lookup x=some .local:=by first|show .inl rfl|show .inr rfl|assumption):wpAny M A (storeName X.env x u) Q E s :=
 oH I O hi L r (λs' J _=>h s' J) G
theorem Inv.Fv {s':BY}{ch:List Addr}(I:Inv X pins σ H s) (N:s'.os=s.os) (u:Un (yl X.stack) ch H H' s.heap s'.heap) (J:iZ X.prog X.w H' s'.heap) (G:Nm s'.gens)
  (L:∀b∈ch,(b∈X.ex\/X.s₀.heap.objs.size<=b)/\b≠X.env.locals/\(∀x c,X.env.cells.lookup x=some c->c≠b)/\∀p∈X.pn++pins,p.1≠b):Inv X pins σ H' s':=by
 let#[h',g',d',t',o']:=s';have e:o'=s.os:=N;subst e;show I.call (g':=g') (t':=t') (d':=d') u J G L
end
noncomputable abbrev XK:=Value->Option Addr->Hp->Prop
noncomputable abbrev St:=List (Option V)
noncomputable abbrev VK:=V->Hp->Prop
noncomputable abbrev TE:=St->Hp->VK->Prop
noncomputable abbrev TT:=St->Hp->(Bool->Hp->Prop)->Prop
noncomputable abbrev TA:=St->Hp->(List V->Hp->Prop)->Prop
structure Ends where
 nx:St->Hp->Prop
 rt:VK
 bk:St->Hp->Prop:=λ_ _=>False
 ct:St->Hp->Prop:=λ_ _=>False
noncomputable abbrev TS:=Ends->St->Hp->Prop
noncomputable def EP (X:Cx) (pins:List (Addr×Obj)) (σ:St) (Q:VK) (u:Value) (s':BY):Prop:=∃v H',Inv X pins σ H' s'/\RelV v u/\Q v H'
noncomputable def TP (X:Cx) (pins:List (Addr×Obj)) (σ:St) (Q:Bool->Hp->Prop) (b:Bool) (s':BY):Prop:=∃H',Inv X pins σ H' s'/\Q b H'
noncomputable def AP (X:Cx) (pins:List (Addr×Obj)) (σ:St) (Q:List V->Hp->Prop) (us:List Value) (s':BY):Prop:=∃vs H',Inv X pins σ H' s'/\Vals vs us/\Q vs H'
noncomputable def SP (X:Cx) (pins:List (Addr×Obj)) (D:Ends) (f:Flow) (s':BY):Prop :=
 match f with
 |.next=>∃G H',Inv X pins G H' s'/\D.nx G H'
 |.brk=>∃G H',Inv X pins G H' s'/\D.bk G H'
 |.cont=>∃G H',Inv X pins G H' s'/\D.ct G H'
 |.ret u=>∃v G H',Inv X pins G H' s'/\RelV v u/\D.rt v H'
noncomputable def PE (X:Cx) (e:Kt) (t:TE):Prop :=
 ∀(pins:List (Addr×Obj)) (s:BY) (σ:St) (H:Hp) (Q:VK),Inv X pins σ H s->t σ H Q->wpAny (model X.prog X.w) X.A (eval e X.env) (EP X pins σ Q) X.xe s
noncomputable def PT (X:Cx) (e:Kt) (t:TT):Prop :=
 ∀(pins:List (Addr×Obj)) (s:BY) (σ:St) (H:Hp) (Q:Bool->Hp->Prop),Inv X pins σ H s->t σ H Q->wpAny (model X.prog X.w) X.A (isTrue e X.env (eval e X.env)) (TP X pins σ Q) X.xe s
noncomputable def PW (X:Cx) (e:Kt) (t:TT):Prop :=
 ∀(G:Pz Value) (pins:List (Addr×Obj)) (s:BY) (σ:St) (H:Hp) (Q:Bool->Hp->Prop),Inv X pins σ H s->t σ H Q->wpAny (model X.prog X.w) X.A (isTrue e X.env G) (TP X pins σ Q) X.xe s
theorem PW.pt {X:Cx}{e:Kt}{t:TT}(h:PW X e t):PT X e t:=h _
noncomputable def PA (X:Cx) (es:List Kt) (t:TA):Prop :=
 ∀(pos:Mj) (pins:List (Addr×Obj)) (s:BY) (σ:St) (H:Hp) (Q:List V->Hp->Prop),Inv X pins σ H s->t σ H Q->wpAny (model X.prog X.w) X.A (spliced (backTo pos (starEach es X.env))) (AP X pins σ Q) X.xe s
noncomputable def PS (X:Cx) (st:Ky) (t:TS):Prop :=
 ∀(pins:List (Addr×Obj)) (s:BY) (σ:St) (H:Hp) (D:Ends),Inv X pins σ H s->t D σ H->wpAny (model X.prog X.w) X.A (exec st X.env) (SP X pins D) X.xe s
noncomputable def wR (X:Cx) (st:List Ky) (t:TS):Prop :=
 ∀(pins:List (Addr×Obj)) (s:BY) (σ:St) (H:Hp) (D:Ends),Inv X pins σ H s->t D σ H->wpAny (model X.prog X.w) X.A (execs st X.env) (SP X pins D) X.xe s
theorem bV {α:Type}{t:Pz α}{Q G:α->BY->Prop}{M:Model}{A:Kk}{E:Value->BY->Prop}{s:BY}(h:wpAny M A t Q E s) (J:∀a s,Q a s->G a s):wpAny M A t G E s:=LU h J λ_ _ x=>x
section
variable {X:Cx}
inductive Cq (i:Nat) (σ:St) (H:Hp) (Q:VK):Prop
 |mk (v:_) (_:σ[i]?=some (some v)) (_:Q v H):Cq i σ H Q
noncomputable def tC (v:V):TE:=λ_ H Q=>Q v H
theorem DT {i:Nat}{x:Str}{pos:Mj}(hN:X.N[i]?=some x) (hv:HH X.env.scope x) (hd:(x==("__debug__" : Str))=false:=by decide) (ab:(x==("__classdict__" : Str))=false:=by decide):PE X (.Name x pos) (Cq i):=by
 intro pins s σ H Q I h;let#[v,e,h]:=h;let#[m,Y,U]:=I.loc;let#[u,r,l]:=U i x v hN e hv;have J:EP X pins σ Q u s:=#[v,H,I,r,h];rcases l with⟨G,hm⟩|⟨G,c,L,O⟩
 .show O0 (wpAny_loadName_local I.ok.kind G Y hm J) hd
 .rcases G with G|G
  .show O0 (wpAny_loadName_cell I.ok.kind G L O J) hd
  .show O0 (wpAny_loadName_free I.ok.kind G L O J ab) hd
theorem ak {i j pos}:PE X (.Constant (.int i) j pos) (tC (.int i)):=λ_ _ _ H _ I h=>wpAny_Constant_int #[.int i,H,I.tok _,#[0],h]
theorem kR {b j pos}:PE X (.Constant (.bool b) j pos) (tC (.bl b)):=λ_ _ _ H _ I h=>Constant_bool #[.bl b,H,I,rfl,h]
theorem vD {j pos}:PE X (.Constant .none j pos) (tC .non):=λ_ _ _ H _ I h=>Constant_none #[.non,H,I,rfl,h]
theorem aI {x j pos}:PE X (.Constant (.str x) j pos) (tC (.str x)):=λ_ _ _ H _ I h=>Calls.Constant_str #[.str x,H,I.tok _,#[0],h]
noncomputable def Gl (X:Cx) (x:Str):Prop:=X.env.kindOf x=some .globalImplicit
theorem lD {E:Value->BY->Prop}{pins:List (Addr×Obj)}{s:BY}{σ:St}{H:Hp}{x:Str}{u:Value}{pos:Mj}{Q:Value->BY->Prop}(I:Inv X pins σ H s) (G:Gl X x) (J:X.mg x=some u) (h:Q u s)
  (hd:(x==("__debug__" : Str))=false:=by decide):wpAny (model X.prog X.w) X.A (eval (.Name x pos) X.env) Q E s :=
 Calls.Name_function_global I.ok.kind G (Calls.loadGlobal_global (by rw[I.ok.glob];show I.mod.glob.keeps I.bk) J h) hd
theorem iq {E:Value->BY->Prop}{pins:List (Addr×Obj)}{s:BY}{σ:St}{H:Hp}{x:Str}{u:Value}{pos:Mj}{Q:Value->BY->Prop}(I:Inv X pins σ H s) (G:Gl X x) (N:X.mg x=none) (L:Kq x=some u) (h:Q u s)
  (J:x ≠ "__name__" := by decide) (hd:(x==("__debug__" : Str))=false:=by decide):wpAny (model X.prog X.w) X.A (eval (.Name x pos) X.env) Q E s:=by
 let#[O,h1,h2]:=I.mod.blt;show Calls.Name_function_global I.ok.kind G (Calls.loadGlobal_builtin (by rw[I.ok.glob];show I.mod.glob.keeps I.bk) N (by rw[I.ok.blt];show h1.keeps I.bk) ((h2 x J).trans L) h) hd
theorem cA {x:Str}{v:V}{u:Value}{pos:Mj}(G:Gl X x) (J:X.mg x=some u) (r:RelV v u) (hd:(x==("__debug__" : Str))=false:=by decide):PE X (.Name x pos) (tC v):=
 λ_ _ _ H _ I h=>lD I G J #[v,H,I,r,h] hd
theorem eS {x:Str}{v:V}{u:Value}{pos:Mj}(G:Gl X x) (N:X.mg x=none) (L:Kq x=some u) (r:RelV v u) (J:x ≠ "__name__" := by decide) (hd:(x==("__debug__" : Str))=false:=by decide):PE X (.Name x pos) (tC v):=
 λ_ _ _ H _ I h=>iq I G N L #[v,H,I,r,h] J hd
variable {a b:Kt}{ta tb:TE}{pos:Mj}
noncomputable def PC (X:Cx) (G:P6) (a b:Kt) (t:TE):Prop :=
 ∀(pins:List (Addr×Obj)) (s:BY) (σ:St) (H:Hp) (Q:VK),Inv X pins σ H s->t σ H Q ->
  wpAny (model X.prog X.w) X.A (eval a X.env) (λv L=>wpAny (model X.prog X.w) X.A (eval b X.env) (λu J=>wpAny (model X.prog X.w) X.A (Lo G v u) (EP X pins σ Q) X.xe J) X.xe L) X.xe s
inductive JB (t:TE) (Q:Bool->Hp->Prop) (x:V) (H1:Hp):Prop
 |mk (c:_) (_:x=.bl c) (_:Q c H1):JB t Q x H1
noncomputable def tB (t:TE):TT:=λσ H Q=>t σ H λx H1=>JB t Q x H1
theorem vd {G:P6}{t:TE}(h:PC X G a b t) (h1:L1 G b=false:=by first|show nobehind _ ar ar|rfl):PE X (.Compare a [G] [b] pos) t:=λpins s σ H Q I J=>wpAny_Compare1 (h pins s σ H Q I J) h1
theorem ij {G:P6}{t:TE}(h:PC X G a b t) (h1:L1 G b=false:=by first|show nobehind _ ar ar|rfl):PT X (.Compare a [G] [b] pos) (tB t):=by
 intro pins s σ H Q I U;show NT (bV (h pins s σ H _ I U) λv Y h1=>bV h1 λu s2 h2=>bV h2 λc s3 L=>?_) h1;let#[x,H1,N,J,O]:=L;let#[d,rfl,q]:=O;cases J;show Lf #[H1,N,q]
theorem eM {e:Kt}{t:TE}(h:PE X e t) (L:∀G,isTrue e X.env G=(do let v <-G;Oy e.pos;MQ [v] (truthy v)):=by intro _;rfl):PT X e (tB t):=by
 intro pins s σ H Q I Y;show isTrue_plain (bV (h pins s σ H _ I Y) λv s1 U=>?_) (L _);let#[x,H1,N,J,O]:=U;let#[d,rfl,q]:=O;cases J;show Lf #[H1,N,q]
variable {tA tB':TT}{rest:List Kt}
noncomputable def Ir (t u:TT):TT:=λσ H Q=>t σ H λc H1=>if c=true then u σ H1 Q else Q false H1
noncomputable def JH (t u:TT):TT:=λσ H Q=>t σ H λc H1=>if c=true then Q true H1 else u σ H1 Q
noncomputable def Jf (t:TT):TT:=λσ H Q=>t σ H λc H1=>Q (!c) H1
theorem jP (G:PT X a tA):PW X (.BoolOp .And [a] pos) tA:=by
 intro J pins s σ H Q I h;show isTrue_and (bV (G pins s σ H Q I h) λc L e=>?_);cases c with
 |true=>show isTrue_and_nil e
 |false=>show e
theorem gW (G:PT X a tA):PW X (.BoolOp .Or [a] pos) tA:=by
 intro J pins s σ H Q I h;show isTrue_or (bV (G pins s σ H Q I h) λc L e=>?_);cases c with
 |false=>show isTrue_or_nil e
 |true=>show e
theorem mK (U:PT X a tA) (L:PW X (.BoolOp .And (b::rest) pos) tB'):PW X (.BoolOp .And (a::b::rest) pos) (Ir tA tB'):=by
 intro O pins s σ H Q I h;show isTrue_and (bV (U pins s σ H _ I h) λc Y N=>?_);let#[H1,G,J]:=N;cases c with
 |true=>show L O pins Y σ H1 Q G J
 |false=>show#[H1,G,J]
theorem iK (U:PT X a tA) (L:PW X (.BoolOp .Or (b::rest) pos) tB'):PW X (.BoolOp .Or (a::b::rest) pos) (JH tA tB'):=by
 intro N pins s σ H Q I h;show isTrue_or (bV (U pins s σ H _ I h) λc Y O=>?_);let#[H1,G,J]:=O;cases c with
 |true=>show#[H1,G,J]
 |false=>show L N pins Y σ H1 Q G J
theorem lU (G:PT X a tA):PT X (.UnaryOp .Not a pos) (Jf tA):=by
 intro pins s σ H Q I h;show isTrue_not (G pins s σ H (λc H1=>Q (!c) H1) I h)
inductive yp (ta tb:TE) (σ:St) (Q:VK) (x:V) (H1:Hp):Prop
 |mk (c:_) (_:x=.bl c) (_:if c=true then tb σ H1 Q else Q (.bl false) H1):yp ta tb σ Q x H1
noncomputable def FO (ta tb:TE):TE:=λσ H Q=>ta σ H λx H1=>yp ta tb σ Q x H1
inductive CV (ta tb:TE) (σ:St) (Q:VK) (x:V) (H1:Hp):Prop
 |mk (c:_) (_:x=.bl c) (_:if c=true then Q (.bl true) H1 else tb σ H1 Q):CV ta tb σ Q x H1
noncomputable def Ja (ta tb:TE):TE:=λσ H Q=>ta σ H λx H1=>CV ta tb σ Q x H1
inductive Ao (ta:TE) (Q:VK) (x:V) (H1:Hp):Prop
 |mk (c:_) (_:x=.bl c) (_:Q (.bl (!c)) H1):Ao ta Q x H1
noncomputable def Fw (ta:TE):TE:=λσ H Q=>ta σ H λx H1=>Ao ta Q x H1
theorem y0 {op} {t:TE}(h:PE X a t):PE X (.BoolOp op [a] pos) t:=λpins s σ H Q I G=>BoolOp_one (h pins s σ H Q I G)
theorem Dk (O:PE X a ta) (N:PE X (.BoolOp .And (b::rest) pos) tb):PE X (.BoolOp .And (a::b::rest) pos) (FO ta tb):=by
 intro pins s σ H Q I h;show BoolOp_and (bV (O pins s σ H _ I h) λv U Y=>?_);let#[x,H1,J,L,G]:=Y;let#[c,rfl,G]:=G;cases L;show Lf ?_;cases c with
 |true=>show N pins U σ H1 Q J G
 |false=>show#[.bl false,H1,J,rfl,G]
theorem Hc (U:PE X a ta) (N:PE X (.BoolOp .Or (b::rest) pos) tb):PE X (.BoolOp .Or (a::b::rest) pos) (Ja ta tb):=by
 intro pins s σ H Q I h;show BoolOp_or (bV (U pins s σ H _ I h) λv Y O=>?_);let#[x,H1,J,L,G]:=O;let#[c,rfl,G]:=G;cases L;show Lf ?_;cases c with
 |false=>show N pins Y σ H1 Q J G
 |true=>show#[.bl true,H1,J,rfl,G]
theorem Es (N:PE X a ta):PE X (.UnaryOp .Not a pos) (Fw ta):=by
 intro pins s σ H Q I h;show UnaryOp_ (bV (N pins s σ H _ I h) λv U L=>?_);let#[x,H1,O,J,G]:=L;let#[c,rfl,G]:=G;cases J;show not_of (Lf #[.bl (!c),H1,O,rfl,G])
end
noncomputable def bB (K:PySem.W.Frag) (H:Hp) (a:Addr) (xs:List V):Prop :=
 Rd H a (.lst xs) \/
  ∃(o:Obj) (its:Array Value) (n:Nat),K.lookup a=some o/\o.cls=.type "list" /\ o.dict=none/\o.data=.seq its n/\its.size<=sizeLine/\Vals xs its.toList
noncomputable def cg (K:PySem.W.Frag) (H:Hp) (a:Addr) (xs:List V):Prop :=
 Rd H a (.tup xs) \/
  ∃(o:Obj) (its:Array Value) (n:Nat),K.lookup a=some o/\o.cls=.type "tuple" /\ o.data=.seq its n/\its.size<=sizeLine/\Vals xs its.toList
noncomputable def HU:Value->Option V
 |.none=>some .non
 |.bool b=>some (.bl b)
 |.int i _=>some (.int i)
 |.str x _=>some (.str x)
 |.bytes b _=>some (.byt b)
 |.float b _=>some (.flt b)
 |.ref a=>some (.ref a)
 |.type n=>some (.ty n)
 |_=>none
theorem RelV.abs {x:V}{u:Value}(r:RelV x u):HU u=some x:=by
 cases x with
 |non=>cases r;rfl
 |bl _=>cases r;rfl
 |int _=>let#[t,rfl]:=r;rfl
 |str _=>let#[t,rfl]:=r;rfl
 |byt _=>let#[t,rfl]:=r;rfl
 |flt _=>let#[t,rfl]:=r;rfl
 |ref _=>cases r;rfl
 |ty _=>cases r;rfl
theorem RelV.inj {x y:V}{u:Value}(r:RelV x u) (q:RelV y u):x=y:=Option.some.inj (r.abs.symm.trans q.abs)
theorem Vals.inj:∀{xs ys:List V}{us:List Value},Vals xs us->Vals ys us->xs=ys
 |_,_,_,.nil,.nil=>rfl
 |_,_,_,.cons r t,.cons G t'=>by rw[r.inj G,Vals.inj t t']
section
variable {X:Cx}{pins:List (Addr×Obj)}{σ:St}{H:Hp}{s:BY}{a:Addr}{xs ys:List V}
theorem bB.of {K:PySem.W.Frag}(h:H a=some (.lst xs)):bB K H a xs:=.inl (.inl h)
theorem cg.of {K:PySem.W.Frag}(h:H a=some (.tup xs)):cg K H a xs:=.inl (.inl h)
theorem Inv.list (I:Inv X pins σ H s) (h:bB X.K H a xs):∃its:List Value,Vals xs its/\PlainL s.heap a its.toArray/\xs.length<=sizeLine:=by
 rcases h with h|⟨o,its,n,G,J,hd,hs,L,r⟩
 .let#[z,its,n,r,e]:=h.ok I.bG;show#[its,r,#[_,n,e,1,rfl],z]
 .show#[its.toList,r,#[o,n,I.kj a o G,J,hd,by simpa using hs],?_];have e:=r.length;simp only[Ld]at e;omega
theorem Inv.tuple (I:Inv X pins σ H s) (h:cg X.K H a xs):∃its:List Value,Vals xs its/\IsTup s.heap a its.toArray/\xs.length<=sizeLine:=by
 rcases h with h|⟨o,its,n,G,J,hs,L,r⟩
 .let#[z,its,r,p]:=h.ok I.bG;show#[its,r,p,z]
 .show#[its.toList,r,#[o,I.kj a o G,J,n,by simpa using hs],?_];have e:=r.length;simp only[Ld]at e;omega
theorem Inv.jg (I:Inv X pins σ H s) (h:bB X.K H a xs) (h':bB X.K H a ys):xs=ys:=by
 let#[its,r,#[o,n,e,_,_,d],_]:=I.list h;let#[its',J,#[o',N,G,_,_,d'],_]:=I.list h';rw[e]at G;cases G;rw[d]at d';injection d' with L _;have:its=its':=(by simpa using congrArg toList L);subst this;show r.inj J
theorem Inv.xk (I:Inv X pins σ H s) (h:cg X.K H a xs) (h':cg X.K H a ys):xs=ys:=by
 let#[its,r,#[o,e,_,n,d],_]:=I.tuple h;let#[its',J,#[o',G,_,N,d'],_]:=I.tuple h';rw[e]at G;cases G;rw[d]at d';injection d' with L _;have:its=its':=(by simpa using congrArg toList L);subst this;show r.inj J
end
noncomputable abbrev Cx.nH (X:Cx) (E:Value->BY->Prop):Cx:={ X with xe:=E }
noncomputable abbrev Cx.Eb (X:Cx):Cx:=X.nH λ_ _=>False
theorem Cx.Ok.nH {X:Cx}(ok:X.Ok) (E:Value->BY->Prop):(X.nH E).Ok :=
 #[ok.mod,ok.kind,ok.glob,ok.blt,ok.above,ok.inj,ok.has,ok.E4,ok.hd,ok.frames,ok.FW,ok.HZ,ok.bs,ok.AK,ok.yi,ok.xw,ok.jY,ok.CL]
theorem Cx.Ok.gU {X:Cx}{E:Value->BY->Prop}(ok:(X.nH E).Ok):X.Ok :=
 #[ok.mod,ok.kind,ok.glob,ok.blt,ok.above,ok.inj,ok.has,ok.E4,ok.hd,ok.frames,ok.FW,ok.HZ,ok.bs,ok.AK,ok.yi,ok.xw,ok.jY,ok.CL]
section
variable {X:Cx}{pins:List (Addr×Obj)}{σ:St}{H:Hp}{s:BY}{E:Value->BY->Prop}
theorem Inv.nH (I:Inv X pins σ H s) (E:Value->BY->Prop):Inv (X.nH E) pins σ H s:=#[I.ok.nH E,I.os,I.bare,I.base,I.loc,I.cell,I.free,I.gO,I.pin,I.bG,I.len]
theorem Inv.gU (I:Inv (X.nH E) pins σ H s):Inv X pins σ H s:=#[I.ok.gU,I.os,I.bare,I.base,I.loc,I.cell,I.free,I.gO,I.pin,I.bG,I.len]
theorem SP.gU {D:Ends}{f:Flow}{s':BY}(h:SP (X.nH E) pins D f s'):SP X pins D f s':=by
 cases f with
 |next=>let#[G,H',I,q]:=h;show#[G,H',I.gU,q]
 |brk=>let#[G,H',I,q]:=h;show#[G,H',I.gU,q]
 |cont=>let#[G,H',I,q]:=h;show#[G,H',I.gU,q]
 |ret u=>let#[v,G,H',I,r,q]:=h;show#[v,G,H',I.gU,r,q]
theorem wR.Eb {st:List Ky}{t:TS}(h:wR X.Eb st t):wR X st t:=λpins s σ H D I G =>
 LU (h pins s σ H D (I.nH _) G) (λ_ _ q=>q.gU) λ_ _ z=>Lp z
end
section
variable {X:Cx}{st:Ky}{rest:List Ky}{t u:TS}{e:Kt}{te:TE}{pos:Mj}
noncomputable def rA:TS:=λD σ H=>D.nx σ H
noncomputable def m7 (t u:TS):TS:=λD σ H=>t { D with nx:=u D } σ H
theorem aG:wR X [] rA:=λ_ _ σ H _ I h=>MN #[σ,H,I,h]
theorem ag (h1:PS X st t) (h2:wR X rest u):wR X (st::rest) (m7 t u):=by
 intro pins s σ H D I h;show OL (bV (h1 pins s σ H { D with nx:=u D } I h) λf L q=>?_);cases f with
 |next =>
  let#[J,H',G,q]:=q;show h2 pins L J H' D G q
 |ret v=>show q
 |brk=>show q
 |cont=>show q
theorem aj (h1:PS X st t):wR X [st] t:=by
 intro pins s σ H D I h;show OL (bV (h1 pins s σ H D I h) λf G q=>?_);cases f with
 |next=>show MN q
 |ret v=>show q
 |brk=>show q
 |cont=>show q
noncomputable def Hi:TS:=λD σ H=>D.ct σ H
theorem sJ:PS X (.Continue pos) Hi:=λ_ _ σ H _ I h=>wpAny_Continue #[σ,H,I,h]
theorem Inv.quiet {pins:List (Addr×Obj)}{σ:St}{H:Hp}{s:BY}(I:Inv X pins σ H s):interactive X.env=false:=by simp[interactive,I.ok.kind]
noncomputable def Hn (te:TE):TS:=λD σ H=>te σ H λ_ H1=>D.nx σ H1
theorem aP (G:PE X e te) (hs:N6 e none pos.line X.env=pure false:=by rfl):PS X (.Expr e pos) (Hn te):=by
 intro pins s σ H D I h;show wpAny_Expr_any (bV (G pins s σ H _ I h) λv U L=>by let#[x,H1,J,O,N]:=L;show#[σ,H1,J,N]) I.quiet hs
noncomputable def FP (te:TE):TS:=λD σ H=>te σ H D.rt
theorem aF (G:PE X e te):PS X (.Return (some e) pos) (FP te):=by
 intro pins s σ H D I h;show wpAny_Return_some (bV (G pins s σ H _ I h) λv U L=>by let#[x,H1,N,J,O]:=L;show#[x,σ,H1,N,J,O])
noncomputable def FU:TS:=λD _ H=>D.rt .non H
theorem o8:PS X (.Return none pos) FU:=λ_ _ σ H _ I h=>wpAny_Return_none #[.non,σ,H,I,rfl,h]
noncomputable def xh (c:TT) (t u:TS):TS:=λD σ H=>c σ H λb H1=>if b=true then t D σ H1 else u D σ H1
theorem aS {c:Kt}{a b:List Ky}{tc:TT}(N:PT X c tc) (U:wR X a t) (O:wR X b u):PS X (.If c a b pos) (xh tc t u):=by
 intro pins s σ H D I h;show wpAny_If (bV (N pins s σ H _ I h) λd J Y=>?_);let#[H1,G,L]:=Y;cases d with
 |true=>show U pins J σ H1 D G L
 |false=>show O pins J σ H1 D G L
noncomputable def zU:TS:=λ_ _ _=>False
theorem dR:PS X st zU:=λ_ _ _ _ _ _ h=>h.elim
theorem cU {sts:List Ky}:wR X sts zU:=λ_ _ _ _ _ _ h=>h.elim
end
noncomputable abbrev TG:=V->St->Hp->(St->Hp->Prop)->Prop
noncomputable abbrev E7:=List V->St->Hp->(St->Hp->Prop)->Prop
noncomputable def PG (X:Cx) (J:Kt) (t:TG):Prop :=
 ∀(pins:List (Addr×Obj)) (s:BY) (σ:St) (H:Hp) (v:V) (u:Value) (Q:St->Hp->Prop),Inv X pins σ H s->RelV v u->t v σ H Q ->
  wpAny (model X.prog X.w) X.A (Oh J X.env u) (λ_ s'=>∃G H',Inv X pins G H' s'/\Q G H') X.xe s
noncomputable def Ht (X:Cx) (ts:List Kt) (t:E7):Prop :=
 ∀(pins:List (Addr×Obj)) (s:BY) (σ:St) (H:Hp) (vs:List V) (us:List Value) (Q:St->Hp->Prop),Inv X pins σ H s->Vals vs us->t vs σ H Q ->
  wpAny (model X.prog X.w) X.A (Ob ((Na ts X.env).map (·.2)) us) (λ_ s'=>∃G H',Inv X pins G H' s'/\Q G H') X.xe s
noncomputable abbrev yh:=V->V->V->Hp->(Hp->Prop)->Prop
noncomputable def Bl (X:Cx) (t:yh):Prop :=
 ∀(pins:List (Addr×Obj)) (s:BY) (σ:St) (H:Hp) (o i v:V) (ov G u:Value) (Q:Hp->Prop),Inv X pins σ H s->RelV o ov->RelV i G->RelV v u->t o i v H Q ->
  wpAny (model X.prog X.w) X.A (PQ ov G u) (λ_ s'=>∃H',Inv X pins σ H' s'/\Q H') X.xe s
noncomputable abbrev HL:=V->V->Hp->VK->Prop
noncomputable def IE (X:Cx) (G:Oz) (t:HL):Prop :=
 ∀(pins:List (Addr×Obj)) (s:BY) (σ:St) (H:Hp) (x y:V) (v u:Value) (Q:VK),Inv X pins σ H s->RelV x v->RelV y u->t x y H Q ->
  wpAny (model X.prog X.w) X.A (inplaceOp G v u) (EP X pins σ Q) X.xe s
section
variable {X:Cx}{pos:Mj}
noncomputable def r6 (i:Nat):TG:=λv σ H Q=>Q (σ.set i (some v)) H
theorem aY {i:Nat}{x:Str}(O:X.N.Nodup) (hi:X.N[i]?=some x) (L:Loc X.env.scope x) (G:X.fn x=true\/X.env.scope.names.lookup x=some .local:=by first|show .inl rfl|show .inr rfl|assumption):PG X (.Name x pos) (r6 i):=by
 intro pins s σ H v u Q I r h;show Nn (ir I O hi L r (λs' J=>#[_,H,J,h]) G)
noncomputable def IY:E7:=λvs σ H Q=>vs=[]/\Q σ H
inductive y8 (t:TG) (u:E7) (vs:List V) (σ:St) (H:Hp) (Q:St->Hp->Prop):Prop
 |mk (v:_) (r:_) (_:vs=v::r) (_:t v σ H λσ' H'=>u r σ' H' Q):y8 t u vs σ H Q
theorem cZ:Ht X [] IY:=by
 intro pins s σ H vs us Q I r h;let#[e,h]:=h;subst e;cases r;show OA #[σ,H,I,h]
theorem bp {e:Kt}{es:List Kt}{t:TG}{u:E7}(h1:PG X e t) (h2:Ht X es u)
  (hs:(Na (e::es) X.env).map (·.2)=Oh e X.env::(Na es X.env).map (·.2):=by rfl):Ht X (e::es) (y8 t u):=by
 intro pins s σ H vs us Q I r h;let#[v,vr,G,h]:=h;subst G;cases r with
 |cons r Y =>
  rw[hs];show Nb (bV (h1 pins s σ H _ _ _ I r h) λ_ L J=>?_);let#[N,H1,O,U]:=J;show h2 pins L N H1 _ _ Q O Y U
inductive FC (K:PySem.W.Frag) (n:Nat) (t:E7) (v:V) (σ:St) (H:Hp) (Q:St->Hp->Prop):Prop
 |mk (a:_) (xs:_) (_:v=.ref a) (_:cg K H a xs) (_:xs.length=n) (_:t xs σ H Q):FC K n t v σ H Q
theorem dH {es:List Kt}{k:Nat}{t:E7}{n:Nat}(L:X.calm=true) (h:Ht X es t)
  (O:(Na es X.env).length=n:=by rfl) (ab:(Na es X.env).findIdx? (·.1)=none:=by rfl):PG X (.Tuple es k pos) (FC X.K n t):=by
 intro pins s σ H v u Q I r G;let#[a,xs,U,hq,N,G]:=G;subst U;cases r;let#[its,J,Y,hz]:=I.tuple hq;show assign_Tuple_tuple (I.ok.hd L) Y (by simp[O, <-N,J.length]) ab λh' hx=>?_;have I1:Inv X pins σ H { s with heap:=h' }:=I.kept (t':=s.toks) λb o e=>hx b o (Km (Heap.lt_size e)) e;show h pins _ σ H xs _ Q I1 (by simpa using J) G
noncomputable def IG (to G:TE) (t:yh):TG:=λv σ H Q=>to σ H λo H1=>G σ H1 λi H2=>t o i v H2 λH3=>Q σ H3
theorem ed {o i:Kt}{to J:TE}{t:yh}(ho:PE X o to) (hi:PE X i J) (hs:Bl X t)
  (ha:∀v,Oh (.Subscript o i pos) X.env v=(do
   let ov <-MQ [v] (eval o X.env)
   let G <-MQ [v,ov] (eval i X.env)
   Oy pos
   MQ [v,ov,G] (PQ ov G v)
   release [v,ov,G] []):=by intro _;rfl):PG X (.Subscript o i pos) (IG to J t):=by
 intro pins s σ H v u Q I r h;rw[ha];show By (K5 (bV (ho pins s σ H _ I h) λov s1 ab=>?_));let#[x,H1,I1,L,q1]:=ab;show By (K5 (bV (hi pins s1 σ H1 _ I1 q1) λG s2 ac=>?_));let#[y,H2,I2,N,U]:=ac;show By (MC (By (K5 (bV (hs pins s2 σ H2 x y v ov G u _ I2 L N r U) λ_ s3 Y=>?_))));let#[H3,I3,O]:=Y;show wpAny_release #[σ,H3,I3,O]
noncomputable def Bg (te:TE) (g:TG):TS:=λD σ H=>te σ H λx H1=>g x σ H1 D.nx
theorem cV {tg e:Kt}{te:TE}{g:TG}(N:PE X e te) (G:PG X tg g) (hs:swapsWithSole [tg] e pos.line X.env=pure false:=by rfl) (L:swappedStores [tg] e X.env=pure none:=by rfl)
  (h1:(Na [tg] X.env).map (·.2)=[Oh tg X.env]:=by rfl):PS X (.Assign [tg] e pos) (Bg te g):=by
 intro pins s σ H D I h;show wpAny_Assign_stores (bV (N pins s σ H _ I h) λv U ab=>?_) hs L;let#[x,H1,O,J,Y]:=ab;rw[h1];show bV (G pins U σ H1 x v _ O J Y) λ_ s2 q=>q
theorem aK {i:Nat}{x:Str}{e:Kt}{te:TE}{pos':Mj}(hN:X.N.Nodup) (hi:X.N[i]?=some x) (Y:Loc X.env.scope x) (O:PE X e te) (hs:N6 e (some (.Name x pos')) pos.line X.env=pure false:=by rfl) (L:X.fn x=true\/X.env.scope.names.lookup x=some .local:=by first|show .inl rfl|show .inr rfl|assumption) :
  PS X (.Assign [.Name x pos'] e pos) (Bg te (r6 i)):=by
 intro pins s σ H D I h;show wpAny_Assign_Name (bV (O pins s σ H _ I h) λv s1 J=>?_) hs;let#[y,H1,U,G,q1]:=J;show ir U hN hi Y G (λs2 I2=>#[_,H1,I2,q1]) L
noncomputable def IA (i j:Nat) (ta:TA):TS:=λD σ H=>ta σ H λvs H1=>ym λv w=>vs=[v,w]/\D.nx ((σ.set i (some v)).set j (some w)) H1
theorem ET {i j:Nat}{x y:Str}{a b:Kt}{ta:TA}{px U pt:Mj}{kt k2 pt2} (hc:X.calm=true) (hN:X.N.Nodup) (hi:X.N[i]?=some x) (hj:X.N[j]?=some y) (am:i≠j)
  (hx:X.env.scope.names.lookup x=some .local) (Y:X.env.scope.names.lookup y=some .local) (ha:PA X [a,b] ta)
  (hw:swappedStores [.Tuple [.Name x px,.Name y U] kt pt] (.Tuple [a,b] k2 pt2) X.env=pure (some [x,y]))
  (hs:swapsWithSole [.Tuple [.Name x px,.Name y U] kt pt] (.Tuple [a,b] k2 pt2) pos.line X.env=pure false:=by rfl) :
  PS X (.Assign [.Tuple [.Name x px,.Name y U] kt pt] (.Tuple [a,b] k2 pt2) pos) (IA i j ta):=by
 intro pins s σ H D I h;rw[exec_Assign_arm];show By (MC ?_);rw[hs];show By (DO ?_);rw[Qh ar];show By (Tuple_ (bV (ha _ pins s σ H _ I h) λus L ap=>?_));let#[vs,H1,I1,r1,O]:=ap;let#[v,w,e1,O]:=O;subst e1;obtain⟨G,J,rfl,rv,ac⟩:∃G J,us=[G,J]/\RelV v G/\RelV w J:=by
  cases r1 with
  |cons p q =>
   cases q with
   |cons p' q' =>
    cases q';show#[_,0,p,p']
 show K4 ?_ (by change 2<=sizeLine;decide);have I2:Inv X pins σ H1 { L with heap:=L.heap.push { cls:=.type "tuple",data:=.seq [G,J].toArray } }:=I1.kept (t':=L.toks) λb o e=>Heap.get?_push_of_some _ e;rw[hw];show By (DO ?_);change wpAny (model X.prog X.w) X.A (do rule "assign.swapped-stores";let items <-unpackItems (.ref L.heap.objs.size) 2 none;Ob [λv=>O8 X.env y v,λv=>O8 X.env x v] items.reverse;pure Flow.next) _ _ _;show By (LJ (By (unpackItems_tuple (items := ([G,J].toArray)) (I.ok.hd hc) (PJ L.heap _) λh' ab=>?_)));have I3:=I2.kept (h':=h') (t':=L.toks) λb o e=>ab b o (Km (Heap.lt_size e)) e;change wpAny _ _ (Ob [λv=>O8 X.env y v,λv=>O8 X.env x v] [J,G]>>=λ_=>pure Flow.next) _ _ _;show By (Nb (wpAny_bindName (ir I3 hN hj (.inl Y) ac (λs2 I4=>?_) (.inr Y))));show Nb (wpAny_bindName (ir I4 hN hi (.inl hx) rv (λs3 I5=>OA (DO ?_)) (.inr hx)));rw[List.set_comm _ _ (JZ am)]at I5;show#[_,H1,I5,O]
noncomputable def Fs (to U te:TE) (L:V->V->Hp->VK->Prop) (J:HL) (G:yh):TS:=λD σ H=>to σ H λo H1=>U σ H1 λi H2=>L o i H2 λx H3=>te σ H3 λy H4=>J x y H4 λz O=>G o i z O λN=>D.nx σ N
noncomputable def GY (X:Cx) (t:V->V->Hp->VK->Prop):Prop :=
 ∀(pins:List (Addr×Obj)) (s:BY) (σ:St) (H:Hp) (o i:V) (ov G:Value) (Q:VK),Inv X pins σ H s->RelV o ov->RelV i G->t o i H Q ->
  wpAny (model X.prog X.w) X.A (MD ov G) (EP X pins σ Q) X.xe s
theorem we {o i e:Kt}{to ti te:TE}{ab:V->V->Hp->VK->Prop}{N:HL}{O:yh}{U:Oz}{tpos:Mj}(ho:PE X o to) (hi:PE X i ti) (hg:GY X ab) (he:PE X e te) (hp:IE X U N) (hs:Bl X O)
  (ha:∀ov G new,augStore i ov G new=(do MQ [new,ov,G] (PQ ov G new);release [new,ov,G] [];pure .next):=by intros;rfl):PS X (.AugAssign (.Subscript o i tpos) U e pos) (Fs to ti te ab N O):=by
 intro pins s σ H D I h;show wpAny_AugAssign_SubscriptAny (bV (ho pins s σ H _ I h) λov s1 am=>?_) ha;let#[x1,H1,I1,J,q1]:=am;show bV (hi pins s1 σ H1 _ I1 q1) λG s2 aT=>?_;let#[Y,H2,I2,L,q2]:=aT;show bV (hg pins s2 σ H2 x1 Y ov G _ I2 J L q2) λaB s3 a0=>?_;let#[x3,H3,I3,r3,q3]:=a0;show bV (he pins s3 σ H3 _ I3 q3) λv s4 ac=>?_;let#[x4,H4,I4,r4,q4]:=ac;show bV (hp pins s4 σ H4 x3 x4 aB v _ I4 r3 r4 q4) λnew s5 as=>?_;let#[x5,H5,I5,r5,q5]:=as;show bV (hs pins s5 σ H5 x1 Y x5 ov G new _ I5 J L r5 q5) λ_ s6 ap=>by let#[H6,I6,q6]:=ap;show#[σ,H6,I6,q6]
noncomputable def Jt (f:Int->Int->Int):HL:=λx y H Q=>∃i j,x=.int i/\y=.int j/\Q (.int (f i j)) H
theorem DZ:IE X .Add (Jt λi j=>i+j):=by
 intro pins s σ H x y v u Q I G J h;let#[i,j,L,N,q]:=h;subst L;subst N;let#[t,rfl]:=G;let#[t',rfl]:=J;show OW #[.int _,H,I.tok _,#[0],q]
theorem Eu:IE X .Sub (Jt λi j=>i-j):=by
 intro pins s σ H x y v u Q I G J h;let#[i,j,L,N,q]:=h;subst L;subst N;let#[t,rfl]:=G;let#[t',rfl]:=J;show isub_int #[.int _,H,I.tok _,#[0],q]
end
section
variable {X:Cx}{pos:Mj}
noncomputable def Ex (c:TT) (tb:TS):TS:=λD σ H=>∃W:Nat->St->Hp->Prop,(∃m,W m σ H)/\∀m σ H,W m σ H ->
 c σ H λb H1=>if b=true then ∃N:St->Hp->Prop,(∀J H',N J H'->∃G,G<m/\W G J H')/\tb { D with nx:=N,ct:=N,bk:=D.nx } σ H1 else D.nx σ H1
theorem rR {c:Kt}{body:List Ky}{tc:TT}{tb:TS}(hp:PassesOwn (model X.prog X.w) X.A X.env X.xe) (hc:PT X c tc) (hb:wR X body tb):PS X (.While c body [] pos) (Ex tc tb):=by
 intro pins s σ H D I h;let#[W,#[m0,w0],am]:=h;show wpAny_While (codeAny_whileLoop (λn s'=>∃ab H',Inv X pins ab H' s'/\W n ab H') ?_ m0 #[σ,H,I,w0]);rintro n s1 ⟨O,H1,I1,w1⟩;show LD hp (bV (hc pins s1 O H1 _ I1 (am n O H1 w1)) λb s2 ac=>?_);let#[H2,I2,L]:=ac;cases b with
 |true =>
  let#[N,hN,L]:=L;rw[Qi rfl];show LD hp (bV (hb pins s2 O H2 _ I2 L) λf s3 J=>?_);cases f with
  |next =>
   let#[G,H3,I3,n3]:=J;let#[U,Y,w3]:=hN G H3 n3;show#[U,Y,G,H3,I3,w3]
  |cont =>
   let#[G,H3,I3,n3]:=J;let#[U,Y,w3]:=hN G H3 n3;show#[U,Y,G,H3,I3,w3]
  |brk=>show J
  |ret v=>show J
 |false =>
  rw[Qh J8];show MN #[O,H2,I2,L]
end
structure It where
 go:Nat->Hp->Prop
 BU:Nat->Hp->V->Hp->Prop
 stop:Nat->Hp->Prop
noncomputable def gp (X:Cx) (pins:List (Addr×Obj)) (H:Hp) (b:Addr):Prop :=
 H b=none/\b≠X.env.locals/\b∉X.fs/\(b∈X.ex\/X.s₀.heap.objs.size<=b)/\(∀x c,X.env.cells.lookup x=some c->c≠b)/\∀p∈X.pn++pins,p.1≠b
theorem Inv.jm {X:Cx}{pins:List (Addr×Obj)}{σ:St}{H H':Hp}{s:BY}{b:Addr}(I:Inv X pins σ H s) (G:s.heap.objs.size<=b) (J:H' b=none):gp X pins H' b:=by
 show#[J,OB (Kz I.lt G),I.Hk G,.inr (Ko I.sz G),λx c e z=>?_,λp L z=>?_]
 .let#[v,q]:=I.cell x c e;show absurd (Kz q.lt (by rw[z];show G)) (LV _)
 .show absurd (Kz (Heap.lt_size (I.pin p L).1) (by rw[z];show G)) (LV _)
structure Turn (P:J2) (w:Kd) (K:PySem.W.Frag) (tg:Kt) (J:It) (fp:List Addr) (it:Addr) (tn:Nat->Heap->Prop):Prop where
 mem:it∈fp
 obj:∀i h,tn i h->∀b∈fp,∃o,h.get? b=some o/\∀v,o.data≠.cell v
 keep:∀i h h',tn i h->(∀b∈fp,∀o,h.get? b=some o->h'.get? b=some o)->tn i h'
 item:∀(X:Cx),X.prog=P->X.w=w->X.K=K->X.calm=true->∀(i:Nat) (pins:List (Addr×Obj)) (s:BY) (σ:St) (H:Hp) (E:Value->BY->Prop),Inv X pins σ H s->(∀b∈fp,gp X pins H b)->tn i s.heap->J.go i H ->
  wpAny (model P w) X.A (pyNext (.ref it)) (λr s1=>∃u,r=some u /\
   wpAny (model P w) X.A (NS tg (.ref it) u) (λ_ s2=>∃x H',Inv X pins σ H' s2/\RelV x u/\J.BU i H x H'/\tn (i+1) s2.heap/\∀b∈fp,H' b=none) E s1) E s
 done:∀(X:Cx),X.prog=P->X.w=w->X.K=K->X.calm=true->∀(i:Nat) (pins:List (Addr×Obj)) (s:BY) (σ:St) (H:Hp) (E:Value->BY->Prop),Inv X pins σ H s->(∀b∈fp,gp X pins H b)->tn i s.heap->J.stop i H ->
  wpAny (model P w) X.A (pyNext (.ref it)) (λr s1=>r=none/\Inv X pins σ H s1) E s
 self:∀(A:Kk) (i:Nat) (s:BY) (Q:Value->BY->Prop) (E:Value->BY->Prop),tn i s.heap->Q (.ref it) s->wpAny (model P w) A (Pa (.ref it)) Q E s
noncomputable abbrev TI:=St->Hp->(It->Hp->Prop)->Prop
noncomputable def Ju (X:Cx) (pins:List (Addr×Obj)) (σ:St) (tg:Kt) (R:It->Hp->Prop) (N:Value) (s2:BY):Prop :=
 ∃(L:Addr) (fp:List Addr) (G:Nat->Heap->Prop) (J:It) (H':Hp),N=.ref L/\Inv X pins σ H' s2/\Turn X.prog X.w X.K tg J fp L G/\G 0 s2.heap/\(∀b∈fp,gp X pins H' b)/\R J H'
noncomputable def PI (X:Cx) (tg iter:Kt) (wi:TI):Prop :=
 ∀(pins:List (Addr×Obj)) (s:BY) (σ:St) (H:Hp) (R:It->Hp->Prop),Inv X pins σ H s->wi σ H R ->
  wpAny (model X.prog X.w) X.A (eval iter X.env) (λv G=>wpAny (model X.prog X.w) X.A (Pa v) (Ju X pins σ tg R) X.xe G) X.xe s
theorem oq {M:Model}{A:Kk}{E:Value->BY->Prop}{s:BY}{tg:Kt}{J:Addr}{u:Value}{o:Obj}{n:String}{vs:Array Value}{Q:Unit->BY->Prop}(O:s.heap.get? J=some o) (L:o.cls=.type n) (hd:o.data=.fields vs)
  (N:["enumerate","zip","dict_itemiterator","dict_reverseitemiterator","odict_iterator","itertools.zip_longest","itertools.pairwise"].contains n=false) (G:Q () s):wpAny M A (NS tg (.ref J) u) Q E s:=by
 unfold NS;cases tg<;>first
  |show DO G
  |(cases u<;>first
    |show DO G
    |(show By (wpAny_load O ?_)
      rw[L,hd];change wpAny M A (if (["enumerate","zip","dict_itemiterator","dict_reverseitemiterator","odict_iterator","itertools.zip_longest","itertools.pairwise"].contains n&&vs[0]?==some (OM _))=true then _ else _) Q E s;rw[Qh (by intro h;rw[N,Bool.false_and]at h;cases h)];show DO G))
noncomputable def DU (K:PySem.W.Frag) (a:Addr):It :=
 #[λi H=>∃xs x,bB K H a xs/\xs[i]?=some x,λi H x H'=>H'=H/\∀xs,bB K H a xs->xs[i]?=some x,λi H=>∃xs,bB K H a xs/\xs.length<=i]
noncomputable def Hz (K:PySem.W.Frag) (a:Addr):It :=
 #[λi H=>∃xs x,cg K H a xs/\xs[i]?=some x,λi H x H'=>H'=H/\∀xs,cg K H a xs->xs[i]?=some x,λi H=>∃xs,cg K H a xs/\xs.length<=i]
noncomputable def Bp (lo:Int) (n:Nat):It:=#[λi _=>i<n,λi H x H'=>H'=H/\x=.int (lo+i),λi _=>n<=i]
theorem wX {P:J2}{w:Kd}{K:PySem.W.Frag}{tg:Kt}(a J:Addr):Turn P w K tg (DU K a) [J] J (λi h=>h.IsListIter J a i) where
 mem:=by simp
 obj:=λi h st b G=>by
  have e:b=J:=(by simpa using G);subst e;let#[o,e,c,d]:=st;show#[o,e,λv z=>by rw[d]at z;cases z]
 keep:=λi h h' st k=>st.at λo e=>k J (by simp) o e
 item:=by
  intro X hP hw hK hc i pins s σ H E I L st O;subst hP hw hK;let#[xs,x,N,hx]:=O;let#[its,Y,p,hz]:=I.list N;let#[u,hu,ru]:=Y.get hx;let#[f0,f1,f2,f3,U,f5]:=L J (by simp);show wpAny_pyNext_list_item st p.isList (x:=u) (by simpa using hu) λh' ab sb=>?_;have I1:Inv X pins σ H { s with heap:=h' }:=I.turned (t':=s.toks) (λb o G e=>(sb.2 b G).trans e) f0 f1 f3 U f5;let#[o,e,c,d]:=id ab;show#[u,rfl,oq (s:={ s with heap:=h' }) e c d ar #[x,H,I1,ru,#[rfl,λys hy=>by rw[I.jg hy N];show hx],ab,λb G=>(L b G).1]]
 done:=by
  intro X hP hw hK hc i pins s σ H E I L st O;subst hP hw hK;let#[xs,N,hx]:=O;let#[its,Y,p,hz]:=I.list N;let#[f0,f1,f2,f3,U,f5]:=L J (by simp);have hl:=Y.length;show wpAny_pyNext_list_end (I.ok.hd hc) st p.isList (by simp;omega) λh' eb=>#[rfl,I.turned (t':=s.toks) (λb o G e=>eb b o G e) f0 f1 f3 U f5]
 self:=λ_ _ _ _ _ st h=>wpAny_pyIter_listiter st h
theorem vo {P:J2}{w:Kd}{K:PySem.W.Frag}{tg:Kt}(a J:Addr):Turn P w K tg (Hz K a) [J] J (λi h=>h.IsTupleIter J a i) where
 mem:=by simp
 obj:=λi h st b G=>by
  have e:b=J:=(by simpa using G);subst e;let#[o,e,c,d]:=st;show#[o,e,λv z=>by rw[d]at z;cases z]
 keep:=λi h h' st k=>st.at λo e=>k J (by simp) o e
 item:=by
  intro X hP hw hK hc i pins s σ H E I L st O;subst hP hw hK;let#[xs,x,N,hx]:=O;let#[its,Y,p,hz]:=I.tuple N;let#[u,hu,ru]:=Y.get hx;let#[f0,f1,f2,f3,U,f5]:=L J (by simp);show wpAny_pyNext_tuple_item st (show s.heap.IsTuple a its.toArray from p) (x:=u) (by simpa using hu) λh' ab sb=>?_;have I1:Inv X pins σ H { s with heap:=h' }:=I.turned (t':=s.toks) (λb o G e=>(sb.2 b G).trans e) f0 f1 f3 U f5;let#[o,e,c,d]:=id ab;show#[u,rfl,oq (s:={ s with heap:=h' }) e c d ar #[x,H,I1,ru,#[rfl,λys hy=>by rw[I.xk hy N];show hx],ab,λb G=>(L b G).1]]
 done:=by
  intro X hP hw hK hc i pins s σ H E I L st O;subst hP hw hK;let#[xs,N,hx]:=O;let#[its,Y,p,hz]:=I.tuple N;let#[f0,f1,f2,f3,U,f5]:=L J (by simp);have hl:=Y.length;show wpAny_pyNext_tuple_end (I.ok.hd hc) st (show s.heap.IsTuple a its.toArray from p) (by simp;omega) λh' eb=>#[rfl,I.turned (t':=s.toks) (λb o G e=>eb b o G e) f0 f1 f3 U f5]
 self:=λ_ _ _ _ _ st h=>wpAny_pyIter_tupleiter st h
theorem uk {P:J2}{w:Kd}{K:PySem.W.Frag}{tg:Kt}(G:Addr) (lo:Int) (n:Nat):Turn P w K tg (Bp lo n) [G] G (λi h=>NV h G (lo+(i:Nat)*1) ((n:Int)-(i:Nat)) 1) where
 mem:=by simp
 obj:=λi h st b J=>by
  have e:b=G:=(by simpa using J);subst e;show#[_,st,λv z=>by
   have z':MF _=Mw v:=z;cases z']
 keep:=λi h h' st k=>k G (by simp) _ st
 item:=by
  intro X hP hw hK hc i pins s σ H E I L st N;subst hP hw hK;let#[f0,U,f2,Y,O,f5]:=L G (by simp);have W:=P7 (prog:=X.prog) (w:=X.w) (I.ok.hd hc) G lo 1 n;show W.item i s _ _ N st λv h' tk hv ab kk=>?_;let#[t,rfl]:=hv;have I1:Inv X pins σ H { s with heap:=h',toks:=tk }:=I.turned (λb o J e=>kk b o (by simpa using J) e) f0 U Y O f5;show#[0,oq (s:={ s with heap:=h',toks:=tk }) (n := "range_iterator") ab rfl rfl ar #[.int (lo+i),H,I1,#[t,?_],#[1],ab,λb J=>(L b J).1]];rw[Int.mul_one]
 done:=by
  intro X hP hw hK hc i pins s σ H E I L st N;subst hP hw hK;let#[f0,U,f2,Y,O,f5]:=L G (by simp);show NK (I.ok.hd hc) st (by have:n<=i:=N;omega) λh' eb=>#[rfl,I.turned (t':=s.toks) (λb o J e=>eb b o J e) f0 U Y O f5]
 self:=λ_ _ _ _ _ st h=>NL st h
section
variable {X:Cx}{tg:Kt}
noncomputable def Ge (K:PySem.W.Frag) (tl:TE):TI:=λσ H R=>tl σ H λx H1=>∃a,x=.ref a/\(∃xs,bB K H1 a xs)/\R (DU K a) H1
noncomputable def Iw (K:PySem.W.Frag) (tl:TE):TI:=λσ H R=>tl σ H λx H1=>∃a,x=.ref a/\(∃xs,cg K H1 a xs)/\R (Hz K a) H1
theorem ff {l:Kt}{tl:TE}(N:PE X l tl):PI X tg l (Ge X.K tl):=by
 intro pins s σ H R I h;show bV (N pins s σ H _ I h) λv J O=>?_;let#[x,H1,G,L,Y]:=O;let#[a,e,#[xs,hq],q]:=Y;subst e;cases L;let#[its,rv,p,hz]:=G.list hq;show Ml p.isList ?_;show#[J.heap.objs.size,[J.heap.objs.size],2,H1,rfl,G.kept (t':=J.toks) λb o e=>Heap.get?_push_of_some _ e,wX a _,#[_,Heap.get?_push_size _ rfl,1],λb U=>?_,q];have e:b=J.heap.objs.size:=(by simpa using U);subst e;show G.jm (J1 _) (G.bG.fresh (J1 _))
theorem DS {l:Kt}{tl:TE}(N:PE X l tl):PI X tg l (Iw X.K tl):=by
 intro pins s σ H R I h;show bV (N pins s σ H _ I h) λv G U=>?_;let#[x,H1,J,L,Y]:=U;let#[a,e,#[xs,hq],q]:=Y;subst e;cases L;let#[its,rv,p,hz]:=J.tuple hq;show wpAny_pyIter_tuple (show G.heap.IsTuple a its.toArray from p) ?_;show#[G.heap.objs.size,[G.heap.objs.size],2,H1,rfl,J.kept (t':=G.toks) λb o e=>Heap.get?_push_of_some _ e,vo a _,#[_,Heap.get?_push_size _ rfl,1],λb O=>?_,q];have e:b=G.heap.objs.size:=(by simpa using O);subst e;show J.jm (J1 _) (J.bG.fresh (J1 _))
theorem rM {pins:List (Addr×Obj)}{σ:St}{H:Hp}{s:BY}{R:It->Hp->Prop}{E:Value->BY->Prop}{lo hi:Int}{t u v:Qe}{tk:Nat}(I:Inv X pins σ H s) (h1 : -(2^62)<=lo) (h2:lo<2^62) (U : -(2^62)<=hi) (O:hi<2^62)
  (q:R (Bp lo (hi-lo).toNat) H):wpAny (model X.prog X.w) X.A (Pa (.ref s.heap.objs.size)) (Ju X pins σ tg R) E { s with heap:=s.heap.push { cls:=.type "range",data:=.fields ([.int lo t,.int hi u,.int 1 v].toArray) },toks:=tk }:=by
 show Oi (Qa ..) (small_one h1 h2 U O) ?_;have G:Inv X pins σ H { s with heap:=s.heap.push { cls:=.type "range",data:=.fields ([.int lo t,.int hi u,.int 1 v].toArray) },toks:=tk }:=I.kept λb o e=>Heap.get?_push_of_some _ e;show#[(s.heap.push { cls:=.type "range",data:=.fields ([.int lo t,.int hi u,.int 1 v].toArray) }).objs.size,[(s.heap.push { cls:=.type "range",data:=.fields ([.int lo t,.int hi u,.int 1 v].toArray) }).objs.size],2,H,rfl,
  G.kept (t':=tk) λb o e=>Heap.get?_push_of_some _ e,uk _ lo (hi-lo).toNat,?_,λb J=>?_,q]
 .have L:lo+((0:Nat):Int)*1=lo:=(by simp);have N:(((hi-lo).toNat:Nat):Int)-((0:Nat):Int)=Builtin.Range.rangeSize lo hi 1:=(by rw[rangeSize_one];split<;>omega);change NV _ _ (lo+((0:Nat):Int)*1) ((((hi-lo).toNat:Nat):Int)-((0:Nat):Int)) 1;rw[L,N];show Heap.get?_push_size _ rfl
 .have e:b=(s.heap.push { cls:=.type "range",data:=.fields ([.int lo t,.int hi u,.int 1 v].toArray) }).objs.size:=(by simpa using J);subst e;show G.jm (J1 _) (G.bG.fresh (J1 _))
noncomputable def Fc (ta:TA):TI:=λσ H R=>ta σ H λvs H1=>∃j:Int,vs=[.int j] /\ -(2^62)<=j/\j<2^62/\R (Bp 0 j.toNat) H1
noncomputable def FJ (ta:TA):TI:=λσ H R=>ta σ H λvs H1=>ym λ(i j:Int)=>qT (vs=[.int i,.int j]) ((-(2^62)<=i/\i<2^62 /\ -(2^62)<=j/\j<2^62)) (R (Bp i (j-i).toNat) H1)
theorem nQ {a:Kt}{ta:TA}{p pos:Mj}(L:Gl X "range") (hm:X.mg "range" = none) (U:PA X [a] ta) (hs:starEach [a] X.env=[(false,eval a X.env)]:=by rfl):PI X tg (.Call (.Name "range" p) [a] [] pos) (Fc ta):=by
 intro pins s σ H R I h;show Call_ (iq I L hm Pb (KS (bV (U pos pins s σ H _ I h) λus s1 O=>?_) hs rfl));let#[vs,H1,Y,J,G]:=O;let#[j,e,G,N,q]:=G;subst e;cases J with
 |cons r rr =>
  cases rr;let#[t,rfl]:=r;show call_range_1 (rM Y ae ae G N (by simpa using q))
theorem fh {a b:Kt}{ta:TA}{p pos:Mj}(O:Gl X "range") (hm:X.mg "range" = none) (ha:PA X [a,b] ta) (hs:starEach [a,b] X.env=[(false,eval a X.env),(false,eval b X.env)]:=by rfl) (L:starEach [b] X.env=[(false,eval b X.env)]:=by rfl) :
  PI X tg (.Call (.Name "range" p) [a,b] [] pos) (FJ ta):=by
 intro pins s σ H R I h;show Call_ (iq I O hm Pb (KS (bV (ha pos pins s σ H _ I h) λus s1 ⟨vs,H1,I1,N,G⟩=>?_) (by rw[hs,L]) (by rw[L];rfl)));let#[i,j,e,#[G,Y,U,q4],q]:=G;subst e;cases N with
 |cons r J =>
  cases J with
  |cons r' J =>
   cases J;let#[t,rfl]:=r;let#[t',rfl]:=r';show call_range_2 (rM I1 G Y U q4 q)
noncomputable def IZ (wi:TI) (g:TG) (tb:TS):TS:=λD σ H=>wi σ H λJ H1=>∃W:Nat->Nat->St->Hp->Prop,(∃m,W 0 m σ H1)/\∀i m σ H,W i m σ H ->
 (J.stop i H/\D.nx σ H)\/(J.go i H/\∃N:St->Hp->Prop,(∀L H',N L H'->∃G,G<m/\W (i+1) G L H')/\∀x H',J.BU i H x H'->g x σ H' λO H2=>tb { D with nx:=N,ct:=N,bk:=D.nx } O H2)
noncomputable def mL (fp:List Addr) (h:Heap):List (Addr×Obj):=fp.filterMap λb=>(h.get? b).map λo=>(b,o)
theorem gA {fp:List Addr}{h:Heap}{b:Addr}{o:Obj}(G:b∈fp) (e:h.get? b=some o):(b,o)∈mL fp h:=List.mem_filterMap.mpr #[b,G,by rw[e];rfl]
theorem xK {fp:List Addr}{h:Heap}{p:Addr×Obj}(L:p∈mL fp h):p.1∈fp/\h.get? p.1=some p.2:=by
 let#[b,G,e]:=List.mem_filterMap.mp L;cases q:h.get? b with
 |none=>rw[q]at e;cases e
 |some o =>
  rw[q]at e;have J:(b,o)=p:=Option.some.inj e;subst J;show#[G,q]
theorem Inv.pinned {pins:List (Addr×Obj)}{σ:St}{H:Hp}{s:BY}{fp:List Addr}(I:Inv X pins σ H s) (N:∀b∈fp,gp X pins H b) (ho:∀b∈fp,∃o,s.heap.get? b=some o/\∀v,o.data≠.cell v):Inv X (pins++mL fp s.heap) σ H s :=
 I.lh λp Y=>(List.mem_append.mp Y).elim (λz=>I.pin p (Kn _ z)) λz=>by
  let#[G,e]:=xK z;let#[O,U,L,_]:=N p.1 G;let#[o,J,d]:=ho p.1 G;rw[e]at J;cases J;show#[e,O,U,L,d]
theorem Inv.mh {pins pl:List (Addr×Obj)}{σ:St}{H:Hp}{s:BY}(I:Inv X (pins++pl) σ H s):Inv X pins σ H s:=I.lh λp G=>I.pin p (Kn _ (K9 _ G))
theorem cN {iter:Kt}{body:List Ky}{wi:TI}{g:TG}{tb:TS}{pos:Mj}(hp:PassesOwn (model X.prog X.w) X.A X.env X.xe) (hc:X.calm=true) (hi:PI X tg iter wi) (hg:PG X tg g) (L:wR X body tb)
  (hs:∀x,Np iter X.env x=pure x:=by intro _;rfl):PS X (.For tg iter body [] pos) (IZ wi g tb):=by
 intro pins s σ H D I h;show wpAny_For (bV (hi pins s σ H _ I h) λv s1 h1=>bV h1 λbb s2 h2=>?_) hs;let#[it,fp,tn,J,H2,e,I2,T,a4,f2,W,#[m0,w0],a6]:=h2;subst e;have am:∀{H':Hp},(∀b∈fp,H' b=none)->∀b∈fp,gp X pins H' b:=λhn b L=>#[hn b L,(f2 b L).2];show codeAny_forLoop_any (λn s'=>∃i ab H',Inv X pins ab H' s'/\tn i s'.heap/\(∀b∈fp,H' b=none)/\W i n ab H') ?_ m0 #[(0),σ,H2,I2,a4,λb L=>(f2 b L).1,w0];rintro n s3 ⟨i,ac,H3,I3,as,aB,w3⟩;rcases a6 i n ac H3 w3 with⟨a2,qn⟩|⟨go,N,hN,step⟩
 .show LD hp (bV (T.done X rfl rfl rfl hc i pins s3 ac H3 X.xe I3 (am aB) as a2) λr s4 a1=>?_);let#[hr,I4]:=a1;subst hr;show MN #[ac,H3,I4,qn]
 .show LD hp (bV (T.item X rfl rfl rfl hc i pins s3 ac H3 X.xe I3 (am aB) as go) λr s4 ba=>?_);let#[u,hr,h4]:=ba;subst hr;show LD hp (bV h4 λ_ s5 a5=>?_);let#[x,H5,I5,r5,y5,ap,a7]:=a5;have a0:=I5.pinned (am a7) (T.obj _ _ ap);show LD hp (bV (hg _ s5 ac H5 x u _ a0 r5 (step x H5 y5)) λ_ s6 aT=>?_);let#[a3,H6,I6,q6]:=aT;show LD hp (bV (L _ s6 a3 H6 _ I6 q6) λf s7 Y=>?_);have again:∀{G:St}{U:Hp},Inv X (pins++mL fp s5.heap) G U s7->N G U->∃m,m<n/\∃i ab H',Inv X pins ab H' s7/\tn i s7.heap/\(∀b∈fp,H' b=none)/\W i m ab H':=λ{G U} O n7=>by
   let#[m',hm,w7]:=hN G U n7;show#[m',hm,i+1,G,U,O.mh,T.keep _ _ _ ap λb L o e=>(O.pin (b,o) (Kn _ (Kn _ (gA L e)))).1,λb L=>?_,w7];let#[o,e,d]:=T.obj _ _ ap b L;show(O.pin (b,o) (Kn _ (Kn _ (gA L e)))).2.1
  cases f with
  |next=>let#[G,U,O,n7]:=Y;show again O n7
  |cont=>let#[G,U,O,n7]:=Y;show again O n7
  |brk=>let#[G,U,O,Y]:=Y;show#[G,U,O.mh,Y]
  |ret v=>let#[x7,G,U,O,r7,Y]:=Y;show#[x7,G,U,O.mh,r7,Y]
end
theorem eh {K:PySem.W.Frag}{a:Addr}{xs:List V}{g:TG}{tb:TS}{D:Ends}{σ:St}{H:Hp}(Pv:Nat->St->Hp->Prop) (h0:Pv 0 σ H) (U:∀i σ H,i<=xs.length->Pv i σ H->bB K H a xs)
  (hs:∀i x σ H,xs[i]?=some x->Pv i σ H->g x σ H λJ H2=>tb { D with nx:=Pv (i+1),ct:=Pv (i+1),bk:=D.nx } J H2) (hd:∀σ H,Pv xs.length σ H->D.nx σ H) :
  ∃W:Nat->Nat->St->Hp->Prop,(∃m,W 0 m σ H)/\∀i m σ H,W i m σ H ->
   ((DU K a).stop i H/\D.nx σ H)\/((DU K a).go i H/\∃N:St->Hp->Prop,(∀G H',N G H'->∃L,L<m/\W (i+1) L G H')/\∀x H',(DU K a).BU i H x H'->g x σ H' λJ H2=>tb { D with nx:=N,ct:=N,bk:=D.nx } J H2):=by
 show#[λi m σ H=>m=xs.length-i/\i<=xs.length/\Pv i σ H,#[xs.length,by simp,Kl _,h0],?_];rintro i m σ H ⟨rfl,hi,p⟩;have q:=U i σ H hi p;by_cases O:i<xs.length
 .show .inr #[#[xs,xs[i],q,by simp[O]],Pv (i+1),λG H' Y=>#[xs.length-(i+1),ae,rfl,O,Y],λx H' y=>?_];let#[e,y]:=y;subst e;show hs i x σ _ (y xs q) p
 .have e:i=xs.length:=ae;subst e;show .inl #[#[xs,q,J1 _],hd σ H p]
theorem iy {lo:Int}{n:Nat}{g:TG}{tb:TS}{D:Ends}{σ:St}{H:Hp}(Pv:Nat->St->Hp->Prop) (Y:Pv 0 σ H)
  (hs:∀i σ H,i<n->Pv i σ H->g (.int (lo+i)) σ H λJ H2=>tb { D with nx:=Pv (i+1),ct:=Pv (i+1),bk:=D.nx } J H2) (hd:∀σ H,Pv n σ H->D.nx σ H) :
  ∃W:Nat->Nat->St->Hp->Prop,(∃m,W 0 m σ H)/\∀i m σ H,W i m σ H ->
   ((Bp lo n).stop i H/\D.nx σ H)\/((Bp lo n).go i H/\∃N:St->Hp->Prop,(∀G H',N G H'->∃O,O<m/\W (i+1) O G H')/\∀x H',(Bp lo n).BU i H x H'->g x σ H' λJ H2=>tb { D with nx:=N,ct:=N,bk:=D.nx } J H2):=by
 show#[λi m σ H=>m=n-i/\i<=n/\Pv i σ H,#[n,by simp,Kl _,Y],?_];rintro i m σ H ⟨rfl,hi,p⟩;by_cases L:i<n
 .show .inr #[L,Pv (i+1),λG H' U=>#[n-(i+1),ae,rfl,L,U],λx H' y=>?_];let#[e,y]:=y;subst e y;show hs i σ _ L p
 .have e:i=n:=ae;subst e;show .inl #[J1 _,hd σ H p]
noncomputable abbrev R2:=V->V->Hp->VK->Prop
noncomputable def kW (X:Cx) (f:Value->Value->Pz Value) (r:R2):Prop :=
 ∀(pins:List (Addr×Obj)) (s:BY) (σ:St) (H:Hp) (x y:V) (v u:Value) (Q:VK),Inv X pins σ H s->RelV x v->RelV y u->r x y H Q ->
  wpAny (model X.prog X.w) X.A (f v u) (EP X pins σ Q) X.xe s
noncomputable def HX (X:Cx) (f:Value->Pz Value) (r:V->Hp->VK->Prop):Prop :=
 ∀(pins:List (Addr×Obj)) (s:BY) (σ:St) (H:Hp) (x:V) (v:Value) (Q:VK),Inv X pins σ H s->RelV x v->r x H Q ->
  wpAny (model X.prog X.w) X.A (f v) (EP X pins σ Q) X.xe s
noncomputable def di (X:Cx) (f:Value) (r:List V->Hp->VK->Prop):Prop :=
 ∀(pins:List (Addr×Obj)) (s:BY) (σ:St) (H:Hp) (xs:List V) (us:List Value) (Q:VK),Inv X pins σ H s->Vals xs us->r xs H Q ->
  wpAny (model X.prog X.w) X.A (call f us) (EP X pins σ Q) X.xe s
noncomputable def E6 (r:R2) (ta tb:TE):TE:=λσ H Q=>ta σ H λx H1=>tb σ H1 λy H2=>r x y H2 Q
noncomputable def JP (r:V->Hp->VK->Prop) (ta:TE):TE:=λσ H Q=>ta σ H λx H1=>r x H1 Q
inductive rI (C:Int->Int->Prop) (g:Int->Int->V) (x:V) (y:V) (H:Hp) (Q:VK):Prop
 |mk (i:_) (j:_) (_:x=.int i) (_:y=.int j) (_:C i j) (_:Q (g i j) H):rI C g x y H Q
inductive CZ (g:Int->Int->V) (x:V) (y:V) (H:Hp) (Q:VK):Prop
 |mk (i:_) (j:_) (_:x=.int i) (_:y=.int j) (_:Q (g i j) H):CZ g x y H Q
inductive rU (g:Int->V) (x:V) (H:Hp) (Q:VK):Prop
 |mk (i:_) (_:x=.int i) (_:Q (g i) H):rU g x H Q
section
variable {X:Cx}{a b c:Kt}{ta tb tc:TE}{pos:Mj}
theorem EH (ha:PE X a ta) (L:PE X b tb) {pins:List (Addr×Obj)}{s:BY}{σ:St}{H:Hp}{R:V->V->Hp->Prop}(I:Inv X pins σ H s)
  (h:ta σ H λx H1=>tb σ H1 λy H2=>R x y H2) {Q:Value->BY->Prop}{f:Value->Value->Pz Value}
  (O:∀v u s2 x y H2,Inv X pins σ H2 s2->RelV x v->RelV y u->R x y H2->wpAny (model X.prog X.w) X.A (f v u) Q X.xe s2) :
  wpAny (model X.prog X.w) X.A (eval a X.env) (λv Y=>wpAny (model X.prog X.w) X.A (eval b X.env) (λu am=>wpAny (model X.prog X.w) X.A (f v u) Q X.xe am) X.xe Y) X.xe s:=by
 show bV (ha pins s σ H _ I h) λv s1 ac=>?_;let#[x,H1,I1,G,q1]:=ac;show bV (L pins s1 σ H1 _ I1 q1) λu s2 ab=>?_;let#[y,H2,U,J,N]:=ab;show O v u s2 x y H2 U G J N
theorem aA {G:Oz}{r:R2}(N:kW X (MG G) r) (Y:PE X a ta) (J:PE X b tb):PE X (.BinOp a G b pos) (E6 r ta tb):=by
 intro pins s σ H Q I h;show wpAny_BinOp (EH Y J I h λv u s2 x y H2 U L O q=>N pins s2 σ H2 x y v u Q U L O q)
theorem Ho {G:UnaryOp}{r:V->Hp->VK->Prop}(ho:HX X (unaryOp G) r) (N:PE X a ta):PE X (.UnaryOp G a pos) (JP r ta):=by
 intro pins s σ H Q I h;show UnaryOp_ (bV (N pins s σ H _ I h) λv U L=>by let#[x,H1,O,J,Y]:=L;show ho pins U σ H1 x v Q O J Y)
theorem Hw {f:Value->Value->Pz Value}{C:Int->Int->Prop}{g:Int->Int->Int}
  (rule:∀(i j:Int) (t u:Qe) (s:BY) (Q:Value->BY->Prop) (E:Value->BY->Prop),C i j->Q (.int (g i j) s.toks) { s with toks:=s.toks+1 }->wpAny (model X.prog X.w) X.A (f (.int i t) (.int j u)) Q E s) :
  kW X f (rI C λi j=>.int (g i j)):=by
 intro pins s σ H x y v u Q I J L h;let#[i,j,rfl,rfl,G,q]:=h;let#[t,rfl]:=J;let#[t',rfl]:=L;show rule i j t t' s _ _ G #[.int (g i j),H,I.tok _,#[0],q]
theorem Fu {f:Value->Value->Pz Value}{g:Int->Int->Int}
  (rule:∀(i j:Int) (t u:Qe) (s:BY) (Q:Value->BY->Prop) (E:Value->BY->Prop),Q (.int (g i j) s.toks) { s with toks:=s.toks+1 }->wpAny (model X.prog X.w) X.A (f (.int i t) (.int j u)) Q E s) :
  kW X f (CZ λi j=>.int (g i j)):=by
 intro pins s σ H x y v u Q I G J h;let#[i,j,rfl,rfl,q]:=h;let#[t,rfl]:=G;let#[t',rfl]:=J;show rule i j t t' s _ _ #[.int (g i j),H,I.tok _,#[0],q]
theorem Du {f:Value->Value->Pz Value}{g:Int->Int->Bool}
  (rule:∀(i j:Int) (t u:Qe) (s:BY) (Q:Value->BY->Prop) (E:Value->BY->Prop),Q (.bool (g i j)) s->wpAny (model X.prog X.w) X.A (f (.int i t) (.int j u)) Q E s) :
  kW X f (CZ λi j=>.bl (g i j)):=by
 intro pins s σ H x y v u Q I G J h;let#[i,j,rfl,rfl,q]:=h;let#[t,rfl]:=G;let#[t',rfl]:=J;show rule i j t t' s _ _ #[.bl (g i j),H,I,rfl,q]
noncomputable def Iq (i j:Int):Prop:=0<j/\j<1073741824
noncomputable def Ii (i j:Int):Prop:=0<=j/\j<=1000000/\i.natAbs<2^64
noncomputable def zh (i j:Int):Prop:=(-(2^64)<i/\i<2^64)\/(-(2^64)<j/\j<2^64)
theorem zh.ok {i j:Int}(h:zh i j):IntMulOk i j:=by
 rcases h with⟨h1,h2⟩|⟨h1,h2⟩
 .show .of_left (intBits_le_64 h1 h2)
 .show .of_right (intBits_le_64 h1 h2)
theorem bu:kW X (MG .Add) (CZ λi j=>.int (i+j)):=Fu λ_ _ _ _ _ _ _ q=>add_int q
theorem pJ:kW X (MG .Sub) (CZ λi j=>.int (i-j)):=Fu λ_ _ _ _ _ _ _ q=>sub_int q
theorem d0:kW X (MG .Mult) (rI zh λi j=>.int (i*j)):=Hw λ_ _ _ _ _ _ _ G q=>mul_int q G.ok
theorem bH:kW X (MG .FloorDiv) (rI Iq λi j=>.int (i/j)):=Hw λi j _ _ _ _ _ G q=>by
 have h1:(0:Int)<j:=G.1;have h2:j<1073741824:=G.2;show floordiv_int ae (by rw[Int.fdiv_eq_ediv_of_nonneg i ae];show q) (.inl (PyProof.noPylong_small ae))
theorem bJ:kW X (MG .Mod) (rI (λ_ j=>0<j) λi j=>.int (i%j)):=Hw λi j _ _ _ _ _ G q=>by
 have h1:(0:Int)<j:=G;show mod_int' ae (by rw[Int.fmod_eq_emod_of_nonneg i ae];show q)
theorem tE:kW X (MG .Pow) (rI Ii λi j=>.int (i^j.toNat)):=Hw λ_ _ _ _ _ _ _ G q=>pow_int_small G.1 G.2.1 G.2.2 q
theorem JE {f:Value->Pz Value}{g:Int->Int}
  (rule:∀(i:Int) (t:Qe) (s:BY) (Q:Value->BY->Prop) (E:Value->BY->Prop),Q (.int (g i) s.toks) { s with toks:=s.toks+1 }->wpAny (model X.prog X.w) X.A (f (.int i t)) Q E s) :
  HX X f (rU λi=>.int (g i)):=by
 intro pins s σ H x v Q I G h;let#[i,rfl,q]:=h;let#[t,rfl]:=G;show rule i t s _ _ #[.int (g i),H,I.tok _,#[0],q]
theorem EW:HX X (unaryOp .USub) (rU λi=>.int (-i)):=JE λ_ _ _ _ _ q=>neg_int q
end
noncomputable def Ba:V->V->Bool
 |.non,.non=>true|.non,.int _=>true|.int _,.non=>true|.non,.bl _=>true|.bl _,.non=>true|.non,.str _=>true|.str _,.non=>true
 |.int _,.int _=>true|.bl _,.bl _=>true|.str _,.str _=>true|.byt _,.byt _=>true
 |.int _,.str _=>true|.str _,.int _=>true|.bl _,.str _=>true|.str _,.bl _=>true
 |_,_=>false
noncomputable def Ih:R2:=λx y H Q=>Ba x y=true/\Q (.bl (decide (x=y))) H
noncomputable def JQ:R2:=λx y H Q=>Ba x y=true/\Q (.bl (!decide (x=y))) H
theorem vX {i j:Int}:decide (V.int i=V.int j)=(i==j):=by
 rw[LO];simp
theorem zB {i j:Bool}:decide (V.bl i=V.bl j)=(i==j):=by
 rw[LO];simp
theorem wC {i j:Str}:decide (V.str i=V.str j)=(i==j):=by
 rw[LO];simp
theorem wA {i j:Array UInt8}:decide (V.byt i=V.byt j)=(i.toList==j.toList):=by
 rw[LO];cases i;cases j;simp
section
variable {X:Cx}{a b c:Kt}{ta tb tc:TE}{pos:Mj}
theorem bP {pins:List (Addr×Obj)}{σ:St}{H:Hp}{s:BY}{Q:VK}{k G:Bool}(I:Inv X pins σ H s) (q:Q (.bl k) H) (e:k=G):EP X pins σ Q (.bool G) s:=by
 subst e;show#[.bl k,H,I,rfl,q]
theorem bU:kW X (Lo .Eq) Ih:=by
 intro pins s σ H x y v u Q I J G h;let#[hs,q]:=h;cases x with
 |non =>
  cases J;cases y with
  |non=>cases G;show PySem.EqNone.eq_none_none (bP I q (by simp))
  |bl j=>cases G;show PySem.EqNone.eq_none_bool (bP I q (by simp))
  |int j=>let#[t',rfl]:=G;show PySem.EqNone.eq_none_int (bP I q (by simp))
  |str j=>let#[t',rfl]:=G;show PySem.EqNone.eq_none_str (bP I q (by simp))
  |_=>show absurd (show false=true from hs) J8
 |bl i =>
  cases J;cases y with
  |non=>cases G;show PySem.EqNone.eq_bool_none (bP I q (by simp))
  |bl j=>cases G;show eq_bool (bP I q zB)
  |str j=>let#[t',rfl]:=G;show PySem.EqMixed.eq_bool_str (bP I q (by simp))
  |_=>show absurd (show false=true from hs) J8
 |int i =>
  let#[t,rfl]:=J;cases y with
  |non=>cases G;show PySem.EqNone.eq_int_none (bP I q (by simp))
  |int j=>let#[t',rfl]:=G;show eq_int (bP I q vX)
  |str j=>let#[t',rfl]:=G;show PySem.EqMixed.eq_int_str (bP I q (by simp))
  |_=>show absurd (show false=true from hs) J8
 |str i =>
  let#[t,rfl]:=J;cases y with
  |non=>cases G;show PySem.EqNone.eq_str_none (bP I q (by simp))
  |bl j=>cases G;show PySem.EqMixed.eq_str_bool (bP I q (by simp))
  |int j=>let#[t',rfl]:=G;show PySem.EqMixed.eq_str_int (bP I q (by simp))
  |str j=>let#[t',rfl]:=G;show eq_str (bP I q wC)
  |_=>show absurd (show false=true from hs) J8
 |byt i =>
  let#[t,rfl]:=J;cases y with
  |byt j=>let#[t',rfl]:=G;show PySem.W.eq_bytes (bP I q wA)
  |_=>show absurd (show false=true from hs) J8
 |_=>cases y<;>show absurd (show false=true from hs) J8
theorem CU:kW X (Lo .NotEq) JQ:=by
 intro pins s σ H x y v u Q I J G h;let#[hs,q]:=h;cases x with
 |non =>
  cases J;cases y with
  |non=>cases G;show PySem.EqNone.ne_none_none (bP I q (by simp))
  |bl j=>cases G;show PySem.EqNone.ne_none_bool (bP I q (by simp))
  |int j=>let#[t',rfl]:=G;show PySem.EqNone.ne_none_int (bP I q (by simp))
  |str j=>let#[t',rfl]:=G;show PySem.EqNone.ne_none_str (bP I q (by simp))
  |_=>show absurd (show false=true from hs) J8
 |bl i =>
  cases J;cases y with
  |non=>cases G;show PySem.EqNone.ne_bool_none (bP I q (by simp))
  |bl j=>cases G;show ne_bool (bP I q (congrArg not zB))
  |str j=>let#[t',rfl]:=G;show PySem.EqMixed.ne_bool_str (bP I q (by simp))
  |_=>show absurd (show false=true from hs) J8
 |int i =>
  let#[t,rfl]:=J;cases y with
  |non=>cases G;show PySem.EqNone.ne_int_none (bP I q (by simp))
  |int j=>let#[t',rfl]:=G;show ne_int (bP I q (congrArg not vX))
  |str j=>let#[t',rfl]:=G;show PySem.EqMixed.ne_int_str (bP I q (by simp))
  |_=>show absurd (show false=true from hs) J8
 |str i =>
  let#[t,rfl]:=J;cases y with
  |non=>cases G;show PySem.EqNone.ne_str_none (bP I q (by simp))
  |bl j=>cases G;show PySem.EqMixed.ne_str_bool (bP I q (by simp))
  |int j=>let#[t',rfl]:=G;show PySem.EqMixed.ne_str_int (bP I q (by simp))
  |str j=>let#[t',rfl]:=G;show ne_str (bP I q (congrArg not wC))
  |_=>show absurd (show false=true from hs) J8
 |byt i =>
  let#[t,rfl]:=J;cases y with
  |byt j=>let#[t',rfl]:=G;show PySem.W.ne_bytes (bP I q (congrArg not wA))
  |_=>show absurd (show false=true from hs) J8
 |_=>cases y<;>show absurd (show false=true from hs) J8
theorem gL:kW X (Lo .Lt) (CZ λi j=>.bl (decide (i<j))):=Du λ_ _ _ _ _ _ _ q=>lt_int q
theorem iO:kW X (Lo .Gt) (CZ λi j=>.bl (decide (j<i))):=Du λ_ _ _ _ _ _ _ q=>gt_int q
theorem Gw:kW X (Lo .GtE) (CZ λi j=>.bl (decide (j<=i))):=Du λ_ _ _ _ _ _ _ q=>ge_int q
theorem aJ (b:Kt) {G:P6}(h:G≠.In:=by decide) (h2:G≠.NotIn:=by decide):L1 G b=false:=by
 have L:(G==CmpOp.In)=false:=by cases G<;>first|rfl|show absurd rfl h
 have J:(G==CmpOp.NotIn)=false:=by cases G<;>first|rfl|show absurd rfl h2
 cases b<;>simp[L1,L,J]
theorem lq {G:P6}{r:R2}(ho:kW X (Lo G) r) (U:PE X a ta) (J:PE X b tb) (Y:L1 G b=false):PE X (.Compare a [G] [b] pos) (E6 r ta tb):=by
 intro pins s σ H Q I h;show wpAny_Compare1 (EH U J I h λv u s2 x y H2 O L N q=>ho pins s2 σ H2 x y v u Q O L N q) Y
inductive Am (t:TE) (Q:Bool->Hp->Prop) (x:V) (H':Hp):Prop
 |mk (k:_) (_:x=.bl k) (_:Q k H'):Am t Q x H'
noncomputable def yq (t:TE):TT:=λσ H Q=>t σ H λx H'=>Am t Q x H'
theorem aE {G:P6}{r:R2}(ho:kW X (Lo G) r) (ha:PE X a ta) (N:PE X b tb) (hm:L1 G b=false):PT X (.Compare a [G] [b] pos) (yq (E6 r ta tb)):=by
 intro pins s σ H Q I h;show NT (bV (ha pins s σ H _ I h) λv s1 ⟨x,H1,I1,J,q1⟩=>bV (N pins s1 σ H1 _ I1 q1) λu s2 ⟨y,H2,Y,L,U⟩ =>
  bV (ho pins s2 σ H2 x y v u _ Y J L U) λc s3 ⟨z,H3,I3,r3,k,e,O⟩=>?_) hm
 subst e;cases r3;show Lf #[H3,I3,O]
theorem mR:(sizeLine:Nat)<2^63:=by rw[J5];decide
theorem vals1 {x:V}{us:List Value}(r:Vals [x] us):∃u,us=[u]/\RelV x u:=by
 cases r with
 |cons G J=>cases J;show#[0,G]
theorem vals2 {x y:V}{us:List Value}(r:Vals [x,y] us):∃u G,us=[u,G]/\RelV x u/\RelV y G:=by
 cases r with
 |cons J L =>
  cases L with
  |cons N O=>cases O;show#[_,0,J,N]
theorem nV (J:X.calm=true):di X (.builtin "max") (λxs H Q=>∃i j,xs=[.int i,.int j]/\Q (.int (if j>i then j else i)) H):=by
 intro pins s σ H xs us Q I r h;let#[i,j,rfl,q]:=h;let#[u,L,rfl,#[t,rfl],#[t',rfl]]:=vals2 r;show max_two_ints (I.ok.hd J) λh' tk k=>#[_,H,I.kept k,?_,q];by_cases G:j>i
 .rw[Qi G,Qi G];show#[0]
 .rw[Qh G,Qh G];show#[0]
theorem wZ (J:X.calm=true):di X (.builtin "min") (λxs H Q=>∃i j,xs=[.int i,.int j]/\Q (.int (if j<i then j else i)) H):=by
 intro pins s σ H xs us Q I r h;let#[i,j,rfl,q]:=h;let#[u,L,rfl,#[t,rfl],#[t',rfl]]:=vals2 r;show min_two_ints (I.ok.hd J) λh' tk k=>#[_,H,I.kept k,?_,q];by_cases G:j<i
 .rw[Qi G,Qi G];show#[0]
 .rw[Qh G,Qh G];show#[0]
theorem fj:di X (.type "int") (λxs H Q=>(∃i,xs=[.int i]/\Q (.int i) H)\/∃k,xs=[.bl k]/\Q (.int (if k then 1 else 0)) H):=by
 intro pins s σ H xs us Q I r h;rcases h with⟨i,rfl,q⟩|⟨k,rfl,q⟩
 .let#[u,rfl,t,rfl]:=vals1 r;show call_int_int #[.int i,H,I,#[0],q]
 .let#[u,rfl,G]:=vals1 r;cases G;show call_int_bool #[.int (if k then 1 else 0),H,I.tok _,#[0],q]
end
structure tK (h:Heap) (x dx C:Addr) (mA:Str->Option Value):Prop where
 obj:h.get? x=some (instObj C dx)
 ns:h.Ns1 dx mA
 ne:dx≠x
theorem xX {h:Heap}{dx:Addr}{mA:Str->Option Value}(n:h.Ns1 dx mA):∃od,h.get? dx=some od/\∀name,lookIn name od=some (mA name):=by
 let#[o,es,ep,U,hd,L,_,N]:=n;show#[o,U,λname=>?_];have e:=N name;unfold nsFind findBy at e;rw[<-Array.find?_toList]at e;unfold lookIn;rw[hd];dsimp only
 set_option tactic.hygienic true in split
 .rename_i y q;rw[q]at e;show congrArg some e
 .rename_i q;rw[q]at e;have a:es.toList.any (·.refKey)=false:=by
   rw[List.any_eq_false];intro y G;let#[z,t,J]:=L y (Array.mem_toList_iff.mp G);simp[DictEntry.refKey,J]
  have O:¬ es.toList.any (·.refKey)=true:=(by rw[a];show J8);rw[Qh O];show congrArg some e
theorem tK.look {h:Heap}{x dx C:Addr}{mA:Str->Option Value}(I:tK h x dx C mA):∃od,PySem.W.InstAt h x (instObj C dx) C (some od)/\∀name,lookIn name od=some (mA name):=
 let ⟨od,J,G⟩:=xX I.ns
 #[od,#[I.obj,1,J],G]
section
variable {prog:J2}{w:Kd}{A:Kk}{E:Value->BY->Prop}{s:BY}{K:PySem.W.Frag}{x dx C f:Addr}{mA:Str->Option Value}{name:Str}{v:Value}
theorem get_map {Y:Bool}{Q:Value->BY->Prop}(X:K.In s.heap) (I:tK s.heap x dx C mA) (G:Pc K C name=true) (hh:PK K C=true)
  (O:Nc K (.ref C) name=some none) (U:mA name=some v) (L:handedIn v=true) (h:Q v { s with toks:=s.toks+1 }) :
  wpAny (model prog w) A (getAttr (.ref x) name Y) Q E s:=by
 let#[od,J,N]:=I.look;show PySem.W.get_value X J (OQ G).1 (PySem.W.findObj_own hh O rfl (by rw[N,U])) L h
theorem yI {pl:Pz Bool}{Q:Value×List Value->BY->Prop}(X:K.In s.heap) (I:tK s.heap x dx C mA) (G:Pc K C name=true)
  (U:Nc K (.ref C) name=some (some (.ref f))) (O:isFn K (.ref f)=true) (N:mA name=none) (h:Q (.ref f,[.ref x]) s) :
  wpAny (model prog w) A (Nz (.ref x) name pl) Q E s:=by
 let#[od,J,L]:=I.look;show PySem.W.method_fn X J (OQ G).1 (OQ G).2 U (beq_iff_eq.mp O) (by change(lookIn name od).map (·.isSome)=some false;rw[L,N];rfl) h
theorem Bx {ns:List Str}{Q:Unit->BY->Prop}(X:K.In s.heap) (I:tK s.heap x dx C mA)
  (hs:Nc K (.ref C) "__setattr__" = some (some (.builtin "object.__setattr__"))) (hp:plainOver K C=true) (U:takerIn K C name=some none) (hh:PK K C=true)
  (hw:PySem.Within mA ns) (hsz:ns.length<=sizeLine)
  (h:∀h',tK h' x dx C (λy=>if y=name then some v else mA y)->Heap.SameBut dx s.heap h'->Q () { s with heap:=h',toks:=s.toks+2 }) :
  wpAny (model prog w) A (setAttr (.ref x) name v) Q E s:=by
 let#[od,J,hl]:=I.look;show PySem.W.set_plain X J hs (PySem.W.osa_open (s:={ s with toks:=s.toks+1 }) (r:=none) X J hp U λb=>?_);let#[cd,N,ac]:=PySem.W.any_some hh;have hx:s.heap.get? x=some #[.ref C,some dx,.plain, ([].toArray)]:=I.obj;show By (DO (By (By (wpAny_loadPart hx (By (PySem.W.Looks.here (s:={ s with toks:=s.toks+1 }) (PySem.W.looks_clsIn X N) ?_))))));rw[ac];show DO (a:=some dx) (By (DO (By ?_)));show wpAny_nsSet1 (s:={ s with toks:=s.toks+1 }) I.ns λh' G L=>?_;let#[oD,am,ap,O,Y,ab]:=G.count (PySem.Within.cons name v hw);show By (wpAny_lookBehind O (by rw[Y];show pastItsLine_dict (Ko ab (by rw[Kf];omega))) ?_);show DO (h _ #[(L.2 _ (JZ I.ne)).trans I.obj,G,I.ne] L)
theorem zc {R:PR->BY->Prop}{vs:List Value}{G:List (Str×Value)}(X:K.In s.heap) (L:makesIn K C=true)
  (hi:Nc K (.ref C) "__init__" = some (some (.ref f))) (J:PySem.W.typeIn K (.ref f)=some (.type "function"))
  (h:Mm (model prog w) (A.under (.builtin "type.__call__" #[.ref C::vs,G])) (.call (.ref f) #[.ref (s.heap.objs.size+1)::vs,G]) (PySem.W.InitBack (s.heap.objs.size+1) R)
   { s with heap:=(s.heap.push emptyDict).push (instObj C s.heap.objs.size) }) :
  Mm (model prog w) A (.call (.ref C) #[vs,G]) R s:=by
 let#[N,g,d,t,os]:=s;show PySem.W.make_core (PySem.W.makes_of X L) (PySem.W.looks_findIn X hi) (λself=>PySem.W.bind_fn X self J) (.inl rfl) h
end
noncomputable def bo (f:Str) (v:V):List (Str×V)->List (Str×V)
 | []=>[(f,v)]
 |(g,x)::r=>if g=f then(g,v)::r else(g,x)::bo f v r
theorem aD (f g:Str) (v:V):∀fs:List (Str×V),(bo f v fs).lookup g=if g=f then some v else fs.lookup g
 | []=>by
  change List.lookup g [(f,v)]=_;by_cases h:g=f
  .have G:(g==f)=true:=beq_iff_eq.mpr h;simp only[List.lookup,G,Qi h]
  .have G:(g==f)=false:=beq_eq_false_iff_ne.mpr h;simp only[List.lookup,G,Qh h]
 |(k,x)::r=>by
  have L:=aD f g v r;rw[show bo f v ((k,x)::r)=(if k=f then(k,v)::r else(k,x)::bo f v r)from rfl];by_cases J:k=f
  .rw[Qi J];by_cases h:g=k
   .have G:(g==k)=true:=beq_iff_eq.mpr h;simp only[List.lookup,G,Qi (h.trans J)]
   .have G:(g==k)=false:=beq_eq_false_iff_ne.mpr h;simp only[List.lookup,G,Qh (λe:g=f=>h (e.trans J.symm))]
  .rw[Qh J];by_cases h:g=k
   .have G:(g==k)=true:=beq_iff_eq.mpr h;simp only[List.lookup,G,Qh (λe:g=f=>J (h.symm.trans e))]
   .have G:(g==k)=false:=beq_eq_false_iff_ne.mpr h;simp only[List.lookup,G];show L
theorem kr (f:Str) (v:V):∀fs:List (Str×V),f∈(bo f v fs).map (·.1)/\∀g,g∈fs.map (·.1)->g∈(bo f v fs).map (·.1)
 | []=>#[by simp[bo],λg h=>by simp at h]
 |(k,x)::r=>by
  let#[J,L]:=kr f v r;rw[show bo f v ((k,x)::r)=(if k=f then(k,v)::r else(k,x)::bo f v r)from rfl];by_cases G:k=f
  .rw[Qi G];subst G;show#[by simp,λg h=>by simpa using h]
  .rw[Qh G];show#[?_,λg h=>?_]
   .rw[Lm];show Kp _ J
   .rw[Lm]at h ⊢;rcases List.mem_cons.mp h with e|e
    .show List.mem_cons.mpr (.inl e)
    .show Kp _ (L g e)
theorem kN (f:Str) (v:V):∀fs:List (Str×V),(bo f v fs).length<=fs.length+1
 | []=>by simp[bo]
 |(k,x)::r=>by
  have J:=kN f v r;rw[show bo f v ((k,x)::r)=(if k=f then(k,v)::r else(k,x)::bo f v r)from rfl];by_cases G:k=f
  .rw[Qi G,Kf,Kf];omega
  .rw[Qh G,Kf,Kf];omega
theorem fO.some_of {v:V}{o:Option Value}(r:fO (some v) o):∃u,o=some u/\RelV v u:=by
 cases o with
 |none=>show(show False from r).elim
 |some u=>show#[u,rfl,r]
theorem fO.none_of {o:Option Value}(r:fO none o):o=none:=by
 cases o with
 |none=>rfl
 |some u=>show(show False from r).elim
theorem xb {v:V}{u:Value}(r:RelV v u):handedIn u=true:=by
 cases v with
 |non=>cases(show u=Value.none from r);rfl
 |bl b=>cases(show u=Value.bool b from r);rfl
 |int i=>let#[t,e]:=(show ∃t,u=Value.int i t from r);cases e;rfl
 |str x=>let#[t,e]:=(show ∃t,u=Value.str x t from r);cases e;rfl
 |byt b=>let#[t,e]:=(show ∃t,u=Value.bytes b t from r);cases e;rfl
 |flt b=>let#[t,e]:=(show ∃t,u=Value.float b t from r);cases e;rfl
 |ref a=>cases(show u=Value.ref a from r);rfl
 |ty n=>cases(show u=Value.type n from r);rfl
section
variable {P:J2}{w:Kd}{H H':Hp}{h h':Heap}{a C dx:Addr}{fs fs':List (Str×V)}
theorem k5 (J:iZ P w H h) (e:H a=some (.ins C dx fs)):∃mA,tK h a dx C mA/\(∀f,fO (fs.lookup f) (mA f))/\PySem.Within mA (fs.map (·.1))/\fs.length<=1000/\H dx=some (.own a):=by
 let#[d,z,G,ob,mA,n,r,q]:=(show bR P w H h a (.ins C dx fs)from J a _ e);show#[mA,#[ob,n,G],r,q,z,d]
end
structure qX (K:PySem.W.Frag) (C:Addr):Prop where
 pg:Pc K C Str.empty=true
 hd:PK K C=true
 po:plainOver K C=true
 sa:Nc K (.ref C) "__setattr__" = some (some (.builtin "object.__setattr__"))
theorem qX.get {K:PySem.W.Frag}{C:Addr}(c:qX K C) (f:Str):Pc K C f=true:=c.pg
noncomputable def cW (K:PySem.W.Frag) (C:Addr) (f:Str):Prop:=Nc K (.ref C) f=some none
theorem cW.Gm {K:PySem.W.Frag}{C:Addr}{f:Str}(n:cW K C f):takerIn K C f=some none:=by
 unfold takerIn;rw[show Nc K (.ref C) f=some none from n];rfl
structure Meth (K:PySem.W.Frag) (C:Addr) (m:Str) (f:Addr):Prop where
 at_:Nc K (.ref C) m=some (some (.ref f))
 fn:isFn K (.ref f)=true
 kp:NW K (.ref f)=true
section
variable {X:Cx}{pins:List (Addr×Obj)}{σ:St}{H:Hp}{s:BY}{a C dx:Addr}{fs:List (Str×V)}{f:Str}{v:V}{A:Kk}{E:Value->BY->Prop}
theorem lN {b:Bool}{Q:Value->BY->Prop}(I:Inv X pins σ H s) (e:H a=some (.ins C dx fs)) (c:qX X.K C) (n:cW X.K C f) (l:fs.lookup f=some v)
  (h:∀u s',Inv X pins σ H s'->RelV v u->Q u s'):wpAny (model X.prog X.w) A (getAttr (.ref a) f b) Q E s:=by
 let#[mA,O,r,_,_,_]:=k5 I.bG e;let#[u,J,G]:=fO.some_of (v:=v) (o:=mA f) (by rw[<-l];show r f);show get_map I.kj O (c.get f) c.hd n J (xb G) (h u _ (I.tok _) G)
theorem mr {m:Str}{g:Addr}{pl:Pz Bool}{Q:Value×List Value->BY->Prop}(I:Inv X pins σ H s) (e:H a=some (.ins C dx fs)) (c:qX X.K C) (k:Meth X.K C m g) (l:fs.lookup m=none)
  (h:Q (.ref g,[.ref a]) s):wpAny (model X.prog X.w) A (Nz (.ref a) m pl) Q E s:=by
 let#[mA,O,r,_,_,_]:=k5 I.bG e;have G:mA m=none:=fO.none_of (by rw[<-l];show r m);show yI I.kj O (c.get m) k.at_ k.fn G h
theorem ml {y:V}{u:Value}{Q:Unit->BY->Prop}(I:Inv X pins σ H s) (e:H a=some (.ins C dx fs)) (c:qX X.K C) (n:cW X.K C f) (hl:fs.length<1000) (Y:RelV y u)
  (h:∀s',Inv X pins σ (upd H a (.ins C dx (bo f y fs))) s'->Q () s'):wpAny (model X.prog X.w) A (setAttr (.ref a) f u) Q E s:=by
 let#[mA,O,r,wi,_,J]:=k5 I.bG e;have hz:(fs.map (·.1)).length<=sizeLine:=(by rw[DD,J5];omega);show Bx I.kj O c.sa c.po n.Gm c.hd wi hz λh' G N=>h _ ?_;have hd:∃o,h'.get? dx=some o:=let ⟨o,_,_,e',_⟩:=G.ns;#[o,e'];show I.write (x:=a) (e:=dx) (by rw[e];show Lg) (.inr J) (λb q U z=>(N.2 b U).trans z) hd ?_;show#[by rw[ah O.ne];show J,?_,O.ne,G.obj,_,G.ns,λg=>?_,λg L=>?_]
 .have:=kN f y fs;omega
 .change fO ((bo f y fs).lookup g) (if g=f then some u else mA g);rw[aD];by_cases q:g=f
  .rw[Qi q,Qi q];show Y
  .rw[Qh q,Qh q];show r g
 .by_cases q:g=f
  .rw[q];show(kr f y fs).1
  .show(kr f y fs).2 g (wi g λz=>L ?_);change(if g=f then some u else mA g)=none;rw[Qh q];show z
theorem Inv.made (I:Inv X pins σ H s):Inv X pins σ (upd (upd H s.heap.objs.size (.own (s.heap.objs.size+1))) (s.heap.objs.size+1) (.ins C s.heap.objs.size []))
  { s with heap:=(s.heap.push emptyDict).push (instObj C s.heap.objs.size) }:=by
 have G:(s.heap.push emptyDict).get? s.heap.objs.size=some emptyDict:=Heap.get?_push_size s.heap rfl;have O:((s.heap.push emptyDict).push (instObj C s.heap.objs.size)).get? (s.heap.objs.size+1)=some (instObj C s.heap.objs.size):=by
  have:=Heap.get?_push_size (s.heap.push emptyDict) (o:=instObj C s.heap.objs.size) rfl
  rwa [Heap.size_push]at this
 have Y:(s.heap.push emptyDict).Ns s.heap.objs.size (λ_=>none):=#[emptyDict, ([].toArray),_,G,rfl,(λe N=>absurd N (by simp)),λ_=>rfl];have U:=I.laid (a:=s.heap.objs.size) (o:=.own (s.heap.objs.size+1)) (h':=s.heap.push emptyDict) (t':=s.toks) (λb u q=>Heap.get?_push_of_some _ q) (J1 _) #[_,G];show U.laid (a:=s.heap.objs.size+1) (o:=.ins C s.heap.objs.size []) (t':=s.toks) (λb u q=>Heap.get?_push_of_some _ q) (Nat.le_of_eq (Heap.size_push _ _)) ?_;have J:s.heap.objs.size≠s.heap.objs.size+1:=Km (MU _);show#[by rw[ah J,af],Kl _,J,O,λ_=>none,(Heap.Ns1.of_empty Y).at λo q=>Heap.get?_push_of_some _ q,λ_=>Lg,λy L=>absurd rfl L]
theorem Cm {prog:J2}{w:Kd}{env:P1}{e:Kt}{f:Str}{pos:Mj}{s:BY}{Q:Value->BY->Prop}(G:LR e f env (eval e env)=eval e env)
  (h:wpAny (model prog w) A (eval e env) (λo J=>wpAny (model prog w) A (getAttr o f true) Q E J) E s):wpAny (model prog w) A (eval (.Attribute e f pos) env) Q E s :=
 Attribute_any_ h (by rw[arm_eval_Attribute,G])
end
inductive CF (K:PySem.W.Frag) (ta:TE) (f:Str) (Q:VK) (x:V) (H1:Hp):Prop
 |mk (a:_) (C:_) (dx:_) (fs:_) (v:_) (_:x=.ref a) (_:H1 a=some (.ins C dx fs)) (_:qX K C) (_:cW K C f) (_:fs.lookup f=some v) (_:Q v H1):CF K ta f Q x H1
noncomputable def Cr (K:PySem.W.Frag) (ta:TE) (f:Str):TE:=λσ H Q=>ta σ H λx H1=>CF K ta f Q x H1
noncomputable def HN (K:PySem.W.Frag) (ta tv:TE) (f:Str):TS:=λD σ H=>tv σ H λy H1=>ta σ H1 λx H2=>HB λa C dx fs=>xM (x=.ref a) (H2 a=some (.ins C dx fs)) (qX K C) (cW K C f) (fs.length<1000) (D.nx σ (upd H2 a (.ins C dx (bo f y fs))))
noncomputable def Gg (X:Cx) (G:Oz) (rd:V->V->Hp->VK->Prop):Prop :=
 ∀(pins:List (Addr×Obj)) (s:BY) (σ:St) (H:Hp) (x y:V) (u v:Value) (Q:VK),Inv X pins σ H s->RelV x u->RelV y v->rd x y H Q->wpAny (model X.prog X.w) X.A (inplaceOp G u v) (EP X pins σ Q) X.xe s
noncomputable def AX (K:PySem.W.Frag) (ta tv:TE) (rd:V->V->Hp->VK->Prop) (f:Str):TS:=λD σ H=>ta σ H λx H1=>AJ λa C dx fs v=>xM (x=.ref a) (H1 a=some (.ins C dx fs)) (qX K C) (cW K C f) (fs.lookup f=some v) (tv σ H1 λy H2=>rd v y H2 λz H3=>∃G fs',H3 a=some (.ins C G fs')/\fs'.length<1000/\D.nx σ (upd H3 a (.ins C G (bo f z fs'))))
section
variable {X:Cx}{o e value:Kt}{f:Str}{pos pos' tpos:Mj}{ta tv:TE}
theorem aL (O:PE X e ta) (J:LR e f X.env (eval e X.env)=eval e X.env):PE X (.Attribute e f pos) (Cr X.K ta f):=by
 intro pins s σ H Q I h;show Cm J (bV (O pins s σ H _ I h) λu s1 N=>?_);let#[x,H1,U,L,a,C,dx,fs,v,ex,Y,c,n,l,q]:=N;subst ex;obtain rfl:u=Value.ref a:=L;show lN U Y c n l λu' s2 I2 G=>#[v,H1,I2,G,q]
theorem fC (J:PE X o ta) (L:PE X value tv) (hs:N6 value (some (.Attribute o f pos')) pos.line X.env=pure false):PS X (.Assign [.Attribute o f pos'] value pos) (HN X.K ta tv f):=by
 intro pins s σ H D I h;show plainObj_wpAny_Assign_Attribute (bV (L pins s σ H _ I h) λu s1 ab=>?_) hs;let#[y,H1,I1,Y,q]:=ab;show bV (J pins s1 σ H1 _ I1 q) λov s2 O=>?_;let#[x,H2,N,U,a,C,dx,fs,ex,ea,c,n,l,G]:=O;subst ex;obtain rfl:ov=Value.ref a:=U;show ml N ea c n l Y λs3 I3=>#[σ,_,I3,G]
theorem xa {G:Oz}{rd:V->V->Hp->VK->Prop}(ha:PE X o ta) (hv:PE X value tv) (O:Gg X G rd):PS X (.AugAssign (.Attribute o f tpos) G value pos) (AX X.K ta tv rd f):=by
 intro pins s σ H D I h;show wpAny_AugAssign_AttributeAny (bV (ha pins s σ H _ I h) λov s1 ab=>?_);let#[x,H1,I1,rx,a,C,dx,fs,v,ex,ea,c,n,l,q]:=ab;subst ex;obtain rfl:ov=Value.ref a:=rx;show lN I1 ea c n l λu s2 I2 J=>bV (hv pins s2 σ H1 _ I2 q) λw3 s3 ac=>?_;let#[y,H2,I3,ry,L]:=ac;show bV (O pins s3 σ H2 v y u w3 _ I3 J ry L) λw4 s4 Y=>?_;let#[z,H3,I4,rz,ap,fs',am,N,U]:=Y;show ml I4 am c n N rz λs5 I5=>#[σ,_,I5,U]
inductive FV (x:V) (y:V) (H:Hp) (Q:VK):Prop
 |mk (i:_) (j:_) (_:x=.int i) (_:y=.int j) (_:Q (.int (i+j)) H):FV x y H Q
theorem ER:Gg X .Add FV:=by
 rintro pins s σ H x y u v Q I G J ⟨i,j,rfl,rfl,q⟩;let#[t,rfl]:=(show ∃t,u=Value.int i t from G);let#[t',rfl]:=(show ∃t',v=Value.int j t' from J);show OW #[.int (i+j),H,I.tok _,#[0],q]
end
section
variable {X:Cx}{pins:List (Addr×Obj)}{σ:St}{H:Hp}{s:BY}{A:Kk}{E:Value->BY->Prop}{Q:Value->BY->Prop}{c:Value}{b:Bool}
inductive jH (K:PySem.W.Frag) (H:Hp):V->Value->Prop where
 |non:jH K H .non (.type "NoneType")
 |bl (x:Bool):jH K H (.bl x) (.type "bool")
 |int (i:Int):jH K H (.int i) (.type "int")
 |str (x:Str):jH K H (.str x) (.type "str")
 |flt (x:UInt64):jH K H (.flt x) (.type "float")
 |lst {a:Addr}{xs:List V}(e:H a=some (.lst xs)):jH K H (.ref a) (.type "list")
 |cu {a:Addr}{o:Obj}{xs:List V}(e:H a=some (.cu o (.lst xs))):jH K H (.ref a) (.type "list")
 |tup {a:Addr}{xs:List V}(e:H a=some (.tup xs)):jH K H (.ref a) (.type "tuple")
 |dK {a:Addr}{kvs:List (Key×V)}(e:H a=some (.dK kvs)):jH K H (.ref a) (.type "dict")
 |dT {a:Addr}{kvs:List (List Key×V)}(e:H a=some (.dT kvs)):jH K H (.ref a) (.type "dict")
 |ins {a C dx:Addr}{fs:List (Str×V)}(e:H a=some (.ins C dx fs)) (cl:qX K C) (ha:Nc K (.ref C) "__class__" = some (some (.builtin "object.__class__")))
   (hn:PySem.W.specialIn K (.builtin "object.__class__") "__get__" = some (some (.builtin "getset_descriptor.__get__"))) (htk:PySem.W.takesIn K (.builtin "object.__class__")=some true)
   (hm:PySem.W.mroIn K C (.type "object")=some true):jH K H (.ref a) (.ref C)
theorem yc {x:V}{u t:Value}(I:Inv X pins σ H s) (G:RelV x u) (ty:jH X.K H x t) (e:Mb X.K t c=some b) (h:∀tk,Q (.bool b) { s with toks:=tk }) :
  wpAny (model X.prog X.w) A (call (.builtin "isinstance") [u,c]) Q E s:=by
 cases ty with
 |non=>cases(show u=Value.none from G);show Mn PySem.W.kitx_none I.kj Lg e (λz=>nomatch z) h
 |bl y=>cases(show u=Value.bool y from G);show Mn PySem.W.kitx_bool I.kj Lg e (λz=>nomatch z) h
 |int i=>let#[t,q]:=(show ∃t,u=Value.int i t from G);cases q;show Mn PySem.W.kitx_int I.kj Lg e (λz=>nomatch z) h
 |str y=>let#[t,q]:=(show ∃t,u=Value.str y t from G);cases q;show Mn PySem.W.kitx_str I.kj Lg e (λz=>nomatch z) h
 |flt y=>let#[t,q]:=(show ∃t,u=Value.float y t from G);cases q;show Mn PySem.W.kitx_float I.kj Lg e (λz=>nomatch z) h
 | @lst a xs L =>
  cases(show u=Value.ref a from G);let#[_,_,n,_,h1]:=(show bR X.prog X.w H s.heap a (.lst xs)from I.bG a _ L);show Mn kitx_list I.kj #[_,h1,rfl] e (λz=>nomatch z) h
 | @cu a ob xs L =>
  cases(show u=Value.ref a from G);let#[_,_,_,n,_,h1]:=(show bR X.prog X.w H s.heap a (.cu ob (.lst xs))from I.bG a _ L);show Mn kitx_list I.kj #[_,h1,rfl] e (λz=>nomatch z) h
 | @tup a xs L =>
  cases(show u=Value.ref a from G);let#[_,_,_,p]:=(show bR X.prog X.w H s.heap a (.tup xs)from I.bG a _ L);let#[o,h1,h2,_]:=p;show Mn kitx_tuple I.kj #[o,h1,h2] e (λz=>nomatch z) h
 | @dK a kvs L =>
  cases(show u=Value.ref a from G);let#[_,_,vs,_,p]:=(show bR X.prog X.w H s.heap a (.dK kvs)from I.bG a _ L);let#[o,es,ep,h1,h2,_]:=p;show Mn kitx_dict I.kj #[o,h1,h2.1] e (λz=>nomatch z) h
 | @dT a kvs L =>
  cases(show u=Value.ref a from G);let#[_,_,xs,_,o,es,ep,h1,h2,_]:=(show bR X.prog X.w H s.heap a (.dT kvs)from I.bG a _ L);show Mn kitx_dict I.kj #[o,h1,h2.1] e (λz=>nomatch z) h
 | @ins a C dx fs L cl U N ab Y =>
  cases(show u=Value.ref a from G);let#[mA,O,_]:=k5 I.bG L;let#[od,J,_]:=O.look;show Mn (PySem.W.kitx_own (cl.get _) cl.hd U N ab Y) I.kj J e (λz=>nomatch z) h
end
structure dB (k:Nat) (A:Kk):Prop where
 hd:A.handled=none
 dp:A.depth+3*k+5<recursionLimit
 un:A.units+16*k+200<Me
theorem dB.mono {j k:Nat}{A:Kk}(r:dB k A) (h:j<=k):dB j A:=#[r.hd,by have:=r.dp;omega,by have:=r.un;omega]
theorem dB.deeper {k:Nat}{A:Kk}(r:dB (k+1) A) (env:P1):dB k (A.deeper env):=
 #[r.hd,by have:=r.dp;change A.depth+1+3*k+5<_;omega,by have:=r.un;change A.units+3+16*k+200<_;omega]
theorem uV {A:Kk}{C:Addr}{us:List Value}{G:List (Str×Value)}:(A.under (.builtin "type.__call__" #[.ref C::us,G])).depth=A.depth+1:=by
 first|rfl|simp[OC,Code.weight,Code.isCreation,Code.isGuard,Code.isCaller,Qb,OD,guardIds]
theorem uw {A:Kk}{C:Addr}{us:List Value}{G:List (Str×Value)}:(A.under (.builtin "type.__call__" #[.ref C::us,G])).units=A.units+1:=by
 first|rfl|simp[OC,Code.cUnits,Qb,OD]
theorem dB.make {k:Nat}{A:Kk}(r:dB (k+1) A) (C:Addr) (us:List Value) (G:List (Str×Value)):dB k (A.under (.builtin "type.__call__" #[.ref C::us,G])):=
 #[r.hd,by have:=r.dp;rw[uV];omega,by have:=r.un;rw[uw];omega]
theorem dB.depth {k:Nat}{A:Kk}(r:dB k A):A.depth<recursionLimit:=by have:=r.dp;omega
theorem dB.units {k:Nat}{A:Kk}(r:dB k A):A.units+64<Me:=by have:=r.un;omega
theorem dB.iP {k:Nat}{A:Kk}(r:dB k A):A.units<Me:=by have:=r.un;omega
noncomputable def BD:TA:=λ_ H Q=>Q [] H
noncomputable def Fh (ta:TE) (G:TA):TA:=λσ H Q=>ta σ H λx H1=>G σ H1 λxs H2=>Q (x::xs) H2
section
variable {X:Cx}{e:Kt}{es:List Kt}{te:TE}{t:TA}{pos:Mj}
theorem ai:PA X [] BD:=λ_ _ _ _ H Q I h=>Calls.spliced_nil #[[],H,I,.nil,h]
theorem aa (U:PE X e te) (hr:PA X es t) (hs:starEach (e::es) X.env=(false,eval e X.env)::starEach es X.env:=by rfl):PA X (e::es) (Fh te t):=by
 intro pos pins s σ H Q I h;rw[hs];change wpAny _ _ (spliced ((false,eval e X.env)::backTo pos (starEach es X.env))) _ _ s;show Calls.spliced_cons (bV (U pins s σ H _ I h) λu Y ab=>?_);let#[x,H1,I1,G,q1]:=ab;show bV (hr pos pins Y σ H1 _ I1 q1) λus s2 O=>by let#[xs,H2,N,J,L]:=O;show#[x::xs,H2,N,.cons G J,L]
noncomputable def Jn (t:TA):TE:=λσ H Q=>t σ H λxs H1=>xs.length<=sizeLine/\∀p,H1 p=none->Q (.ref p) (upd H1 p (.tup xs))
noncomputable def Gz (t:TA):TE:=λσ H Q=>t σ H λxs H1=>xs.length<=sizeLine/\∀p,H1 p=none->Q (.ref p) (upd H1 p (.lst xs))
theorem dh {x1} (h:PA X es t):PE X (.Tuple es x1 pos) (Jn t):=by
 intro pins s σ H Q I O;show wpAny_Tuple_spliced (bV (h pos pins s σ H _ I O) λus G L=>?_);let#[xs,H1,J,r,z,q]:=L;show#[by rw[<-r.length];show z,?_];have N:H1 G.heap.objs.size=none:=J.bG.fresh (J1 _);show#[.ref G.heap.objs.size,upd H1 G.heap.objs.size (.tup xs),J.laid (t':=G.toks) (λb u e=>Heap.get?_push_of_some _ e) (J1 _) ?_,rfl,q _ N];show#[z,us,r,#[_,Heap.get?_push_size _ rfl,rfl,0]]
theorem cn (h:PA X es t):PE X (.List es pos) (Gz t):=by
 intro pins s σ H Q I O;show wpAny_List_spliced (bV (h pos pins s σ H _ I O) λus G L=>?_);let#[xs,H1,J,r,z,q]:=L;show#[by rw[<-r.length];show z,?_];have N:H1 G.heap.objs.size=none:=J.bG.fresh (J1 _);show#[.ref G.heap.objs.size,upd H1 G.heap.objs.size (.lst xs),J.laid (t':=G.toks) (λb u e=>Heap.get?_push_of_some _ e) (J1 _) ?_,rfl,q _ N];show#[z,us,(0),r,Heap.get?_push_size _ rfl]
end
noncomputable abbrev Sp:=List V->Hp->VK->XK->Prop
noncomputable abbrev wI:=List P1->Hp->BY->XK->Value->BY->Prop
structure tH (P:J2) (w:Kd) (K:PySem.W.Frag) (mg:Str->Option Value) (base:Heap) (A:Kk) (outer:List P1) (s:BY) (H:Hp):Prop where
 frames:A.frames=some outer
 mod:Mod K mg base
 bs:∀b o,base.get? b=some o->s.heap.get? b=some o/\H b=none
 AK:base.objs.size<=s.heap.objs.size
 jY:s.heap.FunFrames base outer
 CL:∀b∈yl outer,H b=none
 bG:iZ P w H s.heap
 bare:Nm s.gens
noncomputable def CE (outer:List P1) (P:J2) (w:Kd) (H:Hp) (s:BY) (Q:VK) (u:Value) (s':BY):Prop :=
 ∃v H',s'.os=s.os/\Nm s'.gens/\Un (yl outer) [] H H' s.heap s'.heap/\iZ P w H' s'.heap/\RelV v u/\Q v H'
noncomputable def CR (CX:wI) (outer:List P1) (P:J2) (w:Kd) (H:Hp) (s:BY) (Q:VK) (E:XK) (r:PR) (s':BY):Prop :=
 match r with
 |.ok (.ret u)=>CE outer P w H s Q u s'
 |.ok _=>False
 |.error e=>CX outer H s E e s'
structure bh (P:J2) (w:Kd) (K:PySem.W.Frag) (mg:Str->Option Value) (base:Heap) (CX:wI) (k:Nat) (f:Addr) (fd:J0) (ps:List Str) (sp:Sp):Prop where
 len:∀vs H Q E,sp vs H Q E->vs.length=ps.length
 run:∀(A:Kk) (outer:List P1) (s:BY) (H:Hp) (args:Args) (us:List Value) (vs:List V) (Q:VK) (E:XK),dB k A->tH P w K mg base A outer s H->OE s fd args (ps.zip us)->Vals vs us->sp vs H Q E ->
  Mm (model P w) A (.call (.ref f) args) (CR CX outer P w H s Q E) s
theorem tH.make {P:J2}{w:Kd}{K:PySem.W.Frag}{mg:Str->Option Value}{base:Heap}{A:Kk}{outer:List P1}{s:BY}{H:Hp}(e:tH P w K mg base A outer s H) (C:Addr) (us:List Value) (G:List (Str×Value)) :
  tH P w K mg base (A.under (.builtin "type.__call__" #[.ref C::us,G])) outer s H:=#[by first|show e.frames|(simpa[OC,Code.envs,OD,pushEnvs]using e.frames),e.mod,e.bs,e.AK,e.jY,e.CL,e.bG,e.bare]
section
variable {X:Cx}{pins:List (Addr×Obj)}{σ:St}{H:Hp}{s s':BY}
theorem Inv.Fg (I:Inv X pins σ H s):tH X.prog X.w X.K X.mg X.base X.A X.stack s H :=
 #[I.ok.frames,I.ok.mod,I.bs,Ko I.ok.AK I.sz,I.stack,I.vK,I.bG,I.bare]
theorem Inv.after {Q:VK}{u:Value}(I:Inv X pins σ H s) (h:CE X.stack X.prog X.w H s Q u s'):EP X pins σ Q u s':=by
 let#[v,H',os,bare,un,J,r,q]:=h;let#[L,g,d,t,G]:=s';obtain rfl:G=s.os:=os;show#[v,H',I.call (h':=L) (g':=g) (d':=d) (t':=t) (ch:=[]) un J bare (λb z=>absurd z (by simp)),r,q]
end
noncomputable def Cz (sp:Sp) (dvs:List V) (E:XK) (t:TA):TE:=λσ H Q=>t σ H λvs H1=>sp (vs++dvs) H1 Q E
inductive zS (C:Addr) (m:Str) (sp:Sp) (dvs:List V) (E:XK) (ta:TE) (t:TA) (σ:St) (Q:VK) (x:V) (H1:Hp):Prop
 |mk (a:_) (dx:_) (fs:_) (_:x=.ref a) (_:H1 a=some (.ins C dx fs)) (_:fs.lookup m=none) (_:t σ H1 λvs H2=>sp (x::(vs++dvs)) H2 Q E):zS C m sp dvs E ta t σ Q x H1
noncomputable def wm (C:Addr) (m:Str) (sp:Sp) (dvs:List V) (E:XK) (ta:TE) (t:TA):TE:=λσ H Q=>ta σ H λx H1=>zS C m sp dvs E ta t σ Q x H1
noncomputable def Cy (C:Addr) (sp:Sp) (dvs:List V) (E:XK) (t:TA):TE:=λσ H Q=>t σ H λvs H1=>∀x dx,H1 x=none->H1 dx=none->dx≠x ->
 sp (.ref x::(vs++dvs)) (upd (upd H1 dx (.own x)) x (.ins C dx [])) (λv H2=>v=.non/\Q (.ref x) H2) E
noncomputable def Binds (K:PySem.W.Frag) (fd:J0) (ps:List Str) (ds:List Value):Prop :=
 ∀(s:BY) (us:List Value),K.In s.heap->(us++ds).length=ps.length->OE s fd #[us,[]] (ps.zip (us++ds))
theorem Binds.all {K:PySem.W.Frag}{fd:J0}{ps:List Str}(h:∀us:List Value,us.length=ps.length->Pd fd #[us,[]]=pure (ps.zip us)):Binds K fd ps []:=λs us _ G=>by
 rw[Oj]at G ⊢;show .of_eq (h us G)
noncomputable def Passes (CX:wI) (X:Cx) (E:XK):Prop:=∀(pins:List (Addr×Obj)) (σ:St) (H:Hp) (s:BY) (e:Value) (s':BY),Inv X pins σ H s->CX X.stack H s E e s'->X.xe e s'
section
variable {X:Cx}{CX:wI}{k:Nat}{f C:Addr}{fd:J0}{ps:List Str}{sp:Sp}{dvs:List V}{ds:List Value}{E:XK}{x m:Str}{p pos apos:Mj}{e o:Kt}{es:List Kt}{ta:TE}{t:TA}
theorem u7 {pins:List (Addr×Obj)}{σ:St}{H:Hp}{s:BY}{Q:VK}{us:List Value}{vs:List V}(F:bh X.prog X.w X.K X.mg X.base CX k f fd ps sp) (Y:dB k X.A) (L:Binds X.K fd ps ds) (hd:Vals dvs ds) (U:Passes CX X E)
  (I:Inv X pins σ H s) (r:Vals vs us) (h:sp (vs++dvs) H Q E):wpAny (model X.prog X.w) X.A (call (.ref f) us) (EP X pins σ Q) X.xe s:=by
 have J:Vals (vs++dvs) (us++ds):=r.append hd;have N:(us++ds).length=ps.length:=(by rw[<-J.length];show F.len _ _ _ _ h);show Ol (Mo (F.run X.A X.stack s H #[us,[]] (us++ds) (vs++dvs) Q E Y I.Fg (L s us I.kj N) J h) λr s' G=>?_);cases r with
 |error e=>show U pins σ H s e s' I G
 |ok O =>
  cases O with
  |ret u=>show I.after G
  |next=>show Lp G
  |brk=>show Lp G
  |cont=>show Lp G
theorem Ci (F:bh X.prog X.w X.K X.mg X.base CX k f fd ps sp) (N:dB k X.A) (J:Gl X x) (hm:X.mg x=some (.ref f)) (hk:NW X.K (.ref f)=true) (L:Binds X.K fd ps ds) (hd:Vals dvs ds) (hx:Passes CX X E)
  (ha:PA X (e::es) t) (U:(x==("__debug__" : Str))=false:=by decide) (Y:starEach (e::es) X.env=(false,eval e X.env)::starEach es X.env:=by rfl) (O:(backTo pos (starEach es X.env)).any (·.1)=false:=by rfl) :
  PE X (.Call (.Name x p) (e::es) [] pos) (Cz sp dvs E t):=by
 intro pins s σ H Q I h;show LK (lD I J hm ?_ U);show Pe (h₀:=X.base) I.ok.mod.FL hk (bV (ha pos pins s σ H _ I h) λus s1 ab=>?_) Y O;let#[vs,H1,G,r,q]:=ab;show#[G.kj,?_];show u7 F N L hd hx G r q
theorem Bv {pl:Pz Bool}(U:PE X o ta) (c:qX X.K C) (G:Meth X.K C m f) (F:bh X.prog X.w X.K X.mg X.base CX k f fd ps sp) (hr:dB k X.A) (hb:Binds X.K fd ps ds) (hd:Vals dvs ds) (hx:Passes CX X E) (Y:PA X (e::es) t)
  (ab:starEach (e::es) X.env=(false,eval e X.env)::starEach es X.env:=by rfl) (ac:(backTo pos (starEach es X.env)).any (·.1)=false:=by rfl)
  (ht:eval (.Call (.Attribute o m apos) (e::es) [] pos) X.env=(do
   let ov <-eval o X.env
   Oy apos.atName
   let (f,first) <-MQ [ov] (Nz ov m pl)
   Pf pos f first (backTo pos (starEach (e::es) X.env)) (NA pos (Mf [] X.env))):=by rfl) :
  PE X (.Call (.Attribute o m apos) (e::es) [] pos) (wm C m sp dvs E ta t):=by
 intro pins s σ H Q I h;show PySem.W.methodCall_KW (pl:=pl) (bV (U pins s σ H _ I h) λu s1 O=>?_) ht;let#[x,H1,L,rx,a,dx,fs,ex,ea,l,q]:=O;subst ex;obtain rfl:u=Value.ref a:=rx;show mr L ea c G l ?_;show Pe (first:=[.ref a]) (h₀:=X.base) I.ok.mod.FL G.kp (bV (Y pos pins s1 σ H1 _ L q) λus s2 am=>?_) ab ac;let#[vs,H2,J,r,N]:=am;show#[J.kj,?_];show u7 (us:=.ref a::us) (vs:=.ref a::vs) F hr hb hd hx J (.cons rfl r) N
theorem yt {pl:Pz Bool}(Y:PE X o ta) (c:qX X.K C) (J:Meth X.K C m f) (F:bh X.prog X.w X.K X.mg X.base CX k f fd ps sp) (U:dB k X.A) (L:Binds X.K fd ps ds) (hd:Vals dvs ds) (hx:Passes CX X E)
  (O:eval (.Call (.Attribute o m apos) [] [] pos) X.env=(do
   let ov <-eval o X.env
   Oy apos.atName
   let (f,first) <-MQ [ov] (Nz ov m pl)
   Pf pos f first (backTo pos (starEach [] X.env)) (NA pos (Mf [] X.env))):=by rfl) :
  PE X (.Call (.Attribute o m apos) [] [] pos) (wm C m sp dvs E ta BD):=by
 intro pins s σ H Q I h;show PySem.W.methodCall_KW (pl:=pl) (bV (Y pins s σ H _ I h) λu s1 ab=>?_) O;let#[x,H1,G,N,a,dx,fs,ex,ea,l,q]:=ab;subst ex;obtain rfl:u=Value.ref a:=N;show mr G ea c J l ?_;show callWith_K0 (first:=[.ref a]) G.kj J.kp (u7 (us:=[.ref a]) (vs:=[.ref a]) F U L hd hx G (.cons rfl .nil) q)
structure Mk (K:PySem.W.Frag) (C f:Addr):Prop where
 makes:makesIn K C=true
 init:Nc K (.ref C) "__init__" = some (some (.ref f))
 fn:isFn K (.ref f)=true
 kp:NW K (.ref C)=true
theorem sM {pins:List (Addr×Obj)}{σ:St}{H:Hp}{s:BY}{Q:VK}{us:List Value}{vs:List V}(M:Mk X.K C f) (F:bh X.prog X.w X.K X.mg X.base CX k f fd ps sp) (hr:dB (k+1) X.A) (Y:Binds X.K fd ps ds) (hd:Vals dvs ds)
  (hx:Passes CX X E) (I:Inv X pins σ H s) (r:Vals vs us)
  (h:∀x dx,H x=none->H dx=none->dx≠x->sp (.ref x::(vs++dvs)) (upd (upd H dx (.own x)) x (.ins C dx [])) (λv H2=>v=.non/\Q (.ref x) H2) E) :
  wpAny (model X.prog X.w) X.A (call (.ref C) us) (EP X pins σ Q) X.xe s:=by
 have N:=h (s.heap.objs.size+1) s.heap.objs.size (I.bG.fresh (MV _)) (I.bG.fresh (J1 _)) (Km (MU _));have J:=Inv.made (C:=C) I;have L:Vals (V.ref (s.heap.objs.size+1)::(vs++dvs)) (Value.ref (s.heap.objs.size+1)::(us++ds)):=.cons rfl (r.append hd);have O:(Value.ref (s.heap.objs.size+1)::us++ds).length=ps.length:=by
  have e:=L.length;rw[F.len _ _ _ _ N]at e;show e.symm
 show Ol (zc (f:=f) I.kj M.makes M.init (beq_iff_eq.mp M.fn) (Mo (F.run _ X.stack _ _ #[Value.ref (s.heap.objs.size+1)::us,[]] (Value.ref (s.heap.objs.size+1)::(us++ds)) _ _ E (hr.make C us [])
  (J.Fg.make C us []) (Y _ (Value.ref (s.heap.objs.size+1)::us) J.kj O) L N) λr s' G=>?_))
 cases r with
 |error e=>show hx pins σ _ _ e s' J G
 |ok U =>
  cases U with
  |ret u =>
   let#[v,H',I3,rv,ev,q3]:=J.after G;subst ev;show#[rv,#[V.ref (s.heap.objs.size+1),H',I3,rfl,q3]]
  |next=>show Lp G
  |brk=>show Lp G
  |cont=>show Lp G
theorem lC (M:Mk X.K C f) (F:bh X.prog X.w X.K X.mg X.base CX k f fd ps sp) (N:dB (k+1) X.A) (J:Gl X x) (hm:X.mg x=some (.ref C)) (L:Binds X.K fd ps ds) (hd:Vals dvs ds) (hx:Passes CX X E)
  (ha:PA X (e::es) t) (U:(x==("__debug__" : Str))=false:=by decide) (Y:starEach (e::es) X.env=(false,eval e X.env)::starEach es X.env:=by rfl) (O:(backTo pos (starEach es X.env)).any (·.1)=false:=by rfl) :
  PE X (.Call (.Name x p) (e::es) [] pos) (Cy C sp dvs E t):=by
 intro pins s σ H Q I h;show LK (lD I J hm ?_ U);show Pe (h₀:=X.base) I.ok.mod.FL M.kp (bV (ha pos pins s σ H _ I h) λus s1 ab=>?_) Y O;let#[vs,H1,G,r,q]:=ab;show#[G.kj,?_];show sM M F N L hd hx G r q
theorem sk (M:Mk X.K C f) (F:bh X.prog X.w X.K X.mg X.base CX k f fd ps sp) (U:dB (k+1) X.A) (J:Gl X x) (O:X.mg x=some (.ref C)) (L:Binds X.K fd ps ds) (hd:Vals dvs ds) (N:Passes CX X E)
  (G:(x==("__debug__" : Str))=false:=by decide):PE X (.Call (.Name x p) [] [] pos) (Cy C sp dvs E BD):=by
 intro pins s σ H Q I h;show LK (lD I J O ?_ G);show callWith_K0 I.kj M.kp (sM (us:=[]) M F U L hd N I .nil h)
end
section
variable {X:Cx}{CX:wI}{k:Nat}{f C:Addr}{fd:J0}{ps ks:List Str}{sp:Sp}{E:XK}{x m:Str}{p pos apos kpos:Mj}{e o:Kt}{es:List Kt}{kws:List N7}{te ta:TE}{t tk:TA}{nm:Option Str}
variable {g:List Value->List Value->List Value}{gV:List V->List V->List V}
end
structure aC (N P:List Str) (sc:Nl):Prop where
 kind:sc.kind=.function
 co:sc.isCoroutine=false
 gen:sc.isGenerator=false
 nd:N.Nodup
 pre:N.take P.length=P
 par:∀x∈P,sc.names.lookup x=some .local\/sc.names.lookup x=some .cell
 Ee:∀y∈sc.names,y.2≠.free
theorem bD {N P:List Str}{G:Nl}(a:G.kind=.function:=by exact rfl) (b:G.isCoroutine=false:=by exact rfl) (c:G.isGenerator=false:=by exact rfl) (d:N.Nodup:=by decide +kernel) (e:N.take P.length=P:=by exact rfl) (f:∀x∈P,G.names.lookup x=some .local\/G.names.lookup x=some .cell:=by decide +kernel) (g:∀y∈G.names,y.2≠.free:=by decide +kernel):aC N P G:=#[a,b,c,d,e,f,g]
theorem oS {kindOf:Str->Option NameKind}{x:Str}:∀{binds:List (Str×Value)}{m:Str->Option Value},(∀v,(x,v)∉binds)->Ph kindOf binds m x=m x
 | [],_,_=>rfl
 |(n,v)::r,m,h=>by
  unfold Ph;rw[oS λw G=>h w (Kp _ G)];split
  .have:x≠n:=(by rintro rfl;show h v Kv);simp[this]
  .rfl
theorem oO {kindOf:Str->Option NameKind}{x:Str}:∀{binds:List (Str×Value)}{m:Str->Option Value},(∀v,(x,v)∉binds)->Pj kindOf binds m x=m x
 | [],_,_=>rfl
 |(n,v)::r,m,h=>by
  unfold Pj;rw[oO λw G=>h w (Kp _ G)];split
  .rfl
  .have:x≠n:=(by rintro rfl;show h v Kv);simp[this]
theorem oo {kindOf:Str->Option NameKind}{x:Str}{v:Value}:∀{P:List Str}{vs:List Value}{i:Nat}{m:Str->Option Value},P.Nodup->P[i]?=some x->vs[i]?=some v->kindOf x=some .local ->
  Ph kindOf (P.zip vs) m x=some v
 | [],_,_,_,_,h,_,_=>by simp at h
 |_::_,[],_,_,_,_,h,_=>by simp at h
 |p::P,w::vs,0,m,G,h1,h2,J=>by
  simp at h1 h2;subst h1;subst h2;change Ph kindOf ((p,w)::P.zip vs) m p=_;unfold Ph;rw[oS λv L=>(List.nodup_cons.mp G).1 (Pk L).1,Qi J];simp
 |p::P,w::vs,i+1,m,G,h1,h2,J=>by
  change Ph kindOf ((p,w)::P.zip vs) m x=_;unfold Ph;show oo (i:=i) (List.nodup_cons.mp G).2 (by simpa using h1) (by simpa using h2) J
theorem oG {kindOf:Str->Option NameKind}{x:Str}{v:Value}:∀{P:List Str}{vs:List Value}{i:Nat}{m:Str->Option Value},P.Nodup->P[i]?=some x->vs[i]?=some v->kindOf x≠some .local ->
  Pj kindOf (P.zip vs) m x=some v
 | [],_,_,_,_,h,_,_=>by simp at h
 |_::_,[],_,_,_,_,h,_=>by simp at h
 |p::P,w::vs,0,m,G,h1,h2,J=>by
  simp at h1 h2;subst h1;subst h2;change Pj kindOf ((p,w)::P.zip vs) m p=_;unfold Pj;rw[oO λv L=>(List.nodup_cons.mp G).1 (Pk L).1,Qh J];simp
 |p::P,w::vs,i+1,m,G,h1,h2,J=>by
  change Pj kindOf ((p,w)::P.zip vs) m x=_;unfold Pj;show oG (i:=i) (List.nodup_cons.mp G).2 (by simpa using h1) (by simpa using h2) J
noncomputable def start (N:List Str) (vs:List V):St:=vs.map some++replicate (N.length-vs.length) none
noncomputable def xv (CX:wI) (P:J2) (w:Kd) (K:PySem.W.Frag) (mg:Str->Option Value) (base:Heap) (N:List Str) (G:Str) (scope:Nl) (f:Addr) (cd:Value) (A:Kk) (outer:List P1) (s:BY) (H:Hp) (E:XK):Cx where
 prog:=P
 w:=w
 K:=K
 mg:=mg
 base:=base
 A:=A.deeper (NX G scope s.heap.objs.size f cd)
 N:=N
 s₀:=s
 H₀:=H
 env:=NX G scope s.heap.objs.size f cd
 outer:=outer
 stack:=NX G scope s.heap.objs.size f cd::outer
 ex:=[]
 calm:=true
 fn:=λ_=>true
 pn:=[]
 xe:=λe s'=>wpAny (model P w) (A.deeper (NX G scope s.heap.objs.size f cd)) (leaving (NX G scope s.heap.objs.size f cd) e) (λ_ J=>CX outer H s E e J) (λL J=>CX outer H s E L J) s'
theorem rV {G:Nl}{n:Nat}{x:Str}(h:G.names.lookup x=some .cell):∃c,(PL n G.names []).lookup x=some c:=by
 have q:=PySem.W.cellsFrom_some G.names n [] (.inl h);show Option.isSome_iff_exists.mp q
theorem xF {CX:wI}{P:J2}{w:Kd}{K:PySem.W.Frag}{mg:Str->Option Value}{base:Heap}{N ps:List Str}{O:Str}{scope:Nl}{f:Addr}{cd:Value}{A:Kk}{outer:List P1}{s s1:BY}{H:Hp}{E:XK}{us:List Value}{vs:List V}
  (S:aC N ps scope) (hd:A.handled=none) (G:tH P w K mg base A outer s H) (hl:vs.length=ps.length) (r:Vals vs us)
  (x:InCallC s s.heap.objs.size (Ph (NX O scope s.heap.objs.size f cd).kindOf (ps.zip us) λ_=>none) (PL (s.heap.objs.size+1) scope.names []) (Pj (NX O scope s.heap.objs.size f cd).kindOf (ps.zip us) λ_=>none) s1) :
  Inv (xv CX P w K mg base N O scope f cd A outer s H E) [] (start N vs) H s1:=by
 have ab:ps.length<=N.length:=(by have:=congrArg List.length S.pre;rw[Kg]at this;omega);let#[h1,tk,rfl,hk]:=x.done;have U:∀b:Addr,b∉(xv CX P w K mg base N O scope f cd A outer s H E).ex:=λb z=>absurd (show b∈([]:List Addr)from z) (by simp);show#[#[G.mod,S.kind,1,J1 _,λy z c h1 h2=>?_,λy J=>?_,λy c _ h=>?_,λ_=>hd,Around.frames_deeper G.frames,.inr #[1],λb z=>absurd z (U b),G.bs,G.AK,λb _ _=>U b,λb z=>absurd z (U b),G.jY,G.CL],
  rfl,G.bare,Un.kept hk,#[_,x.toInCall.ns,λi y v h1 h2 h3=>?_],λy c h=>#[_,x.cell y c h],G.bG.fresh (J1 _),λy c h=>?_,λp L=>absurd (show p∈([]:List (Addr×Obj))from L) (by simp),G.bG.kept hk,?_]
 .show name_of_addr x.apart (PySem.mem_of_lookup h1) (PySem.mem_of_lookup h2)
 .have J:scope.names.lookup y=some .cell\/scope.names.lookup y=some .free:=J;rcases J with J|J
  .show rV J
  .show absurd rfl (S.Ee _ (PySem.mem_of_lookup J))
 .show Ow (x.above y c (PySem.mem_of_lookup h))
 .have hi:i<vs.length:=by
   unfold start at h2;by_cases hi:i<vs.length
   .show hi
   .rw[KR (by simpa using hi)]at h2;rw[List.getElem?_replicate]at h2;split at h2<;>cases h2
  have ha:vs[i]?=some v:=by
   unfold start at h2;rw[KU (by simpa using hi),J3]at h2;cases e:vs[i]? with
   |none=>rw[e]at h2;cases h2
   |some a=>rw[e]at h2;cases h2;rfl
  let#[u,hu,rv]:=r.get ha;have L:ps[i]?=some y:=by
   rw[<-S.pre,List.getElem?_take_of_lt ae];show h1
  have Y:ps.Nodup:=(by rw[<-S.pre];show S.nd.sublist (LW _ _));show#[u,rv,?_];rcases S.par y (J7 L)with k|k
  .show .inl #[k,oo Y L hu k]
  .let#[c,e]:=rV (n:=s.heap.objs.size+1) k;show .inr #[.inl k,c,e,?_];have q:=x.cell y c e;rw[oG Y L hu (by change scope.names.lookup y≠_;rw[k];decide)]at q;show q
 .show G.bG.fresh (Ow (x.above y c (PySem.mem_of_lookup h)))
 .unfold start;change _=N.length;rw[J9,DD,KN];omega
theorem Ha {CX:wI}{P:J2}{w:Kd}{K:PySem.W.Frag}{mg:Str->Option Value}{base:Heap}{k:Nat}{f:Addr}{name G:Str}{ab:Arguments}{body:List Ky}{scope:Nl}{dV kV ac pm L ct oc:Value}{an od:Option Addr}
  {aT:Array (Option Value)}{N ps:List Str}{sp:Sp}(lk:K.lookup f=some #[oc,od,.func (PU name G ab body scope dV kV ac pm an L ct),aT]) (a1:PV K L G=true) (S:aC N ps scope)
  (len:∀vs H Q E,sp vs H Q E->vs.length=ps.length)
  (as:∀(A:Kk) (outer:List P1) (s:BY) (H:Hp) (vs:List V) (Q:VK) (E:XK),dB k (A.deeper (NX G scope s.heap.objs.size f L))->sp vs H Q E ->
   ∃t,wR (xv CX P w K mg base N G scope f L A outer s H E) body t/\t { nx:=λ_ H'=>Q .non H',rt:=Q } (start N vs) H) :
  bh P w K mg base CX (k+1) f (PU name G ab body scope dV kV ac pm an L ct) ps sp:=by
 show#[len,λA outer s H args us vs Q E Y O hb r am=>?_];have hl:=len _ _ _ _ am;have KX:K.In s.heap:=O.mod.FL.keeps λb o e=>(O.bs b o e).1;have a0:s.heap.NoLimit:=O.mod.nolimit.keeps λb o e=>(O.bs b o e).1;have a2:∀y∈ps.zip us,scope.names.lookup y.1=some .local\/(scope.names.lookup y.1=some .cell/\((PL (s.heap.objs.size+1) scope.names []).lookup y.1).isSome=true):=λaB hy=>by
  let#[n,v]:=aB;rcases S.par n (Pk hy).1 with q|q
  .show .inl q
  .show .inr #[q,PySem.W.cellsFrom_some _ _ _ (.inl q)]
 show codeAny_call_function Y.depth (KX _ _ lk) rfl S.co S.gen rfl (PySem.W.codeRec_of KX a1) (hb _ _ _ _ ?_);show wpAny_newFunctionEnv_cells S.kind a2 λenv he s1 x=>?_;subst he;show#[a0.keeps x.toInCall.keep,codeAny_func ?_];let#[t,ht,hq]:=as A outer s H vs Q E (Y.deeper _) am;have I:Inv (xv CX P w K mg base N G scope f L A outer s H E) [] (start N vs) H s1:=xF S Y.hd O hl r x;show LU (ht [] s1 (start N vs) H _ I hq) (λfl s' hs=>?_) λe s' hs=>hs;have ap:∀{U:St}{H':Hp}{v:V}{u:Value},Inv (xv CX P w K mg base N G scope f L A outer s H E) [] U H' s'->RelV v u->Q v H'->CE outer P w H s Q u s' :=
  λ{U H' v u} J rv q=>#[v,H',J.os,J.bare,J.base,J.bG,rv,q]
 cases fl with
 |ret u =>
  let#[v,U,H',J,rv,q]:=hs;show ap J rv q
 |next =>
  let#[U,H',J,q]:=hs;show ap (v:=V.non) (u:=Value.none) J rfl q
 |brk =>
  let#[_,_,_,q]:=hs;show Lp q
 |cont =>
  let#[_,_,_,q]:=hs;show Lp q
section
variable {X:Cx}{x:Str}{p pos:Mj}{e:Kt}{es:List Kt}{t:TA}{id T:String}{r:List V->Hp->VK->Prop}
noncomputable def Jw (r:List V->Hp->VK->Prop) (t:TA):TE:=λσ H Q=>t σ H λvs H1=>r vs H1 Q
theorem aN (J:di X (.builtin id) r) (L:Gl X x) (hm:X.mg x=none) (hv:Kq x=some (.builtin id)) (ha:PA X (e::es) t) (O:x ≠ "__name__" := by decide) (Y:(x==("__debug__" : Str))=false:=by decide)
  (he:starEach (e::es) X.env=(false,eval e X.env)::starEach es X.env:=by rfl) (U:(backTo pos (starEach es X.env)).any (·.1)=false:=by rfl):PE X (.Call (.Name x p) (e::es) [] pos) (Jw r t):=by
 intro pins s σ H Q I h;show LK (iq I L hm hv ?_ O Y);show PyProof.Rows.callWith_builtin1 (bV (ha pos pins s σ H _ I h) λus s1 G=>by let#[vs,H1,I1,N,q1]:=G;show J pins s1 σ H1 vs us Q I1 N q1) he U
theorem bS (J:di X (.type T) r) (L:Gl X x) (hm:X.mg x=none) (hv:Kq x=some (.type T)) (ha:PA X (e::es) t) (N:x ≠ "__name__" := by decide) (Y:(x==("__debug__" : Str))=false:=by decide)
  (he:starEach (e::es) X.env=(false,eval e X.env)::starEach es X.env:=by rfl) (O:(backTo pos (starEach es X.env)).any (·.1)=false:=by rfl):PE X (.Call (.Name x p) (e::es) [] pos) (Jw r t):=by
 intro pins s σ H Q I h;show LK (iq I L hm hv ?_ N Y);show KS (bV (ha pos pins s σ H _ I h) λus s1 U=>by let#[vs,H1,I1,G,q1]:=U;show J pins s1 σ H1 vs us Q I1 G q1) he O
end
end L2
namespace HT
open PySem PyProof.Rows
section
open PySem.SeqAt
open PySem.AutoSeq1 (wpAny_loadPart')
open PySem.MeetsSeq PySem.MeetsSeq2 PySem.MeetsSeq3
end
section
variable {prog:J2}{w:Kd}{A:Kk}{E:Value->BY->Prop}{s:BY}
noncomputable def c6 (n d:Nat):Option Int->Nat
 |none=>d
 |some v=>if v<0 then(v+(n:Int)).toNat else min v.toNat n
theorem lE (n d k:Nat):c6 n d (some (k:Int))=min k n:=by
 change(if (k:Int)<0 then((k:Int)+(n:Int)).toNat else min (k:Int).toNat n)=min k n;rw[Qh ae,K6]
theorem DE (n d:Nat) (hd:d<=n) (o:Option Int):c6 n d o<=n:=by
 cases o with
 |none=>show hd
 |some v =>
  change(if v<0 then(v+(n:Int)).toNat else min v.toNat n)<=n;by_cases G:v<0
  .rw[Qi G];omega
  .rw[Qh G];show Nat.min_le_right _ _
theorem wx (v:Int) (n d:Nat):(if v<0 then max (v+(n:Int)) 0 else min v (n:Int))=((c6 n d (some v):Nat):Int):=by
 change(if v<0 then max (v+(n:Int)) 0 else min v (n:Int))=(((if v<0 then(v+(n:Int)).toNat else min v.toNat n):Nat):Int);by_cases G:v<0
 .simp only[Qi G];omega
 .simp only[Qh G];omega
theorem uY (lo hi:Option Int) (n:Nat):Builtin.Slice.sliceAdjust lo hi 1 (n:Int)=(((c6 n 0 lo:Nat):Int),((c6 n n hi:Nat):Int)):=by
 have h1:¬ ((1:Int)<0):=ae;unfold Builtin.Slice.sliceAdjust;simp only[h1,if_false];show OG ?_ ?_
 .cases lo with
  |none=>rfl
  |some v=>show wx v n 0
 .cases hi with
  |none=>rfl
  |some v=>show wx v n n
theorem vk (i j:Nat):Builtin.Slice.slicePlaces (i:Int) (j:Int) 1=j-i:=by
 unfold Builtin.Slice.slicePlaces;have h1:(1:Int)>0:=ae;simp only[h1,if_true,Int.ediv_one];split<;>omega
theorem mF {v:Value}{o:Option Int}{Q:Option Int->BY->Prop}(p:NM v o) (h:Q o s):wpAny (model prog w) A (Builtin.Slice.slicePartIndex v) Q E s:=by
 cases p with
 |none=>show slicePart_none h
 |int i t=>show slicePart_int h
theorem fZ {sl:Addr}{G N:Value}{lo hi:Option Int}{n:Nat}{Q:Int×Int×Nat->BY->Prop}(hs:s.heap.IsSliceOf sl G N .none) (pl:NM G lo) (O:NM N hi)
  (h:Q (((c6 n 0 lo:Nat):Int),1,c6 n n hi-c6 n 0 lo) s):wpAny (model prog w) A (Builtin.Slice.sliceApplied (.ref sl) (pure (n:Int))) Q E s:=by
 let#[os,L,U,J]:=id hs;unfold Builtin.Slice.sliceApplied Builtin.Slice.sliceFields;show By (By (OR L J (x:=G) rfl (By (OR L J (x:=N) rfl (By (OR L J (x:=.none) rfl (DO ?_)))))));show By (slicePart_none ?_);change wpAny _ _ (if ((1:Int)==0)=true then _ else _) _ _ s;rw[Qh ar];show By (mF pl (By (mF O (By (DO ?_)))));change wpAny _ _ (match Builtin.Slice.sliceAdjust lo hi 1 (n:Int)with|(lo,hi)=>pure (lo,(1:Int),Builtin.Slice.slicePlaces lo hi 1)) _ _ s;rw[uY lo hi n];change wpAny _ _ (pure (((c6 n 0 lo:Nat):Int),(1:Int),Builtin.Slice.slicePlaces ((c6 n 0 lo:Nat):Int) ((c6 n n hi:Nat):Int) 1)) _ _ s;rw[vk];show DO h
theorem yD (xs:Array Value) (i k:Nat):((List.range k).filterMap λ(m:Nat)=>xs[((i:Int)+(m:Int)*1).toNat]?).toArray=((xs.toList.drop i).take k).toArray:=by
 have e:(λ(m:Nat)=>xs[((i:Int)+(m:Int)*1).toNat]?)=λm=>xs[i+m]?:=by
  funext m;have:((i:Int)+(m:Int)*1).toNat=i+m:=ae;rw[this]
 rw[e];have:=pick_run xs i k;rw[List.filterMap_map]at this;have G:((λx=>xs[x]?)∘λx=>i+x)=λm=>xs[i+m]?:=rfl;rw[G]at this;rw[this]
theorem jQ {t sl:Addr}{items:Array Value}{L N:Value}{lo hi:Option Int}{Q:Value->BY->Prop}(G:IsTup s.heap t items) (hs:s.heap.IsSliceOf sl L N .none) (pl:NM L lo) (O:NM N hi)
  (hw:¬ (c6 items.size 0 lo=0/\c6 items.size items.size hi=items.size))
  (h:Q (.ref s.heap.objs.size) { s with heap:=s.heap.push { cls:=.type "tuple",data:=.seq ((items.toList.drop (c6 items.size 0 lo)).take (c6 items.size items.size hi-c6 items.size 0 lo)).toArray } })
  (hsz:items.size<=sizeLine):wpAny (model prog w) A (MD (.ref t) (.ref sl)) Q E s:=by
 have J:sizeOk (.seq ((items.toList.drop (c6 items.size 0 lo)).take (c6 items.size items.size hi-c6 items.size 0 lo)).toArray):=by
  change((items.toList.drop (c6 items.size 0 lo)).take (c6 items.size items.size hi-c6 items.size 0 lo)).toArray.size<=sizeLine;rw[IF,Kg,Lr,Ld];omega
 have hj:c6 items.size items.size hi<=items.size:=DE _ _ (J1 _) hi;let#[os,U,ac,am]:=id hs;have Y:s.TypeIs (.ref sl) "slice" := #[os,U,ac];unfold MD
 try with_reducible show K5 ?_
 first|show By (DO ?_)|skip
 show By (OH G.typeIs ar ?_);show By (Mg (name:=Str.ofString "__getitem__") G.typeIs KI
  (Lq KI G.typeIs entry_tuple_getitem ?_ (Om _ _)))
 change wpAny _ _ (Builtin.Tuple.tupleItemsOf (.ref t)>>=_) _ _ s;show By (tupleItemsOf_ G ?_);show By (MW Y ?_);rw[Qi ar];show By (fZ hs pl O ?_);have ab:¬ ((((c6 items.size 0 lo:Nat):Int)==0&&(1:Int)==1&&(c6 items.size items.size hi-c6 items.size 0 lo)==items.size)=true):=by
  intro q;rw[My,My]at q;have q1:((c6 items.size 0 lo:Nat):Int)=0:=eq_of_beq q.1.1;have q2:c6 items.size items.size hi-c6 items.size 0 lo=items.size:=eq_of_beq q.2;show hw #[ae,ae]
 change wpAny _ _ (if (((c6 items.size 0 lo:Nat):Int)==0&&(1:Int)==1&&(c6 items.size items.size hi-c6 items.size 0 lo)==items.size)=true then _ else _) _ _ s;rw[Qh ab,yD]
 first
  |show By (m:=Builtin.Tuple.tupleExact _) (K4 (DO #[0,DO h]) J)
  |show By (m:=Builtin.Tuple.tupleExact _) (K4 (By (DO (DO #[0,DO h]))) J)
  |show By (By (m:=Builtin.Tuple.tupleExact _) (K4 (DO (DO #[0,DO h])) J))
  |show By (By (m:=Builtin.Tuple.tupleExact _) (K4 (DO #[0,DO h]) J))
end
end HT
namespace L2
open PySem PySem.Spec PyProof.Rows
noncomputable abbrev TO:=St->Hp->(Option Int->Hp->Prop)->Prop
noncomputable def PO (X:Cx) (e:Option Kt) (t:TO):Prop :=
 ∀(pins:List (Addr×Obj)) (s:BY) (σ:St) (H:Hp) (Q:Option Int->Hp->Prop),Inv X pins σ H s->t σ H Q ->
  wpAny (model X.prog X.w) X.A (evalPart e X.env) (λu s'=>∃o H',Inv X pins σ H' s'/\NM u o/\Q o H') X.xe s
noncomputable def Cj:TO:=λ_ H Q=>Q none H
noncomputable def Fy (t:TE):TO:=λσ H Q=>t σ H λx H1=>∃i,x=.int i/\Q (some i) H1
theorem intsAre_of {ns:List Int}:∀{us:List Value},Vals (ns.map V.int) us->LX us ns:=by
 induction ns with
 |nil=>intro us r;rw[OX]at r;cases r;show .nil
 |cons n ns L =>
  intro us r;rw[Lm]at r;cases r with
  |cons G J =>
   let#[t,e]:=G;subst e;show .cons n t (L J)
section
variable {X:Cx}{e:Kt}{te:TE}{lo hi:Option Kt}{tl th:TO}{pos p2:Mj}
theorem fE:PO X none Cj:=by
 intro pins s σ H Q I h;rw[evalPart_none];show DO #[none,H,I,.none,h]
theorem cX (h:PE X e te):PO X (some e) (Fy te):=by
 intro pins s σ H Q I O;rw[evalPart_some];show bV (h pins s σ H _ I O) λu U J=>?_;let#[x,H1,L,G,N]:=J;let#[i,rfl,q]:=N;let#[t,rfl]:=G;show#[some i,H1,L,.int i t,q]
noncomputable def Gu (X:Cx) (r:V->Option Int->Option Int->Hp->VK->Prop):Prop :=
 ∀(pins:List (Addr×Obj)) (s:BY) (σ:St) (H:Hp) (x:V) (v G J:Value) (lo hi:Option Int) (sl:Addr) (Q:VK),Inv X pins σ H s->RelV x v->s.heap.IsSliceOf sl G J .none->NM G lo->NM J hi->r x lo hi H Q ->
  ∃T id,typeLookup (.type T) "__getitem__" = pure (some (.builtin id))/\s.TypeIs v T/\wpAny (model X.prog X.w) X.A (MD v (.ref sl)) (EP X pins σ Q) X.xe s
noncomputable def JS (r:V->Option Int->Option Int->Hp->VK->Prop) (te:TE) (tl th:TO):TE:=λσ H Q=>te σ H λx H1=>tl σ H1 λl H2=>th σ H2 λu H3=>r x l u H3 Q
theorem de {r:V->Option Int->Option Int->Hp->VK->Prop}(hr:Gu X r) (he:PE X e te) (O:PO X lo tl) (hu:PO X hi th):PE X (.Subscript e (.Slice lo hi none p2) pos) (JS r te tl th):=by
 intro pins s σ H Q I h;show Pl (bV (he pins s σ H _ I h) λv s1 ab=>?_);let#[x,H1,I1,L,q1]:=ab;show wpAny_Slice (bV (O pins s1 σ H1 _ I1 q1) λG s2 ac=>?_);let#[l,H2,I2,pl,Y]:=ac;show bV (hu pins s2 σ H2 _ I2 Y) λJ s3 am=>?_;let#[u,H3,I3,pu,U]:=am;rw[evalPart_none];show DO ?_;have I4:Inv X pins σ H3 { s3 with heap:=s3.heap.push { cls:=.type "slice",data:=.fields ([G,J,.none].toArray) } }:=I3.kept (t':=s3.toks) λb ob q=>Heap.get?_push_of_some _ q;let#[T,id,hT,ht,N]:=hr pins { s3 with heap:=s3.heap.push { cls:=.type "slice",data:=.fields ([G,J,.none].toArray) } } σ H3 x v G J l u s3.heap.objs.size Q I4 L (Heap.IsSliceOf.new ..) pl pu U;change wpAny (model X.prog X.w) X.A (Oc e (.Slice lo hi none p2) v (.ref s3.heap.objs.size)) (EP X pins σ Q) X.xe { s3 with heap:=s3.heap.push { cls:=.type "slice",data:=.fields ([G,J,.none].toArray) } };show tail_any (ops:=[.ref s3.heap.objs.size,v]) ht hT N (by with_unfolding_all rfl)
noncomputable def fA (xs:List V) (lo hi:Option Int):List V:=(xs.drop (HT.c6 xs.length 0 lo)).take (HT.c6 xs.length xs.length hi-HT.c6 xs.length 0 lo)
theorem kM (xs:List V) (lo hi:Option Int):(fA xs lo hi).length<=xs.length:=by
 unfold fA;rw[Kg,Lr];omega
inductive Gj (K:PySem.W.Frag) (x:V) (lo:Option Int) (hi:Option Int) (H:Hp) (Q:VK):Prop
 |mk (a:_) (xs:_) (_:x=.ref a) (_:cg K H a xs) (_:¬ (HT.c6 xs.length 0 lo=0/\HT.c6 xs.length xs.length hi=xs.length)) (_:∀p,H p=none->Q (.ref p) (upd H p (.tup (fA xs lo hi)))):Gj K x lo hi H Q
theorem EX:Gu X (Gj X.K):=by
 intro pins s σ H x v vl vu lo hi sl Q I N hs pl O h;let#[a,xs,rfl,U,Y,q]:=h;cases N;let#[its,r,J,L]:=I.tuple U;have G:its.toArray.size=xs.length:=(by rw[IF];show r.length.symm);show#["tuple",_,KI.lookup,J.typeIs,?_];show HT.jQ J hs pl O (by rw[G];show Y) ?_ (by rw[G];show L);rw[G];show#[.ref s.heap.objs.size,_,I.laid (t':=s.toks) (o:=.tup (fA xs lo hi)) (λb ob q=>Heap.get?_push_of_some _ q) (J1 _) ?_,rfl,q _ (I.bG.fresh (J1 _))];show#[Ko (kM xs lo hi) L,_,(r.drop (HT.c6 xs.length 0 lo)).take (HT.c6 xs.length xs.length hi-HT.c6 xs.length 0 lo),PJ _ _]
end
noncomputable def vS (n:Nat) (i:Int):Option Nat:=if 0<=i then(if i<n then some i.toNat else none)else if -(n:Int)<=i then some (i+n).toNat else none
noncomputable def yE {α:Type}(xs:List α) (i:Int):Option α:=(vS xs.length i).bind λj=>xs[j]?
theorem wd {n:Nat}{i:Int}{j:Nat}(h:vS n i=some j):PM i n=some j/\j<n /\ -(n:Int)<=i/\i<n:=by
 unfold vS at h;by_cases G:0<=i
 .rw[Qi G]at h;by_cases h1:i<n
  .rw[Qi h1]at h;have e:i.toNat=j:=Option.some.inj h;show#[by rw[Nq G h1,e],ae,ae,h1]
  .rw[Qh h1]at h;cases h
 .rw[Qh G]at h;by_cases h1 : -(n:Int)<=i
  .rw[Qi h1]at h;have e:(i+n).toNat=j:=Option.some.inj h;show#[by rw[seqIndex_neg ae h1,e],ae,h1,ae]
  .rw[Qh h1]at h;cases h
theorem p7 {α:Type}{xs:List α}{i:Int}{v:α}(h:yE xs i=some v):∃j,PM i xs.length=some j/\xs[j]?=some v/\j<xs.length /\ -(xs.length:Int)<=i/\i<xs.length:=by
 unfold yE at h;cases e:vS xs.length i with
 |none=>rw[e]at h;cases h
 |some j =>
  rw[e]at h;let#[h1,h2,J,G]:=wd e;show#[j,h1,h,h2,J,G]
theorem jI {α:Type}{xs:List α}{j:Nat}{v:α}(h:xs[j]?=some v):yE xs (j:Int)=some v:=by
 have G:j<xs.length:=(List.getElem?_eq_some_iff.mp h).1;have e:vS xs.length (j:Int)=some j:=by
  unfold vS;rw[Qi ae,Qi ae];simp
 unfold yE;rw[e];show h
noncomputable def AS (b:Kt):Prop:=∀o i,NY b false o i=operate [o,i] (MD o i)
noncomputable def Hm (X:Cx) (r:R2):Prop :=
 ∀(value G:Kt) (pins:List (Addr×Obj)) (s:BY) (σ:St) (H:Hp) (x y:V) (v u:Value) (Q:VK),Inv X pins σ H s->RelV x v->RelV y u->r x y H Q ->
  NY G false v u=operate [v,u] (MD v u)->wpAny (model X.prog X.w) X.A (Oc value G v u) (EP X pins σ Q) X.xe s
noncomputable def JF (X:Cx) (id:String) (r:V->List V->Hp->VK->Prop):Prop :=
 ∀(pins:List (Addr×Obj)) (s:BY) (σ:St) (H:Hp) (x:V) (xs:List V) (v:Value) (us:List Value) (Q:VK),Inv X pins σ H s->RelV x v->Vals xs us->r x xs H Q ->
  wpAny (model X.prog X.w) X.A (call (.builtin id) (v::us)) (EP X pins σ Q) X.xe s
section
variable {X:Cx}{a b:Kt}{ta tb:TE}{pos:Mj}
theorem a8 {r:R2}(U:Hm X r) (O:PE X a ta) (G:PE X b tb) (hs:AS b):PE X (.Subscript a b pos) (E6 r ta tb):=by
 intro pins s σ H Q I h;show Pl (EH O G I h λv u s2 x y H2 N J L q=>U a b pins s2 σ H2 x y v u Q N J L q (hs _ _))
inductive Cg (K:PySem.W.Frag) (x:V) (y:V) (H:Hp) (Q:VK):Prop
 |mk (p:_) (xs:_) (i:_) (v:_) (_:x=.ref p) (_:y=.int i) (_:bB K H p xs) (_:yE xs i=some v) (_:Q v H):Cg K x y H Q
inductive Dc (K:PySem.W.Frag) (x:V) (y:V) (H:Hp) (Q:VK):Prop
 |mk (p:_) (xs:_) (i:_) (v:_) (_:x=.ref p) (_:y=.int i) (_:cg K H p xs) (_:yE xs i=some v) (_:Q v H):Dc K x y H Q
theorem cG:Hm X (Cg X.K):=by
 intro value ab pins s σ H x y v u Q I rx ry h hs;let#[p,xs,i,z,rfl,rfl,hq,he,q]:=h;cases rx;let#[t,rfl]:=ry;let#[its,r,pl,hz]:=I.list hq;let#[j,h1,h2,h3,h4,U]:=p7 he;let#[w,J,Y]:=r.get h2;have O:=r.length;have hn:=mR;have L:EP X pins σ Q w s:=#[z,H,I,Y,q];by_cases N:0<=i
 .have G:i.toNat=j:=by
   rw[Nq N U]at h1;show Option.some.inj h1
  show item_listR pl.isList N ae (by rw[G];simpa using J) L hs
 .have G:(i+(its.toArray.size:Int)).toNat=j:=by
   rw[seqIndex_neg ae h4]at h1;rw[IF, <-O];show Option.some.inj h1
  show NN (x:=w) pl.isList.typeIs slot_list_getitem.lookup
   (NO (Q:=λr s'=>r=w/\EP X pins σ Q r s') pl.isList ae (by rw[IF]<;>omega) ae (by rw[G];simpa using J) #[rfl,L]) hs
theorem a9:Hm X (Dc X.K):=by
 intro value ac pins s σ H x y v u Q I U Y h hs;let#[p,xs,i,z,rfl,rfl,N,O,q]:=h;cases U;let#[t,rfl]:=Y;let#[its,r,pl,hz]:=I.tuple N;let#[j,h1,h2,h3,h4,h5]:=p7 O;let#[w,J,L]:=r.get h2;have G:=r.length;have hn:=mR;have ab:EP X pins σ Q w s:=#[z,H,I,L,q];show NN (x:=w) pl.typeIs slot_tuple_getitem.lookup
  (getItem_tuple (j:=j) (Q:=λr s'=>r=w/\EP X pins σ Q r s') pl ae ae (by rw[IF, <-G];show h1) (by simpa using J) #[rfl,ab]) hs
theorem uJ (its:List Value) (n j:Nat) (u:Value):Obj.mapSeq (·.setIfInBounds j u) { cls:=.type "list",data:=.seq its.toArray n }={ cls:=.type "list",data:=.seq (its.set j u).toArray n }:=by
 simp[Obj.mapSeq]
theorem Inv.lst {pins:List (Addr×Obj)}{σ:St}{H:Hp}{s:BY}{p:Addr}{xs:List V}(I:Inv X pins σ H s) (h:H p=some (.lst xs)) :
  ∃(its:List Value) (n:Nat),Vals xs its/\s.heap.get? p=some { cls:=.type "list",data:=.seq its.toArray n }/\xs.length<=sizeLine:=by
 let#[z,its,n,r,e]:=I.bG p _ h;show#[its,n,r,e,z]
theorem Inv.D8 {pins:List (Addr×Obj)}{σ:St}{H:Hp}{s:BY}{p:Addr}{xs ys:List V}{its its':List Value}{n G:Nat}{f:Obj->Obj}(I:Inv X pins σ H s) (h:H p=some (.lst xs))
  (O:s.heap.get? p=some { cls:=.type "list",data:=.seq its.toArray n }) (J:f { cls:=.type "list",data:=.seq its.toArray n }={ cls:=.type "list",data:=.seq its'.toArray G }) (r:Vals ys its') (N:ys.length<=sizeLine) (t:Nat) :
  Inv X pins σ (upd H p (.lst ys)) { s with heap:=s.heap.update p f,toks:=t }:=by
 have e:(s.heap.update p f).get? p=some { cls:=.type "list",data:=.seq its'.toArray G }:=by
  rw[Heap.get?_update_self f O (by rw[J]<;>rfl),J]
 show I.write (x:=p) (e:=p) (by rw[h];trivial) (.inl rfl) (λb u L q=>(Heap.get?_update_other _ _ (JZ L)).trans q) #[_,e] ?_;show#[N,its',G,r,e]
inductive CK (o:V) (i:V) (v:V) (H:Hp) (Q:(Hp->Prop)):Prop
 |mk (p:_) (xs:_) (k:_) (j:_) (_:o=.ref p) (_:i=.int k) (_:H p=some (.lst xs)) (_:vS xs.length k=some j) (_:Q (upd H p (.lst (xs.set j v)))):CK o i v H Q
theorem set_list:Bl X CK:=by
 intro pins s σ H o i v ov iv u Q I ro ri rv h;let#[p,xs,k,j,rfl,rfl,U,hj,q]:=h;cases ro;let#[t,rfl]:=ri;let#[its,n,r,L,hz]:=I.lst U;let#[h1,h2,O,N]:=wd hj;have G:=r.length;have hn:=mR;have Y:Inv X pins σ (upd H p (.lst (xs.set j v))) { s with heap:=s.heap.update p (Obj.mapSeq (·.setIfInBounds j u)) }:=
  I.D8 U L (uJ its n j u) (r.set rv j) (by rw[KG];show hz) s.toks
 by_cases h0:0<=k
 .have J:k.toNat=j:=by
   rw[Nq h0 N]at h1;show Option.some.inj h1
  show PySem.W.ki_setAt L h0 ae (by rw[IF, <-G];show N) (by rw[J];show#[_,Y,q])
 .have J:(k+(its.toArray.size:Int)).toNat=j:=by
   rw[seqIndex_neg ae O]at h1;rw[IF, <-G];show Option.some.inj h1
  show PySem.W.ki_setBack L ae (by rw[IF, <-G];show O) ae (by rw[J];show#[_,Y,q])
theorem pV (lo hi:Option Int) (n:Nat):(Mh lo hi none n).1=((HT.c6 n 0 lo:Nat):Int)/\(Mh lo hi none n).2.1=((HT.c6 n n hi:Nat):Int)/\(Mh lo hi none n).2.2=1:=by
 show#[3,rfl]
 .cases lo with
  |none=>simp[Mh,HT.c6]
  |some i =>
   simp only[Mh,HT.c6,getD_none,show(1:Int)>0 by decide,if_true];by_cases h:i<0
   .simp only[h,if_true]<;>omega
   .simp only[h,if_false]<;>omega
 .cases hi with
  |none=>simp[Mh,HT.c6]
  |some i =>
   simp only[Mh,HT.c6,getD_none,show(1:Int)>0 by decide,if_true];by_cases h:i<0
   .simp only[h,if_true]<;>omega
   .simp only[h,if_false]<;>omega
theorem ny (its:List Value) (lo hi:Option Int):slicePick its.toArray lo hi none=((its.drop (HT.c6 its.length 0 lo)).take (HT.c6 its.length its.length hi-HT.c6 its.length 0 lo)).toArray:=by
 let#[h1,h2,G]:=pV lo hi its.toArray.size;unfold slicePick;rw[h1,h2,G];simp only[sliceRange_one,pick_run,IF]<;>rfl
inductive DJ (K:PySem.W.Frag) (x:V) (lo:Option Int) (hi:Option Int) (H:Hp) (Q:VK):Prop
 |mk (a:_) (xs:_) (_:x=.ref a) (_:bB K H a xs) (_:∀p,H p=none->Q (.ref p) (upd H p (.lst (fA xs lo hi)))):DJ K x lo hi H Q
theorem gz:Gu X (DJ X.K):=by
 intro pins s σ H x v Y vu lo hi sl Q I J hs pl L h;let#[a,xs,rfl,N,q]:=h;cases J;let#[its,r,G,U]:=I.list N;have O:=r.length;show#["list",_,slot_list_getitem.lookup,G.isList.typeIs,?_];show wpAny_getItem_list_slice G.isList hs pl L .none (by simp) ?_ (by rw[IF]<;>omega);rw[ny, <-O];show#[.ref s.heap.objs.size,_,I.laid (t':=s.toks) (o:=.lst (fA xs lo hi)) (λb ob q=>Heap.get?_push_of_some _ q) (J1 _) ?_,rfl,q _ (I.bG.fresh (J1 _))];show#[Ko (kM xs lo hi) U,_,(0),(r.drop (HT.c6 xs.length 0 lo)).take (HT.c6 xs.length xs.length hi-HT.c6 xs.length 0 lo),Heap.get?_push_size _ rfl]
noncomputable def dv:V->Bool
 |.non=>true
 |.bl _=>true
 |.int _=>true
 |.str _=>true
 |_=>false
noncomputable def kO:V->V->Bool
 |.non,.non=>true
 |.bl a,.bl b=>a==b
 |.bl a,.int b=>(if a then 1 else 0)==b
 |.int a,.bl b=>a==(if b then 1 else 0)
 |.int a,.int b=>a==b
 |.str a,.str b=>a==b
 |_,_=>false
theorem lV {A:Kk}{s:BY}{y x:V}{u v:Value}(L:RelV y u) (G:RelV x v) (N:dv y=true) (J:dv x=true):Nd A s u v (kO y x):=by
 cases y with
 |non =>
  cases L;cases x with
  |non=>cases G;show SeqAt.EqAt.same _
  |bl b=>cases G;show SeqAt.EqAt.none_bool b
  |int b=>let#[t,rfl]:=G;show SeqAt.EqAt.none_int b t
  |str b=>let#[t,rfl]:=G;show SeqAt.EqAt.none_str b t
  |_=>show absurd (show false=true from J) J8
 |bl a =>
  cases L;cases x with
  |non=>cases G;show SeqAt.EqAt.bool_none a
  |bl b=>cases G;show SeqAt.EqAt.bool_bool a b
  |int b=>let#[t,rfl]:=G;show SeqAt.EqAt.bool_int a b t
  |str b=>let#[t,rfl]:=G;show SeqAt.EqAt.bool_str a b t
  |_=>show absurd (show false=true from J) J8
 |int a =>
  let#[t',rfl]:=L;cases x with
  |non=>cases G;show SeqAt.EqAt.int_none a t'
  |bl b=>cases G;show SeqAt.EqAt.int_bool a t' b
  |int b=>let#[t,rfl]:=G;show SeqAt.EqAt.int_int a t' b t
  |str b=>let#[t,rfl]:=G;show Of a t' b t
  |_=>show absurd (show false=true from J) J8
 |str a =>
  let#[t',rfl]:=L;cases x with
  |non=>cases G;show SeqAt.EqAt.str_none a t'
  |bl b=>cases G;show SeqAt.EqAt.str_bool a t' b
  |int b=>let#[t,rfl]:=G;show Og a t' b t
  |str b=>let#[t,rfl]:=G;show SeqAt.EqAt.str_str a t' b t
  |_=>show absurd (show false=true from J) J8
 |_=>show absurd (show false=true from N) J8
noncomputable def uC (x:V) (u:Value):Bool:=match u with
 |.none=>kO .non x
 |.bool b=>kO (.bl b) x
 |.int i _=>kO (.int i) x
 |.str z _=>kO (.str z) x
 |_=>false
theorem yY {x y:V}{u:Value}(r:RelV y u) (f:dv y=true):uC x u=kO y x:=by
 cases y with
 |non=>cases r;rfl
 |bl b=>cases r;rfl
 |int i=>let#[t,rfl]:=r;rfl
 |str z=>let#[t,rfl]:=r;rfl
 |_=>show absurd (show false=true from f) J8
theorem jE {x:V}:∀{xs:List V}{us:List Value},Vals xs us->xs.all dv=true->us.any (uC x)=xs.any λy=>kO y x
 |_,_,.nil,_=>rfl
 |y::xs,u::us,.cons r t,f=>by
  rw[all_cons,My]at f;rw[NZ,NZ,yY r f.1,jE t f.2]
theorem gY {A:Kk}{s:BY}{x:V}{v:Value}(L:RelV x v) (J:dv x=true):∀{xs:List V}{us:List Value},Vals xs us->xs.all dv=true->∀u∈us,Nd A s u v (uC x u)
 |_,_,.nil,_=>λu G=>by cases G
 |y::xs,u::us,.cons r t,f=>λN G=>by
  rw[all_cons,My]at f;rcases List.mem_cons.mp G with rfl|G
  .rw[yY r f.1];show lV r L f.1 J
  .show gY L J t f.2 N G
noncomputable def Eg (x:V) (xs:List V):Bool:=xs.any λy=>kO y x
inductive IC (K:PySem.W.Frag) (neg:Bool) (x:V) (y:V) (H:Hp) (Q:VK):Prop
 |mk (p:_) (xs:_) (_:y=.ref p) (_:(bB K H p xs\/cg K H p xs)) (_:dv x=true) (_:xs.all dv=true) (_:Q (.bl (if neg then !Eg x xs else Eg x xs)) H):IC K neg x y H Q
theorem yj:kW X (Lo .In) (IC X.K false):=by
 intro pins s σ H x y v u Q I N O h;let#[p,xs,rfl,G,L,fs,q]:=h;cases O;rcases G with G|G
 .let#[its,r,pl,U]:=I.list G;show SeqAt.in_listAt (uC x) pl.isList (λw J=>gY N L r fs w (by simpa using J)) #[.bl _,H,I,4];rw[show its.toArray.any (uC x)=its.any (uC x)by simp,jE r fs];show q
 .let#[its,r,pl,U]:=I.tuple G;show SeqAt.in_tupleAt (uC x) pl (λw J=>gY N L r fs w (by simpa using J)) #[.bl _,H,I,4];rw[show its.toArray.any (uC x)=its.any (uC x)by simp,jE r fs];show q
theorem jA:kW X (Lo .NotIn) (IC X.K true):=by
 intro pins s σ H x y v u Q I N O h;let#[p,xs,rfl,G,L,fs,q]:=h;cases O;rcases G with G|G
 .let#[its,r,pl,U]:=I.list G;show SeqAt.notIn_listAt (uC x) pl.isList (λw J=>gY N L r fs w (by simpa using J)) #[.bl _,H,I,4];rw[show its.toArray.any (uC x)=its.any (uC x)by simp,jE r fs];show q
 .let#[its,r,pl,U]:=I.tuple G;show SeqAt.notIn_tupleAt (uC x) pl (λw J=>gY N L r fs w (by simpa using J)) #[.bl _,H,I,4];rw[show its.toArray.any (uC x)=its.any (uC x)by simp,jE r fs];show q
theorem bF:di X (.builtin "len") (λxs H Q=>∃p ys,xs=[.ref p]/\(bB X.K H p ys\/cg X.K H p ys)/\Q (.int ys.length) H):=by
 intro pins s σ H xs us Q I r h;let#[p,ys,rfl,G,q]:=h;let#[u,rfl,N]:=vals1 r;cases N;have U:=mR;rcases G with G|G
 .let#[its,J,pl,O]:=I.list G;have L:=J.length;show Calls.call_len_list pl.isList (by simp only[IF]<;>omega) #[.int ys.length,H,I.tok _,#[s.toks+1,by rw[IF,L]],q]
 .let#[its,J,pl,O]:=I.tuple G;have L:=J.length;show len_tuple pl (by simp only[IF]<;>omega) #[.int ys.length,H,I.tok _,#[s.toks+1,by rw[IF,L]],q]
theorem dJ:di X (.type "list") (λxs H Q=>∃p ys,xs=[.ref p]/\(bB X.K H p ys\/cg X.K H p ys)/\∀l,H l=none->Q (.ref l) (upd H l (.lst ys))):=by
 intro pins s σ H xs us Q I r h;let#[p,ys,rfl,O,q]:=h;let#[u,rfl,rx]:=vals1 r;cases rx;have ab:∀(its:List Value),Vals ys its->ys.length<=sizeLine->∀(h':Heap) (J:Nat),(∀b o',s.heap.get? b=some o'->h'.get? b=some o') ->
   h'.get? s.heap.objs.size=some { cls:=.type "list",dict:=none,data:=.seq its.toArray J,slots := ([].toArray) }->EP X pins σ Q (.ref s.heap.objs.size) { s with heap:=h' }:=λits G L h' J N e =>
  #[.ref s.heap.objs.size,_,I.laid (t':=s.toks) N (J1 _) (show bR X.prog X.w _ h' _ (.lst ys)from#[L,its,J,G,e]),rfl,q _ (I.bG.fresh (J1 _))]
 rcases O with O|O
 .let#[its,G,pl,L]:=I.list O;have ac:=G.length;let#[o,U,Y,n,hd]:=pl.isList;show call_list_seq p (.inl rfl) U Y hd (λh' J N e=>ab its G L h' J N e) (by simp only[IF]<;>omega)
 .let#[its,G,pl,L]:=I.tuple O;have ac:=G.length;let#[o,U,Y,n,hd]:=pl;show call_list_seq p (.inr rfl) U Y hd (λh' J N e=>ab its G L h' J N e) (by simp only[IF]<;>omega)
theorem nE:di X (.type "tuple") (λxs H Q=>∃p ys,xs=[.ref p]/\((bB X.K H p ys/\∀l,H l=none->Q (.ref l) (upd H l (.tup ys)))\/(cg X.K H p ys/\Q (.ref p) H))):=by
 intro pins s σ H xs us Q I r h;let#[p,ys,rfl,h]:=h;let#[u,rfl,O]:=vals1 r;cases O;rcases h with⟨G,q⟩|⟨G,q⟩
 .let#[its,J,pl,N]:=I.list G;have ab:=J.length;show call_tuple_list pl.isList (λh' U=>?_) (by simp only[IF]<;>omega);have L:Inv X pins σ H { s with heap:=h' }:=I.kept (t':=s.toks) U;have Y:Inv X pins σ (upd H h'.objs.size (.tup ys)) { s with heap:=h'.push { cls:=.type "tuple",data:=.seq its.toArray } }:=
   L.laid (t':=s.toks) (λb o e=>Heap.get?_push_of_some _ e) (J1 _) (show bR X.prog X.w _ _ _ (.tup ys)from#[N,its,J,PJ _ _])
  show#[.ref h'.objs.size,_,Y,rfl,q _ (L.bG.fresh (J1 _))]
 .let#[its,J,pl,N]:=I.tuple G;show call_tuple_same pl #[.ref p,H,I,rfl,q]
noncomputable def Jv (K:PySem.W.Frag) (T:String) (x:V) (H:Hp):Prop:=match x with
 |.str _=>T = "str"
 |.int _=>T = "int"
 |.ref p=>(T = "list" /\ ∃xs,bB K H p xs)\/(T = "tuple" /\ ∃o,K.lookup p=some o/\o.cls=.type "tuple" /\ o.dict=none) \/
   (T = "dict" /\ ((∃kvs,H p=some (.dK kvs))\/∃kvs,H p=some (.dT kvs)))\/(T = "set" /\ ∃S n,H p=some (.set S n))
 |_=>False
theorem EL {pins:List (Addr×Obj)}{σ:St}{H:Hp}{s:BY}{T:String}{x:V}{v:Value}(I:Inv X pins σ H s) (r:RelV x v) (ty:Jv X.K T x H) :
  s.TypeIs v T/\∀a,v=.ref a->∃ob,s.heap.get? a=some ob/\ob.dict=none:=by
 cases x with
 |str z =>
  let#[t,rfl]:=r;cases(show T = "str" from ty);show#[typeIs_str s z t,λ_ e=>nomatch e]
 |int i =>
  let#[t,rfl]:=r;cases(show T = "int" from ty);show#[Pm s i t,λ_ e=>nomatch e]
 |ref p =>
  cases r;rcases ty with⟨rfl,xs,N⟩|⟨rfl,o,G,L,hd⟩|⟨rfl,G⟩|⟨rfl,S,n,G⟩
  .let#[its,_,pl,_]:=I.list N;show#[pl.isList.typeIs,λa e=>?_];cases e;let#[o,n,e,c,hd,_]:=pl;show#[o,e,hd]
  .show#[#[o,I.kj p o G,L],λa e=>?_];cases e;show#[o,I.kj _ o G,hd]
  .have z:∃o,s.heap.get? p=some o/\o.ExactDict:=by
    rcases G with⟨kvs,G⟩|⟨kvs,G⟩
    .let#[_,_,_,_,o,_,_,e,ex,_]:=I.bG p _ G;show#[o,e,ex]
    .let#[_,_,_,_,o,_,_,e,ex,_]:=I.bG p _ G;show#[o,e,ex]
   let#[o,e,ex]:=z;show#[#[o,e,ex.1],λa J=>?_];cases J;show#[o,e,ex.2.1]
  .let#[o,_,_,_,e,ex,_]:=I.bG p _ G;show#[#[o,e,ex.1],λa J=>?_];cases J;show#[o,e,ex.2.1]
 |_=>show Lp ty
noncomputable def JU (K:PySem.W.Frag) (T:String) (r:V->List V->Hp->VK->Prop) (to:TE) (t:TA):TE:=λσ H Q=>to σ H λx H1=>Jv K T x H1/\t σ H1 λxs H2=>r x xs H2 Q
variable {o e:Kt}{es:List Kt}{to:TE}{t:TA}{name:Str}{apos cpos:Mj}{T id:String}{r:V->List V->Hp->VK->Prop}
theorem gR (U:PlainAttrs T) (slot:Slot T name id) (am:typeOf (.builtin id)=pure (.type "method_descriptor")) (hm:JF X id r) (ho:PE X o to) (Y:PA X (e::es) t)
  (ab:LR o name X.env (eval o X.env)=eval o X.env:=by rfl)
  (ap:((backTo cpos (starEach (e::es) X.env)).all (λx => !x.1)&&(NA cpos (Mf [] X.env)).all (λx=>x.1.isSome)
   && decide ((e::es).length+([]:List N7).length+(if ([]:List N7).isEmpty then 0 else 1)<30))=true:=by rfl)
  (ac:(apos.endLine==cpos.line)=true:=by rfl) (hs:starEach (e::es) X.env=(false,eval e X.env)::starEach es X.env:=by rfl) (aT:(backTo cpos (starEach es X.env)).any (·.1)=false:=by rfl) :
  PE X (.Call (.Attribute o name apos) (e::es) [] cpos) (JU X.K T r to t):=by
 intro pins s σ H Q I h;show wpAny_Call_method_late ab ap ac rfl (bV (ho pins s σ H _ I h) λv s1 aB=>?_);let#[x,H1,L,G,ty,q1]:=aB;let#[h1,h2]:=EL L G ty;show#[T,id,U,slot,am,h1,h2,?_];have J:=Y cpos pins s1 σ H1 _ L q1;rw[hs]at J ⊢;show Calls.callWith_builtin (by change(false||(backTo cpos (starEach es X.env)).any (·.1))=false;rw[aT]<;>rfl) (Calls.evalArgs_plain ?_);show bV J λus s2 as=>by let#[vs,H2,I2,N,O]:=as;show hm pins s2 σ H2 x vs v us Q I2 G N O
end
noncomputable def Ey (X:Cx) (id:String) (r:V->List V->Hp->VK->Prop):Prop :=
 ∀(pins:List (Addr×Obj)) (s:BY) (σ:St) (H:Hp) (x:V) (xs:List V) (v:Value) (us:List Value) (Q:VK),Inv X pins σ H s->RelV x v->Vals xs us->r x xs H Q ->
  wpAny (model X.prog X.w) X.A (call (.builtin id) (v::us)) (EP X pins σ Q) X.xe s
theorem Vals.one:∀{x:V}{us:List Value},Vals [x] us->∃u,us=[u]/\RelV x u
 |_,_,.cons r .nil=>#[0,r]
theorem Vals.eraseIdx:∀{xs:List V}{us:List Value}(i:Nat),Vals xs us->Vals (xs.eraseIdx i) (us.eraseIdx i)
 |_,_,_,.nil=>.nil
 |_,_,0,.cons _ t=>t
 |_,_,i+1,.cons r t=>.cons r (Vals.eraseIdx i t)
theorem Vals.rep {xs:List V}{us:List Value}(h:Vals xs us):∀k:Nat,Vals (replicate k xs).flatten (replicate k us).flatten
 |0=>.nil
 |k+1=>by
  rw[LA,LA,LF,LF];show Vals.append h (Vals.rep h k)
theorem ox {α:Type}:∀(l:List α) (i:Nat),(l.eraseIdx i).length<=l.length
 | [],_=>J1 _
 |_::_,0=>MV _
 |_::r,i+1=>Nat.succ_le_succ (ox r i)
theorem foldl_rep (its:List Value):∀(k:Nat) (G:List Value),
  foldl (λL N=>L++N) G.toArray (replicate k its.toArray)=(G++(replicate k its).flatten).toArray
 |0,G=>by simp
 |k+1,G=>by
  have e:G.toArray++its.toArray=(G++its).toArray:=(by simp);have J:(G++its)++(replicate k its).flatten=G++(replicate (k+1) its).flatten:=by
   rw[LA,LF,Kr]
  rw[<-J, <-foldl_rep its k (G++its), <-e,LA,List.foldl_cons]
section
variable {X:Cx}{pins:List (Addr×Obj)}{σ:St}{H:Hp}{s:BY}{l b:Addr}{xs ys zs:List V}
theorem Inv.BS {its its':List Value}{n:Nat}{f:Array Value->Array Value}{t':Nat}(I:Inv X pins σ H s) (N:H l=some (.lst xs))
  (e:s.heap.get? l=some { cls:=.type "list",data:=.seq its.toArray n }) (J:f its.toArray=its'.toArray) (O:Vals ys its') (U:ys.length<=sizeLine) :
  Inv X pins σ (upd H l (.lst ys)) { s with heap:=s.heap.update l (Obj.mapSeq f),toks:=t' }:=by
 have q:=PySem.IsL.update e f;rw[J]at q;show I.write (x:=l) (e:=l) (by rw[N];show trivial) (.inl rfl) (λY u G L=>(Heap.get?_update_other s.heap (Obj.mapSeq f) (JZ G)).trans L) #[_,q] ?_;show#[U,its',_,O,q]
theorem Inv.Fe {its:List Value}{t':Nat}(I:Inv X pins σ H s) (G:Vals ys its) (J:ys.length<=sizeLine) :
  Inv X pins σ (upd H s.heap.objs.size (.lst ys)) { s with heap:=s.heap.push { cls:=.type "list",data:=.seq its.toArray },toks:=t' }:=
 I.laid (λ_ _ q=>Heap.get?_push_of_some _ q) (J1 _) #[J,its,(0),G,Heap.get?_push_size _ rfl]
theorem Inv.fresh (I:Inv X pins σ H s):H s.heap.objs.size=none:=I.bG.fresh (J1 _)
theorem Inv.mJ (I:Inv X pins σ H s) (G:H l=some (.lst xs)):xs.length<=sizeLine/\∃(its:List Value) (n:Nat),Vals xs its/\xs.length=its.length/\s.heap.get? l=some { cls:=.type "list",data:=.seq its.toArray n }:=by
 let#[z,its,n,r,e]:=I.bG l _ G;show#[z,its,n,r,r.length,e]
theorem rZ {n:Nat}(h:n<=sizeLine):Builtin.List.listTooLong n=false:=by
 unfold Builtin.List.listTooLong;show decide_eq_false ae
end
section
variable {X:Cx}
inductive wL (x:V) (vs:List V) (H:Hp) (Q:VK):Prop
 |mk (l:_) (xs:_) (y:_) (_:x=.ref l) (_:vs=[y]) (_:H l=some (.lst xs)) (_:xs.length<sizeLine) (_:Q .non (upd H l (.lst (xs++[y])))):wL x vs H Q
theorem kA:Ey X "list.append" wL:=by
 intro pins s σ H x vs v us Q I L N h;let#[l,xs,y,rfl,rfl,G,U,q]:=h;cases L;let#[u,rfl,J]:=N.one;let#[z,its,n,r,O,e]:=I.mJ G;show Mc F.slot_list_append #[_,e,rfl] F.entry_list_append (F.args_list_append_2 _ _) (list_append l its.toArray n u (by rw[IF];omega)) #[e,?_];show#[.non,_,I.BS (its':=its++[u]) G e (by simp) (r.append (.cons J .nil)) ?_,rfl,q];rw[J9,KZ];omega
inductive wO (x:V) (vs:List V) (H:Hp) (Q:VK):Prop
 |mk (l:_) (b:_) (xs:_) (zs:_) (_:x=.ref l) (_:vs=[.ref b]) (_:H l=some (.lst xs)) (_:H b=some (.lst zs)) (_:xs.length+zs.length<=sizeLine) (_:Q .non (upd H l (.lst (xs++zs)))):wO x vs H Q
theorem nN:Ey X "list.extend" wO:=by
 intro pins s σ H x vs v us Q I O rv h;let#[l,b,xs,zs,rfl,rfl,J,N,hz,q]:=h;cases O;let#[u,rfl,U]:=rv.one;cases U;let#[z,its,n,r,hl,e]:=I.mJ J;let#[z2,G,Y,L,ac,e2]:=I.mJ N;have hsz:its.toArray.size+G.toArray.size<=sizeLine:=(by rw[IF,IF];omega);have ab:¬ (!its.toArray.isEmpty&&Builtin.List.listTooLong (its.toArray.size+G.toArray.size))=true:=by
  rw[rZ hsz,Mp];show J8
 show Mc F.slot_list_extend #[_,e,rfl] F.entry_list_extend (F.args_list_extend_2 _ _)
  (AutoSeq1.list_extend_list_list_0 l its.toArray n b G.toArray Y ab (by rw[IF];omega) ae) #[e,e2,?_]
 show#[.non,_,I.BS (its':=its++G) J e (by simp) (r.append L) ?_,rfl,q];rw[J9];omega
inductive AD (x:V) (vs:List V) (H:Hp) (Q:VK):Prop
 |mk (l:_) (xs:_) (i:_) (k:_) (y:_) (_:x=.ref l) (_:vs=[.int i]) (_:H l=some (.lst xs)) (_ : -(2^63)<=i) (_:i<2^63) (_:PM i xs.length=some k) (_:xs[k]?=some y) (_:Q y (upd H l (.lst (xs.eraseIdx k)))):AD x vs H Q
theorem Ae:Ey X "list.pop" AD:=by
 intro pins s σ H x vs v us Q I N U h;let#[l,xs,i,k,y,rfl,rfl,G,h1,h2,hk,Y,q]:=h;cases N;let#[u,rfl,J]:=U.one;let#[t,rfl]:=J;let#[z,its,n,r,L,e]:=I.mJ G;let#[w,hw,O]:=r.get Y;show Mc F.slot_list_pop #[_,e,rfl] F.entry_list_pop (F.args_list_pop_2 _ _)
  (MeetsSeq.list_pop_at l its.toArray n i t k w (fitsIndex_both h1 h2) (by rw[IF, <-L];show hk) (by rw[<-Lj];show hw) (by rw[IF];omega)) #[e,?_]
 show#[y,_,I.BS (its':=its.eraseIdx k) G e ?_ (r.eraseIdx k) ?_,O,q]
 .change its.toArray.eraseIdxIfInBounds k=(its.eraseIdx k).toArray;rw[List.eraseIdxIfInBounds_toArray]
 .have:=ox xs k;omega
inductive FQ (x:V) (y:V) (H:Hp) (Q:VK):Prop
 |mk (l:_) (b:_) (xs:_) (zs:_) (_:x=.ref l) (_:y=.ref b) (_:H l=some (.lst xs)) (_:H b=some (.lst zs)) (_:xs.length+zs.length<=sizeLine) (_:∀p,H p=none->Q (.ref p) (upd H p (.lst (xs++zs)))):FQ x y H Q
theorem tS:kW X (MG .Add) FQ:=by
 intro pins s σ H x y v u Q I L N h;let#[l,b,xs,zs,rfl,rfl,Y,U,hz,q]:=h;cases L;cases N;let#[z,its,n,r,hl,e]:=I.mJ Y;let#[z2,G,n2,J,ab,O]:=I.mJ U;show PySem.P.add_list e O ?_ (by rw[IF,IF];omega);have ea:its.toArray++G.toArray=(its++G).toArray:=(by simp);rw[ea];show#[.ref _,_,I.Fe (t':=s.toks) (r.append J) (by rw[J9];omega),rfl,q _ I.fresh]
inductive Gy (x:V) (y:V) (H:Hp) (Q:VK):Prop
 |mk (l:_) (k:_) (xs:_) (_:x=.ref l) (_:y=.int k) (_:H l=some (.lst xs)) (_ : -(2^63)<=k) (_:k<2^63) (_:xs.length*k.toNat<=sizeLine) (_:∀p,H p=none->Q (.ref p) (upd H p (.lst (replicate k.toNat xs).flatten))):Gy x y H Q
theorem len_rep {α:Type}(xs:List α) (k:Nat):(replicate k xs).flatten.length=k*xs.length:=by
 induction k with
 |zero=>simp
 |succ k G=>rw[LA,LF,J9,G,Nat.succ_mul,Nat.add_comm]
theorem mN:kW X (MG .Mult) Gy:=by
 intro pins s σ H x y v u Q I rx ry h;let#[l,k,xs,rfl,rfl,hH,h1,h2,L,q]:=h;cases rx;let#[t,rfl]:=ry;let#[z,its,n,r,N,e]:=I.mJ hH;have Y:its.toArray.size*k.toNat<=sizeLine:=(by rw[IF, <-N];show L);have ac:¬ its.toArray.size*k.toNat>(2^63-1)/8:=by
  have:(sizeLine:Nat)<=(2^63-1)/8:=ar;omega
 have ab:¬ (!Builtin.List.listFitsIndex k)=true:=by
  rw[fitsIndex_both h1 h2];show J8
 have am:¬ Builtin.List.listTooLong (its.toArray.size*k.toNat)=true:=by
  rw[rZ Y];show J8
 have O:foldl (λJ G=>J++G) ([].toArray) (replicate (if its.toArray.isEmpty=true then 0 else k.toNat) its.toArray)=(replicate k.toNat its).flatten.toArray:=by
  have f0:∀m:Nat,foldl (λJ G=>J++G) ([].toArray) (replicate m its.toArray)=(replicate m its).flatten.toArray:=λm=>by
   have:=foldl_rep its m [];rw[List.nil_append]at this;show this
  rw[f0];cases its with
  |nil=>simp
  |cons a r'=>rw[Qh (by simp)]
 show wpAny_binaryOp_repeat_ref (T := "list") (U := "int") ar #[_,e,rfl] (λs'=>Pm s' k t) noFill_list_mul F.fills_int_mul F.slot_int_rmul repeat_list F.slot_int_index.lookup
  (Mc F.slot_int_rmul (Pm s k t) F.entry_int_rmul (F.args_int_rmul_2 _ _) (int___rmul___int_list k t l its.toArray n)
   #[e,rfl,#[_,e,rfl],Mc F.slot_list_mul #[_,e,rfl] F.entry_list_mul (F.args_list_mul_2 _ _) (AutoListH.list___mul___list_int_3 l its.toArray n k t ab ac am) #[e,?_]])
 rw[O];show#[.ref _,_,I.Fe (t':=s.toks) (r.rep k.toNat) (by rw[len_rep,Nat.mul_comm];show L),rfl,q _ I.fresh]
end
section
variable {prog:J2}{w:Kd}{A:Kk}{E:Value->BY->Prop}{s:BY}
end
section
variable {X:Cx}
end
end L2
namespace Att
open PySem PySem.W PySem.Calls PyProof.Rows
theorem kT {P:Params}{h:Heap}:∀(ns:List Int) (vs:List Value),WellAll P h vs (ns.map WData.int)->LX vs ns:=by
 intro ns
 induction ns with
 |nil =>
  intro vs w;rw[OX]at w;cases w;show .nil
 |cons n ns G =>
  intro vs w;rw[Lm]at w;cases w with
  |cons a b =>
   cases a;show .cons _ _ (G _ b)
theorem xy {l:OpenLaw}{n:Nat}(U:l.most=some n) {P:Params}{h:Heap}{args:List WData}{N:List Value}
  (O:l.row.toRowW.claim.pre args=true) (ac:WellAll P h N args) :
  ∃a vs ns,N=[Value.ref a]/\args=[WData.list (ns.map WData.int)]/\h.get? a=some { cls:=.type "list",data:=.seq vs.toArray }/\LX vs ns/\ns.length<=n:=by
 have Y:WShape.hasAll [] args [.list .int]=true:=(pre_splitW O).1;have L:l.pre.holds [] { args:=args }=true:=(pre_splitW O).2;let#[d,r,rfl,h1,h2]:=hasAllW_cons Y;obtain rfl:=hasAllW_nil h2;let#[xs,rfl,h3]:=hasW_list h1;let#[ns,rfl]:=items_int h3;have am:ns.length<=n:=by
  unfold OpenLaw.pre at L;have J:(WTm.not (.lt (.lit (.int (n:Int))) (.len (.arg 0)))).holds [] { args:=[.list (ns.map .int)] }=true:=by
   have J:=(holds_andW L).1;rw[U]at J;show J
  have G:=condW_of J (w_not (w_lt w_lit (w_len_list (w_arg rfl))));rw[DD]at G;show Nat.le_of_not_lt λq=>?_;have q':(n:Int)<((ns.length:Nat):Int):=ae
  first
   |(rw[decide_eq_true q']at G;show absurd G ar)
   |(simp at G;omega)
 cases ac with
 |cons w1 w2 =>
  cases w2;cases w1 with
  |list ho ab=>show#[2,ns,1,ho,kT ns _ ab,am]
theorem yg (l:OpenLaw) (args:List WData):l.row.toRowW.claim.post args (.bool true) args=true :=
 postW_of (r:=l.row.toRowW) (X:=(true==true))
  (show Qf [] (.bool true) .bool=true by first|rfl|decide|simp[Qf,WShape.arms,WShape.armsAll])
  (show(WTm.eq .res (.lit (.bool true))).value [] { args:=args,res:=some (.bool true),after:=args }=some (.bool (true==true))from w_eq_bool (w_res rfl) w_lit) rfl
theorem rS {l:OpenLaw}{n:Nat}{q:J2}{loose:List Str}{XP:(Str->Option Value)->Heap->Prop}{YP:Kd->Heap->Prop}{d:DefRec}
  (hn:l.most=some n) (ab:d.params.defaults=[])
  (call:∀(w:Kd) (s₀ J:BY) (mg N:Str->Option Value) (L:Addr) (o:Obj) (pm cd O:Value) (a:Addr) (vs:List Value) (ns:List Int),
   Ground q loose [] XP w s₀ mg N J.heap->YP w J.heap ->
   J.heap.get? L=some o->o.data=.func (docDef d.name d.params d.body d.scope pm cd O)->J.heap.CodeRec cd d.name->mg d.name=some (.ref L) ->
   J.heap.get? a=some { cls:=.type "list",data:=.seq vs.toArray }->LX vs ns->ns.length<=n->J.gens = ([].toArray) ->
   Mm (model l.prog w) N8 (.call (.ref L) #[[.ref a],[]]) (λr s'=>r=.ok (.ret (.bool true))/\OldK J.heap s'.heap/\s'.os=J.os/\Nm s'.gens) J) :
  WalkO q loose XP YP l.row.toRowW d [] (λf vs=>PySem.call f vs):=by
 intro w s₀ J mg N G Y L o pm cd O dV kV ho hd ac U a1 hg args a5 as ap a4 a2 a0 a3;obtain rfl:dV=.none:=Dflts.none U ab;obtain rfl:kV=.none:=Dflts.noKw U;let#[a,vs,ns,rfl,rfl,aB,am,aT]:=xy hn ap a0;show enter_call (Mo (call w s₀ J mg N L o pm cd O a vs ns G Y ho (fd_plain hd) ac a1 aB am aT hg) λr s' hq=>?_);let#[rfl,h2,h3,h4]:=hq;show#[.inl #[.bool true,.bool true,[],rfl,λ_=>rfl,.bool true,yg l _,λ_=>#[List.Pairwise.nil,λ_ hm=>(nomatch hm)]],h2,h3,h4]
section
variable {prog:J2}{w:Kd}{A:Kk}{E:Value->BY->Prop}{s:BY}{K:Frag}
end
end Att
namespace L2
open PySem PySem.Spec PyProof.Rows
theorem gi:∀{vs:List Value}{ns:List Int},LX vs ns->Vals (ns.map V.int) vs
 |_,_,.nil=>.nil
 |_,_,.cons n t h=>.cons #[t,rfl] (gi h)
noncomputable def DF (H:Hp):Prop:=∀b,H b=none\/∃o xs,H b=some (.cu o (.lst xs))
theorem zI {P:J2}{w:Kd}{K:PySem.W.Frag}{mg U:Str->Option Value}{CX:wI}{k:Nat}{fa a:Addr}{fd:J0}{x:Str}{sp:Sp}{G:BY}{vs:List Value}{ns:List Int}
  (KX:K.In G.heap) (ac:G.heap.Ns KJ mg) (J:G.heap.Ns OZ U) (a5:∀x:Str,x ≠ "__name__" -> U x=Kq x) (aT:G.heap.NoLimit) (hg:G.gens = ([].toArray))
  (L:G.heap.get? a=some { cls:=.type "list",data:=.seq vs.toArray }) (hi:LX vs ns) (hl:ns.length<=sizeLine) (hr:dB k N8)
  (F:∀base:Heap,K.In base->base.Ns KJ mg->bh P w K mg base CX k fa fd [x] sp) (a3:∀(s:BY) (u:Value),OE s fd #[[u],[]] [(x,u)])
  (as:∀H:Hp,DF H->bB K H a (ns.map V.int)->sp [.ref a] H (λv _=>v=.bl true) λ_ _ _=>False)
  (aB:∀H e s',CX [] H G (λ_ _ _=>False) e s'->False) :
  Mm (model P w) N8 (.call (.ref fa) #[[.ref a],[]]) (λr s'=>r=.ok (.ret (.bool true))/\OldK G.heap s'.heap/\s'.os=G.os/\Nm s'.gens) G:=by
 have rv:=gi hi;have a0:=hi.length;have ap:∀H:Hp,DF H->bB K H a (ns.map V.int)->iZ P w H G.heap->(∀b,H b≠none->b=a)->(H a≠none->K.lookup a=none) ->
   Mm (model P w) N8 (.call (.ref fa) #[[.ref a],[]]) (λr s'=>r=.ok (.ret (.bool true))/\OldK G.heap s'.heap/\s'.os=G.os/\Nm s'.gens) G:=by
  intro H hO hS bG hA hK;have am:∀{b:Addr}{o:Obj},G.heap.get? b=some o->H b=none->(pA G.heap H).get? b=some o:=λe n=>z7 e n;have a1:∀{b:Addr}{o:Obj}{es:Array DictEntry}{ep:Nat},G.heap.get? b=some o->o.data=.dict es ep->H b=none:=λ{b o es ep} e d=>by
   cases q:H b with
   |none=>rfl
   |some u =>
    have Y:b=a:=hA b (by rw[q];simp);subst Y;rw[L]at e;cases e;have d':Pn vs.toArray _=Data.dict es ep:=d;cases d'
  have N:∀{b:Addr}{m:Str->Option Value},G.heap.Ns b m->(pA G.heap H).Ns b m:=λ{b m} a4=>(by let#[o,es,ep,e,d,r]:=a4;show#[o,es,ep,am e (a1 e d),d,r]);have ab:K.In (pA G.heap H):=λb o e=>am (KX b o e) (by
   cases q:H b with
   |none=>rfl
   |some u =>
    have Y:b=a:=hA b (by rw[q];simp);subst Y;rw[hK (by rw[q];simp)]at e;cases e)
  have hM:Mod K mg (pA G.heap H):=#[ab,N ac,#[U,N J,a5],let ⟨mc,h1,h2⟩:=aT;#[mc,N h1,h2]];have e0:tH P w K mg (pA G.heap H) N8 [] G H:=#[rfl,hM,λb o e=>Bc e,Nat.le_of_eq (xf _ _),trivial,λb J=>absurd (show b∈([]:List Addr)from J) (by simp),bG,.of_eq hg];show Mo ((F _ ab (N ac)).run N8 [] G H #[[.ref a],[]] [.ref a] [.ref a] _ _ hr e0 (a3 G (.ref a)) (.cons rfl .nil) (as H hO hS)) λr s' h=>?_;cases r with
  |error e=>show(aB H e s' h).elim
  |ok fl =>
   cases fl with
   |next=>show Lp h
   |brk=>show Lp h
   |cont=>show Lp h
   |ret u =>
    let#[v,H',os,bare,un,a2,r',q]:=h;have q':v=.bl true:=q;subst q';obtain rfl:u=Value.bool true:=r';show#[rfl,OldK.of_keep λb o e=>?_,os,bare];cases q:H b with
    |none=>show un.keep b o e q (by intro z;show absurd (show b∈([]:List Addr)from z) (by simp)) (by simp)
    |some u =>
     rcases hO b with z|⟨ob,xs,z⟩
     .rw[q]at z;cases z
     .have z2:=un.nD b ob _ z;let#[e1,_]:=bG b _ z;let#[e2,_]:=a2 b _ z2;rw[e]at e1;cases e1;show e2
 cases O:K.lookup a with
 |some o =>
  have e:=KX a o O;rw[L]at e;cases e;show ap (λ_=>none) (λ_=>.inl rfl) (.inr #[_,vs.toArray,_,O,1,rfl,by rw[IF,a0];show hl,by simpa using rv]) (λb u z=>by have z':(none:Option HO)=some u:=z;cases z') (λb z=>absurd rfl z) λz=>absurd rfl z
 |none =>
  show ap (λb=>if b=a then some (.cu { cls:=.type "list",data:=.seq vs.toArray } (.lst (ns.map V.int)))else none) (λb=>?_) (.inl (.inr #[{ cls:=.type "list",data:=.seq vs.toArray },Qi rfl])) (λb u z=>?_) (λb z=>?_) λ_=>O
  .by_cases J:b=a
   .show .inr #[2,Qi J]
   .show .inl (Qh J)
  .by_cases J:b=a
   .have z':=(Qi J).symm.trans z;cases z';subst J;show#[L,by rw[DD];show hl,vs,_,rv,L]
   .have z':=(Qh J).symm.trans z;cases z'
  .by_cases J:b=a
   .show J
   .show absurd (Qh J) z
theorem Br {l:PySem.W.OpenLaw}{n k:Nat}{q:J2}{loose:List Str}{XP:(Str->Option Value)->Heap->Prop}{O:Kd->Heap->Prop}{d:DefRec}{K:Params->PySem.W.Frag}{CX:Kd->wI}{sp:Kd->Sp}{x:Str}
  (hn:l.most=some n) (aT:n<=sizeLine) (ab:d.params.defaults=[]) (hr:dB k N8)
  (hY:∀(w:Kd) (h:Heap),O w h->(K w.params).In h)
  (F:∀(w:Kd) (mg:Str->Option Value) (J:Addr) (h:Heap),(K w.params).In h->h.Ns KJ mg->mg d.name=some (.ref J) ->
   ∃fd:J0,(∀(s:BY) (u:Value),OE s fd #[[u],[]] [(x,u)]) /\
    ∀base:Heap,(K w.params).In base->base.Ns KJ mg->bh l.prog w (K w.params) mg base (CX w) k J fd [x] (sp w))
  (ap:∀(w:Kd) (H:Hp) (a:Addr) (ns:List Int),ns.length<=n->DF H->bB (K w.params) H a (ns.map V.int)->sp w [.ref a] H (λv _=>v=.bl true) λ_ _ _=>False)
  (as:∀(w:Kd) (H:Hp) (s:BY) (e:Value) (s':BY),CX w [] H s (λ_ _ _=>False) e s'->False) :
  PySem.W.WalkO q loose XP O l.row.toRowW d [] (λf vs=>PySem.call f vs):=by
 show Att.rS hn ab λw s₀ aB mg mb J o pm cd a2 a vs ns G Y ho hd a1 a0 am ac N U=>?_;have L:=hY w _ Y;let#[fd,hb,hF]:=F w mg J _ L G.T.g a0;show zI L G.T.g G.T.b G.T.builtins G.T.nolimit U am ac (Ko N aT) hr hF hb (λH hO hS=>ap w H a ns N hO hS) λH e s'=>as w H aB e s'
noncomputable def inClass (s:Ky) (j:Nat):Ky:=match s with
 |.ClassDef _ _ _ body _ _ _ _ _ _ _=>body.getD j (.Pass #[(0),(0),(0),(0)])
 |_=>.Pass #[(0),(0),(0),(0)]
noncomputable def fL (s:Ky):Arguments:=match s with
 |.FunctionDef _ a _ _ _ _ _ _ _ _=>a
 |_=>{ posonlyargs:=[],args:=[],vararg:=none,kwonlyargs:=[],kw_defaults:=[],kwarg:=none,defaults:=[] }
noncomputable def fb (s:Ky):List Ky:=match s with
 |.FunctionDef _ _ b _ _ _ _ _ _ _=>b
 |_=>[]
noncomputable def aw (s:Ky):Nl:=match s with
 |.FunctionDef _ _ _ _ _ _ G _ _ _=>G
 |_=>{ kind:=.function,names:=[],isGenerator:=false,isCoroutine:=false }
noncomputable abbrev aW:wI:=λ_ _ _ _ _ _=>False
noncomputable abbrev E0:XK:=λ_ _ _=>False
theorem ay {X:Cx}:Passes aW X E0:=λ_ _ _ _ _ _ _ h=>h.elim
structure cQ (K:PySem.W.Frag) (x qual:Str) (st:Ky) (f:Addr) (fd:J0):Prop where
 ex:∃(oc:Value) (od:Option Addr) (kV doc pm:Value) (an:Option Addr) (cdv ct:Value) (osl:Array (Option Value)),
  fd=PU x qual (fL st) (fb st) (aw st) .none kV doc pm an cdv ct/\K.lookup f=some #[oc,od,.func fd,osl]/\PV K cdv qual=true
 kp:NW K (.ref f)=true
section
variable {P:J2}{w:Kd}{K:PySem.W.Frag}{mg:Str->Option Value}{base:Heap}
theorem cQ.ok {x J:Str}{st:Ky}{f:Addr}{fd:J0}{N ps:List Str}{k:Nat}{sp:Sp}(F:cQ K x J st f fd) (S:aC N ps (aw st)) (len:∀vs H Q E,sp vs H Q E->vs.length=ps.length)
  (U:∀(G:Value) (A:Kk) (outer:List P1) (s:BY) (H:Hp) (vs:List V) (Q:VK) (E:XK),dB k (A.deeper (NX J (aw st) s.heap.objs.size f G))->sp vs H Q E ->
   ∃t,wR (xv aW P w K mg base N J (aw st) f G A outer s H E).Eb (fb st) t/\t { nx:=λ_ H'=>Q .non H',rt:=Q } (start N vs) H):bh P w K mg base aW (k+1) f fd ps sp:=by
 let#[oc,od,kV,ac,pm,an,G,ct,ab,rfl,L,O]:=F.ex;show Ha L O S len λA outer s H vs Q E hr Y=>?_;let#[t,h,q]:=U G A outer s H vs Q E hr Y;show#[t,h.Eb,q]
theorem cQ.binds {x L:Str}{st:Ky}{f:Addr}{fd:J0}{ps:List Str}(F:cQ K x L st f fd)
  (h:∀(kV J pm:Value) (an:Option Addr) (G ct:Value) (us:List Value),us.length=ps.length->Pd (PU x L (fL st) (fb st) (aw st) .none kV J pm an G ct) #[us,[]]=pure (ps.zip us)):Binds K fd ps []:=by
 let#[oc,od,kV,J,pm,an,G,ct,U,rfl,N,O]:=F.ex;show .all (h kV J pm an G ct)
theorem pE {x J:Str}{st:Ky}{f:Addr}{oc:Value}{od an:Option Addr}{N:Array (Option Value)}{kV L pm G ct:Value}(l:K.lookup f=some #[oc,od,.func (PU x J (fL st) (fb st) (aw st) .none kV L pm an G ct),N])
  (c:PV K G J=true) (k:NW K (.ref f)=true):cQ K x J st f (PU x J (fL st) (fb st) (aw st) .none kV L pm an G ct):=#[#[oc,od,kV,L,pm,an,G,ct,N,rfl,l,c],k]
end
theorem aZ {A:Kk}{k:Nat}(G:dB k A):A.units+1<Me:=Nat.lt_of_le_of_lt (Nat.add_le_add_left (by decide:1<=64) _) G.units
section
variable {X:Cx}
theorem pv (i:Nat) {x:Str}{pos:Mj}(J:X.N[i]?=some x:=by rfl) (L:HH X.env.scope x:=by first|show J6 rfl|show N0 (J6 rfl)|show N0 (N0 rfl)) (hd:(x==("__debug__" : Str))=false:=by decide)
  (G:(x==("__classdict__" : Str))=false:=by decide):PE X (.Name x pos) (Cq i):=DT J L hd G
end
theorem bC {A B:Prop}(h:B):if false=true then A else B:=by
 rw[Qh J8];show h
theorem dZ {A B:Prop}(h:A):if true=true then A else B:=by
 rw[Qi rfl];show h
theorem iH {c A B:Prop} [Decidable c] (h1:c->A) (h2:¬ c->B):if c then A else B:=by
 by_cases h:c
 .rw[Qi h];show h1 h
 .rw[Qh h];show h2 h
noncomputable def bf (H H':Hp):Prop:=∀b o,H b=some o->H' b=some o
theorem bf.refl (H:Hp):bf H H:=λ_ _ h=>h
theorem bf.trans {H H1 H2:Hp}(a:bf H H1) (b:bf H1 H2):bf H H2:=λc o h=>b c o (a c o h)
theorem bf.free {H H':Hp}(e:bf H H') {l:Addr}(h:H' l=Option.none):H l=Option.none:=by
 cases q:H l with
 |none=>rfl
 |some o =>
  rw[e l o q]at h;cases h
noncomputable def pH (X:Cx) (G:List Str) (scope:Nl) (cl:List (Str×Addr)) (C:Addr) (s₀:BY) (H₀:Hp) (ex:List Addr):Cx where
 prog:=X.prog
 w:=X.w
 K:=X.K
 mg:=X.mg
 base:=X.base
 A:=X.A
 N:=G
 s₀:=s₀
 H₀:=H₀
 env:=Po scope cl C X.env
 outer:=X.stack
 stack:=X.stack
 ex:=ex
 fn:=λ_=>false
 calm:=X.calm
 pn:=[]
 xe:=λ_ _=>False
noncomputable def gj (t:Str) (caps:List (Str×Nat)):List Str:=t::caps.map (·.1)
noncomputable def fU (caps:List (Str×Nat)) (σ:St) (v:Option V):St:=v::caps.map λp=>(σ[p.2]?).join
structure jO (X:Cx) (scope:Nl) (cl:List (Str×Addr)) (t:Str) (caps:List (Str×Nat)):Prop where
 kind:scope.kind=.function
 EN:∀y∈scope.names,y.2≠.cell
 names:∀y∈scope.names,y.2=.local->scope.names.lookup y.1=some .local
 Jp:scope.names.lookup t=some .local
 FX:closureFor scope X.env=pure cl
 sub:∀p∈cl,X.env.cells.lookup p.1=some p.2
 has:((relabel scope X.env).names.all λy => !(y.2 == .cell||y.2 == .free)||(cl.lookup y.1).isSome)=true
 JW:∀p∈caps,X.N[p.2]?=some p.1/\(X.env.kindOf p.1=some .cell\/X.env.kindOf p.1=some .free)/\((relabel scope X.env).names.lookup p.1=some .cell\/(relabel scope X.env).names.lookup p.1=some .free)
 nd:(gj t caps).Nodup
section
variable {X:Cx}{scope:Nl}{cl:List (Str×Addr)}{t:Str}{caps:List (Str×Nat)}{pins:List (Addr×Obj)}{σ:St}{H:Hp}{s:BY}{C:Addr}{fp:List Addr}
theorem jO.look (K:jO X scope cl t caps) {x:Str}{c:Addr}(h:cl.lookup x=some c):X.env.cells.lookup x=some c:=K.sub (x,c) (PySem.mem_of_lookup h)
theorem jO.hs (K:jO X scope cl t caps) {x:Str}(h:(relabel scope X.env).names.lookup x=some .cell\/(relabel scope X.env).names.lookup x=some .free):∃c,cl.lookup x=some c:=by
 have G:∀k,(relabel scope X.env).names.lookup x=some k->(k==NameKind.cell||k==NameKind.free)=true->∃c,cl.lookup x=some c:=λk e J=>by
  have:=List.all_eq_true.mp K.has (x,k) (PySem.mem_of_lookup e);dsimp only at this;rw[J]at this;show Option.isSome_iff_exists.mp (by simpa using this)
 rcases h with h|h
 .show G _ h rfl
 .show G _ h rfl
theorem JA (I:Inv X pins σ H s) (K:jO X scope cl t caps) (J:∀b∈fp,gp X pins H b) (U:∀b∈fp,b<s.heap.objs.size) (L:s.heap.objs.size<=C):(pH X (gj t caps) scope cl C s H fp).Ok where
 mod:=I.ok.mod
 kind:=K.kind
 glob:=I.ok.glob
 blt:=I.ok.blt
 above:=L
 inj:=λx y c h1 h2=>I.ok.inj x y c (K.look h1) (K.look h2)
 has:=λx N=>K.hs N
 E4:=λx c h=>nomatch (show false=true from h)
 hd:=I.ok.hd
 frames:=I.ok.frames
 FW:=.inl rfl
 HZ:=λb G=>#[Km (Kz (U b G) L),λx c e=>(J b G).2.2.2.2.1 x c (K.look e)]
 bs:=I.bs
 AK:=Ko I.ok.AK I.sz
 yi:=λb o e G=>by
  rcases(J b G).2.2.2.1 with z|z
  .show I.ok.yi b o e z
  .show absurd (Kz (Heap.lt_size e) (Ko I.ok.AK z)) (LV _)
 xw:=λb G O=>by
  rcases List.mem_cons.mp (I.qm b O)with e|e
  .show(J b G).2.1 e
  .show(J b G).2.2.1 e
 jY:=I.stack
 CL:=I.vK
theorem Ie {N:Heap}{m:Str->Option Value}{tk:Nat}(I:Inv X pins σ H s) (K:jO X scope cl t caps) (hf:∀b∈fp,gp X pins H b) (ho:∀b∈fp,b<s.heap.objs.size) (Y:s.heap.objs.size<=C)
  (U:∀b o,s.heap.get? b=some o->N.get? b=some o) (ns:N.Ns C m):Inv (pH X (gj t caps) scope cl C s H fp) [] (fU caps σ none) H { s with heap:=N,toks:=tk }:=by
 have am:∀c v,s.heap.IsCell c v->N.IsCell c v:=λc v aB=>(by let#[o,e,d]:=aB;show#[o,U c o e,d]);show#[JA I K hf ho Y,rfl,I.bare,Un.kept U,#[m,ns,λi x v e1 e2 e3=>?_],λx c e=>?_,I.bG.fresh Y,λx c e=>I.gO x c (K.look e),λp L=>absurd (show p∈([]:List (Addr×Obj))from L) (by simp),I.bG.kept U,by simp[fU,gj,pH]]
 .cases i with
  |zero =>
   have G:some (none:Option V)=some (some v):=e2;cases G
  |succ j =>
   have J:(caps.map (·.1))[j]?=some x:=e1;have G:(caps.map λp=>(σ[p.2]?).join)[j]?=some (some v):=e2;rw[J3]at J G;cases L:caps[j]? with
   |none=>rw[L]at J;cases J
   |some p =>
    rw[L]at J G;have ex:p.1=x:=Option.some.inj J;have O:(σ[p.2]?).join=some v:=Option.some.inj G;have as:σ[p.2]?=some (some v):=by
     cases q:σ[p.2]? with
     |none=>rw[q]at O;cases O
     |some z=>rw[q]at O;show congrArg some O
    let#[hN,hk,ab]:=K.JW p (J7 L);subst ex;let#[m',_,hl]:=I.loc;have ap:HH X.env.scope p.1:=by
     rcases hk with z|z
     .show .inr (.inl z)
     .show .inr (.inr z)
    let#[u,r,l]:=hl p.2 p.1 v hN as ap;let#[c,hc]:=K.hs ab;rcases l with⟨z,_⟩|⟨_,c',ac,aT⟩
    .rcases hk with y|y<;>(rw[y]at z;cases z)
    .rw[K.look hc]at ac;cases ac;show#[u,r,.inr #[ab,c,hc,am c _ aT]]
 .let#[v,z]:=I.cell x c (K.look e);show#[v,am c v z]
theorem Inv.Gb {D:Addr}{ys:List V}{its:List Value}{n:Nat}(I:Inv X pins σ H s) (f:gp X pins H D) (e:s.heap.get? D=some { cls:=.type "list",data:=.seq its.toArray n }) (r:Vals ys its) (hz:ys.length<=sizeLine) :
  Inv X pins σ (upd H D (.lst ys)) s:=by
 let#[J,O,f2,U,L,N]:=f;let#[hh,g,d,tk,os]:=s;show I.step (g':=g) (d':=d) (t':=tk) (h':=hh) (ch:=[D]) (λb G=>?_) (λb o _ _ _ e _=>e) (λb o _ _ _ e _=>#[o.slots,e]) (λb o G _ n=>?_) (λb o _ e=>#[o,e]) (λb xs q=>?_) (λb o u q=>?_) (λb ps q=>#[([].toArray),?_]) (λm Y=>Y) (λb u q=>?_) I.bare
 .have z:b=D:=(by simpa using G);subst z;show#[U,O,L,N]
 .rw[ah (λz=>G (by simp[z]))];show n
 .rw[ah (aq q J)];show q
 .rw[ah (aq q J)];show q
 .rw[ah (aq q J),q];simp
 .by_cases G:b=D
  .subst G;rw[af]at q;cases q;show#[hz,its,n,r,e]
  .rw[ah G]at q;show(I.bG b u q).pI (λ_ _ _ z=>z) (λc z=>by rw[ah (aq z J)];show z) λc xs z=>by rw[ah (aq z J)];show z
end
noncomputable def HE (X:Cx) (ifs:List Kt) (t:TT):Prop :=
 ∀(pins:List (Addr×Obj)) (s:BY) (σ:St) (H:Hp) (Q:Bool->Hp->Prop),Inv X pins σ H s->t σ H Q ->
  wpAny (model X.prog X.w) X.A (forIn ifs true λc r=>if r=true then do let ok <-isTrue c X.env (eval c X.env);pure (OU ok)else pure (OU r)) (TP X pins σ Q) X.xe s
noncomputable def nA:TT:=λ_ H Q=>Q true H
theorem eY {X:Cx}:HE X [] nA:=λ_ _ _ H _ I h=>wpAny_tests_nil #[H,I,h]
noncomputable def ic (caps:List (Str×Nat)) (tt:TT) (te:TE) (σ:St) (J:It) (Q:List V->Hp->Prop) (W:Nat->Nat->List V->Hp->Prop):Prop :=
 ∀i m ys H,W i m ys H->(J.stop i H/\Q ys H)\/(J.go i H/\∃N:List V->Hp->Prop,(∀L H',N L H'->∃G,G<m/\W (i+1) G L H')/\∀x H',J.BU i H x H'->tt (fU caps σ (some x)) H' λb H2 =>
  if b=true then te (fU caps σ (some x)) H2 (λy H3=>ys.length<sizeLine/\N (ys++[y]) H3)else N ys H2)
noncomputable def CH (caps:List (Str×Nat)) (wi:TI) (tt:TT) (te:TE):TE:=λσ H Q=>wi σ H λJ H1 =>
 ∃W:Nat->Nat->List V->Hp->Prop,(∃m,W 0 m [] H1)/\ic caps tt te σ J (λys H2=>∀p,H2 p=none->Q (.ref p) (upd H2 p (.lst ys))) W
section
variable {X:Cx}{scope:Nl}{cl:List (Str×Addr)}{t:Str}{caps:List (Str×Nat)}{elt iter:Kt}{ifs:List Kt}{px pos:Mj}{wi:TI}{tt:TT}{te:TE}
theorem lK {pins:List (Addr×Obj)}{σ:St}{H:Hp}{s:BY}{J:It}{fp:List Addr}{it:Addr}{tn:Nat->Heap->Prop}{W:Nat->Nat->List V->Hp->Prop}{QE:List V->Hp->Prop}{E:Value->BY->Prop}{RR:Value->Addr->PR->BY->Prop}{m0:Nat}
  (K:jO X scope cl t caps) (hc:X.calm=true)
  (ht:∀C s₀ H₀ ex,HE (pH X (gj t caps) scope cl C s₀ H₀ ex) ifs tt) (he:∀C s₀ H₀ ex,PE (pH X (gj t caps) scope cl C s₀ H₀ ex) elt te)
  (I:Inv X pins σ H s) (T:Turn X.prog X.w X.K (.Name t px) J fp it tn) (st:tn 0 s.heap) (hf:∀b∈fp,gp X pins H b) (w0:W 0 m0 [] H) (hW:ic caps tt te σ J QE W)
  (b9:∀D C ys H' s' m,H' D=none->Inv X pins σ (upd H' D (.lst ys)) s'->s'.heap.Ns C m->gp X pins (upd H' D (.lst ys)) C->QE ys H'->RR (.ref D) C (.ok .next) s') :
  wpAny (model X.prog X.w) X.A (newList []) (λbb ab=>wpAny (model X.prog X.w) X.A (newFunctionEnv scope X.env.globals cl [] X.env.qual none .none (some X.env)) (λbn b5 =>
   Mm (model X.prog X.w) X.A (.compStart (.ListComp elt [#[.Name t px,iter,ifs,(0)]] scope pos) 0 (.ref it) bb { bn with scope:=relabel scope X.env }) (RR bb bn.locals) b5) E ab) E s:=by
 show K4 (wpAny_newFunctionEnv K.EN (by intro y hy;simp at hy) (λap a6 am=>?_) K.kind);dsimp only at a6 am ⊢;generalize aB:s.heap.push { cls:=.type "list",dict:=none,data:=.seq ([]:List Value).toArray }=H2 at a6 am ⊢;have hC:H2.objs.size=s.heap.objs.size+1:=(by rw[<-aB,Heap.size_push]);have as:s.heap.objs.size≠H2.objs.size:=(by rw[hC];show Km (MU _));have aT:s.heap.objs.size<=H2.objs.size:=(by rw[hC];show MV _);have below:∀b,b<s.heap.objs.size->b≠H2.objs.size:=λb G=>(by rw[hC];show Km (LS G));have bd:∀b o,s.heap.get? b=some o->ap.get? b=some o:=λb o e=>am.extBut b o (below b (Heap.lt_size e)) (Heap.get?_push_of_some _ (aB▸Heap.get?_push_of_some _ e));have bz:ap.get? s.heap.objs.size=some { cls:=.type "list",data:=.seq ([]:List Value).toArray }:=am.extBut _ _ as (Heap.get?_push_of_some _ (aB▸Heap.get?_push_size _ rfl));have ho:∀b∈fp,b<s.heap.objs.size:=λb G=>let ⟨_,e,_⟩:=T.obj 0 _ st b G;Heap.lt_size e;have bv:s.heap.objs.size∉fp:=λhm=>LV _ (ho _ hm);have bx:tn 0 ap:=T.keep 0 _ _ st λb _ o e=>bd b o e;have b0:s.heap.objs.size∉yl X.stack:=λz=>by
  rcases List.mem_cons.mp (I.qm _ z)with e|e
  .show absurd (e▸I.lt) (LV _)
  .show I.Hk (J1 _) e
 have bY:∀x c,cl.lookup x=some c->c≠s.heap.objs.size:=λx c e z=>by
  let#[v,q]:=I.cell x c (K.look e);show absurd (z▸q.lt) (LV _)
 have a5:∀{pl:List (Addr×Obj)}{L:Hp},(∀b∈fp,L b=none)->(∀p∈pl,p.1∉fp)->∀b∈fp,gp (pH X (gj t caps) scope cl H2.objs.size s H fp) pl L b:=λ{pl L} hn Y b G =>
  #[hn b G,below b (ho b G),(JA I K hf ho aT).xw b G,.inl G,λx c e=>(hf b G).2.2.2.2.1 x c (K.look e),λp b1 z=>by
   have b2:p∈pl:=b1;show Y p b2 (z▸G)]
 have be:∀ab:BY,ab={ s with heap:=ap,toks:=s.toks+([]:List (Str×Value)).length } ->
   Mm (model X.prog X.w) X.A (.compLoop (.ListComp elt [#[.Name t px,iter,ifs,(0)]] scope pos) 0 (.ref it) (.ref s.heap.objs.size) (Po scope cl H2.objs.size X.env)) (RR (.ref s.heap.objs.size) H2.objs.size) ab:=by
  rintro ab rfl;show codeAny_loop rfl (λn s'=>∃i ys its O L v0,Inv (pH X (gj t caps) scope cl H2.objs.size s H fp) [] (fU caps σ v0) L s'/\tn i s'.heap/\(∀b∈fp,L b=none)/\L s.heap.objs.size=none /\
   s'.heap.get? s.heap.objs.size=some { cls:=.type "list",data:=.seq its.toArray O }/\Vals ys its/\ys.length<=sizeLine/\W i n ys L) (λn s' hI=>?_) m0
   #[(0),[],[],(0),H,none,Ie I K hf ho aT bd a6,bx,λb G=>(hf b G).1,I.bG.fresh (J1 _),bz,.nil,Kl _,w0]
  let#[i,ys,its,O,L,v0,I3,bc,bl,a0,e3,r3,z3,w3]:=hI;change wpAny _ X.A ((compTurn (.ListComp elt [#[.Name t px,iter,ifs,(0)]] scope pos) 0 (.ref it) (.ref s.heap.objs.size) (Po scope cl H2.objs.size X.env)).onRaise (λx=>do noteFrame x (Po scope cl H2.objs.size X.env);theTreesLotGoes x)) _ _ s';show wpAny_noted ?_;rw[compTurn_list];have bm:Inv (pH X (gj t caps) scope cl H2.objs.size s H fp) [(s.heap.objs.size, { cls:=.type "list",data:=.seq its.toArray O })] (fU caps σ v0) L s':=I3.lh λp Y=>by
   have ep:p=(s.heap.objs.size, { cls:=.type "list",data:=.seq its.toArray O }):=(by simpa using Y);subst ep;show#[e3,a0,as,b0,λv z=>by cases(show Pn its.toArray O=Mw v from z)]
  have pD:∀p∈[((s.heap.objs.size:Addr),({ cls:=.type "list",data:=.seq its.toArray O }:Obj))],p.1∉fp:=λp Y=>by
   have ep:p=(s.heap.objs.size, { cls:=.type "list",data:=.seq its.toArray O }):=(by simpa using Y);subst ep;show bv
  rcases hW i n ys L w3 with⟨ca,q⟩|⟨go,N,hN,step⟩
  .show By (MC (By (bV (T.done (pH X (gj t caps) scope cl H2.objs.size s H fp) rfl rfl rfl hc i _ s' _ L _ bm (a5 bl pD) bc ca) λr s4 cc=>?_)));let#[hr,I4]:=cc;subst hr;show DO ?_;have I5:Inv X pins σ L s4:=I.Fv (ch:=fp) I4.os I4.base I4.bG I4.bare λb G=>#[(hf b G).2.2.2.1,(hf b G).2.1,(hf b G).2.2.2.2.1,(hf b G).2.2.2.2.2];have e4:=(I4.pin _ (Kn _ Kv)).1;have fD:gp X pins L s.heap.objs.size:=I.jm (J1 _) a0;have I6:=I5.Gb fD e4 r3 z3;let#[m,hn,_]:=I4.loc;show b9 _ _ ys L s4 m a0 I6 hn (I.jm aT ?_) q;rw[ah (JZ as)];show I4.free
  .show By (MC (By (bV (T.item (pH X (gj t caps) scope cl H2.objs.size s H fp) rfl rfl rfl hc i _ s' _ L _ bm (a5 bl pD) bc go) λr s4 b4=>?_)));let#[u,hr,h4]:=b4;subst hr;show By (bV h4 λ_ s5 b3=>?_);let#[x,H5,I5,r5,y5,ba,b7]:=b3;have ce:=(I5.pin _ (Kn _ Kv)).2.1;have bI:=I5.pinned (a5 b7 pD) (T.obj _ _ ba);have Eb:∀{α:Type}{tr:Pz α}{Q:α->BY->Prop}{E':Value->BY->Prop}{U:BY},wpAny (model X.prog X.w) X.A tr Q (λ_ _=>False) U->wpAny (model X.prog X.w) X.A tr Q E' U:=λh=>LU h (λ_ _ z=>z) λ_ _ z=>z.elim;show By (Nn (ir (X:=pH X (gj t caps) scope cl H2.objs.size s H fp) (i:=0) (x:=t) bI K.nd rfl (.inl (N1 K.Jp)) r5 (λs6 I6=>?_) (.inr (N1 K.Jp))));have e0:(fU caps σ v0).set 0 (some x)=fU caps σ (some x):=rfl;rw[e0]at I6;show By (Eb (bV (ht _ _ _ _ _ s6 _ H5 _ I6 (step x H5 y5)) λok s7 b8=>?_));let#[H7,I7,q7]:=b8;have bi:∀{ac:St}{H':Hp}{U:BY},Inv (pH X (gj t caps) scope cl H2.objs.size s H fp) ([(s.heap.objs.size, { cls:=.type "list",data:=.seq its.toArray O })]++mL fp s5.heap) ac H' U ->
     U.heap.get? s.heap.objs.size=some { cls:=.type "list",data:=.seq its.toArray O }/\H' s.heap.objs.size=none/\tn (i+1) U.heap/\(∀b∈fp,H' b=none):=λ{ac H' U} Ix=>by
    have a:=Ix.pin _ (Kn _ (K9 _ Kv));show#[a.1,a.2.1,T.keep _ _ _ ba λb G o e=>(Ix.pin (b,o) (Kn _ (Kn _ (gA G e)))).1,λb G=>?_];let#[o,e,d]:=T.obj _ _ ba b G;show(Ix.pin (b,o) (Kn _ (Kn _ (gA G e)))).2.1
   have bare:∀{pl:List (Addr×Obj)}{ac:St}{H':Hp}{U:BY},Inv (pH X (gj t caps) scope cl H2.objs.size s H fp) pl ac H' U->Inv (pH X (gj t caps) scope cl H2.objs.size s H fp) [] ac H' U:=λIx=>Ix.lh λp Y=>absurd Y (by simp);cases ok with
   |false =>
    rw[Qh J8]at q7;let#[m',hm,w7]:=hN _ _ q7;let#[a1,a2,a3,a4]:=bi I7;show DO #[rfl,m',hm,i+1,ys,its,O,H7,some x,bare I7,a3,a4,a2,a1,r3,z3,w7]
   |true =>
    rw[Qi rfl]at q7;show By (By (Eb (bV (he _ _ _ _ _ s7 _ H7 _ I7 q7) λy s8 b6=>?_)));let#[yv,H8,I8,r8,ci,n8]:=b6;let#[m',hm,w8]:=hN _ _ n8;let#[a1,a2,a3,a4]:=bi I8;have cm:=r3.length;show By (Mc F.slot_list_append #[_,a1,rfl] F.entry_list_append (F.args_list_append_2 _ _) (list_append s.heap.objs.size its.toArray O y (by rw[IF];omega)) #[a1,?_]);obtain⟨a7,q⟩:∃a7:Nat,(s8.heap.update s.heap.objs.size (Obj.mapSeq (·.push y))).get? s.heap.objs.size=some { cls:=.type "list",data:=.seq (its++[y]).toArray a7 }:=by
     have q:=PySem.IsL.update a1 (·.push y);have ea:its.toArray.push y=(its++[y]).toArray:=(by simp);rw[ea]at q;show#[_,q]
    have I9:Inv (pH X (gj t caps) scope cl H2.objs.size s H fp) [] (fU caps σ (some x)) H8 { s8 with heap:=s8.heap.update s.heap.objs.size (Obj.mapSeq (·.push y)) }:=
     (bare I8).turned (t':=s8.toks) (λb o G e=>(Heap.get?_update_other _ _ (JZ G)).trans e) a2 as (.inr (J1 _)) bY (λp Y=>absurd (show p∈([]:List (Addr×Obj))from Y) (by simp))
    show DO (DO #[rfl,m',hm,i+1,ys++[yv],its++[y],a7,H8,some x,I9,T.keep _ _ _ a3 λb G o e=>(Heap.get?_update_other _ _ (show s.heap.objs.size≠b from λz=>bv (by rw[z];show G))).trans e,a4,a2,q,r3.append (.cons r8 .nil),?_,w8])
    .rw[J9,KZ];omega
 show codeAny_compStart_list (be _ rfl) (T.self _ 0 _ _ _ bx (be _ rfl))
theorem fJ (K:jO X scope cl t caps) (hc:X.calm=true) (hi:PI X (.Name t px) iter wi)
  (ht:∀C s₀ H₀ ex,HE (pH X (gj t caps) scope cl C s₀ H₀ ex) ifs tt) (he:∀C s₀ H₀ ex,PE (pH X (gj t caps) scope cl C s₀ H₀ ex) elt te)
  (hs:∀x,Np iter X.env x=pure x:=by intro _;rfl):PE X (.ListComp elt [#[.Name t px,iter,ifs,(0)]] scope pos) (CH caps wi tt te):=by
 intro pins s σ H Q I h;rw[eval_ListComp];show Nv (use:=none) rfl hs K.FX K.kind K.names (bV (hi pins s σ H _ I h) λv s1 h1=>bV h1 λam s2 h2=>?_);let#[it,fp,tn,J,H2,e,I2,T,U,f2,W,#[m0,G],hW]:=h2;subst e;show lK (RR:=λac C=>compPost (model X.prog X.w) X.A X.xe none (EP X pins σ Q) ac C) K hc ht he I2 T U f2 G hW ?_;intro D C ys H' s' m hD I' N L q;show#[m,N,λh' ab=>?_];let#[c0,Y,c2,c3,O,c5]:=L;show#[.ref D,_,I'.turned (t':=s'.toks) (λb o hb e=>(ab.2 b hb).trans e) c0 Y c3 O c5,rfl,q D hD]
theorem Bb {i:Nat}{y:Str}{G O:Mj}(hN:X.N.Nodup) (ab:X.N[i]?=some y) (hy:Loc X.env.scope y) (K:jO X scope cl t caps) (hc:X.calm=true) (hi:PI X (.Name t px) iter wi)
  (ht:∀C s₀ H₀ ex,HE (pH X (gj t caps) scope cl C s₀ H₀ ex) ifs tt) (he:∀C s₀ H₀ ex,PE (pH X (gj t caps) scope cl C s₀ H₀ ex) elt te)
  (am:N6 (.ListComp elt [#[.Name t px,iter,ifs,(0)]] scope pos) (some (.Name y G)) O.line X.env=pure true:=by rfl)
  (hs:∀x,Np iter X.env x=pure x:=by intro _;rfl) (hf:X.fn y=true\/X.env.scope.names.lookup y=some .local:=by first|show .inl rfl|show .inr rfl|assumption) :
  PS X (.Assign [.Name y G] (.ListComp elt [#[.Name t px,iter,ifs,(0)]] scope pos) O) (Bg (CH caps wi tt te) (r6 i)):=by
 intro pins s σ H D I h;rw[exec_Assign_Name_used _ _ _ _ am];show By (MC (By ?_));change wpAny _ X.A (do let _ <-comprehension (.ListComp elt [#[.Name t px,iter,ifs,(0)]] scope pos) scope X.env _ (newList []) false (eval iter X.env) (some (Oh (.Name y G) X.env))) _ _ s;show By (bV (Nv (use:=some (Oh (.Name y G) X.env)) (Q:=λ_ s'=>SP X pins D .next s') rfl hs K.FX K.kind K.names
  (bV (hi pins s σ H _ I h) λv s1 h1=>bV h1 λa1 s2 h2=>?_)) λ_ s' hq=>DO (DO hq))
 let#[it,fp,tn,J,H2,e,I2,T,as,f2,W,#[m0,w0],hW]:=h2;subst e;show lK (RR:=λap C=>compPost (model X.prog X.w) X.A X.xe (some (Oh (.Name y G) X.env)) (λ_ s'=>SP X pins D .next s') ap C) K hc ht he I2 T as f2 w0 hW ?_;intro L C ys H' s' m hD I' hn hC q;let#[c0,U,c2,c3,Y,c5]:=hC;change wpAny _ X.A (Oh (.Name y G) X.env (.ref L)) _ _ s';show Nn (oH (v:=.ref L) I' hN ab hy rfl (λs3 I3 a0=>?_) hf);let#[a,aB,ha]:=a0;have ac:C≠a:=by
  rcases ha with z|z
  .rw[z];show U
  .show λw=>Y y a z w.symm
 show#[m,hn.sameBut aB ac,λh' aT=>?_];show#[2,I3.turned (t':=s3.toks) (λb o hb e=>(aT.2 b hb).trans e) c0 U c3 Y c5,q L hD]
end
theorem vq {caps:List (Str×Nat)}{tt:TT}{te:TE}{σ:St}{H:Hp}{lo:Int}{n:Nat}{J:List V->Hp->Prop}(Pv:Nat->List V->Hp->Prop) (L:Pv 0 [] H)
  (hs:∀i ys H,i<n->Pv i ys H->tt (fU caps σ (some (.int (lo+i)))) H λb H2=>if b=true then te (fU caps σ (some (.int (lo+i)))) H2 (λy H3=>ys.length<sizeLine/\Pv (i+1) (ys++[y]) H3)else Pv (i+1) ys H2)
  (hd:∀ys H,Pv n ys H->J ys H):∃W:Nat->Nat->List V->Hp->Prop,(∃m,W 0 m [] H)/\ic caps tt te σ (Bp lo n) J W:=by
 show#[λi m ys H=>m=n-i/\i<=n/\Pv i ys H,#[n,by simp,Kl _,L],?_];rintro i m ys H ⟨rfl,hi,p⟩;by_cases G:i<n
 .show .inr #[G,Pv (i+1),λO H' N=>#[n-(i+1),ae,rfl,G,N],λx H' y=>?_];let#[e,y]:=y;subst e y;show hs i ys _ G p
 .have e:i=n:=ae;subst e;show .inl #[J1 _,hd ys H p]
theorem xq {K:PySem.W.Frag}{a:Addr}{xs:List V}{caps:List (Str×Nat)}{tt:TT}{te:TE}{σ:St}{H:Hp}{G:List V->Hp->Prop}(Pv:Nat->List V->Hp->Prop) (N:Pv 0 [] H) (L:∀i ys H,i<=xs.length->Pv i ys H->bB K H a xs)
  (hs:∀i x ys H,xs[i]?=some x->Pv i ys H->tt (fU caps σ (some x)) H λb H2=>if b=true then te (fU caps σ (some x)) H2 (λy H3=>ys.length<sizeLine/\Pv (i+1) (ys++[y]) H3)else Pv (i+1) ys H2)
  (hd:∀ys H,Pv xs.length ys H->G ys H):∃W:Nat->Nat->List V->Hp->Prop,(∃m,W 0 m [] H)/\ic caps tt te σ (DU K a) G W:=by
 show#[λi m ys H=>m=xs.length-i/\i<=xs.length/\Pv i ys H,#[xs.length,by simp,Kl _,N],?_];rintro i m ys H ⟨rfl,hi,p⟩;have q:=L i ys H hi p;by_cases J:i<xs.length
 .show .inr #[#[xs,xs[i],q,by simp[J]],Pv (i+1),λU H' O=>#[xs.length-(i+1),ae,rfl,J,O],λx H' y=>?_];let#[e,y]:=y;subst e;show hs i x ys _ (y xs q) p
 .have e:i=xs.length:=ae;subst e;show .inl #[#[xs,q,J1 _],hd ys H p]
theorem zP {K:PySem.W.Frag}{a:Addr}{xs:List V}{caps:List (Str×Nat)}{tt:TT}{te:TE}{σ:St}{H:Hp}{G:List V->Hp->Prop}(Pv:Nat->List V->Hp->Prop) (N:Pv 0 [] H) (L:∀i ys H,i<=xs.length->Pv i ys H->cg K H a xs)
  (hs:∀i x ys H,xs[i]?=some x->Pv i ys H->tt (fU caps σ (some x)) H λb H2=>if b=true then te (fU caps σ (some x)) H2 (λy H3=>ys.length<sizeLine/\Pv (i+1) (ys++[y]) H3)else Pv (i+1) ys H2)
  (hd:∀ys H,Pv xs.length ys H->G ys H):∃W:Nat->Nat->List V->Hp->Prop,(∃m,W 0 m [] H)/\ic caps tt te σ (Hz K a) G W:=by
 show#[λi m ys H=>m=xs.length-i/\i<=xs.length/\Pv i ys H,#[xs.length,by simp,Kl _,N],?_];rintro i m ys H ⟨rfl,hi,p⟩;have q:=L i ys H hi p;by_cases J:i<xs.length
 .show .inr #[#[xs,xs[i],q,by simp[J]],Pv (i+1),λU H' O=>#[xs.length-(i+1),ae,rfl,J,O],λx H' y=>?_];let#[e,y]:=y;subst e;show hs i x ys _ (y xs q) p
 .have e:i=xs.length:=ae;subst e;show .inl #[#[xs,q,J1 _],hd ys H p]
theorem eu {caps:List (Str×Nat)}{te:TE}{σ:St}{H:Hp}{lo:Int}{n:Nat}{G:List V->Hp->Prop}(Pv:Nat->List V->Hp->Prop) (J:Pv 0 [] H)
  (hs:∀i ys H,i<n->Pv i ys H->te (fU caps σ (some (.int (lo+i)))) H (λy H3=>ys.length<sizeLine/\Pv (i+1) (ys++[y]) H3))
  (hd:∀ys H,Pv n ys H->G ys H):∃W:Nat->Nat->List V->Hp->Prop,(∃m,W 0 m [] H)/\ic caps nA te σ (Bp lo n) G W :=
 vq Pv J (λi ys H hi p=>by
  change if true=true then _ else Pv (i+1) ys H
  rw[Qi rfl];show hs i ys H hi p) hd
theorem uv {K:PySem.W.Frag}{a:Addr}{xs:List V}{caps:List (Str×Nat)}{te:TE}{σ:St}{H:Hp}{G:List V->Hp->Prop}(Pv:Nat->List V->Hp->Prop) (L:Pv 0 [] H) (J:∀i ys H,i<=xs.length->Pv i ys H->bB K H a xs)
  (hs:∀i x ys H,xs[i]?=some x->Pv i ys H->te (fU caps σ (some x)) H (λy H3=>ys.length<sizeLine/\Pv (i+1) (ys++[y]) H3))
  (hd:∀ys H,Pv xs.length ys H->G ys H):∃W:Nat->Nat->List V->Hp->Prop,(∃m,W 0 m [] H)/\ic caps nA te σ (DU K a) G W :=
 xq Pv L J (λi x ys H hi p=>by
  change if true=true then _ else Pv (i+1) ys H
  rw[Qi rfl];show hs i x ys H hi p) hd
theorem xU {K:PySem.W.Frag}{a:Addr}{xs:List V}{caps:List (Str×Nat)}{te:TE}{σ:St}{H:Hp}{G:List V->Hp->Prop}(Pv:Nat->List V->Hp->Prop) (L:Pv 0 [] H) (J:∀i ys H,i<=xs.length->Pv i ys H->cg K H a xs)
  (hs:∀i x ys H,xs[i]?=some x->Pv i ys H->te (fU caps σ (some x)) H (λy H3=>ys.length<sizeLine/\Pv (i+1) (ys++[y]) H3))
  (hd:∀ys H,Pv xs.length ys H->G ys H):∃W:Nat->Nat->List V->Hp->Prop,(∃m,W 0 m [] H)/\ic caps nA te σ (Hz K a) G W :=
 zP Pv L J (λi x ys H hi p=>by
  change if true=true then _ else Pv (i+1) ys H
  rw[Qi rfl];show hs i x ys H hi p) hd
theorem eR:Kq "list" = some (.type "list"):=ao
theorem mS:Kq "tuple" = some (.type "tuple"):=ao
theorem iS:Kq "int" = some (.type "int"):=ao
theorem Bi:Kq "bool" = some (.type "bool"):=ao
theorem qg:Kq "dict" = some (.type "dict"):=ao
theorem Ax:Kq "max" = some (.builtin "max"):=ao
theorem bW:Kq "isinstance" = some (.builtin "isinstance"):=ao
theorem gq:Kq "sorted" = some (.builtin "sorted"):=ao
section
variable {X:Cx}
inductive yJ (x:V) (vs:List V) (H:Hp) (Q:VK):Prop
 |mk (l:Addr) (ns:List Int) (k:Int) (_:x=.ref l) (_:vs=[.int k]) (_:H l=some (.lst (ns.map V.int))) (_:k∈ns) (_:Q (.int (ns.idxOf k:Nat)) H):yJ x vs H Q
theorem yW:Ey X "list.index" yJ:=by
 intro pins s σ H x vs v us Q I O rv h;let#[l,ns,k,rfl,rfl,hH,N,q]:=h;cases O;let#[u,rfl,Y]:=rv.one;let#[t,rfl]:=Y;let#[z,its,n,r,L,e]:=I.mJ hH;have hi:=intsAre_of r;have ab:=hi.length;rw[DD]at L z;have hs:sizeLine=16777216:=J5;have G:ns.idxOf k<ns.length:=List.idxOf_lt_length_iff.mpr N;show Mc PySem.F.slot_list_index #[_,e,rfl] PySem.F.entry_list_index (PySem.F.args_list_index_2 _ _)
  (SeqAt.list_indexAt l its.toArray n none ([].toArray) (.int k t) (Qc k) (ns.idxOf k) (by simpa[ab]using G) ae ?_ ?_) #[e,λy hy=>(eq_isInt k t hi y (by simpa using hy)).at _ _,#[.int (ns.idxOf k:Nat),H,I.tok _,#[0],q]]
 .change Qc k its[ns.idxOf k]=true;rw[Pp k hi _ ae G];simpa using List.getElem_idxOf G
 .intro j J U;change Qc k its[j]=false;rw[Pp k hi j (by simpa using J) ae];show ne_of_lt_idxOf U _
inductive AH (x:V) (vs:List V) (H:Hp) (Q:VK):Prop
 |mk (l:Addr) (ns:List Int) (k:Int) (_:x=.ref l) (_:vs=[.int k]) (_:H l=some (.lst (ns.map V.int))) (_:Q (.int (ns.count k:Nat)) H):AH x vs H Q
theorem Av:Ey X "list.count" AH:=by
 intro pins s σ H x vs v us Q I J L h;let#[l,ns,k,rfl,rfl,N,q]:=h;cases J;let#[u,rfl,G]:=L.one;let#[t,rfl]:=G;let#[z,its,n,r,O,e]:=I.mJ N;show count_list_ints (PySem.IsL.isList e) (intsAre_of r) #[.int (ns.count k:Nat),H,I.tok _,#[0],q]
end
noncomputable def gQ:List V->List V->Bool
 | [],[]=>true
 |x::xs,y::ys=>kO x y&&gQ xs ys
 |_,_=>false
theorem js:∀{xs ys:List V},xs.length≠ys.length->gQ xs ys=false
 | [],[],h=>absurd rfl h
 | [],_::_,_=>rfl
 |_::_,[],_=>rfl
 |x::xs,y::ys,h=>by
  have G:=js (xs:=xs) (ys:=ys) λe=>h (by simp[e]);change(kO x y&&gQ xs ys)=false;rw[G,Mp]
theorem gH:∀{xs ys:List V},xs.length=ys.length->(List.range xs.length).all (λj=>kO (xs.getD j .non) (ys.getD j .non))=gQ xs ys
 | [],[],_=>rfl
 |x::xs,y::ys,h=>by
  have G:=gH (xs:=xs) (ys:=ys) (by simpa using h);rw[Kf,List.range_succ_eq_map,all_cons,List.all_map];change(kO x y&&_)=(kO x y&&gQ xs ys);rw[<-G];rfl
 | [],_::_,h=>by simp at h
 |_::_,[],h=>by simp at h
theorem Bq (a b:Int):kO (.int a) (.int b)=decide (a=b):=by
 change(a==b)=_;rw[Bool.beq_eq_decide_eq]
theorem oi:∀(xs ys:List Int),gQ (xs.map V.int) (ys.map V.int)=decide (xs=ys)
 | [],[]=>rfl
 | [],_::_=>rfl
 |_::_,[]=>rfl
 |x::xs,y::ys=>by
  have G:=oi xs ys;change(kO (.int x) (.int y)&&gQ (xs.map V.int) (ys.map V.int))=_;rw[G,Bq];by_cases h1:x=y
  .by_cases h2:xs=ys
   .simp[h1,h2]
   .simp[h1,h2]
  .simp[h1]
theorem fm (xs:List Int):(xs.map V.int).all dv=true:=by
 rw[List.all_map];show List.all_eq_true.mpr λ_ _=>rfl
section
variable {X:Cx}
inductive Fz (K:PySem.W.Frag) (x:V) (y:V) (H:Hp) (Q:VK):Prop
 |mk (p:_) (q:_) (xs:_) (ys:_) (_:x=.ref p) (_:y=.ref q) (_:bB K H p xs) (_:bB K H q ys) (_:xs.all dv=true) (_:ys.all dv=true) (_:Q (.bl (gQ xs ys)) H):Fz K x y H Q
theorem Ep (hu:X.A.units<Me):kW X (Lo .Eq) (Fz X.K):=by
 intro pins s σ H x y v u Q I rx ry h;let#[p,q,xs,ys,rfl,rfl,hx,hy,fx,fy,O]:=h;cases rx;cases ry;let#[its,r,pl,hz]:=I.list hx;let#[U,L,Y,ap]:=I.list hy;have N:=r.length;have am:=L.length;by_cases e:xs.length=ys.length
 .show SeqAt.eq_listAt (e:=λj=>kO (xs.getD j .non) (ys.getD j .non)) pl.isList Y.isList (by rw[IF,IF];omega) hu (λj h1 h2=>?_) #[.bl (gQ xs ys),H,I,?_,O]
  .have J:j<xs.length:=(by rw[IF]at h1;omega);have G:j<ys.length:=ae;let#[a,ea,ra]:=r.get (i:=j) (x:=xs[j]) (by simp[J]);let#[b,eb,rb]:=L.get (i:=j) (x:=ys[j]) (by simp[G]);let#[_,ac]:=List.getElem?_eq_some_iff.mp ea;let#[_,ab]:=List.getElem?_eq_some_iff.mp eb;have g1:xs.getD j .non=xs[j]:=(by simp[J]);have g2:ys.getD j .non=ys[j]:=(by simp[G]);change Nd _ _ its.toArray[j] U.toArray[j] (kO (xs.getD j .non) (ys.getD j .non));rw[g1,g2];have f1:dv xs[j]=true:=List.all_eq_true.mp fx _ (La J);have f2:dv ys[j]=true:=List.all_eq_true.mp fy _ (La G);have z:=lV (A:=X.A.in1) (s:=s) ra rb f1 f2;have a1:its.toArray[j]=a:=(by simpa using ac);have a2:U.toArray[j]=b:=(by simpa using ab);rw[a1,a2];show z
  .change Value.bool _=Value.bool _;rw[IF, <-N,gH e]
 .show SeqAt.eq_list_lengthsAt pl.isList Y.isList ?_ hu #[.bl (gQ xs ys),H,I,?_,O]
  .rw[IF,IF, <-N, <-am];show bne_iff_ne.mpr e
  .change Value.bool _=Value.bool _;rw[js e]
theorem rh:GY X (Cg X.K):=by
 intro pins s σ H o i ov iv Q I U ri h;let#[p,xs,k,z,rfl,rfl,hq,Y,q]:=h;cases U;let#[t,rfl]:=ri;let#[its,r,pl,hz]:=I.list hq;let#[j,h1,h2,h3,h4,h5]:=p7 Y;let#[w,J,ab]:=r.get h2;have O:=r.length;have hn:=mR;have L:EP X pins σ Q w s:=#[z,H,I,ab,q];by_cases N:0<=k
 .have G:k.toNat=j:=by
   rw[Nq N h5]at h1;show Option.some.inj h1
  show wpAny_getItem_list pl.isList N ae (by rw[G];simpa using J) L
 .have G:(k+(its.toArray.size:Int)).toNat=j:=by
   rw[seqIndex_neg ae h4]at h1;rw[IF, <-O];show Option.some.inj h1
  show NO pl.isList ae (by rw[IF]<;>omega) ae (by rw[G];simpa using J) L
theorem dG:di X (.builtin "isinstance") (λxs H Q=>∃x n t b,xs=[x,.ty n]/\jH X.K H x t/\Mb X.K t (.type n)=some b/\Q (.bl b) H):=by
 intro pins s σ H xs us Q I r h;let#[x,n,t,b,rfl,ty,e,q]:=h;let#[u,c,rfl,G,J]:=vals2 r;obtain rfl:c=Value.type n:=J;show yc I G ty e λtk=>#[.bl b,H,I.tok _,rfl,q]
theorem EK (K:PySem.W.Frag):Mb K (.type "int") (.type "int")=some true:=rfl
theorem EA (K:PySem.W.Frag):Mb K (.type "list") (.type "list")=some true:=rfl
theorem EJ (K:PySem.W.Frag):Mb K (.type "int") (.type "bool")=some false:=by with_unfolding_all rfl
end
theorem Ag:Kq "range" = some (.type "range"):=ao
section
variable {X:Cx}
end
end L2
namespace PySem.W
open PySem PySem.Spec PySem.Calls PyProof.Rows Builtin Builtin.ObjectAttr Builtin.Getset_descriptor
section
variable {prog:J2}{w:Kd}{A:Kk}{E:Value->BY->Prop}{s:BY}{K:Frag}{x C:Addr}
end
end PySem.W
namespace L2
open PySem PySem.Spec PyProof.Rows PySem.W
section
variable {X:Cx}{pins:List (Addr×Obj)}{σ:St}{H H':Hp}{s s':BY}
end
section
variable {X:Cx}{e:Kt}{te:TE}{tx:TEX}{t:TS}{ts us:TSX}{st:Ky}{sts rest:List Ky}{pos:Mj}
end
section
variable {X:Cx}{k:Nat}{f C:Addr}{fd:J0}{ps:List Str}{sp:Sp}{dvs:List V}{ds:List Value}{x m:Str}{p pos apos:Mj}{e o:Kt}{es:List Kt}{ta:TE}{t:TA}
end
section
variable {X:Cx}{pins:List (Addr×Obj)}{σ:St}{H:Hp}{s:BY}
end
section
variable {X:Cx}{v v2:Kt}{vs:List Kt}{te:TE}{t:TJ}{pos:Mj}
end
section
variable {X:Cx}{C:Addr}{x:Str}{np cpos pos:Mj}{e₀:Kt}{es:List Kt}{t:TA}
end
section
variable {P:J2}{w:Kd}{K:PySem.W.Frag}{mg:Str->Option Value}{base:Heap}
end
section
variable {X:Cx}{pins:List (Addr×Obj)}{σ:St}{H:Hp}{s:BY}
end
section
variable {X:Cx}{C:Addr}{i:Nat}{x n:Str}{np hpos pos:Mj}{body suite:List Ky}{b₀:Ky}{tb:TSX}{ts:TS}
end
section
variable {X:Cx}{tg:Kt}
end
section
variable {X:Cx}{C:Addr}{x:Str}{np hpos pos:Mj}{body suite:List Ky}{b₀:Ky}{tb:TSX}{ts:TS}
end
section
variable {t u r:TS}{D:Ends}{σ:St}{H:Hp}
noncomputable abbrev Le (u G:TS):Prop:=∀D σ H,u D σ H->G D σ H
theorem Le.rfl:Le u u:=λ_ _ _ h=>h
theorem dX {c:TT}(k:∀t' G,Le t t'->Le u G->xh c t' G D σ H):xh c t u D σ H:=k t u Le.rfl Le.rfl
theorem gx {te:TE}{i:Nat}(k:∀Q:V->Hp->Prop,(∀x H1,u D (σ.set i (some x)) H1->Q x H1)->te σ H Q):m7 (Bg te (r6 i)) u D σ H:=k _ λ_ _ h=>h
theorem ID {te:TE}(k:∀Q:V->Hp->Prop,(∀x H1,D.rt x H1->Q x H1)->te σ H Q):FP te D σ H:=k _ λ_ _ h=>h
theorem bQ {A B:Hp->Prop}{Q:Bool->Hp->Prop}(e:Q=λb H1=>if b=true then A H1 else B H1):(∀H1,A H1->Q true H1)/\∀H1,B H1->Q false H1:=by
 subst e;show#[λ_ h=>dZ h,λ_ h=>bC h]
theorem bX {c:TT}(k:∀Q:Bool->Hp->Prop,(∀H1,t { D with nx:=r D } σ H1->Q true H1)->(∀H1,r D σ H1->Q false H1)->c σ H Q):m7 (xh c t rA) r D σ H:=k _ (bQ rfl).1 (bQ (A:=λH1=>t { D with nx:=r D } σ H1) rfl).2
theorem vV {c:TT}(k:∀Q:Bool->Hp->Prop,(∀H1,t D σ H1->Q true H1)->(∀H1,D.nx σ H1->Q false H1)->c σ H Q):xh c t rA D σ H:=k _ (bQ rfl).1 (bQ (A:=λH1=>t D σ H1) rfl).2
theorem tU {Q:Bool->Hp->Prop}{b:Bool}{H:Hp}(t:b=true->Q true H) (f:¬ b=true->Q false H):Q b H:=by
 cases b
 .show f (by intro z;cases z)
 .show t rfl
theorem iU {c:TT}(G:St->Hp->Prop) (mk:(∀σ H,G σ H->r D σ H)->∀Q:Bool->Hp->Prop,(∀H1,t { D with nx:=r D } σ H1->Q true H1)->(∀H1,G σ H1->Q false H1)->c σ H Q) (h:∀σ H,G σ H->r D σ H):m7 (xh c t rA) r D σ H:=mk h _ (bQ rfl).1 λH1 p=>(bQ (A:=λH1=>t { D with nx:=r D } σ H1) rfl).2 H1 (h _ _ p)
noncomputable def Ev (te:TE) (σ:St) (H:Hp) (v:V):Prop:=∀Q:V->Hp->Prop,Q v H->te σ H Q
theorem bw {i:Nat}{v:V}(h:σ[i]?=some (some v)):Ev (Cq i) σ H v:=λ_ q=>#[_,h,q]
theorem bA {v:V}:Ev (tC v) σ H v:=λ_ q=>q
theorem dN {ta tb:TE}{x y:V}{Q:Bool->Hp->Prop}(a:Ev ta σ H x) (b:Ev tb σ H y) (s:Ba x y=true) (n:¬ x=y) (q:Q false H):yq (E6 Ih ta tb) σ H Q:=a _ (b _ #[s,0,by rw[decide_eq_false n];show q])
theorem eqT {ta tb:TE}{x:V}{Q:Bool->Hp->Prop}(a:Ev ta σ H x) (b:Ev tb σ H x) (s:Ba x x=true) (q:Q true H):yq (E6 Ih ta tb) σ H Q:=a _ (b _ #[s,0,by rw[decide_eq_true rfl];show q])
theorem share (G:St->Hp->Prop) (mk:∀J,(∀σ H,G σ H->J D σ H)->m7 t J D σ H) (h:∀σ H,G σ H->u D σ H):m7 t u D σ H:=mk u h
end
section
variable {κ:Type} [DecidableEq κ]
noncomputable def dF (kvs:List (κ×V)) (k:κ):Option V:=(kvs.find? λG=>decide (G.1=k)).map (·.2)
noncomputable def putK (kvs:List (κ×V)) (k:κ) (v:V):List (κ×V):=
 if (kvs.any λG=>decide (G.1=k))=true then kvs.map (λG=>if G.1=k then(G.1,v)else G)else kvs++[(k,v)]
noncomputable def mQ (kvs:List (κ×V)) (k:κ):List (κ×V):=kvs.filter λG=>decide (G.1≠k)
theorem er {p:κ×V}{r:List (κ×V)}{k:κ}(e:p.1=k):dF (p::r) k=some p.2:=by simp[dF,Mz,e]
theorem ck {p:κ×V}{r:List (κ×V)}{k:κ}(e:¬ p.1=k):dF (p::r) k=dF r k:=by simp[dF,Mz,e]
theorem jj (k:κ):∀kvs:List (κ×V),(kvs.any λG=>decide (G.1=k))=(dF kvs k).isSome
 | []=>rfl
 |p::r=>by
  rw[NZ];by_cases e:p.1=k
  .simp only[er e,decide_eq_true e,Bool.true_or,Option.isSome_some]
  .rw[ck e,decide_eq_false e,Bool.false_or];show jj k r
theorem fN (kvs:List (κ×V)) (k:κ) (v:V):(putK kvs k v).length<=kvs.length+1:=by
 unfold putK;split
 .rw[DD];omega
 .rw[J9,Kf,MB];omega
theorem jV {kvs:List (κ×V)}{k:κ}(v:V) (h:dF kvs k=none):putK kvs k v=kvs++[(k,v)]:=by
 unfold putK;rw[jj,h];show Qh ar
theorem fO.gh {o:Option V}{u:Option Value}(r:fO o u):o.isSome=u.isSome:=by
 cases o with
 |none=>cases u with
  |none=>rfl
  |some _=>show(show False from r).elim
 |some _=>cases u with
  |none=>show(show False from r).elim
  |some _=>rfl
theorem fO.getD {o:Option V}{u:Option Value}{d:V}{d':Value}(r:fO o u) (rd:RelV d d'):RelV (o.getD d) (u.getD d'):=by
 cases o with
 |none=>cases u with
  |none=>show rd
  |some _=>show(show False from r).elim
 |some _=>cases u with
  |none=>show(show False from r).elim
  |some _=>show r
theorem KV.val {kvs:List (κ×V)}{vs:List (κ×Value)}(r:KV kvs vs) (k:κ):fO (dF kvs k) (NP vs k):=by
 unfold KV at r
 induction r with
 |nil=>show Lg
 | @cons p q ps G h t L =>
  let#[h1,h2]:=h;by_cases e:p.1=k
  .have J:q.1=k:=h1.symm.trans e;have b:NP (q::G) k=some q.2:=(by simp[NP,Mz,J]);rw[er e,b];show h2
  .have J:¬ q.1=k:=λz=>e (h1.trans z);have b:NP (q::G) k=NP G k:=(by simp[NP,Mz,J]);rw[ck e,b];show L
theorem KV.any {kvs:List (κ×V)}{vs:List (κ×Value)}(r:KV kvs vs) (k:κ):(kvs.any λG=>decide (G.1=k))=vs.any λG=>decide (G.1=k):=by
 unfold KV at r
 induction r with
 |nil=>rfl
 |cons h t J=>rw[NZ,NZ,J,h.1]
theorem KV.DM {kvs:List (κ×V)}{vs:List (κ×Value)}(r:KV kvs vs) (k:κ) {y:V}{u:Value}(L:RelV y u) :
  KV (kvs.map λG=>if G.1=k then(G.1,y)else G) (vs.map λG=>if G.1=k then(G.1,u)else G):=by
 unfold KV at r ⊢
 induction r with
 |nil=>show .nil
 | @cons p q ps N h t J =>
  rw[Lm,Lm];show .cons ?_ J;let#[h1,h2]:=h;by_cases e:p.1=k
  .rw[Qi e,Qi (h1.symm.trans e)];show#[h1,L]
  .rw[Qh e,Qh (λz=>e (h1.trans z))];show#[h1,h2]
theorem KV.put {kvs:List (κ×V)}{vs:List (κ×Value)}(r:KV kvs vs) (k:κ) {y:V}{u:Value}(G:RelV y u):KV (putK kvs k y) (stored vs k u):=by
 unfold putK stored;rw[r.any k];by_cases e:(vs.any λJ=>decide (J.1=k))=true
 .rw[Qi e,Qi e];show r.DM k G
 .rw[Qh e,Qh e];show Paired.snoc r #[rfl,G]
theorem KV.drop {kvs:List (κ×V)}{vs:List (κ×Value)}(r:KV kvs vs) (k:κ):KV (mQ kvs k) (without vs k):=by
 unfold KV at r ⊢;unfold mQ without
 induction r with
 |nil=>show .nil
 | @cons p q ps L h t G =>
  let#[h1,h2]:=h;rw[Ls,Ls];by_cases e:p.1=k
  .have a:¬ decide (p.1≠k)=true:=(by simp[e]);have b:¬ decide (q.1≠k)=true:=(by simp[h1.symm.trans e]);rw[Qh a,Qh b];show G
  .have J:¬ q.1=k:=λz=>e (h1.trans z);have a:decide (p.1≠k)=true:=(by simp[e]);have b:decide (q.1≠k)=true:=(by simp[J]);rw[Qi a,Qi b];show .cons #[h1,h2] G
theorem KV.keys {kvs:List (κ×V)}{vs:List (κ×Value)}(r:KV kvs vs):kvs.map (·.1)=vs.map (·.1):=by
 unfold KV at r
 induction r with
 |nil=>rfl
 |cons h t G=>rw[Lm,Lm,G,h.1]
theorem KV.length {kvs:List (κ×V)}{vs:List (κ×Value)}(r:KV kvs vs):kvs.length=vs.length:=Paired.length r
theorem yR (kvs:List (κ×V)) (k:κ):(mQ kvs k).length<=kvs.length:=List.length_filter_le _ _
end
theorem iJ {P:J2}{w:Kd}{k:Key}{u:Value}(r:RelV (kV k) u):(br P w).is k u=true:=by
 cases k with
 |inl i=>let#[t,e]:=(show ∃t,u=Value.int i t from r);subst e;show rL P w i t
 |inr x=>let#[t,e]:=(show ∃t,u=Value.str x t from r);subst e;show sj P w x t
theorem oJ {P:J2}{w:Kd}:∀{ks:List Key}{us:List Value},Vals (ks.map kV) us->ItemsAre (br P w) ks us
 | [],_,r=>by rw[OX]at r;cases r;show .nil
 |k::ks,_,r=>by
  rw[Lm]at r;cases r with
  |cons h t=>show .cons (iJ h) (oJ t)
noncomputable abbrev KT (H:Hp):List (List Key×V)->List (List Key×Addr×Value)->Prop:=Paired λp q=>p.1=q.1/\H q.2.1=some (.tup (p.1.map kV))/\RelV p.2 q.2.2
theorem KT.val {H:Hp}{kvs:List (List Key×V)}{xs:List (List Key×Addr×Value)}(r:KT H kvs xs) (k:List Key):fO (dF kvs k) ((OS xs k).map (·.2)):=by
 induction r with
 |nil=>show Lg
 | @cons p q ps G h t L =>
  let#[h1,_,h2]:=h;by_cases e:p.1=k
  .have J:q.1=k:=h1.symm.trans e;have b:OS (q::G) k=some q.2:=(by simp[OS,Mz,J]);rw[er e,b];show h2
  .have J:¬ q.1=k:=λz=>e (h1.trans z);have b:OS (q::G) k=OS G k:=(by simp[OS,Mz,J]);rw[ck e,b];show L
theorem KT.DM {H:Hp}{kvs:List (List Key×V)}{xs:List (List Key×Addr×Value)}(r:KT H kvs xs) (k:List Key) {y:V}{u:Value}(L:RelV y u) :
  KT H (kvs.map λG=>if G.1=k then(G.1,y)else G) (xs.map (putAt k u)):=by
 induction r with
 |nil=>show .nil
 | @cons p q ps O h t J =>
  rw[Lm,Lm];show .cons ?_ J;let#[h1,h2,N]:=h;unfold putAt;by_cases e:p.1=k
  .rw[Qi e,Qi (h1.symm.trans e)];show#[h1,h2,L]
  .rw[Qh e,Qh (λz=>e (h1.trans z))];show#[h1,h2,N]
theorem KT.put {H:Hp}{kvs:List (List Key×V)}{xs:List (List Key×Addr×Value)}(r:KT H kvs xs) (k:List Key) {b:Addr}{y:V}{u:Value}(J:H b=some (.tup (k.map kV))) (G:RelV y u) :
  KT H (putK kvs k y) (storedH xs k b u):=by
 have e:(kvs.any λL=>decide (L.1=k))=(OS xs k).isSome:=by
  rw[jj,(r.val k).gh,Nf]
 unfold putK storedH;rw[e];by_cases q:(OS xs k).isSome=true
 .rw[Qi q,Qi q];show r.DM k G
 .rw[Qh q,Qh q];show Paired.snoc r #[rfl,J,G]
theorem KT.keeps {H H':Hp}{kvs:List (List Key×V)}{xs:List (List Key×Addr×Value)}(r:KT H kvs xs) (G:∀b ys,H b=some (.tup ys)->H' b=some (.tup ys)):KT H' kvs xs :=
 Paired.Ay r λ_ _ z=>#[z.1,G _ _ z.2.1,z.2.2]
section
variable {P:J2}{w:Kd}{H:Hp}{h:Heap}{a:Addr}
theorem CC {u:HO}(ok:iZ P w H h) (e:Rd H a u):bR P w H h a u:=e.ok ok
theorem jJ {kvs:List (Key×V)}(ok:iZ P w H h) (e:Rd H a (.dK kvs)):kvs.length<=sizeLine/\(a==LH)=false/\∃vs,KV kvs vs/\h.DictOf (br P w) a vs :=
 show bR P w H h a (.dK kvs)from CC ok e
theorem gI {kvs:List (Key×V)}(ok:iZ P w H h) (e:H a=some (.dK kvs)):kvs.length<=sizeLine/\(a==LH)=false/\∃vs,KV kvs vs/\h.DictOf (br P w) a vs:=jJ ok (.inl e)
theorem iT {ks:List Key}(ok:iZ P w H h) (e:H a=some (.tup (ks.map kV))):(MZ (br P w)).is h ks a:=by
 let#[_,its,r,o,h1,h2,n,G]:=(show bR P w H h a (.tup (ks.map kV))from ok a _ e);show#[o,its.toArray,n,h1,h2,G,by simpa using oJ r]
theorem kI {kvs:List (List Key×V)}(ok:iZ P w H h) (e:Rd H a (.dT kvs)):kvs.length<=sizeLine/\(a==LH)=false /\
  ∃xs,KT H kvs xs/\h.DictOfH (MZ (br P w)) a xs:=by
 let#[z,y,xs,r,o,es,ep,h1,h2,U,O,N]:=(show bR P w H h a (.dT kvs)from CC ok e);show#[z,y,xs,r,o,es,ep,h1,h2,U,O,λx G=>?_,N];have all:∀{l:List (List Key×V)}{m:List (List Key×Addr×Value)},KT H l m->∀x∈m,(MZ (br P w)).is h x.1 x.2.1:=by
  intro l m q
  induction q with
  |nil=>intro x G;show nomatch G
  | @cons p q ps Y J t L =>
   intro x G;rcases List.mem_cons.mp G with e|G
   .subst e;show iT ok (by rw[<-J.1];show J.2.1)
   .show L x G
 show all r x G
theorem Gr {kvs:List (List Key×V)}(ok:iZ P w H h) (e:H a=some (.dT kvs)):kvs.length<=sizeLine/\(a==LH)=false /\
  ∃xs,KT H kvs xs/\h.DictOfH (MZ (br P w)) a xs:=kI ok (.inl e)
end
noncomputable def du (H:Hp) (a:Addr) (y:V) (r:Option V):Prop :=
 (∃kvs k,Rd H a (.dK kvs)/\y=kV k/\r=dF kvs k)\/∃kvs k b,Rd H a (.dT kvs)/\y=.ref b/\H b=some (.tup (k.map kV))/\r=dF kvs k
noncomputable def gf (H:Hp) (a:Addr) (y v:V) (H':Hp):Prop :=
 (∃kvs k,H a=some (.dK kvs)/\y=kV k/\kvs.length<sizeLine/\H'=upd H a (.dK (putK kvs k v))) \/
 ∃kvs k b,H a=some (.dT kvs)/\y=.ref b/\H b=some (.tup (k.map kV))/\kvs.length<sizeLine/\H'=upd H a (.dT (putK kvs k v))
theorem du.k {H:Hp}{a:Addr}{kvs:List (Key×V)}{k:Key}(e:H a=some (.dK kvs)):du H a (kV k) (dF kvs k):=.inl #[kvs,k,.inl e,1]
theorem gf.k {H:Hp}{a:Addr}{kvs:List (Key×V)}{k:Key}{v:V}(e:H a=some (.dK kvs)) (G:kvs.length<sizeLine):gf H a (kV k) v (upd H a (.dK (putK kvs k v))):=.inl #[kvs,k,e,rfl,G,rfl]
section
variable {X:Cx}{pins:List (Addr×Obj)}{σ:St}{H:Hp}{s:BY}{a:Addr}{y v:V}{u r:Value}{o:Option V}{A:Kk}{E:Value->BY->Prop}
theorem Inv.big (I:Inv X pins σ H s):LH<s.heap.objs.size:=by
 have h:KJ<s.heap.objs.size:=(I.mod.glob.keeps I.bk).lt;show Nat.lt_trans ar h
theorem xt {Q:Value->BY->Prop}(hu:A.units+1<Me) (I:Inv X pins σ H s) (g:du H a y (some v)) (Y:RelV y u) (h:∀G s',Inv X pins σ H s'->RelV v G->Q G s') :
  wpAny (model X.prog X.w) A (MD (.ref a) u) Q E s:=by
 rcases g with⟨kvs,k,e,O,l⟩|⟨kvs,k,b,e,O,eb,l⟩
 .subst O;let#[z,hd,vs,N,J]:=jJ I.bG e;let#[G,U,L]:=fO.some_of (v:=v) (o:=NP vs k) (by rw[l];show N.val k);show wpAny_getItem_of (iJ Y) J.mapOf U (h G _ (I.tok _) L)
 .subst O;cases(show u=Value.ref b from Y);let#[z,hd,xs,N,J]:=kI I.bG e;let#[G,U,L]:=fO.some_of (v:=v) (o:=(OS xs k).map (·.2)) (by rw[l];show N.val k);let#[p,hp,ab]:=Option.map_eq_some_iff.mp U;show wpAny_getItem_heap (LB hu) (iT I.bG eb) J hp ?_;rw[ab];show h G _ (I.tok _) L
theorem IJ {Q:Value->BY->Prop}(O:A.units+1<Me) (I:Inv X pins σ H s) (g:du H a y o) (N:RelV y u) (h:∀s',Inv X pins σ H s'->Q (.bool o.isSome) s') :
  wpAny (model X.prog X.w) A (Lo .In u (.ref a)) Q E s:=by
 rcases g with⟨kvs,k,e,L,l⟩|⟨kvs,k,b,e,L,U,l⟩
 .subst L;let#[z,hd,vs,J,G]:=jJ I.bG e;show wpAny_in_of (iJ N) hd G.mapOf ?_;rw[<-(J.val k).gh, <-l];show h _ (I.tok _)
 .subst L;cases(show u=Value.ref b from N);let#[z,hd,xs,J,G]:=kI I.bG e;show wpAny_in_heap (LB O) (iT I.bG U) hd G ?_;have q:=(J.val k).gh;rw[Nf]at q;rw[<-q, <-l];show h _ (I.tok _)
theorem Bj {Q:Value->BY->Prop}(O:A.units+1<Me) (I:Inv X pins σ H s) (g:du H a y o) (N:RelV y u) (h:∀s',Inv X pins σ H s'->Q (.bool (!o.isSome)) s') :
  wpAny (model X.prog X.w) A (Lo .NotIn u (.ref a)) Q E s:=by
 rcases g with⟨kvs,k,e,L,l⟩|⟨kvs,k,b,e,L,U,l⟩
 .subst L;let#[z,hd,vs,J,G]:=jJ I.bG e;show wpAny_notIn_of (iJ N) hd G.mapOf ?_;rw[<-(J.val k).gh, <-l];show h _ (I.tok _)
 .subst L;cases(show u=Value.ref b from N);let#[z,hd,xs,J,G]:=kI I.bG e;show wpAny_notIn_heap (LB O) (iT I.bG U) hd G ?_;have q:=(J.val k).gh;rw[Nf]at q;rw[<-q, <-l];show h _ (I.tok _)
theorem jz {h':Heap}{t':Nat}{ob:HO}(I:Inv X pins σ H s) (L:Gs (H a)) (hs:Heap.SameBut a s.heap h') (G:∃q,h'.get? a=some q) (new:bR X.prog X.w (upd H a ob) h' a ob) :
  Inv X pins σ (upd H a ob) { s with heap:=h',toks:=t' }:=
 I.write (x:=a) (e:=a) L (.inl rfl) (λb q J z=>(hs.2 b J).trans z) G new
theorem lW {P:J2}{w:Kd}{H':Hp}{h':Heap}{kvs:List (Key×V)}{vs:List (Key×Value)}(z:kvs.length<=sizeLine) (hd:(a==LH)=false) (J:KV kvs vs) (G:h'.DictOf (br P w) a vs) :
  bR P w H' h' a (.dK kvs):=#[z,hd,vs,J,G]
theorem nU {H':Hp}{Q:Unit->BY->Prop}(hu:A.units+1<Me) (I:Inv X pins σ H s) (g:gf H a y v H') (ry:RelV y u) (rv:RelV v r) (h:∀s',Inv X pins σ H' s'->Q () s') :
  wpAny (model X.prog X.w) A (PQ (.ref a) u r) Q E s:=by
 rcases g with⟨kvs,k,e,U,l,eH⟩|⟨kvs,k,b,e,U,eb,l,eH⟩
 .subst U eH;let#[z,hd,vs,G,Y]:=gI I.bG e;have O:vs.length<=sizeLine:=(by rw[<-G.length];show z);have N:(putK kvs k v).length<=sizeLine:=(by have:=fN kvs k v;omega);show wpAny_setItem_pairs (hsz:=O) (iJ ry) Y λh' J hs=>h _ ?_;have he:∃q,h'.get? a=some q:=let ⟨q,_,_,L,_⟩:=J;#[q,L];show jz I (by rw[e];show Lg) hs he (lW N hd (G.put k rv) J)
 .subst U eH;cases(show u=Value.ref b from ry);let#[z,hd,xs,G,Y]:=Gr I.bG e;have O:xs.length<=sizeLine:=(by rw[<-Paired.length G];show z);have N:(putK kvs k v).length<=sizeLine:=(by have:=fN kvs k v;omega);show wpAny_setItem_heap (hsz:=O) (LB hu) (iT I.bG eb) Y λh' J hs=>h _ ?_;let#[q,es,ep,L,h2,h3,h4,_,h5]:=J;show jz I (by rw[e];show Lg) hs #[q,L] #[N,hd,_,(G.put k eb rv).keeps λc ys ec=>?_,q,es,ep,L,h2,h3,h4,h5];rw[ah (cH ec e (λz=>nomatch z))];show ec
end
section
variable {X:Cx}{pins:List (Addr×Obj)}{σ:St}{H:Hp}{s:BY}{a:Addr}{kvs:List (Key×V)}{k:Key}{u:Value}{A:Kk}{E:Value->BY->Prop}
theorem FT {v:V}{J:List Value}{Q:Value->BY->Prop}(I:Inv X pins σ H s) (e:H a=some (.dK kvs)) (L:RelV (kV k) u) (l:dF kvs k=some v) (Y:J=[]\/∃x,J=[x])
  (h:∀G s',Inv X pins σ (upd H a (.dK (mQ kvs k))) s'->RelV v G->Q G s'):wpAny (model X.prog X.w) A (call (.builtin "dict.pop") (.ref a::u::J)) Q E s:=by
 let#[z,hd,vs,N,O]:=gI I.bG e;let#[G,hw,ab]:=fO.some_of (v:=v) (o:=NP vs k) (by rw[<-l];show N.val k);have hp:(keyPart u).isSome=true:=by
  cases k with
  |inl i=>let#[t,q]:=(show ∃t,u=Value.int i t from L);subst q;rfl
  |inr x=>let#[t,q]:=(show ∃t,u=Value.str x t from L);subst q;rfl
 have ha:PX "dict.pop" #[.ref a::u::J,[]]:=by
  rcases Y with q|⟨x,q⟩
  .subst q;show PySem.F.args_dict_pop_2 _ _
  .subst q;show PySem.F.args_dict_pop_3 _ _ _
 show LL PySem.F.slot_dict_pop O.typeIs PySem.F.entry_dict_pop ha (meets_dict_pop_there (br X.prog X.w) a (iJ L) J Y hp)
  #[vs,G,O,by rw[<-N.length];show z,hw,λh' U hs=>h G _ ?_ ab]
 have he:∃q,h'.get? a=some q:=let ⟨q,_,_,hq,_⟩:=U;#[q,hq];show jz I (by rw[e];show Lg) hs he (lW (Ko (yR kvs k) z) hd (N.drop k) U)
theorem Fq {Q:Value->BY->Prop}(I:Inv X pins σ H s) (e:Rd H a (.dK kvs)) (h:∀t s',Inv X pins σ H s'->Q (.int kvs.length t) s'):wpAny (model X.prog X.w) A (call (.builtin "len") [.ref a]) Q E s:=by
 let#[z,hd,vs,G,J]:=jJ I.bG e;show call_len_dict hd J (by rw[<-G.length];rw[J5]at z;omega) ?_;rw[<-G.length];show h _ _ (I.tok _)
end
noncomputable def GJ (i:Kt):Prop:=∀ov G,NY i false ov G=operate [ov,G] (MD ov G)
theorem BV {prog:J2}{w:Kd}{A:Kk}{E:Value->BY->Prop}{s:BY}{env:P1}{value G:Kt}{pos:Mj}{T id:String}{Q:Value->BY->Prop}
  (hl:typeLookup (.type T) "__getitem__" = pure (some (.builtin id))) (hs:GJ G)
  (h:wpAny (model prog w) A (eval value env) (λo U=>wpAny (model prog w) A (eval G env) (λi J=>J.TypeIs o T/\wpAny (model prog w) A (MD o i) Q E J) E U) E s) :
  wpAny (model prog w) A (eval (.Subscript value G pos) env) Q E s:=by
 show Pl (LU h (λo U ac=>LU ac (λi J N=>?_) λ_ _ x=>x) λ_ _ x=>x);let#[O,N]:=N;unfold Oc;show By ?_;rw[getitemInPython_of_ne O.not_modules];show By (wpAny_specialOf O hl ?_);have L:wpAny (model prog w) A (NY G false o i) (λr Y=>wpAny (model prog w) A (letTemporaryGo value o r>>=λ_=>pure r) Q E Y) E J:=by
  rw[hs o i];show wpAny_operating (LU N (λr Y ab=>By (wpAny_letTemporaryGo (DO ab))) λ_ _ x=>x)
 first
  |show DO (By L)
  |show By (DO (By L))
  |show By L
theorem q8 {X:Cx}{pins:List (Addr×Obj)}{σ:St}{H:Hp}{s:BY}{a:Addr}{y:V}{o:Option V}(I:Inv X pins σ H s) (g:du H a y o):s.TypeIs (.ref a) "dict" := by
 rcases g with⟨kvs,k,e,_,_⟩|⟨kvs,k,b,e,_,_,_⟩
 .let#[_,_,vs,_,G]:=jJ I.bG e;show G.typeIs
 .let#[_,_,xs,_,G]:=kI I.bG e;show G.typeIs
inductive zj (td ty:TE) (Q:VK) (x:V) (y:V) (H2:Hp):Prop
 |mk (a:_) (v:_) (_:x=.ref a) (_:du H2 a y (some v)) (_:Q v H2):zj td ty Q x y H2
noncomputable def E8 (td ty:TE):TE:=λσ H Q=>td σ H λx H1=>ty σ H1 λy H2=>zj td ty Q x y H2
inductive CM (ty td:TE) (Q:VK) (y:V) (x:V) (H2:Hp):Prop
 |mk (a:_) (o:_) (_:x=.ref a) (_:du H2 a y o) (_:Q (.bl o.isSome) H2):CM ty td Q y x H2
noncomputable def Ic (ty td:TE):TE:=λσ H Q=>ty σ H λy H1=>td σ H1 λx H2=>CM ty td Q y x H2
inductive sf (ty td:TE) (Q:VK) (y:V) (x:V) (H2:Hp):Prop
 |mk (a:_) (o:_) (_:x=.ref a) (_:du H2 a y o) (_:Q (.bl (!o.isSome)) H2):sf ty td Q y x H2
noncomputable def Cc (ty td:TE):TE:=λσ H Q=>ty σ H λy H1=>td σ H1 λx H2=>sf ty td Q y x H2
noncomputable def FD (td ty tv:TE):TS:=λD σ H=>tv σ H λv H1=>td σ H1 λx H2=>ty σ H2 λy H3=>ym λa H4=>qT (x=.ref a) (gf H3 a y v H4) (D.nx σ H4)
section
variable {X:Cx}{o i e value:Kt}{pos pos' tpos:Mj}{td ty tv:TE}
theorem bj (hu:X.A.units+1<Me) (O:PE X o td) (hi:PE X i ty) (hs:GJ i):PE X (.Subscript o i pos) (E8 td ty):=by
 intro pins s σ H Q I h;show BV PySem.F.slot_dict_getitem.lookup hs (bV (O pins s σ H _ I h) λu s1 ab=>?_);let#[x,H1,I1,U,N]:=ab;show bV (hi pins s1 σ H1 _ I1 N) λiv s2 ac=>?_;let#[y,H2,G,Y,a,v,ex,g,J]:=ac;subst ex;obtain rfl:u=Value.ref a:=U;show#[q8 G g,xt hu G g Y λw' s3 I3 L=>#[v,H2,I3,L,J]]
theorem kf (Y:X.A.units+1<Me) (hi:PE X i ty) (ho:PE X o td):PC X .In i o (Ic ty td):=by
 intro pins s σ H Q I h;show bV (hi pins s σ H _ I h) λiv s1 G=>?_;let#[y,H1,I1,O,q1]:=G;show bV (ho pins s1 σ H1 _ I1 q1) λu s2 J=>?_;let#[x,H2,U,L,a,ov,ex,g,N]:=J;subst ex;obtain rfl:u=Value.ref a:=L;show IJ Y U g O λs3 I3=>#[.bl ov.isSome,H2,I3,rfl,N]
theorem gc (Y:X.A.units+1<Me) (hi:PE X i ty) (ho:PE X o td):PC X .NotIn i o (Cc ty td):=by
 intro pins s σ H Q I h;show bV (hi pins s σ H _ I h) λiv s1 O=>?_;let#[y,H1,I1,N,q1]:=O;show bV (ho pins s1 σ H1 _ I1 q1) λu s2 L=>?_;let#[x,H2,U,G,a,ov,ex,g,J]:=L;subst ex;obtain rfl:u=Value.ref a:=G;show Bj Y U g N λs3 I3=>#[.bl (!ov.isSome),H2,I3,rfl,J]
theorem jK (hu:X.A.units+1<Me) (Y:PE X o td) (hi:PE X i ty) (O:PE X value tv) (hs:N6 value (some (.Subscript o i pos')) pos.line X.env=pure false) :
  PS X (.Assign [.Subscript o i pos'] value pos) (FD td ty tv):=by
 intro pins s σ H D I h;show wpAny_Assign_Subscript (bV (O pins s σ H _ I h) λr s1 ab=>?_) hs;let#[v,H1,I1,L,U]:=ab;show bV (Y pins s1 σ H1 _ I1 U) λu s2 ac=>?_;let#[x,H2,I2,rx,J]:=ac;show bV (hi pins s2 σ H2 _ I2 J) λiv s3 N=>?_;let#[y,H3,I3,ry,a,H4,ex,g,G]:=N;subst ex;obtain rfl:u=Value.ref a:=rx;show nU hu I3 g ry L λs4 I4=>#[σ,H4,I4,G]
end
theorem sC {P:J2}{w:Kd}{H:Hp}(h:Heap) (G:LH<h.objs.size):bR P w H (h.push { cls:=.type "dict",data:=.dict ([].toArray) }) h.objs.size (.dK []):=
 #[Kl _,beq_eq_false_iff_ne.mpr (JZ (Km G)),[],.nil,Heap.DictOf.new h]
noncomputable def D1:TE:=λ_ H Q=>∀p,H p=none->Q (.ref p) (upd H p (.dK []))
section
variable {X:Cx}{pos:Mj}
theorem dg:PE X (.Dict [] [] pos) D1:=λpins s σ H Q I h =>
 wpAny_Dict_empty #[.ref s.heap.objs.size,_,I.laid (a:=s.heap.objs.size) (o:=.dK []) (t':=s.toks) (λ_ _ q=>Heap.get?_push_of_some _ q) (J1 _) (sC s.heap I.big),rfl,h _ (I.bG.fresh (J1 _))]
end
noncomputable def vI:List (TE×TE)->St->Hp->(List (V×V)->Hp->Prop)->Prop
 | [],_,H,Q=>Q [] H
 |(tk,tv)::r,σ,H,Q=>tk σ H λx H1=>tv σ H1 λy H2=>vI r σ H2 λps H3=>Q ((x,y)::ps) H3
noncomputable abbrev VV:List (V×V)->List (Value×Value)->Prop:=Paired λp q=>RelV p.1 q.1/\RelV p.2 q.2
noncomputable def HJ (X:Cx) (pos:Mj) (keys:List (Option Kt)) (values:List Kt) (G:List (TE×TE)):Prop :=
 ∀(pins:List (Addr×Obj)) (s:BY) (σ:St) (H:Hp) (Q:List (V×V)->Hp->Prop),Inv X pins σ H s->vI G σ H Q ->
  wpAny (model X.prog X.w) X.A (evalPairs (pairTrees keys values X.env pos)) (λvs s'=>∃ps H',Inv X pins σ H' s'/\VV ps vs/\Q ps H') X.xe s
theorem BB {X:Cx}{pos:Mj}:HJ X pos [] [] []:=λpins s σ H Q I h=>pairTrees_nil_walk #[[],H,I,.nil,h]
theorem jF {X:Cx}{pos:Mj}{k v:Kt}{ks:List (Option Kt)}{vs:List Kt}{tk tv:TE}{G:List (TE×TE)}(N:PE X k tk) (O:PE X v tv) (hr:HJ X pos ks vs G) :
  HJ X pos (some k::ks) (v::vs) ((tk,tv)::G):=λpins s σ H Q I h =>
 pairTrees_cons_walk (bV (N pins s σ H _ I h) λu s1 ⟨x,H1,I1,rx,U⟩=>bV (O pins s1 σ H1 _ I1 U) λw2 s2 ⟨y,H2,Y,ry,L⟩ =>
  bV (hr pins s2 σ H2 _ Y L) λws s3 ac=>by let#[ps,H3,I3,ab,J]:=ac;show#[(x,y)::ps,H3,I3,.cons #[rx,ry] ab,J])
noncomputable def j4 (kvs L:List (Key×V)):List (Key×V):=L.foldl (λJ G=>putK J G.1 G.2) kvs
theorem KV.merge:∀{J:List (Key×V)}{G:List (Key×Value)}{kvs:List (Key×V)}{vs:List (Key×Value)},KV J G->KV kvs vs->KV (j4 kvs J) (merged vs G):=by
 intro J G kvs vs r;unfold KV at r
 induction r generalizing kvs vs with
 |nil=>intro q;show q
 | @cons p q ps O h t L =>
  intro N;have e:KV (putK kvs p.1 p.2) (stored vs q.1 q.2):=by
   have:=N.put p.1 h.2;rw[<-h.1];show this
  show L e
theorem iL:∀(G kvs:List (Key×V)),(j4 kvs G).length<=kvs.length+G.length
 | [],kvs=>by change kvs.length<=kvs.length+0;omega
 |p::r,kvs=>by
  have h1:=iL r (putK kvs p.1 p.2);have h2:=fN kvs p.1 p.2;change(j4 (putK kvs p.1 p.2) r).length<=_;rw[Kf];omega
theorem lZ {P:J2}{w:Kd}:∀{kvs:List (Key×V)}{ws:List (Value×Value)},VV (kvs.map λJ=>(kV J.1,J.2)) ws->∃G,Carries (br P w) ws G/\KV kvs G
 | [],_,r=>by rw[OX]at r;cases r;show#[[],Lg,.nil]
 |p::kvs,_,r=>by
  rw[Lm]at r;cases r with
  | @cons a b N bs h t =>
   let#[G,c,q]:=lZ (P:=P) (w:=w) t;let#[O,L]:=b;show#[(p.1,L)::G,#[iJ h.1,rfl,c],.cons #[rfl,h.2] q]
noncomputable def FZ (J:List (TE×TE)):TE:=λσ H Q=>∀p,H p=none->vI J σ (upd H p (.dK [])) λps H2=>H2 p=some (.dK [])/\∃kvs:List (Key×V),ps=kvs.map (λG=>(kV G.1,G.2))/\kvs.length<=15/\Q (.ref p) (upd H2 p (.dK (j4 [] kvs)))
theorem B5 {X:Cx}{pos:Mj}{keys:List (Option Kt)}{values:List Kt}{J:List (TE×TE)}(h:HJ X pos keys values J) (ac:keys.all (·.isSome)=true) (N:keys.length=values.length) (h0:keys≠[])
  (O:keys.length<=15):PE X (.Dict keys values pos) (FZ J):=by
 intro pins s σ H Q I q;have Y:=I.bG.fresh (J1 s.heap.objs.size);have I1:=I.laid (a:=s.heap.objs.size) (o:=.dK []) (h':=s.heap.push { cls:=.type "dict",data:=.dict ([].toArray) }) (t':=s.toks) (λ_ _ q=>Heap.get?_push_of_some _ q) (J1 _) (sC s.heap I.big);show wpAny_Dict_walk (knd:=br X.prog X.w) ac N h0 O (bV (h pins _ σ _ _ I1 (q _ Y)) λws s2 ab=>?_);let#[ps,H2,L,am,e,kvs,ep,lk,U]:=ab;subst ep;let#[rs,c,rk]:=lZ (P:=X.prog) (w:=X.w) am;let#[z,hd,ap,r0,dd]:=gI L.bG e;cases r0;show#[rs,c,dd,λh' G hs=>#[.ref s.heap.objs.size,_,?_,rfl,U]];have hz:(j4 [] kvs).length<=sizeLine:=by
  have h1:=iL kvs [];rw[MB]at h1;rw[J5];omega
 have he:∃q,h'.get? s.heap.objs.size=some q:=let ⟨q,_,_,hq,_⟩:=G;#[q,hq];show jz L (by rw[e];show Lg) hs he (lW hz hd (rk.merge .nil) G)
structure M1 (X:Cx) (o:Kt) (m:Str) (apos:Mj) (e:Kt) (cpos:Mj):Prop where
 base:LR o m X.env (eval o X.env)=eval o X.env
 FR:((backTo cpos (starEach [e] X.env)).all (λx => !x.1)&&(NA cpos (Mf [] X.env)).all (λx=>x.1.isSome)
  && decide (([e]:List Kt).length+([]:List N7).length+(if ([]:List N7).isEmpty then 0 else 1)<30))=true
 line:(apos.endLine==cpos.line)=true
 trees:backTo cpos (starEach [e] X.env)=[(false,eval e X.env)]
structure M2 (X:Cx) (o:Kt) (m:Str) (apos:Mj) (e f:Kt) (cpos:Mj):Prop where
 base:LR o m X.env (eval o X.env)=eval o X.env
 FR:((backTo cpos (starEach [e,f] X.env)).all (λx => !x.1)&&(NA cpos (Mf [] X.env)).all (λx=>x.1.isSome)
  && decide (([e,f]:List Kt).length+([]:List N7).length+(if ([]:List N7).isEmpty then 0 else 1)<30))=true
 line:(apos.endLine==cpos.line)=true
 trees:backTo cpos (starEach [e,f] X.env)=[(false,eval e X.env),(false,eval f X.env)]
noncomputable def GB (H:Hp) (a:Addr):Prop:=(∃kvs,Rd H a (.dK kvs))\/∃kvs,Rd H a (.dT kvs)
theorem kg {X:Cx}{pins:List (Addr×Obj)}{σ:St}{H:Hp}{s:BY}{a:Addr}(I:Inv X pins σ H s) (d:GB H a) :
  s.TypeIs (.ref a) "dict" /\ (∀b,Value.ref a=.ref b->∃ob,s.heap.get? b=some ob/\ob.dict=none)/\(a==LH)=false:=by
 rcases d with⟨kvs,e⟩|⟨kvs,e⟩
 .let#[_,hd,vs,_,G]:=jJ I.bG e;show#[G.typeIs,λb q=>?_,hd];cases q;let#[ob,_,_,h1,h2,_]:=G;show#[ob,h1,h2.2.1]
 .let#[_,hd,xs,_,G]:=kI I.bG e;show#[G.typeIs,λb q=>?_,hd];cases q;let#[ob,_,_,h1,h2,_]:=G;show#[ob,h1,h2.2.1]
section
variable {X:Cx}{pins:List (Addr×Obj)}{σ:St}{H:Hp}{s:BY}{a:Addr}{y d:V}{u r:Value}{o:Option V}{A:Kk}{E:Value->BY->Prop}
theorem Dj {Q:Value->BY->Prop}(U:A.units+1<Me) (I:Inv X pins σ H s) (g:du H a y o) (N:RelV y u) (h:∀O s',Inv X pins σ H s'->RelV (o.getD .non) O->Q O s') :
  wpAny (model X.prog X.w) A (call (.builtin "dict.get") [.ref a,u]) Q E s:=by
 rcases g with⟨kvs,k,e,L,l⟩|⟨kvs,k,b,e,L,Y,l⟩
 .subst L;let#[z,hd,vs,J,G]:=jJ I.bG e;show LL L3 G.typeIs Ng (PySem.F.args_dict_get_2 _ _) (meets_dict_get (br X.prog X.w) a (iJ N) hd) #[_,G.mapOf,h _ _ (I.tok _) ?_];rw[l];show(J.val k).getD rfl
 .subst L;cases(show u=Value.ref b from N);let#[z,hd,xs,J,G]:=kI I.bG e;show LL L3 G.typeIs Ng (PySem.F.args_dict_get_2 _ _) (meetsH_dict_get (MZ (br X.prog X.w)) a b hd) #[LB U,k,xs,iT I.bG Y,G,h _ _ (I.tok _) ?_];rw[l];show(J.val k).getD rfl
theorem Et {Q:Value->BY->Prop}(U:A.units+1<Me) (I:Inv X pins σ H s) (g:du H a y o) (N:RelV y u) (rd:RelV d r) (h:∀O s',Inv X pins σ H s'->RelV (o.getD d) O->Q O s') :
  wpAny (model X.prog X.w) A (call (.builtin "dict.get") [.ref a,u,r]) Q E s:=by
 rcases g with⟨kvs,k,e,L,l⟩|⟨kvs,k,b,e,L,Y,l⟩
 .subst L;let#[z,hd,vs,J,G]:=jJ I.bG e;show LL L3 G.typeIs Ng (PySem.F.args_dict_get_3 _ _ _) (meets_dict_get_default (br X.prog X.w) a (iJ N) hd r) #[_,G.mapOf,h _ _ (I.tok _) ?_];rw[l];show(J.val k).getD rd
 .subst L;cases(show u=Value.ref b from N);let#[z,hd,xs,J,G]:=kI I.bG e;show LL L3 G.typeIs Ng (PySem.F.args_dict_get_3 _ _ _) (meetsH_dict_get_default (MZ (br X.prog X.w)) a b hd r) #[LB U,k,xs,iT I.bG Y,G,h _ _ (I.tok _) ?_];rw[l];show(J.val k).getD rd
end
inductive vY (td ty:TE) (σ:St) (Q:VK) (x:V) (H1:Hp):Prop
 |mk (a:_) (_:x=.ref a) (_:GB H1 a) (_:ty σ H1 λy H2=>∃o,du H2 a y o/\Q (o.getD .non) H2):vY td ty σ Q x H1
noncomputable def EU (td ty:TE):TE:=λσ H Q=>td σ H λx H1=>vY td ty σ Q x H1
inductive wN (td ty tx:TE) (σ:St) (Q:VK) (x:V) (H1:Hp):Prop
 |mk (a:_) (_:x=.ref a) (_:GB H1 a) (_:ty σ H1 λy H2=>tx σ H2 λz H3=>∃o,du H3 a y o/\Q (o.getD z) H3):wN td ty tx σ Q x H1
noncomputable def DB (td ty tx:TE):TE:=λσ H Q=>td σ H λx H1=>wN td ty tx σ Q x H1
inductive wQ (td ty:TE) (σ:St) (Q:VK) (x:V) (H1:Hp):Prop
 |mk (a:_) (_:x=.ref a) (_:GB H1 a) (_:ty σ H1 λy H2=>∃kvs k v,H2 a=some (.dK kvs)/\y=kV k/\dF kvs k=some v/\Q v (upd H2 a (.dK (mQ kvs k)))):wQ td ty σ Q x H1
noncomputable def Ea (td ty:TE):TE:=λσ H Q=>td σ H λx H1=>wQ td ty σ Q x H1
section
variable {X:Cx}{o e f:Kt}{apos cpos:Mj}{td ty tx:TE}
theorem Au (hu:X.A.units+1<Me) (ho:PE X o td) (N:PE X e ty) (m:M1 X o "get" apos e cpos):PE X (.Call (.Attribute o "get" apos) [e] [] cpos) (EU td ty):=by
 intro pins s σ H Q I h;show Mq m.base m.FR m.line LP L3 PySem.F.type_dict_get (bV (ho pins s σ H _ I h) λu s1 U=>?_);let#[x,H1,G,rx,a,ex,d,Y]:=U;subst ex;obtain rfl:u=Value.ref a:=rx;let#[O,t2,_]:=kg G d;show#[O,t2,?_];rw[m.trees];show Calls.callWith_builtin rfl (Calls.evalArgs_plain (Calls.spliced_cons (bV (N pins s1 σ H1 _ G Y) λiv s2 ab=>?_)));let#[y,H2,I2,ry,ov,g,J]:=ab;show Calls.spliced_nil ?_;show Dj hu I2 g ry λw' s3 I3 L=>#[_,H2,I3,L,J]
theorem rO (hu:X.A.units+1<Me) (ho:PE X o td) (U:PE X e ty) (N:PE X f tx) (m:M2 X o "get" apos e f cpos):PE X (.Call (.Attribute o "get" apos) [e,f] [] cpos) (DB td ty tx):=by
 intro pins s σ H Q I h;show Mq m.base m.FR m.line LP L3 PySem.F.type_dict_get (bV (ho pins s σ H _ I h) λu s1 Y=>?_);let#[x,H1,G,rx,a,ex,d,q1]:=Y;subst ex;obtain rfl:u=Value.ref a:=rx;let#[t1,t2,_]:=kg G d;show#[t1,t2,?_];rw[m.trees];show Calls.callWith_builtin rfl (Calls.evalArgs_plain (Calls.spliced_cons (bV (U pins s1 σ H1 _ G q1) λiv s2 ⟨y,H2,I2,ry,L⟩ =>
  Calls.spliced_cons (bV (N pins s2 σ H2 _ I2 L) λfv s3 ⟨z,H3,I3,rz,ov,g,J⟩=>Calls.spliced_nil ?_))))
 show Et hu I3 g ry rz λw' s4 I4 O=>#[_,H3,I4,O,J]
theorem eI (ho:PE X o td) (N:PE X e ty) (m:M1 X o "pop" apos e cpos):PE X (.Call (.Attribute o "pop" apos) [e] [] cpos) (Ea td ty):=by
 intro pins s σ H Q I h;show Mq m.base m.FR m.line LP PySem.F.slot_dict_pop PySem.F.type_dict_pop (bV (ho pins s σ H _ I h) λu s1 O=>?_);let#[x,H1,G,rx,a,ex,d,q1]:=O;subst ex;obtain rfl:u=Value.ref a:=rx;let#[Y,t2,_]:=kg G d;show#[Y,t2,?_];rw[m.trees];show Calls.callWith_builtin rfl (Calls.evalArgs_plain (Calls.spliced_cons (bV (N pins s1 σ H1 _ G q1) λiv s2 U=>?_)));let#[y,H2,I2,ry,kvs,k,v,ea,ey,l,J]:=U;show Calls.spliced_nil ?_;subst ey;show FT I2 ea ry l (.inl rfl) λw' s3 I3 L=>#[v,_,I3,L,J]
end
section
variable {X:Cx}{pins:List (Addr×Obj)}{σ:St}{H:Hp}{s:BY}{a:Addr}{kvs:List (Key×V)}{A:Kk}{E:Value->BY->Prop}
end
section
variable {X:Cx}{pins:List (Addr×Obj)}{σ:St}{H:Hp}{s:BY}{a:Addr}{y:V}{u:Value}{A:Kk}{E:Value->BY->Prop}
end
section
variable {X:Cx}
theorem kB:di X (.builtin "len") (λxs H Q=>∃a kvs,xs=[V.ref a]/\H a=some (.dK kvs)/\Q (.int kvs.length) H):=by
 intro pins s σ H xs us Q I r h;let#[a,kvs,rfl,L,q]:=h;let#[u,rfl,G]:=vals1 r;cases G;show Fq I (.inl L) λt s' J=>#[.int kvs.length,H,J,#[t,rfl],q]
end
section
variable {κ:Type} [DecidableEq κ]
theorem fG:∀{l:List κ}{k:κ},l.Nodup->¬ k∈l->(l++[k]).Nodup
 | [],k,_,_=>by simp
 |a::r,k,h,G=>by
  let#[h1,h2]:=List.nodup_cons.mp h;change(a::(r++[k])).Nodup;show List.nodup_cons.mpr #[λm=>?_,fG h2 λm=>G (List.mem_cons.mpr (N0 m))];rcases List.mem_append.mp m with q|q
  .show h1 q
  .show G (List.mem_cons.mpr (J6 (List.mem_singleton.mp q).symm))
end
section
variable {X:Cx}{pins:List (Addr×Obj)}{σ:St}{H:Hp}{s:BY}{a:Addr}{kvs:List (Key×V)}{k:Key}{u r:Value}{d:V}{A:Kk}{E:Value->BY->Prop}
theorem DW {Q:Value->BY->Prop}(I:Inv X pins σ H s) (e:H a=some (.dK kvs)) (ry:RelV (kV k) u) (rd:RelV d r) (hl:kvs.length<sizeLine)
  (h1:∀v J s',dF kvs k=some v->Inv X pins σ H s'->RelV v J->Q J s') (h2:∀s',dF kvs k=none->Inv X pins σ (upd H a (.dK (putK kvs k d))) s'->Q r s') :
  wpAny (model X.prog X.w) A (call (.builtin "dict.setdefault") [.ref a,u,r]) Q E s:=by
 let#[z,hd,vs,G,N]:=gI I.bG e;show LL PySem.F.slot_dict_setdefault N.typeIs PySem.F.entry_dict_setdefault (PySem.F.args_dict_setdefault_3 _ _ _) (kt_meets_setdefault (br X.prog X.w) a (iJ ry) hd r)
  #[vs,N,by rw[<-G.length];show z,λv L=>?_,λY h' O hs=>?_]
 .have q:=G.val k;cases l:dF kvs k with
  |none=>rw[l]at q;rw[fO.none_of q]at L;cases L
  |some y =>
   rw[l]at q;let#[J,U,ab]:=fO.some_of q;rw[L]at U;cases U;show h1 y v _ l (I.tok _) ab
 .have l:dF kvs k=none:=by
   cases l:dF kvs k with
   |none=>rfl
   |some y =>
    have q:=G.val k;rw[l,Y]at q;cases q
  have he:∃q,h'.get? a=some q:=let ⟨q,_,_,hq,_⟩:=O;#[q,hq];show h2 _ l (jz I (by rw[e];show Lg) hs he (lW (by have:=fN kvs k d;omega) hd (G.put k rd) O))
end
inductive vN (td ty tx:TE) (σ:St) (Q:VK) (x:V) (H1:Hp):Prop
 |mk (a:_) (_:x=.ref a) (_:GB H1 a) (_:ty σ H1 λy H2=>tx σ H2 λz H3=>∃kvs k,H3 a=some (.dK kvs)/\y=kV k/\kvs.length<sizeLine/\(∀v,dF kvs k=some v->Q v H3)/\(dF kvs k=none->Q z (upd H3 a (.dK (putK kvs k z))))):vN td ty tx σ Q x H1
noncomputable def Dv (td ty tx:TE):TE:=λσ H Q=>td σ H λx H1=>vN td ty tx σ Q x H1
section
variable {X:Cx}{o e f:Kt}{apos cpos:Mj}{td ty tx:TE}
theorem zb (ho:PE X o td) (he:PE X e ty) (Y:PE X f tx) (m:M2 X o "setdefault" apos e f cpos):PE X (.Call (.Attribute o "setdefault" apos) [e,f] [] cpos) (Dv td ty tx):=by
 intro pins s σ H Q I h;show Mq m.base m.FR m.line LP PySem.F.slot_dict_setdefault PySem.F.type_dict_setdefault (bV (ho pins s σ H _ I h) λu s1 ac=>?_);let#[x,H1,L,rx,a,ex,d,q1]:=ac;subst ex;obtain rfl:u=Value.ref a:=rx;let#[t1,t2,_]:=kg L d;show#[t1,t2,?_];rw[m.trees];show Calls.callWith_builtin rfl (Calls.evalArgs_plain (Calls.spliced_cons (bV (he pins s1 σ H1 _ L q1) λiv s2 ⟨y,H2,I2,ry,U⟩ =>
  Calls.spliced_cons (bV (Y pins s2 σ H2 _ I2 U) λfv s3 ⟨z,H3,I3,J,kvs,k,ea,ey,N,O,q4⟩=>Calls.spliced_nil ?_))))
 subst ey;show DW I3 ea ry J N (λv w' s4 l G ab=>#[v,_,G,ab,O v l]) λs4 l G=>#[z,_,G,J,q4 l]
end
section
variable {X:Cx}{pins:List (Addr×Obj)}{σ:St}{H:Hp}{s:BY}{a:Addr}{o:Obj}{u:HO}{kvs:List (Key×V)}
theorem Inv.swap {w:HO}(I:Inv X pins σ H s) (h:H a=some u) (h1:∀o G,X.H₀ a≠some (.cu o G)) (h2:∀xs,u≠.tup xs) (h3:∀ps,u≠.tbl ps) (h4:∀x,u≠.own x) (new:bR X.prog X.w (upd H a w) s.heap a w):Inv X pins σ (upd H a w) s:=by
 have J:∀b,H b=none->b≠a:=λb q z=>(by rw[z,h]at q;cases q);show#[I.ok,I.os,I.bare,#[I.base.keep,I.base.slot,λb o q U hx=>?_,I.base.there,λb xs q=>?_,λb o G q=>?_,λb ps q=>?_],I.loc,I.cell,?_,λy c q=>?_,λp Y=>?_,λb v q=>?_,I.len]
 .have z:=I.base.free b o q U hx;rw[ah (J b z)];show z
 .have z:=I.base.pZ b xs q;rw[ah (λe=>h2 xs (by rw[e,h]at z;show Option.some.inj z))];show z
 .have z:=I.base.nD b o G q;rw[ah (λe=>h1 o G (by rw[<-e];show q))];show z
 .let#[ab,z]:=I.base.qe b ps q;show#[ab,by rw[ah (λe=>h3 _ (by rw[e,h]at z;show Option.some.inj z))];show z]
 .rw[ah (J _ I.free)];show I.free
 .rw[ah (J _ (I.gO y c q))];show I.gO y c q
 .let#[a1,N,O]:=I.pin p Y;show#[a1,by rw[ah (J _ N)];show N,O]
 .by_cases L:b=a
  .subst L;rw[af]at q;cases q;show new
  .rw[ah L]at q;show(I.bG b v q).pI (λ_ _ _ z=>z) (λc z=>by rw[ah (λe=>h4 b (by rw[e,h]at z;show Option.some.inj z))];show z) λc xs z=>by rw[ah (λe=>h2 xs (by rw[e,h]at z;show Option.some.inj z))];show z
theorem Inv.freeze (I:Inv X pins σ H s) (h:H a=some (.dK kvs)) (J:s.heap.get? a=some o) (h1:∀o G,X.H₀ a≠some (.cu o G)):Inv X pins σ (upd H a (.cu o (.dK kvs))) s :=
 I.swap h h1 (λ_ z=>nomatch z) (λ_ z=>nomatch z) (λ_ z=>nomatch z) #[J,(show bR X.prog X.w H s.heap a (.dK kvs)from I.bG a _ h)]
theorem Inv.ED (I:Inv X pins σ H s) (h:H a=some (.cu o (.dK kvs))) (h1:∀o G,X.H₀ a≠some (.cu o G)):Inv X pins σ (upd H a (.dK kvs)) s :=
 I.swap h h1 (λ_ z=>nomatch z) (λ_ z=>nomatch z) (λ_ z=>nomatch z) (show bR X.prog X.w H s.heap a (.cu o (.dK kvs))from I.bG a _ h).2
end
noncomputable def yk (o:Obj):Nat:=match o.data with
 |.dict _ ep=>ep
 |_=>0
noncomputable def Dh (a:Addr) (o:Obj) (kvs:List (Key×V)):It :=
 #[λi H=>H a=some (.cu o (.dK kvs))/\i<kvs.length,λi H x H'=>H'=H/\∃k v,kvs[i]?=some (k,v)/\x=kV k,λi H=>H a=some (.cu o (.dK kvs))/\kvs.length<=i]
theorem oW {P:J2}{w:Kd}{k:Key}{u:Value}(h:(br P w).is k u=true):RelV (kV k) u:=by
 rcases cw (show ng k u=true from h)with⟨i,t,rfl,rfl⟩|⟨x,t,rfl,rfl⟩
 .show#[t,rfl]
 .show#[t,rfl]
theorem kG {P:J2}{w:Kd}{H:Hp}{h:Heap}{a:Addr}{o:Obj}{kvs:List (Key×V)}(ok:iZ P w H h) (e:H a=some (.cu o (.dK kvs))):(a==LH)=false/\∃vs,KV kvs vs/\h.DictAt (br P w) a vs (yk o):=by
 let#[J,_,hd,vs,r,o',es,ep,h1,h2,G,L]:=(show bR P w H h a (.cu o (.dK kvs))from ok a _ e);rw[J]at h1;cases h1;have N:yk o=ep:=(by unfold yk;rw[G]);show#[hd,vs,r,o,es,J,h2,by rw[N];show G,L]
theorem xI {P:J2}{w:Kd}{K:PySem.W.Frag}{tg:Kt}(a G:Addr) (a1:a≠G) (o:Obj) (kvs:List (Key×V)):Turn P w K tg (Dh a o kvs) [G] G (λi h=>h.IsKeyIter G a i kvs.length (yk o)) where
 mem:=by simp
 obj:=λi h st b J=>by
  have e:b=G:=(by simpa using J);subst e;let#[ob,h1,_,h3]:=st;show#[ob,h1,λv z=>by rw[h3]at z;cases z]
 keep:=λi h h' st k=>st.at λo e=>k G (by simp) o e
 item:=by
  intro X hP hw hK hc i pins s σ H E I L st N;subst hP hw hK;let#[ab,ap]:=N;let#[f0,U,f2,Y,O,f5]:=L G (by simp);let#[hd,vs,r,da]:=kG I.bG ab;have ac:=r.length;obtain⟨⟨k,x⟩,hx⟩:∃p,vs[i]?=some p:=#[vs[i]'ae,by simp];have as:∃v,kvs[i]?=some (k,v):=by
   have hi:i<kvs.length:=ap;show#[(kvs[i]).2,?_];have e:=r.keys;have e1:(kvs.map (·.1))[i]?=(vs.map (·.1))[i]?:=(by rw[e]);rw[J3,J3,hx,J4 hi]at e1;have e2:kvs[i].1=k:=Option.some.inj e1;rw[J4 hi, <-e2]
  let#[v,hv]:=as;rw[ac]at st ⊢;show wpAny_pyNext_dict_item st da hx λa0 h' aT am aB=>?_;have I1:Inv X pins σ H { s with heap:=h',toks:=s.toks }:=I.turned (λb o J e=>(aB.2 b J).trans e) f0 U Y O f5;let#[ob,h1,h2,h3]:=id am;show#[0,oq (s:={ s with heap:=h' }) (n := "dict_keyiterator") h1 h2 h3 ar #[kV k,H,I1,oW aT,#[rfl,k,v,hv,rfl],am,λb J=>(L b J).1]]
 done:=by
  intro X hP hw hK hc i pins s σ H E I L st N;subst hP hw hK;let#[ab,ap]:=N;let#[f0,U,f2,Y,O,f5]:=L G (by simp);let#[hd,vs,r,da]:=kG I.bG ab;have ac:=r.length;rw[ac]at st;show wpAny_pyNext_dict_end (I.ok.hd hc) st da (by simp;omega) λh' eb=>#[rfl,I.turned (t':=s.toks) (λb o J e=>eb b o J e) f0 U Y O f5]
 self:=λ_ _ _ _ _ st h=>wpAny_pyIter_keyiter st h
noncomputable def FG (H₀:Hp) (td:TE):TI:=λσ H R=>td σ H λx H1=>ym λa kvs=>EZ (x=.ref a) (H1 a=some (.dK kvs)) ((∀o G,H₀ a≠some (.cu o G))) (∀o,R (Dh a o kvs) (upd H1 a (.cu o (.dK kvs))))
section
variable {X:Cx}{tg:Kt}
theorem qh {l:Kt}{td:TE}(U:PE X l td):PI X tg l (FG X.H₀ td):=by
 intro pins s σ H R I h;show bV (U pins s σ H _ I h) λv G ab=>?_;let#[x,H1,N,O,a,kvs,e,L,Y,q]:=ab;subst e;cases O;let#[_,hd,vs,ac,dd]:=gI N.bG L;let#[ob,es,ep,h1,h2,h3,h4]:=id dd;have J:=N.freeze L h1 Y;have lt:a<G.heap.objs.size:=Heap.lt_size h1;have da:G.heap.DictAt (br X.prog X.w) a vs (yk ob):=#[ob,es,h1,h2,by unfold yk;rw[h3],h4];show wpAny_pyIter_dict hd da ?_;show#[G.heap.objs.size,[G.heap.objs.size],_,Dh a ob kvs,0,J.kept (t':=G.toks) λb o e=>Heap.get?_push_of_some _ e,xI a _ (Km lt) ob kvs,#[_,Heap.get?_push_size _ rfl,4],λb hb=>?_,q ob]
 .rw[ac.length];rfl
 .have e:b=G.heap.objs.size:=(by simpa using hb);subst e;show J.jm (J1 _) (J.bG.fresh (J1 _))
noncomputable def Gp (H₀:Hp) (t:TS):TS:=λD σ H=>t { D with
 nx:=λJ H'=>∃a o kvs,H' a=some (.cu o (.dK kvs))/\(∀o G,H₀ a≠some (.cu o G))/\D.nx J (upd H' a (.dK kvs))
 rt:=λv H'=>∃a o kvs,H' a=some (.cu o (.dK kvs))/\(∀o G,H₀ a≠some (.cu o G))/\D.rt v (upd H' a (.dK kvs)) } σ H
theorem jD {st:Ky}{t:TS}(h:PS X st t):PS X st (Gp X.H₀ t):=by
 intro pins s σ H D I q;show bV (h pins s σ H _ I q) λf Y G=>?_;cases f with
 |next =>
  let#[O,H',N,a,o,kvs,U,J,L]:=G;show#[O,_,N.ED U J,L]
 |ret u =>
  let#[v,O,H',N,r,a,o,kvs,U,J,L]:=G;show#[v,O,_,N.ED U J,r,L]
 |brk=>show G
 |cont=>show G
end
theorem qZ {a:Addr}{o:Obj}{kvs:List (Key×V)}{g:TG}{tb:TS}{D:Ends}{σ:St}{H:Hp}(Pv:Nat->St->Hp->Prop) (h0:Pv 0 σ H) (U:∀i σ H,i<=kvs.length->Pv i σ H->H a=some (.cu o (.dK kvs)))
  (hs:∀i k v σ H,kvs[i]?=some (k,v)->Pv i σ H->g (kV k) σ H λJ H2=>tb { D with nx:=Pv (i+1),ct:=Pv (i+1),bk:=D.nx } J H2) (hd:∀σ H,Pv kvs.length σ H->D.nx σ H) :
  ∃W:Nat->Nat->St->Hp->Prop,(∃m,W 0 m σ H)/\∀i m σ H,W i m σ H ->
   ((Dh a o kvs).stop i H/\D.nx σ H)\/((Dh a o kvs).go i H/\∃N:St->Hp->Prop,(∀G H',N G H'->∃L,L<m/\W (i+1) L G H')/\∀x H',(Dh a o kvs).BU i H x H'->g x σ H' λJ H2=>tb { D with nx:=N,ct:=N,bk:=D.nx } J H2):=by
 show#[λi m σ H=>m=kvs.length-i/\i<=kvs.length/\Pv i σ H,#[kvs.length,by simp,Kl _,h0],?_];rintro i m σ H ⟨rfl,hi,p⟩;have q:=U i σ H hi p;by_cases O:i<kvs.length
 .show .inr #[#[q,O],Pv (i+1),λG H' p'=>#[kvs.length-(i+1),ae,rfl,O,p'],λx H' y=>?_];let#[e,k,v,Y,ex]:=y;subst e ex;show hs i k v σ _ Y p
 .have e:i=kvs.length:=ae;subst e;show .inl #[#[q,J1 _],hd σ H p]
section
variable {X:Cx}
inductive Fd (K:PySem.W.Frag) (x:V) (y:V) (H:Hp) (Q:VK):Prop
 |mk (p:_) (q:_) (xs:_) (ys:_) (_:x=.ref p) (_:y=.ref q) (_:bB K H p xs) (_:bB K H q ys) (_:xs.all dv=true) (_:ys.all dv=true) (_:Q (.bl (!gQ xs ys)) H):Fd K x y H Q
theorem EE (hu:X.A.units<Me):kW X (Lo .NotEq) (Fd X.K):=by
 intro pins s σ H x y v u Q I rx ry h;let#[p,q,xs,ys,rfl,rfl,hx,hy,fx,fy,O]:=h;cases rx;cases ry;let#[its,r,pl,hz]:=I.list hx;let#[U,L,Y,ap]:=I.list hy;have N:=r.length;have am:=L.length;by_cases e:xs.length=ys.length
 .show PySem.SeqAt.RcNeAt.lists (e:=λj=>kO (xs.getD j .non) (ys.getD j .non)) pl.isList Y.isList (by rw[IF,IF];omega) hu (λj h1 h2=>?_) _ _ _ _ #[.bl (!gQ xs ys),H,I,?_,O]
  .have J:j<xs.length:=(by rw[IF]at h1;omega);have G:j<ys.length:=ae;let#[a,ea,ra]:=r.get (i:=j) (x:=xs[j]) (by simp[J]);let#[b,eb,rb]:=L.get (i:=j) (x:=ys[j]) (by simp[G]);let#[_,ac]:=List.getElem?_eq_some_iff.mp ea;let#[_,ab]:=List.getElem?_eq_some_iff.mp eb;have g1:xs.getD j .non=xs[j]:=(by simp[J]);have g2:ys.getD j .non=ys[j]:=(by simp[G]);change Nd _ _ its.toArray[j] U.toArray[j] (kO (xs.getD j .non) (ys.getD j .non));rw[g1,g2];have f1:dv xs[j]=true:=List.all_eq_true.mp fx _ (La J);have f2:dv ys[j]=true:=List.all_eq_true.mp fy _ (La G);have z:=lV (A:=X.A.in1) (s:=s) ra rb f1 f2;have a1:its.toArray[j]=a:=(by simpa using ac);have a2:U.toArray[j]=b:=(by simpa using ab);rw[a1,a2];show z
  .change Value.bool _=Value.bool _;rw[IF, <-N,gH e]
 .show PySem.SeqAt.RcNeAt.lists_lengths pl.isList Y.isList ?_ hu _ _ _ _ #[.bl (!gQ xs ys),H,I,?_,O]
  .rw[IF,IF, <-N, <-am];show bne_iff_ne.mpr e
  .change Value.bool _=Value.bool _;rw[js e];rfl
end
noncomputable def Di (lo st:Int) (n:Nat):It:=#[λi _=>i<n,λi H x H'=>H'=H/\x=.int (lo+i*st),λi _=>n<=i]
theorem sD {P:J2}{w:Kd}{K:PySem.W.Frag}{tg:Kt}(G:Addr) (lo st:Int) (n:Nat):Turn P w K tg (Di lo st n) [G] G (λi h=>NV h G (lo+(i:Nat)*st) ((n:Int)-(i:Nat)) st) where
 mem:=by simp
 obj:=λi h st b J=>by
  have e:b=G:=(by simpa using J);subst e;show#[_,st,λv z=>by
   have z':MF _=Mw v:=z;cases z']
 keep:=λi h h' st k=>k G (by simp) _ st
 item:=by
  intro X hP hw hK hc i pins s σ H E I L U N;subst hP hw hK;let#[f0,Y,f2,f3,O,f5]:=L G (by simp);have W:=P7 (prog:=X.prog) (w:=X.w) (I.ok.hd hc) G lo st n;show W.item i s _ _ N U λv h' tk hv ab kk=>?_;let#[t,rfl]:=hv;have I1:Inv X pins σ H { s with heap:=h',toks:=tk }:=I.turned (λb o J e=>kk b o (by simpa using J) e) f0 Y f3 O f5;show#[0,oq (s:={ s with heap:=h',toks:=tk }) (n := "range_iterator") ab rfl rfl ar #[.int (lo+i*st),H,I1,#[t,rfl],#[1],ab,λb J=>(L b J).1]]
 done:=by
  intro X hP hw hK hc i pins s σ H E I L U N;subst hP hw hK;let#[f0,Y,f2,f3,O,f5]:=L G (by simp);show NK (I.ok.hd hc) U (by have:n<=i:=N;omega) λh' eb=>#[rfl,I.turned (t':=s.toks) (λb o J e=>eb b o J e) f0 Y f3 O f5]
 self:=λ_ _ _ _ _ st h=>NL st h
noncomputable def Hl (ta:TA):TI:=λσ H R=>ta σ H λvs H1=>∃(i j st:Int) (n:Nat),vs=[.int i,.int j,.int st]/\Builtin.Range.small i j st=true/\Builtin.Range.rangeSize i j st=(n:Int)/\st≠0/\Builtin.divisionGoesByPylong (j-i) st=false/\R (Di i st n) H1
section
variable {X:Cx}{tg:Kt}
theorem w9 {a b c:Kt}{ta:TA}{p pos:Mj}(Y:Gl X "range") (hm:X.mg "range" = none) (ha:PA X [a,b,c] ta) (hs:starEach [a,b,c] X.env=[(false,eval a X.env),(false,eval b X.env),(false,eval c X.env)]:=by rfl) (O:starEach [b,c] X.env=[(false,eval b X.env),(false,eval c X.env)]:=by rfl) :
  PI X tg (.Call (.Name "range" p) [a,b,c] [] pos) (Hl ta):=by
 intro pins s σ H R I h;show Call_ (iq I Y hm Pb (KS (bV (ha pos pins s σ H _ I h) λus J ⟨vs,H1,I1,U,L⟩=>?_) (by rw[hs,O]) (by rw[O];rfl)));let#[i,j,st,n,e,L,q2,q3,q4,q]:=L;subst e;cases U with
 |cons r G =>
  cases G with
  |cons r' G =>
   cases G with
   |cons ac G =>
    cases G;let#[t,rfl]:=r;let#[t',rfl]:=r';let#[ab,rfl]:=ac;show call_range_3 q3 ?_ (.inl q4);show Oi (Qa ..) L ?_;have N:Inv X pins σ H1 { J with heap:=J.heap.push { cls:=.type "range",data:=.fields ([.int i t,.int j t',.int st ab].toArray) },toks:=J.toks }:=I1.kept λb o e=>Heap.get?_push_of_some _ e;show#[_,[_],2,H1,rfl,N.kept (t':=J.toks) λb o e=>Heap.get?_push_of_some _ e,sD _ i st n,?_,λb hb=>?_,q]
    .have e1:i+((0:Nat):Int)*st=i:=(by simp);have e2:(n:Int)-((0:Nat):Int)=Builtin.Range.rangeSize i j st:=(by rw[q2];omega);change NV _ _ (i+((0:Nat):Int)*st) ((n:Int)-((0:Nat):Int)) st;rw[e1,e2];show Heap.get?_push_size _ rfl
    .have e:=List.mem_singleton.mp hb;subst e;show N.jm (J1 _) (N.bG.fresh (J1 _))
end
theorem AB (K:PySem.W.Frag):Mb K (.type "int") (.type "tuple")=some false:=by with_unfolding_all rfl
theorem zR (K:PySem.W.Frag):Mb K (.type "int") (.type "list")=some false:=by with_unfolding_all rfl
theorem yo (K:PySem.W.Frag):Mb K (.type "int") (.type "dict")=some false:=by with_unfolding_all rfl
theorem yF (K:PySem.W.Frag):Mb K (.type "str") (.type "tuple")=some false:=by with_unfolding_all rfl
theorem zT (K:PySem.W.Frag):Mb K (.type "str") (.type "list")=some false:=by with_unfolding_all rfl
theorem Aw (K:PySem.W.Frag):Mb K (.type "str") (.type "dict")=some false:=by with_unfolding_all rfl
theorem zH (K:PySem.W.Frag):Mb K (.type "NoneType") (.type "tuple")=some false:=by with_unfolding_all rfl
theorem Aq (K:PySem.W.Frag):Mb K (.type "NoneType") (.type "list")=some false:=by with_unfolding_all rfl
theorem y7 (K:PySem.W.Frag):Mb K (.type "NoneType") (.type "dict")=some false:=by with_unfolding_all rfl
theorem Ez (K:PySem.W.Frag):Mb K (.type "tuple") (.type "tuple")=some true:=rfl
end L2
namespace Srt
open PySem PyProof.Rows
structure SI (a₀:Array Kc) (st:KA):Prop where
 perm:(Ka st).Perm a₀
 kind:kindOf st=L4
 failed:L6 st=none
structure Ks (a₀:Array Kc):Prop where
 ik:IntKeys a₀
 nd:(a₀.toList.map λp=>LI p.1).Nodup
noncomputable def kl (xs:Array Kc) (lo hi:Nat):Prop:=∀i j,lo<=i->i<=j->j<hi->K xs i<=K xs j
theorem SI.size {a₀:Array Kc}{st:KA}(h:SI a₀ st):(Ka st).size=a₀.size:=h.perm.size_eq
theorem uu {a₀ xs:Array Kc}(N:xs.Perm a₀) (k:Ks a₀) {i:Nat}(hi:i<xs.size):∃t q,xs[i]?=some (.int (K xs i) t,q):=by
 have L:xs[i]∈a₀.toList:=(LC.mp N).mem_iff.mp (by simp);let#[n,t,J]:=k.ik _ L;have e:xs[i]?=some xs[i]:=getElem?_pos _ i hi;have G:xs[i]=(.int n t,xs[i].2):=OG J rfl;show#[t,xs[i].2,?_];unfold K;rw[e,G];rfl
theorem key_ne {a₀ xs:Array Kc}(N:xs.Perm a₀) (k:Ks a₀) {i j:Nat}(hi:i<j) (G:j<xs.size):K xs i≠K xs j:=by
 have J:=(LC.mp N).map λp:Kc=>LI p.1;have L:(xs.toList.map λp=>LI p.1).Nodup:=J.nodup_iff.mpr k.nd;have h1:i<xs.size:=ae;have a:=List.pairwise_iff_getElem.mp L i j (by simpa using h1) (by simpa using G) hi;unfold K;rw[getElem?_pos xs i h1,getElem?_pos xs j G];simpa using a
theorem SI.setArr {a₀:Array Kc}{st:KA}(h:SI a₀ st) {xs:Array Kc}(G:xs.Perm (Ka st)):SI a₀ (setArr st xs):=#[G.trans h.perm,h.kind,h.failed]
section
variable {prog:J2}{w:Kd}{A:Kk}{E:Value->BY->Prop}{s:BY}{a₀:Array Kc}
theorem p8 {st:KA}{x y:Kc}{a b:Int}{t u:Qe}{Q:Option Bool->KA->Prop}(G:kindOf st=L4) (J:x.1=.int a t) (L:y.1=.int b u) (h:Q (some (decide (a<b))) st) :
  P4 (model prog w) A E s (lt' x y) Q st:=by
 rw[lt'_eq];show HC (Mr ?_);rw[G,keyLt'_oneType,J,L];show HC (NB (wpAny_attempt (oneLt_int #[rfl,JY h])))
theorem bt {st:KA}{xs:Array Kc}{i:Nat}{p:Kc}{Q:Kc->KA->Prop}(hi:xs[i]?=some p) (h:Q p st):P4 (model prog w) A E s (elem' xs i) Q st:=by
 rw[elem'_eq,hi];show JY h
theorem oN {st:KA}{i j:Nat}{Q:Option Bool->KA->Prop}(S:SI a₀ st) (k:Ks a₀) (hi:i<a₀.size) (J:j<a₀.size) (h:Q (some (decide (K (Ka st) i<K (Ka st) j))) st) :
  P4 (model prog w) A E s (ltAt' i j) Q st:=by
 let#[t,p,L]:=uu S.perm k (by rw[S.size];show hi);let#[u,q,G]:=uu S.perm k (by rw[S.size];show J);show wpS_ltAt S.kind L G h
structure Cut (a₀:Array Kc) (st st':KA) (lo:Nat):Prop where
 S:SI a₀ st'
 pre:∀i,i<lo->(Ka st')[i]?=(Ka st)[i]?
 pend:Ki st'=Ki st
theorem zF {st:KA}{lo nrem:Nat}{Q:Option Nat->KA->Prop}(S:SI a₀ st) (k:Ks a₀) (hn:lo+nrem<=a₀.size) (h1:1<=nrem)
  (h:∀m G,Cut a₀ st G lo->1<=m->m<=nrem->kl (Ka G) lo (lo+m)->Q (some m) G):P4 (model prog w) A E s (countRun' lo nrem) Q st:=by
 rw[countRun'_eq];show HC (Ln (KD (I:=λx c G=>qT (G=st) (c=(none,x)) (kl (Ka st) lo (lo+x))) (Q:=λc G=>G=st/\∃n,c=(none,n)/\1<=n/\n<=nrem/\kl (Ka st) lo (lo+n)/\(n=nrem\/K (Ka st) (lo+n)<K (Ka st) (lo+n-1))) ?_ ?_ ?_) ?_)
 .rintro x c G ac ap ⟨rfl,rfl,hs⟩;dsimp only;show HC (oN S k ae ae ?_);by_cases c:K (Ka G) (lo+x)<K (Ka G) (lo+x-1)
  .simp only[c,decide_true,if_true];show JY #[rfl,x,rfl,ac,ae,hs,.inr c]
  .simp only[c,decide_false,KQ,if_false];show JY #[1,λi j hi N Y=>?_];by_cases z:j<lo+x
   .show hs i j hi N z
   .by_cases U:i=j
    .rw[U];show Int.le_refl _
    .have:=hs i (lo+x-1) hi ae ae;have O:j=lo+x:=ae;rw[O];lia
 .rintro c G ⟨rfl,rfl,hs⟩;rw[show max 1 nrem=nrem by lia]at hs ⊢;show#[rfl,nrem,rfl,h1,J1 _,hs,.inl rfl]
 .show#[1,λi j hi N Y=>by rw[show i=j by lia];show Int.le_refl _]
 .rintro c G ⟨rfl,n,rfl,n1,n2,hs,aB⟩;dsimp only;by_cases e:n=nrem
  .rw[Qi (by simpa using e)];show JY (h n G #[S,λ_ _=>rfl,rfl] n1 n2 hs)
  .rw[Qh (by simpa using e)];have aT:=aB.resolve_left e;by_cases g:n>1
   .rw[Qi g];show HC (oN S k ae ae ?_);have r:K (Ka G) lo<K (Ka G) (lo+n-1):=by
     have a:=hs lo (lo+n-1) (J1 _) ae (by omega +splitNatSub);have b:=key_ne S.perm k (i:=lo) (j:=lo+n-1) (by omega +splitNatSub) (by rw[S.size];lia);lia
    simp only[r,decide_true,if_true];show JY (h n G #[S,λ_ _=>rfl,rfl] n1 n2 hs)
   .rw[Qh g];have e1:n=1:=ae;subst e1;show HC (NB (LJ #[4]));have as:∀i j,lo<=i->i<=j->j<lo+2->K (Ka G) j<=K (Ka G) i:=λi j hi N Y=>by
     by_cases z:i=j
     .rw[z];show Int.le_refl _
     .have ei:i=lo:=ae;have O:j=lo+1:=ae;rw[ei,O];show Int.le_of_lt aT
    show HC (Ln (KD (I:=λx c J=>qT (J=G) (c=(none,x,0)) (∀i j,lo<=i->i<=j->j<lo+x->K (Ka G) j<=K (Ka G) i)) (Q:=λc J=>J=G/\∃n,c=(none,n,0)/\2<=n/\n<=nrem/\∀i j,lo<=i->i<=j->j<lo+n->K (Ka G) j<=K (Ka G) i) ?_ ?_ ?_) ?_)
    .rintro x c J ac ap ⟨rfl,rfl,hd⟩;dsimp only;show HC (oN S k ae ae ?_);by_cases c:K (Ka J) (lo+x)<K (Ka J) (lo+x-1)
     .simp only[c,decide_true,if_true];rw[Qh ae];show JY #[1,λi j hi N Y=>?_];by_cases z:j<lo+x
      .show hd i j hi N z
      .by_cases U:i=j
       .rw[U];show Int.le_refl _
       .have:=hd i (lo+x-1) hi ae ae;have O:j=lo+x:=ae;rw[O];lia
     .simp only[c,decide_false,KQ,if_false];show HC (oN S k ae ae ?_);have r:K (Ka J) (lo+x-1)<K (Ka J) (lo+x):=by
       have b:=key_ne S.perm k (i:=lo+x-1) (j:=lo+x) (by omega +splitNatSub) (by rw[S.size];lia);lia
      simp only[r,decide_true,if_true];show JY #[rfl,x,rfl,ac,ae,hd]
    .rintro c J ⟨rfl,rfl,hd⟩;rw[show max (1+1) nrem=nrem by lia]at hd ⊢;show#[rfl,nrem,rfl,ae,J1 _,hd]
    .show#[1,as]
    .rintro c J ⟨rfl,n,rfl,m1,m2,hd⟩;dsimp only;rw[Qh ae];show HC (wpS_reverse ?_);have hsz:lo+n<=(Ka J).size:=(by rw[S.size];lia);have S3:=S.setArr (mirror_perm (Ka J) lo (lo+n) ((lo+n-lo)/2));have C3:Cut a₀ J (setArr J (Pq (Ka J) lo (lo+n) ((lo+n-lo)/2))) lo:=by
      show#[S3,λi hi=>?_,rfl];change(Pq (Ka J) lo (lo+n) ((lo+n-lo)/2))[i]?=_;rw[getElem?_mirror_all hsz,Qh ae]
     have am:kl (Ka (setArr J (Pq (Ka J) lo (lo+n) ((lo+n-lo)/2)))) lo (lo+n):=λi j hi N Y=>by
      change K (Pq (Ka J) lo (lo+n) ((lo+n-lo)/2)) i<=K (Pq (Ka J) lo (lo+n) ((lo+n-lo)/2)) j;rw[K_mirror hsz,K_mirror hsz,Qi ae,Qi ae];show hd _ _ (by omega +splitNatSub) (by omega +splitNatSub) (by omega +splitNatSub)
     generalize setArr J (Pq (Ka J) lo (lo+n) ((lo+n-lo)/2))=ab at S3 C3 am ⊢;show HC (Ln (KD (I:=λx c L=>qT (L=ab) (c=(none,x)) (kl (Ka ab) lo (lo+x))) (Q:=λc L=>L=ab/\∃m,c=(none,m)/\1<=m/\m<=nrem/\kl (Ka ab) lo (lo+m)) ?_ ?_ ?_) ?_)
     .rintro x c L ac ap ⟨rfl,rfl,hs⟩;dsimp only;show HC (oN S3 k ae ae ?_);by_cases c:K (Ka L) (lo+x)<K (Ka L) (lo+x-1)
      .simp only[c,decide_true,if_true];show JY #[rfl,x,rfl,ae,ae,hs]
      .simp only[c,decide_false,KQ,if_false];show JY #[1,λi j hi N Y=>?_];by_cases z:j<lo+x
       .show hs i j hi N z
       .by_cases U:i=j
        .rw[U];show Int.le_refl _
        .have:=hs i (lo+x-1) hi ae ae;have O:j=lo+x:=ae;rw[O];lia
     .rintro c L ⟨rfl,rfl,hs⟩;rw[show max n nrem=nrem by lia]at hs ⊢;show#[rfl,nrem,rfl,h1,J1 _,hs]
     .show#[1,am]
     .rintro c L ⟨rfl,m,rfl,q1,q2,hs⟩;show JY (h m L C3 q1 q2 hs)
theorem Ak {st:KA}{lo n ok:Nat}{Q:Bool->KA->Prop}(S:SI a₀ st) (k:Ks a₀) (hn:lo+n<=a₀.size) (h1:1<=ok) (bG:ok<=n) (hs:kl (Ka st) lo (lo+ok))
  (h:∀G,Cut a₀ st G lo->kl (Ka G) lo (lo+n)->Q true G):P4 (model prog w) A E s (binarySort' lo n ok) Q st:=by
 rw[binarySort'_eq];show HC (Ln (KD (I:=λx c G=>qT (c=(none,())) (Cut a₀ st G lo) (kl (Ka G) lo (lo+x))) (Q:=λc G=>qT (c=(none,())) (Cut a₀ st G lo) (kl (Ka G) lo (lo+n))) ?_ ?_ ?_) ?_)
 .rintro x c G aB a0 ⟨rfl,C,L⟩;have ab:lo+x<(Ka G).size:=(by rw[C.S.size];lia);show HC (Ln (KD (I:=λy c J=>J=G/\∃l r,c=(none,l,r)/\l<=r/\r<=x/\r-l<=x-y/\(∀i,lo<=i->i<lo+l->K (Ka G) i<=K (Ka G) (lo+x))/\∀i,lo+r<=i->i<lo+x->K (Ka G) (lo+x)<K (Ka G) i)
   (Q:=λc J=>J=G/\∃l,c=(none,l,l)/\l<=x/\(∀i,lo<=i->i<lo+l->K (Ka G) i<=K (Ka G) (lo+x))/\∀i,lo+l<=i->i<lo+x->K (Ka G) (lo+x)<K (Ka G) i) ?_ ?_ ?_) ?_)
  .rintro y c J aT as ⟨rfl,l,r,rfl,lr,Y,hm,O,N⟩;dsimp only;by_cases g:l>=r
   .rw[Qi g];obtain rfl:l=r:=ae;show JY #[rfl,l,rfl,Y,O,N]
   .rw[Qh g];show HC (oN C.S k ae ae ?_);by_cases c:K (Ka J) (lo+x)<K (Ka J) (lo+(l+r)/2)
    .simp only[c,decide_true,if_true];show JY #[rfl,l,(l+r)/2,rfl,ae,ae,by omega +splitNatSub,O,λi hi ac=>?_];have:=L (lo+(l+r)/2) i ae hi (by omega +splitNatSub);lia
    .simp only[c,decide_false,KQ,if_false];show JY #[rfl,(l+r)/2+1,r,rfl,ae,by omega +splitNatSub,by omega +splitNatSub,λi hi ac=>?_,N];have:=L i (lo+(l+r)/2) hi ae ae;lia
  .rintro c J ⟨rfl,l,r,rfl,lr,Y,hm,O,N⟩;obtain rfl:l=r:=ae;show#[rfl,l,rfl,Y,O,N]
  .show#[rfl,(0),x,rfl,ae,ae,ae,λi hi am=>by lia,λi hi am=>by lia]
  .rintro c J ⟨rfl,l,rfl,lx,O,N⟩;dsimp only;rw[moveDown'_eq];show HC (LM (JY #[rfl,#[C.S.setArr (bubble_perm _ _ _),λi hi=>?_,C.pend],λi j hi ap hj=>?_]))
   .change(bubble (Ka J) (lo+x) (lo+x-(lo+l)))[i]?=_;rw[getElem?_bubble ab _ (by omega +splitNatSub),Qh (by omega +splitNatSub),Qh (by omega +splitNatSub)];show C.pre i hi
   .change K (bubble (Ka J) (lo+x) (lo+x-(lo+l))) i<=K (bubble (Ka J) (lo+x) (lo+x-(lo+l))) j;rw[K_bubble ab ae,K_bubble ab ae,show lo+x-(lo+x-(lo+l))=lo+l by lia];by_cases c1:i=lo+l
    .rw[Qi c1];by_cases U:j=lo+l
     .rw[Qi U];show Int.le_refl _
     .rw[Qh U,Qi ae];have:=N (j-1) ae ae;lia
    .rw[Qh c1];by_cases U:j=lo+l
     .rw[Qi U,Qh ae];show O i hi ae
     .rw[Qh U];by_cases c3:lo+l<i/\i<=lo+x
      .rw[Qi c3,Qi ae];show L _ _ ae (by omega +splitNatSub) (by omega +splitNatSub)
      .rw[Qh c3];by_cases c4:lo+l<j/\j<=lo+x
       .rw[Qi c4];show L _ _ (by omega +splitNatSub) ae ae
       .rw[Qh c4];show L _ _ (by omega +splitNatSub) (by omega +splitNatSub) ae
 .rintro c G ⟨rfl,C,L⟩;rw[show max (max ok 1) n=n by lia]at L;show#[rfl,C,L]
 .rw[show max ok 1=ok by lia];show#[rfl,#[S,λ_ _=>rfl,rfl],hs]
 .rintro c G ⟨rfl,C,L⟩;show JY (h G C L)
end
noncomputable def Ca:Bool->Kc->Array Kc->Nat->Nat->Nat->StateT KA Pz (Option Nat):=sortPriv% PySem.Builtin.gallop
noncomputable def fW (left:Bool) (a:Int) (xs:Array Kc) (base i:Nat):Bool:=if left then decide (K xs (base+i)<a)else !decide (a<K xs (base+i))
section
variable {prog:J2}{w:Kd}{A:Kk}{E:Value->BY->Prop}{s:BY}{a₀:Array Kc}
noncomputable def qy (left:Bool) (G:Kc) (xs:Array Kc) (base i:Nat):StateT KA Pz (Option Bool):=
 bind (elem' xs (base+i)) λx=>ite (left=true) (lt' x G) (bind (lt' G x) λr=>pure (Option.map (λb => !b) r))
theorem DK {st:KA}{left:Bool}{J:Kc}{a:Int}{t u:Qe}{q:Value}{xs:Array Kc}{base i:Nat}{Q:Option Bool->KA->Prop}(G:kindOf st=L4) (L:J.1=.int a t) (N:xs[base+i]?=some (.int (K xs (base+i)) u,q))
  (h:Q (some (fW left a xs base i)) st):P4 (model prog w) A E s (qy left J xs base i) Q st:=by
 unfold qy;show HC (bt N ?_);unfold fW at h;cases left with
 |true=>show p8 G rfl L h
 |false=>show HC (p8 G L rfl (JY h))
theorem gT {left:Bool}{a:Int}{xs:Array Kc}{base n i j:Nat}(hs:kl xs base (base+n)) (J:i<=j) (G:j<n) (h:fW left a xs base j=true):fW left a xs base i=true:=by
 have:=hs (base+i) (base+j) ae ae ae;unfold fW at h ⊢;cases left with
 |true =>
  have z:K xs (base+j)<a:=of_decide_eq_true h;show decide_eq_true ae
 |false =>
  have z:¬ a<K xs (base+j):=of_decide_eq_false (by simpa using h);change(!decide (a<K xs (base+i)))=true;rw[decide_eq_false ae];rfl
theorem iD {left:Bool}{a:Int}{xs:Array Kc}{base n i j:Nat}(hs:kl xs base (base+n)) (J:i<=j) (G:j<n) (h:fW left a xs base i=false):fW left a xs base j=false:=by
 cases e:fW left a xs base j with
 |false=>rfl
 |true=>rw[gT hs J G e]at h;cases h
theorem dD {st:KA}{left:Bool}{am:Kc}{a:Int}{t:Qe}{xs:Array Kc}{base n hint:Nat}{Q:Option Nat->KA->Prop}(hk:kindOf st=L4) (a0:am.1=.int a t) (hx:∀i,i<n->∃t q,xs[base+i]?=some (.int (K xs (base+i)) t,q))
  (hs:kl xs base (base+n)) (hh:hint<n) (h:∀r,r<=n->(∀i,i<r->fW left a xs base i=true)->(∀i,r<=i->i<n->fW left a xs base i=false)->Q (some r) st) :
  P4 (model prog w) A E s (Ca left am xs base n hint) Q st:=by
 have B:∀{i:Nat}{Q:Option Bool->KA->Prop},i<n->Q (some (fW left a xs base i)) st->P4 (model prog w) A E s (qy left am xs base i) Q st:=λhi q=>by
  let#[u,v,e]:=hx _ hi;show DK hk a0 e q
 show HC (B hh ?_);cases c:fW left a xs base hint with
 |true =>
  dsimp only;rw[Qi rfl];show HC (Ln (KD (I:=λx c G=>G=st/\∃l o,c=(none,l,o)/\l<o/\x+1<=o/\hint+l<n/\fW left a xs base (hint+l)=true) (Q:=λc G=>G=st/\∃l o,c=(none,l,o)/\l<o/\hint+l<n/\fW left a xs base (hint+l)=true/\(n-hint<=o\/(hint+o<n/\fW left a xs base (hint+o)=false))) ?_ ?_ ?_) ?_)
  .rintro x c G aB aT ⟨rfl,l,o,rfl,lo,xo,Y,N⟩;dsimp only;by_cases g:o>=n-hint
   .rw[Qi g];show JY #[rfl,l,o,rfl,lo,Y,N,.inl g]
   .rw[Qh g];show HC (B (i:=hint+o) ae ?_);cases c2:fW left a xs base (hint+o)with
    |true=>show JY #[rfl,o,2*o+1,rfl,ae,ae,ae,c2]
    |false=>show JY #[rfl,l,o,rfl,lo,Y,N,.inr #[ae,c2]]
  .rintro c G ⟨rfl,l,o,rfl,lo,xo,Y,N⟩;show#[rfl,l,o,rfl,lo,Y,N,.inl ae]
  .show#[rfl,(0),(1),rfl,ae,ae,hh,c]
  .rintro c G ⟨rfl,l,o,rfl,lo,Y,N,ac⟩;dsimp only;have f1:∀i,i<hint+l+1->fW left a xs base i=true:=λi hi=>gT hs (j:=hint+l) ae Y N;have f2:∀i,hint+min o (n-hint)<=i->i<n->fW left a xs base i=false:=λi hi ab=>by
    rcases ac with g|⟨g1,g2⟩
    .omega +splitNatSub
    .show iD hs (i:=hint+o) ae ab g2
   have f3:hint+l+1<=hint+min o (n-hint):=(by omega +splitNatSub);have f4:hint+min o (n-hint)<=n:=(by omega +splitNatSub);generalize hint+l+1=as at f1 f3 ⊢;generalize hint+min o (n-hint)=ap at f2 f3 f4 ⊢;show HC (Ln (KD (I:=λx c J=>J=G/\∃l r,c=(none,l,r)/\l<=r/\r<=n/\r-l<=n-x/\(∀i,i<l->fW left a xs base i=true)/\∀i,r<=i->i<n->fW left a xs base i=false) (Q:=λc J=>J=G/\∃r,c=(none,r,r)/\r<=n/\(∀i,i<r->fW left a xs base i=true)/\∀i,r<=i->i<n->fW left a xs base i=false) ?_ ?_ ?_) ?_)
   .rintro x c J aB aT ⟨rfl,l,r,rfl,lr,O,hm,U,L⟩;dsimp only;by_cases g:l>=r
    .rw[Qi g];obtain rfl:l=r:=ae;show JY #[rfl,l,rfl,O,U,L]
    .rw[Qh g];show HC (B (i:=l+(r-l)/2) ae ?_);cases c2:fW left a xs base (l+(r-l)/2)with
     |true=>show JY #[rfl,l+(r-l)/2+1,r,rfl,ae,O,by omega +splitNatSub,λi hi=>gT hs (j:=l+(r-l)/2) ae ae c2,L]
     |false=>show JY #[rfl,l,l+(r-l)/2,rfl,ae,ae,ae,U,λi hi ab=>iD hs hi ab c2]
   .rintro c J ⟨rfl,l,r,rfl,lr,O,hm,U,L⟩;obtain rfl:l=r:=ae;show#[rfl,l,rfl,O,U,L]
   .show#[rfl,as,ap,rfl,f3,f4,ae,f1,f2]
   .rintro c J ⟨rfl,r,rfl,O,U,L⟩;show JY (h r O U L)
 |false =>
  dsimp only;rw[Qh ar];show HC (Ln (KD (I:=λx c G=>G=st/\∃l o,c=(none,l,o)/\l<o/\x+1<=o/\l<=hint/\fW left a xs base (hint-l)=false) (Q:=λc G=>G=st/\∃l o,c=(none,l,o)/\l<o/\l<=hint/\fW left a xs base (hint-l)=false/\(hint+1<=o\/(o<=hint/\fW left a xs base (hint-o)=true))) ?_ ?_ ?_) ?_)
  .rintro x c G aB aT ⟨rfl,l,o,rfl,lo,xo,Y,N⟩;dsimp only;by_cases g:o>=hint+1
   .rw[Qi g];show JY #[rfl,l,o,rfl,lo,Y,N,.inl g]
   .rw[Qh g];show HC (B (i:=hint-o) ae ?_);cases c2:fW left a xs base (hint-o)with
    |true=>show JY #[rfl,l,o,rfl,lo,Y,N,.inr #[ae,c2]]
    |false=>show JY #[rfl,o,2*o+1,rfl,ae,ae,ae,c2]
  .rintro c G ⟨rfl,l,o,rfl,lo,xo,Y,N⟩;show#[rfl,l,o,rfl,lo,Y,N,.inl ae]
  .show#[rfl,(0),(1),rfl,ae,ae,Kl _,c]
  .rintro c G ⟨rfl,l,o,rfl,lo,Y,N,ac⟩;dsimp only;have f1:∀i,i<hint+1-min o (hint+1)->fW left a xs base i=true:=λi hi=>by
    rcases ac with g|⟨g1,g2⟩
    .omega +splitNatSub
    .show gT hs (j:=hint-o) (by omega +splitNatSub) (by omega +splitNatSub) g2
   have f2:∀i,hint-l<=i->i<n->fW left a xs base i=false:=λi hi ab=>iD hs hi ab N;have f3:hint+1-min o (hint+1)<=hint-l:=(by omega +splitNatSub);have f4:hint-l<=n:=ae;generalize hint+1-min o (hint+1)=as at f1 f3 ⊢;generalize hint-l=ap at f2 f3 f4 ⊢;show HC (Ln (KD (I:=λx c J=>J=G/\∃l r,c=(none,l,r)/\l<=r/\r<=n/\r-l<=n-x/\(∀i,i<l->fW left a xs base i=true)/\∀i,r<=i->i<n->fW left a xs base i=false) (Q:=λc J=>J=G/\∃r,c=(none,r,r)/\r<=n/\(∀i,i<r->fW left a xs base i=true)/\∀i,r<=i->i<n->fW left a xs base i=false) ?_ ?_ ?_) ?_)
   .rintro x c J aB aT ⟨rfl,l,r,rfl,lr,O,hm,U,L⟩;dsimp only;by_cases g:l>=r
    .rw[Qi g];obtain rfl:l=r:=ae;show JY #[rfl,l,rfl,O,U,L]
    .rw[Qh g];show HC (B (i:=l+(r-l)/2) ae ?_);cases c2:fW left a xs base (l+(r-l)/2)with
     |true=>show JY #[rfl,l+(r-l)/2+1,r,rfl,ae,O,by omega +splitNatSub,λi hi=>gT hs (j:=l+(r-l)/2) ae ae c2,L]
     |false=>show JY #[rfl,l,l+(r-l)/2,rfl,ae,ae,ae,U,λi hi ab=>iD hs hi ab c2]
   .rintro c J ⟨rfl,l,r,rfl,lr,O,hm,U,L⟩;obtain rfl:l=r:=ae;show#[rfl,l,rfl,O,U,L]
   .show#[rfl,as,ap,rfl,f3,f4,ae,f1,f2]
   .rintro c J ⟨rfl,r,rfl,O,U,L⟩;show JY (h r O U L)
end
noncomputable def le (p q:Kc):Prop:=LI p.1<=LI q.1
structure Up (a:Array Kc):Prop where
 ik:IntKeys a
 up:a.toList.Pairwise le
theorem Up.at {a:Array Kc}(u:Up a) {i:Nat}(hi:i<a.size):∃t q,a[i]?=some (.int (K a i) t,q):=by
 let#[n,t,J]:=u.ik a[i] (by simp);have e:a[i]?=some a[i]:=getElem?_pos _ i hi;have G:a[i]=(.int n t,a[i].2):=OG J rfl;show#[t,a[i].2,?_];unfold K;rw[e,G];rfl
theorem Up.Hq {a:Array Kc}(u:Up a):kl a 0 a.size:=λi j _ J G=>by
 by_cases e:i=j
 .rw[e];show Int.le_refl _
 .have hi:i<a.size:=ae;have z:=List.pairwise_iff_getElem.mp u.up i j (by simpa using hi) (by simpa using G) ae;rw[K_eq hi,K_eq G];simpa[le]using z
theorem kl.sub {a:Array Kc}{lo hi G J:Nat}(h:kl a lo hi) (h1:lo<=G) (h2:J<=hi):kl a G J:=λi j hi L N=>h i j ae L ae
structure MI (a b out:Array Kc) (ia ib:Nat):Prop where
 la:ia<=a.size
 lb:ib<=b.size
 pm:(out.toList++a.toList.drop ia++b.toList.drop ib).Perm (a.toList++b.toList)
 up:out.toList.Pairwise le
 ba:∀p∈out.toList,∀q∈a.toList.drop ia,le p q
 bb:∀p∈out.toList,∀q∈b.toList.drop ib,le p q
theorem MI.sz {a b out:Array Kc}{J G:Nat}(m:MI a b out J G):out.size+(a.size-J)+(b.size-G)=a.size+b.size:=by
 have:=m.pm.length_eq;simp at this;lia
theorem MI.rN {a b out Y:Array Kc}{G U:Nat}(m:MI a b out G U) (ua:Up a) {k:Nat}(hk:G+k<=a.size) (N:Y.toList=out.toList++(a.toList.drop G).take k) (h:∀p∈(a.toList.drop G).take k,∀q∈b.toList.drop U,le p q):MI a b Y (G+k) U:=by
 have hd:a.toList.drop (G+k)=(a.toList.drop G).drop k:=(by rw[List.drop_drop]);have O:(a.toList.drop G).Pairwise le:=ua.up.sublist (MX _ _);have ab:=O;rw[<-K0 k (a.toList.drop G)]at ab;let#[p1,p2,p3]:=List.pairwise_append.mp ab;show#[hk,m.lb,3,λp L q J=>?_,λp L q J=>?_]
 .rw[N,hd,Kr out.toList,K0];show m.pm
 .rw[N,KW];show#[m.up,p1,λp O q J=>m.ba p O q (List.mem_of_mem_take J)]
 .rw[hd]at J;rw[N]at L;rcases List.mem_append.mp L with z|z
  .show m.ba p z q (List.mem_of_mem_drop J)
  .show p3 p z q J
 .rw[N]at L;rcases List.mem_append.mp L with z|z
  .show m.bb p z q J
  .show h p z q J
theorem MI.rl {a b out Y:Array Kc}{O G:Nat}(m:MI a b out O G) (ub:Up b) {k:Nat}(hk:G+k<=b.size) (N:Y.toList=out.toList++(b.toList.drop G).take k) (h:∀p∈(b.toList.drop G).take k,∀q∈a.toList.drop O,le p q):MI a b Y O (G+k):=by
 have hd:b.toList.drop (G+k)=(b.toList.drop G).drop k:=(by rw[List.drop_drop]);have U:(b.toList.drop G).Pairwise le:=ub.up.sublist (MX _ _);have ab:=U;rw[<-K0 k (b.toList.drop G)]at ab;let#[p1,p2,p3]:=List.pairwise_append.mp ab;show#[m.la,hk,3,λp L q J=>?_,λp L q J=>?_]
 .show List.Perm.trans ?_ m.pm;rw[N,hd];have e:b.toList.drop G=(b.toList.drop G).take k++(b.toList.drop G).drop k:=(K0 _ _).symm
  conv=>rhs;rw[e]
  generalize (b.toList.drop G).take k=T;generalize (b.toList.drop G).drop k=D;rw[Kr,Kr,Kr];show List.Perm.append_left _ ?_;rw[<-Kr, <-Kr];show List.Perm.append_right _ LY
 .rw[N,KW];show#[m.up,p1,λp U q J=>m.bb p U q (List.mem_of_mem_take J)]
 .rw[N]at L;rcases List.mem_append.mp L with z|z
  .show m.ba p z q J
  .show h p z q J
 .rw[hd]at J;rw[N]at L;rcases List.mem_append.mp L with z|z
  .show m.bb p z q (List.mem_of_mem_drop J)
  .show p3 p z q J
noncomputable def Good (a b R:Array Kc):Prop:=R.toList.Perm (a.toList++b.toList)/\R.toList.Pairwise le
theorem dE {a:Array Kc}{i:Nat}{q:Kc}(h:q∈a.toList.drop i):∃j,i<=j/\j<a.size/\LI q.1=K a j:=by
 let#[n,G,e]:=List.mem_iff_getElem.mp h;have J:i+n<a.size:=by
  rw[Lr]at G;simp at G;omega +splitNatSub
 show#[i+n,ae,J,?_];rw[K_eq J, <-e,List.getElem_drop];simp
theorem dC {a:Array Kc}{i k:Nat}{q:Kc}(h:q∈(a.toList.drop i).take k):∃j,j<k/\i+j<a.size/\LI q.1=K a (i+j):=by
 let#[n,G,e]:=List.mem_iff_getElem.mp h;rw[Kg,Lr]at G;simp at G;have J:i+n<a.size:=(by omega +splitNatSub);show#[n,by omega +splitNatSub,J,?_];rw[K_eq J, <-e,Ms,List.getElem_drop];simp
theorem MI.gN {a b out:Array Kc}{G J:Nat}(m:MI a b out G J) (N:Up a) (ub:Up b) (hi:G<a.size) {p:Kc}(L:a[G]?=some p) (h:∀j,J<=j->j<b.size->K a G<=K b j):MI a b (out.push p) (G+1) J:=by
 have ep:a[G]=p:=(by rw[getElem?_pos a G hi]at L;show Option.some.inj L);show m.rN N (k:=1) ae ?_ λx Y q hq=>?_
 .rw[MJ,Lu (by simpa using hi)];simp[ep]
 .let#[j,hj,_,e]:=dC Y;let#[O,h2,h3,U]:=dE hq;have:j=0:=ae;subst this;change LI x.1<=LI q.1;rw[e,U];show h O h2 h3
theorem MI.kP {a b out:Array Kc}{J G:Nat}(m:MI a b out J G) (ua:Up a) (U:Up b) (hi:G<b.size) {p:Kc}(L:b[G]?=some p) (h:∀j,J<=j->j<a.size->K b G<=K a j):MI a b (out.push p) J (G+1):=by
 have ep:b[G]=p:=(by rw[getElem?_pos b G hi]at L;show Option.some.inj L);show m.rl U (k:=1) ae ?_ λx Y q hq=>?_
 .rw[MJ,Lu (by simpa using hi)];simp[ep]
 .let#[j,hj,_,e]:=dC Y;let#[N,h2,h3,O]:=dE hq;have:j=0:=ae;subst this;change LI x.1<=LI q.1;rw[e,O];show h N h2 h3
theorem r9 {a:Array Kc}{i k:Nat}:(a.extract i (i+k)).toList=(a.toList.drop i).take k:=by
 rw[Nh,LG];congr 1;lia
theorem jR {a:Array Kc}{i:Nat}:(a.extract i a.size).toList=a.toList.drop i:=by
 rw[Nh,LG];show KP ?_;rw[Lr];simp
theorem MI.oh {a b out:Array Kc}{J G:Nat}(m:MI a b out J G) (L:Up a) (h:G=b.size):Good a b (out++a.extract J a.size++b.extract G b.size):=by
 have e:(out++a.extract J a.size++b.extract G b.size).toList=out.toList++a.toList.drop J++b.toList.drop G:=by
  rw[K7,K7,jR,jR]
 show#[by rw[e];show m.pm,?_];rw[e,h,List.drop_of_length_le (l:=b.toList) (by simp),Oj,KW];show#[m.up,L.up.sublist (MX _ _),λp O q N=>m.ba p O q N]
theorem MI.last {a b out:Array Kc}{G J:Nat}(m:MI a b out G J) (O:Up a) (ub:Up b) (hi:G+1=a.size) (h:∀j,J<=j->j<b.size->K b j<=K a G):Good a b (out++b.extract J b.size++a.extract G a.size):=by
 have e:(out++b.extract J b.size++a.extract G a.size).toList=out.toList++b.toList.drop J++a.toList.drop G:=by
  rw[K7,K7,jR,jR]
 show#[3]
 .rw[e];show List.Perm.trans ?_ m.pm;rw[Kr,Kr];show List.Perm.append_left _ LY
 .rw[e,KW,KW];show#[#[m.up,ub.up.sublist (MX _ _),λp N q L=>m.bb p N q L],O.up.sublist (MX _ _),λp N q L=>?_];rcases List.mem_append.mp N with z|z
  .show m.ba p z q L
  .let#[j,h1,h2,U]:=dE z;let#[Y,h3,h4,e2]:=dE L;have:Y=G:=ae;subst this;change LI p.1<=LI q.1;rw[U,e2];show h j h1 h2
theorem MI.DV {a b out:Array Kc}{G J:Nat}(m:MI a b out G J) (L:Up a) {k:Nat}(Y:G+k<=a.size) (h:∀i j,i<k->J<=j->j<b.size->K a (G+i)<=K b j):MI a b (out++a.extract G (G+k)) (G+k) J :=
 m.rN L Y (by rw[K7,r9]) λp U q hq=>by
  let#[j,h1,h2,N]:=dC U;let#[O,h3,h4,e2]:=dE hq;change LI p.1<=LI q.1;rw[N,e2];show h j O h1 h3 h4
theorem MI.AG {a b out:Array Kc}{J G:Nat}(m:MI a b out J G) (ub:Up b) {k:Nat}(U:G+k<=b.size) (h:∀i j,i<k->J<=j->j<a.size->K b (G+i)<=K a j):MI a b (out++b.extract G (G+k)) J (G+k):=
 m.rl ub U (by rw[K7,r9]) λp O q hq=>by
  let#[j,h1,h2,L]:=dC O;let#[N,h3,h4,Y]:=dE hq;change LI p.1<=LI q.1;rw[L,Y];show h j N h1 h3 h4
theorem yX {a:Int}{xs:Array Kc}{base n r:Nat}(G:∀i,i<r->fW false a xs base i=true) (J:∀i,r<=i->i<n->fW false a xs base i=false):(∀i,i<r->K xs (base+i)<=a)/\∀j,base+r<=j->j<base+n->a<K xs j:=by
 show#[λi hi=>?_,λj L N=>?_]
 .have:=G i hi;unfold fW at this;simpa using this
 .have:=J (j-base) ae ae;unfold fW at this;rw[show base+(j-base)=j by lia]at this;simpa using this
theorem sv {a:Int}{xs:Array Kc}{base n r:Nat}(G:∀i,i<r->fW true a xs base i=true) (J:∀i,r<=i->i<n->fW true a xs base i=false):(∀i,i<r->K xs (base+i)<a)/\∀j,base+r<=j->j<base+n->a<=K xs j:=by
 show#[λi hi=>?_,λj L N=>?_]
 .have:=G i hi;unfold fW at this;simpa using this
 .have:=J (j-base) ae ae;unfold fW at this;rw[show base+(j-base)=j by lia]at this;simpa using this
theorem MI.grow {a b out O:Array Kc}{L J I B:Nat}(m:MI a b out L J) (G:MI a b O I B) (h1:L<=I) (h2:J<=B):out.size<=O.size:=by
 have U:=m.sz;have N:=G.sz;have:=G.la;have:=G.lb;lia
noncomputable def Ab:Array Kc->Array Kc->StateT KA Pz (Array Kc):=sortPriv% PySem.Builtin.mergeLo
structure tj (st st':KA):Prop where
 arr:Ka st'=Ka st
 kind:kindOf st'=kindOf st
 failed:L6 st'=L6 st
 pend:Ki st'=Ki st
section
variable {prog:J2}{w:Kd}{A:Kk}{E:Value->BY->Prop}{s:BY}{a₀:Array Kc}
theorem aQ {α:Type}{c:Prop} [Decidable c] {m n:StateT KA Pz α}{Q:α->KA->Prop}{st:KA}(h1:c->P4 (model prog w) A E s m Q st) (h2:¬ c->P4 (model prog w) A E s n Q st):P4 (model prog w) A E s (if c then m else n) Q st:=by
 by_cases z:c
 .rw[Qi z];show h1 z
 .rw[Qh z];show h2 z
noncomputable def EV:Nat->StateT KA Pz Unit:=sortPriv% PySem.Builtin.setMinGallop
theorem wD {G st:KA}{g:Nat}{Q:Unit->KA->Prop}(k:tj G st) (h:∀J,tj G J->Q () J):P4 (model prog w) A E s (EV g) Q st :=
 LM (h _ #[k.arr,k.kind,k.failed,k.pend])
theorem tR {st:KA}{a b:Array Kc}{Q:Array Kc->KA->Prop}(hk:kindOf st=L4) (L:Up a) (N:Up b) (na:1<=a.size) (nb:1<=b.size) (h0:K b 0<K a 0) (hl:∀j,j<b.size->K b j<K a (a.size-1))
  (h:∀R ab,Good a b R->tj st ab->Q R ab):P4 (model prog w) A E s (Ab a b) Q st:=by
 show HC (NB (LJ #[4]));let#[t0,q0,e0]:=N.at (i:=0) ae;show HC (bt e0 ?_);have sa:=L.Hq;have sb:=N.Hq;have M0:MI a b ([(Value.int (K b 0) t0,q0)].toArray) 0 1:=by
  have M:MI a b ([].toArray) 0 0:=#[Kl _,Kl _,by simp,List.Pairwise.nil,(λp hp=>by cases hp),(λp hp=>by cases hp)];show M.kP L N ae e0 λj _ hj=>by
   have:=sa 0 j ae ae hj;omega
 show aQ (λg=>?_) (λg=>?_)
 .show JY (h _ _ (M0.oh L (by simpa using g)) #[1,1])
 have g1:¬ 1=b.size:=(by simpa using g);show aQ (λg=>?_) (λg=>?_)
 .have g':0+1=a.size:=(by simpa using g);show JY (h _ _ (M0.last L N g' λj _ hj=>?_) #[1,1]);have:=hl j hj;rw[<-g']at this;show Int.le_of_lt this
 have g2:¬ 0+1=a.size:=(by simpa using g);show HC (Mr ?_);show HC (Ln (KD (I:=λx c ab=>HB λout G J mg=>xM (c=(none,out,G,J,mg)) (MI a b out G J) (G+1<a.size) (J<b.size) (x+1<=out.size) (tj st ab)) (Q:=λc ab=>∃R,qT (Good a b R) (c.1=some R) (tj st ab)) ?_ ?_ ?_) ?_)
 .rintro x c aB bn bv ⟨out,G,J,mg,rfl,M,la,U,lo,K1⟩;show HC (Ln (KD (I:=λy c ab=>AJ λO G J ac bc=>xM (c=(none,O,G,J,ac,bc)) (MI a b O G J) (G+1<a.size) (J<b.size) (out.size+y<=O.size) (tj st ab))
   (Q:=λc ab=>tj st ab/\((∃R,Good a b R/\c.1=some R)\/(AJ λO G J ac bc=>EG (c=(none,O,G,J,ac,bc)) (MI a b O G J) (G+1<a.size) (J<b.size) (out.size+1<=O.size)))) ?_ ?_ ?_) ?_)
  .rintro y c a3 be bm ⟨O,G,J,ac,bc,rfl,M,la,U,ba,K2⟩;have bb:kindOf a3=L4:=K2.kind.trans hk;let#[tb,qb,eb]:=N.at U;let#[ta,qa,ea]:=L.at (i:=G) ae;show HC (bt eb (HC (bt ea (HC (p8 bb rfl rfl ?_)))));by_cases c:K b J<K a G
   .rw[decide_eq_true c];show HC (bt eb ?_);have M2:=M.kP L N U eb λj h1 h2=>by
     have:=sa G j ae h1 h2;omega
    show aQ (λg=>?_) (λg=>?_)
    .show JY #[K2,.inl #[_,M2.oh L (by simpa using g),rfl]]
    .have g':¬ J+1=b.size:=(by simpa using g);have sz:(O.push (Value.int (K b J) tb,qb)).size=O.size+1:=NC ..;show aQ (λg=>?_) (λg=>?_)
     .show JY #[K2,.inr #[O.push (Value.int (K b J) tb,qb),G,J+1,_,0,M2,la,ae,ae]]
     .show JY #[O.push (Value.int (K b J) tb,qb),G,J+1,_,0,M2,la,ae,ae,K2]
   .rw[decide_eq_false c];show HC (bt ea ?_);have M2:=M.gN L N ae ea λj h1 h2=>by
     have:=sb J j ae h1 h2;omega
    show aQ (λg=>?_) (λg=>?_)
    .have g':G+1+1=a.size:=(by simpa using g);show JY #[K2,.inl #[_,M2.last L N g' (λj h1 h2=>?_),rfl]];have:=hl j h2;rw[show a.size-1=G+1 by omega]at this;show Int.le_of_lt this
    .have g':¬ G+1+1=a.size:=(by simpa using g);have sz:(O.push (Value.int (K a G) ta,qa)).size=O.size+1:=NC ..;show aQ (λg=>?_) (λg=>?_)
     .show JY #[K2,.inr #[O.push (Value.int (K a G) ta,qa),G+1,J,_,0,M2,ae,U,ae]]
     .show JY #[O.push (Value.int (K a G) ta,qa),G+1,J,_,0,M2,ae,U,ae,K2]
  .rintro c a3 ⟨O,G,J,ac,bc,rfl,M,la,U,ba,K2⟩;show#[K2,.inr #[2,2,0,M,la,U,ae]]
  .show#[out,G,J,_,0,M,la,U,ae,K1]
  .rintro c a3 ⟨K2,⟨R,hR,e⟩|⟨O,G,J,ac,bc,rfl,M,la,U,ba⟩⟩
   .let#[c1,c2]:=c;cases e;show JY #[R,hR,rfl,K2]
   .show HC (NB (LJ #[4]));show HC (Ln (KD (I:=λy c ab=>Fj λam G J mg ac bc=>xM (c=(none,am,G,J,mg,ac,bc)) (MI a b am G J) (G+1<a.size) (J<b.size) (O.size<=am.size) (tj st ab))
     (Q:=λc ab=>tj st ab/\((∃R,Good a b R/\c.1=some R)\/(Fj λam G J mg ac bc=>EG (c=(none,am,G,J,mg,ac,bc)) (MI a b am G J) (G+1<a.size) (J<b.size) (O.size<=am.size)))) ?_ ?_ ?_) ?_)
    .rintro y c a5 be bm ⟨am,G,J,a7,ac,bc,rfl,M,la,U,as,K3⟩;show aQ (λg=>?_) (λg=>?_)
     all_goals
      show HC (wD K3 λa6 Y=>?_);have a4:kindOf a6=L4:=Y.kind.trans hk;let#[tb,qb,eb]:=N.at U;show HC (bt eb (HC (dD (base:=G) (n:=a.size-G) (hint:=0) a4 rfl (λi hi=>L.at ae) (sa.sub (Kl _) ae) ae λr hr r1 r2=>?_)));let#[R1,R2]:=yX r1 r2;rw[show G+(a.size-G)=a.size by omega]at R2;have bx:G+r<a.size:=by
       by_cases z:G+r<a.size
       .show z
       .have a1:=R1 (a.size-1-G) ae;rw[show G+(a.size-1-G)=a.size-1 by omega]at a1;have:=hl J U;omega
      have M1:=M.DV L (k:=r) ae λi j hi h1 h2=>Int.le_trans (R1 i hi) (sb J j (Kl _) h1 h2);show aQ (λg2=>?_) (λg2=>?_)
      .show aQ (λg3=>?_) (λg3=>?_)
       .have g':G+r+1=a.size:=(by simpa using g3);show JY #[Y,.inl #[_,M1.last L N g' (λj h1 h2=>?_),rfl]];have:=hl j h2;rw[show a.size-1=G+r by omega]at this;show Int.le_of_lt this
       .have bz:¬ G+r+1=a.size:=(by simpa using g3);show aQ (λg4=>?_) (λg4=>?_)
        .have g':G+r=a.size:=(by simpa using g4);omega
        .clear g4;have M2:=M1.kP L N U eb λj h1 h2=>Int.le_of_lt (R2 j ae h2);show HC (bt eb ?_);show aQ (λg5=>JY #[Y,.inl #[_,M2.oh L (by simpa using g5),rfl]]) (λg5=>?_);have bi:¬ J+1=b.size:=(by simpa using g5);let#[ta,qa,ea]:=L.at (i:=G+r) ae;show HC (bt ea (HC (dD (base:=J+1) (n:=b.size-(J+1)) (hint:=0) a4 rfl (λi hi=>N.at ae) (sb.sub (Kl _) ae) ae λr' bd a0 a2=>?_)));let#[T1,T2]:=sv a0 a2;rw[show J+1+(b.size-(J+1))=b.size by omega]at T2;have M3:=M2.AG N (k:=r') ae λi j hi h1 h2=>Int.le_of_lt (Int.lt_of_lt_of_le (T1 i hi) (sa _ j (Kl _) h1 h2));show aQ (λg6=>?_) (λg6=>?_)
         .show aQ (λg7=>JY #[Y,.inl #[_,M3.oh L (by simpa using g7),rfl]]) (λg7=>?_);have bl:¬ J+1+r'=b.size:=(by simpa using g7);show HC (bt ea ?_);have M4:=M3.gN L N ae ea λj h1 h2=>T2 j ae h2;show aQ (λg8=>?_) (λg8=>?_)
          .have ap:G+r+1+1=a.size:=(by simpa using g8);show JY #[Y,.inl #[_,M4.last L N ap (λj h1 h2=>?_),rfl]];have:=hl j h2;rw[show a.size-1=G+r+1 by omega]at this;show Int.le_of_lt this
          .have ap:¬ G+r+1+1=a.size:=(by simpa using g8);show aQ (λg9=>JY #[Y,.inr #[_,G+r+1,J+1+r',2,0,M4,ae,ae,Ko as (M.grow M4 ae ae)]]) (λg9=>JY #[_,G+r+1,J+1+r',2,0,M4,ae,ae,Ko as (M.grow M4 ae ae),Y])
         .have aT:r'=0:=ae;subst aT;show HC (bt ea ?_);have M4:=M2.gN L N ae ea λj h1 h2=>T2 j ae h2;show aQ (λg8=>?_) (λg8=>?_)
          .have ap:G+r+1+1=a.size:=(by simpa using g8);show JY #[Y,.inl #[_,M4.last L N ap (λj h1 h2=>?_),rfl]];have:=hl j h2;rw[show a.size-1=G+r+1 by omega]at this;show Int.le_of_lt this
          .have ap:¬ G+r+1+1=a.size:=(by simpa using g8);show aQ (λg9=>JY #[Y,.inr #[_,G+r+1,J+1,2,0,M4,ae,ae,Ko as (M.grow M4 ae ae)]]) (λg9=>JY #[_,G+r+1,J+1,2,0,M4,ae,ae,Ko as (M.grow M4 ae ae),Y])
      .have r0:r=0:=ae;subst r0;have M2:=M.kP L N U eb λj h1 h2=>Int.le_of_lt (R2 j ae h2);show HC (bt eb ?_);show aQ (λg5=>JY #[Y,.inl #[_,M2.oh L (by simpa using g5),rfl]]) (λg5=>?_);have bi:¬ J+1=b.size:=(by simpa using g5);let#[ta,qa,ea]:=L.at (i:=G) ae;show HC (bt ea (HC (dD (base:=J+1) (n:=b.size-(J+1)) (hint:=0) a4 rfl (λi hi=>N.at ae) (sb.sub (Kl _) ae) ae λr' bd a0 a2=>?_)));let#[T1,T2]:=sv a0 a2;rw[show J+1+(b.size-(J+1))=b.size by omega]at T2;have M3:=M2.AG N (k:=r') ae λi j hi h1 h2=>Int.le_of_lt (Int.lt_of_lt_of_le (T1 i hi) (sa _ j (Kl _) h1 h2));show aQ (λg6=>?_) (λg6=>?_)
       .show aQ (λg7=>JY #[Y,.inl #[_,M3.oh L (by simpa using g7),rfl]]) (λg7=>?_);have bl:¬ J+1+r'=b.size:=(by simpa using g7);show HC (bt ea ?_);have M4:=M3.gN L N ae ea λj h1 h2=>T2 j ae h2;show aQ (λg8=>?_) (λg8=>?_)
        .have ap:G+1+1=a.size:=(by simpa using g8);show JY #[Y,.inl #[_,M4.last L N ap (λj h1 h2=>?_),rfl]];have:=hl j h2;rw[show a.size-1=G+1 by omega]at this;show Int.le_of_lt this
        .have ap:¬ G+1+1=a.size:=(by simpa using g8);show aQ (λg9=>JY #[Y,.inr #[_,G+1,J+1+r',2,0,M4,ae,ae,Ko as (M.grow M4 ae ae)]]) (λg9=>JY #[_,G+1,J+1+r',2,0,M4,ae,ae,Ko as (M.grow M4 ae ae),Y])
       .have aT:r'=0:=ae;subst aT;show HC (bt ea ?_);have M4:=M2.gN L N ae ea λj h1 h2=>T2 j ae h2;show aQ (λg8=>?_) (λg8=>?_)
        .have ap:G+1+1=a.size:=(by simpa using g8);show JY #[Y,.inl #[_,M4.last L N ap (λj h1 h2=>?_),rfl]];have:=hl j h2;rw[show a.size-1=G+1 by omega]at this;show Int.le_of_lt this
        .have ap:¬ G+1+1=a.size:=(by simpa using g8);show aQ (λg9=>JY #[Y,.inr #[_,G+1,J+1,2,0,M4,ae,ae,Ko as (M.grow M4 ae ae)]]) (λg9=>JY #[_,G+1,J+1,2,0,M4,ae,ae,Ko as (M.grow M4 ae ae),Y])
    .rintro c a5 ⟨am,G,J,a7,ac,bc,rfl,M,la,U,as,K3⟩;show#[K3,.inr #[2,2,_,0,M,la,U,as]]
    .show#[O,G,J,2,0,M,la,U,J1 _,K2]
    .rintro c a5 ⟨K3,⟨R,hR,e⟩|⟨am,G,J,a7,ac,bc,rfl,M,la,U,as⟩⟩
     .let#[c1,c2]:=c;cases e;show JY #[R,hR,rfl,K3]
     .show HC (wD K3 λa6 Y=>?_);show JY #[am,G,J,0,M,la,U,ae,Y]
 .rintro c aB ⟨out,G,J,mg,rfl,M,la,U,lo,K1⟩;exfalso;have:=M.sz;omega
 .show#[2,_,0,M0,ae,ae,J1 _,#[1,1]]
 .rintro c aB ⟨R,hR,e,K1⟩;let#[c1,c2]:=c;cases e;show JY (h R aB hR K1)
end
noncomputable def seg (a:Array Kc) (k n:Nat):List Kc:=(a.toList.drop k).take (n-k)
theorem iu {a:Array Kc}{k n:Nat}(h:k<=n):a.toList.take n=a.toList.take k++seg a k n:=by
 unfold seg;have e:a.toList.take k=(a.toList.take n).take k:=(by rw[List.take_take,Nr h]);rw[e, <-List.drop_take,K0]
theorem lF {a:Array Kc}{k n:Nat}{q:Kc}(h:q∈seg a k n):∃j,k<=j/\j<n/\j<a.size/\LI q.1=K a j:=by
 let#[j,h1,h2,e]:=dC h;show#[k+j,ae,ae,h2,e]
theorem lH {a:Array Kc}{n:Nat}{q:Kc}(h:q∈a.toList.take n):∃j,j<n/\j<a.size/\LI q.1=K a j:=by
 have:q∈(a.toList.drop 0).take n:=(by rw[List.drop_zero];show h);let#[j,h1,h2,e]:=dC this;rw[Pr]at h2 e;show#[j,h1,h2,e]
theorem gD {a:Array Kc}{k n:Nat}:(a.extract k n).toList=seg a k n:=by
 unfold seg;rw[Nh,LG]
theorem lj {a:Array Kc}{n:Nat}:(a.extract 0 n).toList=a.toList.take n:=by
 rw[Nh,LG];simp
theorem wg {a:Array Kc}{k:Nat}(h:k<a.size):seg a k (k+1)=[a[k]]:=by
 unfold seg;rw[Lu (by simpa using h)];simp
structure MH (a b out:Array Kc) (na nb:Nat):Prop where
 la:na<=a.size
 lb:nb<=b.size
 pm:(a.toList.take na++b.toList.take nb++out.toList.reverse).Perm (a.toList++b.toList)
 up:out.toList.reverse.Pairwise le
 ab:∀p∈a.toList.take na,∀q∈out.toList,le p q
 bb:∀p∈b.toList.take nb,∀q∈out.toList,le p q
theorem MH.sz {a b out:Array Kc}{G J:Nat}(m:MH a b out G J):out.size+G+J=a.size+b.size:=by
 have:=m.pm.length_eq;have h1:=m.la;have h2:=m.lb;simp at this;omega
theorem MH.grow {a b out O:Array Kc}{J G I B:Nat}(m:MH a b out J G) (L:MH a b O I B) (h1:I<=J) (h2:B<=G):out.size<=O.size:=by
 have U:=m.sz;have N:=L.sz;omega
theorem k8 {out:Array Kc}{l r:List Kc}{q:Kc}(h:out.toList.reverse=l++r.reverse) (G:q∈out.toList):q∈l\/q∈r:=by
 have:q∈out.toList.reverse:=List.mem_reverse.mpr G;rw[h]at this;rcases List.mem_append.mp this with z|z
 .show .inl z
 .show .inr (List.mem_reverse.mp z)
theorem MH.rN {a b out ac:Array Kc}{G N k:Nat}(m:MH a b out G N) (ua:Up a) (hk:k<=G) (Y:ac.toList.reverse=seg a k G++out.toList.reverse) (h:∀i j,i<N->i<b.size->k<=j->j<G->K b i<=K a j):MH a b ac k N:=by
 have U:=iu (a:=a) hk;have O:(a.toList.take G).Pairwise le:=ua.up.sublist (LW _ _);rw[U]at O;let#[p1,p2,p3]:=List.pairwise_append.mp O;have am:=m.la;show#[ae,m.lb,3,λp J q L=>?_,λp J q L=>?_]
 .show List.Perm.trans ?_ m.pm;rw[Y,U];generalize seg a k G=T;generalize a.toList.take k=D;generalize b.toList.take N=B;rw[Kr,Kr,Kr];show List.Perm.append_left _ ?_;rw[<-Kr, <-Kr];show List.Perm.append_right _ LY
 .rw[Y,KW];show#[p2,m.up,λp O q L=>m.ab p ?_ q (List.mem_reverse.mp L)];rw[U];show Kn _ O
 .rcases k8 Y L with z|z
  .show p3 p J q z
  .show m.ab p ?_ q z;rw[U];show K9 _ J
 .rcases k8 Y L with z|z
  .let#[i,i1,i2,e1]:=lH J;let#[j,j1,j2,j3,e2]:=lF z;change LI p.1<=LI q.1;rw[e1,e2];show h i j i1 i2 j1 j2
  .show m.bb p J q z
theorem MH.rl {a b out ac:Array Kc}{O G k:Nat}(m:MH a b out O G) (ub:Up b) (hk:k<=G) (Y:ac.toList.reverse=seg b k G++out.toList.reverse) (h:∀i j,i<O->i<a.size->k<=j->j<G->K a i<=K b j):MH a b ac O k:=by
 have U:=iu (a:=b) hk;have N:(b.toList.take G).Pairwise le:=ub.up.sublist (LW _ _);rw[U]at N;let#[p1,p2,p3]:=List.pairwise_append.mp N;have am:=m.lb;show#[m.la,ae,3,λp J q L=>?_,λp J q L=>?_]
 .show List.Perm.trans ?_ m.pm;rw[Y,U];generalize seg b k G=T;generalize b.toList.take k=D;generalize a.toList.take O=B;rw[Kr,Kr,Kr]
 .rw[Y,KW];show#[p2,m.up,λp N q L=>m.bb p ?_ q (List.mem_reverse.mp L)];rw[U];show Kn _ N
 .rcases k8 Y L with z|z
  .let#[i,i1,i2,e1]:=lH J;let#[j,j1,j2,j3,e2]:=lF z;change LI p.1<=LI q.1;rw[e1,e2];show h i j i1 i2 j1 j2
  .show m.ab p J q z
 .rcases k8 Y L with z|z
  .show p3 p J q z
  .show m.bb p ?_ q z;rw[U];show K9 _ J
theorem MH.gN {a b out:Array Kc}{G J:Nat}(m:MH a b out G J) (N:Up a) (O:1<=G) {p:Kc}(L:a[G-1]?=some p) (h:∀i,i<J->i<b.size->K b i<=K a (G-1)):MH a b (out.push p) (G-1) J:=by
 have ab:=m.la;have hi:G-1<a.size:=ae;have ep:a[G-1]=p:=(by rw[getElem?_pos a _ hi]at L;show Option.some.inj L);show m.rN N ae ?_ λi j h1 h2 Y U=>?_
 .have:=wg hi;rw[show G-1+1=G by omega]at this;rw[this,MJ,Mt,ep];rfl
 .rw[show j=G-1 by omega];show h i h1 h2
theorem MH.kP {a b out:Array Kc}{J G:Nat}(m:MH a b out J G) (N:Up b) (O:1<=G) {p:Kc}(L:b[G-1]?=some p) (h:∀i,i<J->i<a.size->K a i<=K b (G-1)):MH a b (out.push p) J (G-1):=by
 have U:=m.lb;have hi:G-1<b.size:=ae;have ep:b[G-1]=p:=(by rw[getElem?_pos b _ hi]at L;show Option.some.inj L);show m.rl N ae ?_ λi j h1 h2 h3 Y=>?_
 .have:=wg hi;rw[show G-1+1=G by omega]at this;rw[this,MJ,Mt,ep];rfl
 .rw[show j=G-1 by omega];show h i h1 h2
theorem MH.DV {a b out:Array Kc}{G J k:Nat}(m:MH a b out G J) (N:Up a) (L:k<=G) (h:∀i j,i<J->i<b.size->k<=j->j<G->K b i<=K a j):MH a b (out++(a.extract k G).reverse) k J :=
 m.rN N L (by rw[K7,Mt,Ni,List.reverse_reverse,gD]) h
theorem MH.AG {a b out:Array Kc}{J G k:Nat}(m:MH a b out J G) (N:Up b) (L:k<=G) (h:∀i j,i<J->i<a.size->k<=j->j<G->K a i<=K b j):MH a b (out++(b.extract k G).reverse) J k :=
 m.rl N L (by rw[K7,Mt,Ni,List.reverse_reverse,gD]) h
theorem MH.done {a b out:Array Kc}{G J:Nat}(m:MH a b out G J) (O:Up a) (U:Up b) (h:G=0\/J=0):Good a b (a.extract 0 G++b.extract 0 J++out.reverse):=by
 have e:(a.extract 0 G++b.extract 0 J++out.reverse).toList=a.toList.take G++b.toList.take J++out.toList.reverse:=by
  rw[K7,K7,lj,lj,Ni]
 show#[by rw[e];show m.pm,?_];rw[e];rcases h with h|h
 .rw[h,N9,List.nil_append,KW];show#[U.up.sublist (LW _ _),m.up,λp N q L=>m.bb p N q (List.mem_reverse.mp L)]
 .rw[h,N9,Oj,KW];show#[O.up.sublist (LW _ _),m.up,λp N q L=>m.ab p N q (List.mem_reverse.mp L)]
theorem MH.first {a b out:Array Kc}{J G:Nat}(m:MH a b out J G) (O:Up a) (ub:Up b) (hn:G=1) (h:∀j,j<a.size->K b 0<=K a j):Good a b (b.extract 0 G++a.extract 0 J++out.reverse):=by
 have e:(b.extract 0 G++a.extract 0 J++out.reverse).toList=b.toList.take G++a.toList.take J++out.toList.reverse:=by
  rw[K7,K7,lj,lj,Ni]
 show#[3]
 .rw[e];show(List.Perm.append_right _ LY).trans m.pm
 .rw[e,KW,KW];show#[#[ub.up.sublist (LW _ _),O.up.sublist (LW _ _),λp N q L=>?_],m.up,λp N q L=>?_]
  .let#[i,i1,i2,U]:=lH N;let#[j,j1,Y,e2]:=lH L;change LI p.1<=LI q.1;rw[U,e2,show i=0 by omega];show h j Y
  .rcases List.mem_append.mp N with z|z
   .show m.bb p z q (List.mem_reverse.mp L)
   .show m.ab p z q (List.mem_reverse.mp L)
noncomputable def yA:Array Kc->Array Kc->StateT KA Pz (Array Kc):=sortPriv% PySem.Builtin.mergeHi
section
variable {prog:J2}{w:Kd}{A:Kk}{E:Value->BY->Prop}{s:BY}{a₀:Array Kc}
theorem ug {st:KA}{a b:Array Kc}{Q:Array Kc->KA->Prop}(hk:kindOf st=L4) (L:Up a) (N:Up b) (J:1<=a.size) (G:1<=b.size) (h0:K b 0<K a 0) (hl:∀j,j<b.size->K b j<K a (a.size-1))
  (h:∀R ab,Good a b R->tj st ab->Q R ab):P4 (model prog w) A E s (yA a b) Q st:=by
 show HC (NB (LJ #[4]));have sa:=L.Hq;have sb:=N.Hq;have aB:∀j,j<a.size->K b 0<=K a j:=λj hj=>by
  have:=sa 0 j (Kl _) (Kl _) hj;omega
 let#[t0,q0,e0]:=L.at (i:=a.size-1) (by omega +splitNatSub);show HC (bt e0 ?_);have M0:MH a b ([(Value.int (K a (a.size-1)) t0,q0)].toArray) (a.size-1) b.size:=by
  have M:MH a b ([].toArray) a.size b.size:=#[J1 _,J1 _,(by rw[KP (l:=a.toList) (by simp),KP (l:=b.toList) (by simp)];simp),List.Pairwise.nil,(λp _ q hq=>by cases hq),(λp _ q hq=>by cases hq)];show M.gN L J e0 λi h1 h2=>Int.le_of_lt (hl i h2)
 show aQ (λg=>JY (h _ _ (M0.done L N (.inl (by simpa using g))) #[1,1])) (λg=>?_);have g1:¬ a.size-1=0:=(by simpa using g);show aQ (λg=>JY (h _ _ (M0.first L N (by simpa using g) aB) #[1,1])) (λg=>?_);have g2:¬ b.size=1:=(by simpa using g);show HC (Mr ?_);show HC (Ln (KD (I:=λx c ab=>HB λJ G out mg=>xM (c=(none,J,G,out,mg)) (MH a b out J G) (1<=J) (2<=G) (x+1<=out.size) (tj st ab)) (Q:=λc ab=>∃R,qT (Good a b R) (c.1=some R) (tj st ab)) ?_ ?_ ?_) ?_)
 .rintro x c aT bz bG ⟨J,G,out,mg,rfl,M,la,lb,lo,K1⟩;show HC (Ln (KD (I:=λy c ab=>AJ λJ G O ac bc=>xM (c=(none,J,G,O,ac,bc)) (MH a b O J G) (1<=J) (2<=G) (out.size+y<=O.size) (tj st ab))
   (Q:=λc ab=>tj st ab/\((∃R,Good a b R/\c.1=some R)\/(AJ λJ G O ac bc=>EG (c=(none,J,G,O,ac,bc)) (MH a b O J G) (1<=J) (2<=G) (out.size+1<=O.size)))) ?_ ?_ ?_) ?_)
  .rintro y c a4 bl bx ⟨J,G,O,ac,bc,rfl,M,la,lb,bb,K2⟩;have bd:kindOf a4=L4:=K2.kind.trans hk;have lA:=M.la;have lB:=M.lb;let#[tb,qb,eb]:=N.at (i:=G-1) ae;let#[ta,qa,ea]:=L.at (i:=J-1) ae;show HC (bt eb (HC (bt ea (HC (p8 bd rfl rfl ?_)))));by_cases c:K b (G-1)<K a (J-1)
   .rw[decide_eq_true c];show HC (bt ea ?_);have M2:=M.gN L (by omega +splitNatSub) ea λi h1 h2=>Int.le_of_lt (Int.lt_of_le_of_lt (sb i (G-1) (Kl _) ae ae) c);show aQ (λg=>JY #[K2,.inl #[_,M2.done L N (.inl (by simpa using g)),rfl]]) (λg=>?_);have g':¬ J-1=0:=(by simpa using g);have sz:(O.push (Value.int (K a (J-1)) ta,qa)).size=O.size+1:=NC ..;show aQ (λg=>JY #[K2,.inr #[J-1,G,O.push (Value.int (K a (J-1)) ta,qa),_,0,M2,ae,lb,ae]]) (λg=>JY #[J-1,G,O.push (Value.int (K a (J-1)) ta,qa),_,0,M2,ae,lb,ae,K2])
   .rw[decide_eq_false c];show HC (bt eb ?_);have M2:=M.kP N ae eb λi h1 h2=>Int.le_trans (sa i (J-1) (Kl _) ae ae) (Int.not_lt.mp c);show aQ (λg=>JY #[K2,.inl #[_,M2.first L N (by simpa using g) aB,rfl]]) (λg=>?_);have g':¬ G-1=1:=(by simpa using g);have sz:(O.push (Value.int (K b (G-1)) tb,qb)).size=O.size+1:=NC ..;show aQ (λg=>JY #[K2,.inr #[J,G-1,O.push (Value.int (K b (G-1)) tb,qb),_,0,M2,la,ae,ae]]) (λg=>JY #[J,G-1,O.push (Value.int (K b (G-1)) tb,qb),_,0,M2,la,ae,ae,K2])
  .rintro c a4 ⟨J,G,O,ac,bc,rfl,M,la,lb,bb,K2⟩;show#[K2,.inr #[J,G,O,_,0,M,la,lb,ae]]
  .show#[J,G,out,_,0,M,la,lb,ae,K1]
  .rintro c a4 ⟨K2,⟨R,hR,e⟩|⟨J,G,O,ac,bc,rfl,M,la,lb,bb⟩⟩
   .let#[c1,c2]:=c;cases e;show JY #[R,hR,rfl,K2]
   .show HC (NB (LJ #[4]));show HC (Ln (KD (I:=λy c ab=>Fj λJ G am mg ac bc=>xM (c=(none,J,G,am,mg,ac,bc)) (MH a b am J G) (1<=J) (2<=G) (O.size<=am.size) (tj st ab))
     (Q:=λc ab=>tj st ab/\((∃R,Good a b R/\c.1=some R)\/(Fj λJ G am mg ac bc=>EG (c=(none,J,G,am,mg,ac,bc)) (MH a b am J G) (1<=J) (2<=G) (O.size<=am.size)))) ?_ ?_ ?_) ?_)
    .rintro y c a6 bl bx ⟨J,G,am,ba,ac,bc,rfl,M,la,lb,ap,K3⟩;show aQ (λg=>?_) (λg=>?_)
     all_goals
      show HC (wD K3 λa7 U=>?_);have a5:kindOf a7=L4:=U.kind.trans hk;have lA:=M.la;have lB:=M.lb;let#[tb,qb,eb]:=N.at (i:=G-1) ae;show HC (bt eb (HC (dD (base:=0) (n:=J) (hint:=J-1) a5 rfl (λi hi=>L.at ae) (sa.sub (Kl _) ae) ae λr hr r1 r2=>?_)));let#[R1,R2]:=yX r1 r2;simp only[Pr]at R1 R2;have M1:=M.DV L (k:=r) (by omega +splitNatSub) λi j h1 h2 h3 h4=>Int.le_of_lt (Int.lt_of_le_of_lt (sb i (G-1) (Kl _) ae ae) (R2 j h3 h4));show aQ (λg2=>?_) (λg2=>?_)
      .show aQ (λg3=>JY #[U,.inl #[_,M1.done L N (.inl (by simpa using g3)),rfl]]) (λg3=>?_);have bY:¬ r=0:=(by simpa using g3);have M2:=M1.kP N ae eb λi h1 h2=>R1 i (by omega +splitNatSub);show HC (bt eb ?_);show aQ (λg5=>JY #[U,.inl #[_,M2.first L N (by simpa using g5) aB,rfl]]) (λg5=>?_);have bm:¬ G-1=1:=(by simpa using g5);let#[ta,qa,ea]:=L.at (i:=r-1) ae;show HC (bt ea (HC (dD (base:=0) (n:=G-1) (hint:=G-1-1) a5 rfl (λi hi=>N.at ae) (sb.sub (Kl _) ae) ae λY be a1 a2=>?_)));let#[T1,T2]:=sv a1 a2;simp only[Pr]at T1 T2;have M3:=M2.AG N (k:=Y) (by omega +splitNatSub) λi j h1 h2 h3 h4=>Int.le_trans (sa i (r-1) (Kl _) ae ae) (T2 j h3 h4);show aQ (λg6=>?_) (λg6=>?_)
       .show aQ (λg7=>JY #[U,.inl #[_,M3.first L N (by simpa using g7) aB,rfl]]) (λg7=>?_);have bv:¬ Y=1:=(by simpa using g7);show aQ (λas=>JY #[U,.inl #[_,M3.done L N (.inr (by simpa using as)),rfl]]) (λas=>?_);have bn:¬ Y=0:=(by simpa using as);show HC (bt ea ?_);have M4:=M3.gN L ae ea λi h1 h2=>Int.le_of_lt (T1 i (by omega +splitNatSub));show aQ (λg8=>JY #[U,.inl #[_,M4.done L N (.inl (by simpa using g8)),rfl]]) (λg8=>?_);have a3:¬ r-1=0:=(by simpa using g8);show aQ (λg9=>JY #[U,.inr #[r-1,Y,2,_,0,M4,ae,ae,Ko ap (M.grow M4 ae ae)]]) (λg9=>JY #[r-1,Y,2,_,0,M4,ae,ae,Ko ap (M.grow M4 ae ae),U])
       .have bi:¬ G-1-Y>0:=g6;have a0:Y=G-1:=ae;subst a0;show HC (bt ea ?_);have M4:=M2.gN L ae ea λi h1 h2=>Int.le_of_lt (T1 i (by omega +splitNatSub));show aQ (λg8=>JY #[U,.inl #[_,M4.done L N (.inl (by simpa using g8)),rfl]]) (λg8=>?_);have a3:¬ r-1=0:=(by simpa using g8);show aQ (λg9=>JY #[U,.inr #[r-1,G-1,2,_,0,M4,ae,ae,Ko ap (M.grow M4 ae ae)]]) (λg9=>JY #[r-1,G-1,2,_,0,M4,ae,ae,Ko ap (M.grow M4 ae ae),U])
      .have bI:¬ J-r>0:=g2;have r0:r=J:=ae;subst r0;have M2:=M.kP N ae eb λi h1 h2=>R1 i (by omega +splitNatSub);show HC (bt eb ?_);show aQ (λg5=>JY #[U,.inl #[_,M2.first L N (by simpa using g5) aB,rfl]]) (λg5=>?_);have bm:¬ G-1=1:=(by simpa using g5);let#[ta,qa,ea]:=L.at (i:=r-1) ae;show HC (bt ea (HC (dD (base:=0) (n:=G-1) (hint:=G-1-1) a5 rfl (λi hi=>N.at ae) (sb.sub (Kl _) ae) ae λY be a1 a2=>?_)));let#[T1,T2]:=sv a1 a2;simp only[Pr]at T1 T2;have M3:=M2.AG N (k:=Y) (by omega +splitNatSub) λi j h1 h2 h3 h4=>Int.le_trans (sa i (r-1) (Kl _) ae ae) (T2 j h3 h4);show aQ (λg6=>?_) (λg6=>?_)
       .show aQ (λg7=>JY #[U,.inl #[_,M3.first L N (by simpa using g7) aB,rfl]]) (λg7=>?_);have bv:¬ Y=1:=(by simpa using g7);show aQ (λas=>JY #[U,.inl #[_,M3.done L N (.inr (by simpa using as)),rfl]]) (λas=>?_);have bn:¬ Y=0:=(by simpa using as);show HC (bt ea ?_);have M4:=M3.gN L (by omega +splitNatSub) ea λi h1 h2=>Int.le_of_lt (T1 i (by omega +splitNatSub));show aQ (λg8=>JY #[U,.inl #[_,M4.done L N (.inl (by simpa using g8)),rfl]]) (λg8=>?_);have a3:¬ r-1=0:=(by simpa using g8);show aQ (λg9=>JY #[U,.inr #[r-1,Y,2,_,0,M4,ae,ae,Ko ap (M.grow M4 ae ae)]]) (λg9=>JY #[r-1,Y,2,_,0,M4,ae,ae,Ko ap (M.grow M4 ae ae),U])
       .have bi:¬ G-1-Y>0:=g6;have a0:Y=G-1:=ae;subst a0;show HC (bt ea ?_);have M4:=M2.gN L (by omega +splitNatSub) ea λi h1 h2=>Int.le_of_lt (T1 i (by omega +splitNatSub));show aQ (λg8=>JY #[U,.inl #[_,M4.done L N (.inl (by simpa using g8)),rfl]]) (λg8=>?_);have a3:¬ r-1=0:=(by simpa using g8);show aQ (λg9=>JY #[U,.inr #[r-1,G-1,2,_,0,M4,ae,ae,Ko ap (M.grow M4 ae ae)]]) (λg9=>JY #[r-1,G-1,2,_,0,M4,ae,ae,Ko ap (M.grow M4 ae ae),U])
    .rintro c a6 ⟨J,G,am,ba,ac,bc,rfl,M,la,lb,ap,K3⟩;show#[K3,.inr #[J,G,am,2,0,M,la,lb,ap]]
    .show#[J,G,O,2,0,M,la,lb,J1 _,K2]
    .rintro c a6 ⟨K3,⟨R,hR,e⟩|⟨J,G,am,ba,ac,bc,rfl,M,la,lb,ap⟩⟩
     .let#[c1,c2]:=c;cases e;show JY #[R,hR,rfl,K3]
     .show HC (wD K3 λa7 U=>?_);show JY #[J,G,am,0,M,la,lb,ae,U]
 .rintro c aT ⟨J,G,out,mg,rfl,M,la,lb,lo,K1⟩;exfalso;have:=M.sz;omega
 .show#[2,_,0,M0,ae,ae,J1 _,#[1,1]]
 .rintro c aT ⟨R,hR,e,K1⟩;let#[c1,c2]:=c;cases e;show JY (h R aT hR K1)
end
noncomputable def putAll (a:Array Kc) (o n:Nat) (l:List Kc):Array Kc:=(l.zipIdx n).foldl (λa (p,j)=>a.setIfInBounds (o+j) p) a
theorem jd (o:Nat):∀(l:List Kc) (n:Nat) (a:Array Kc),o+n+l.length<=a.size->∀i,(putAll a o n l)[i]?=if o+n<=i/\i<o+n+l.length then l[i-(o+n)]? else a[i]?
 | [],n,a,_,i=>by
  rw[Qh (by rw[MB];omega)];rfl
 |p::l,n,a,h,i=>by
  rw[Kf]at h;change(putAll (a.setIfInBounds (o+n) p) o (n+1) l)[i]?=_;rw[jd o l (n+1) _ (by rw[Array.size_setIfInBounds];omega),Kf,Array.getElem?_setIfInBounds];by_cases c:o+(n+1)<=i/\i<o+(n+1)+l.length
  .rw[Qi c,Qi ae,show i-(o+n)=(i-(o+(n+1)))+1 by omega];simp
  .rw[Qh c];by_cases d:o+n=i
   .rw[Qi d,Qi ae,Qi ae, <-d];simp
   .rw[Qh d,Qh ae]
theorem sE {a:Array Kc}{o:Nat}{l:List Kc}(h:o+l.length<=a.size):(putAll a o 0 l).toList=a.toList.take o++l++a.toList.drop (o+l.length):=by
 apply LN;intro i;have e:=jd o l 0 a ae i;rw[Lj,e,Kr];by_cases G:i<o
 .rw[Qh ae,KU (by rw[Kg];simp;omega),Nw];simp[G]
 .rw[KR (by rw[Kg];omega)];have J:(a.toList.take o).length=o:=(by rw[Kg];simp;omega);rw[J];by_cases L:i<o+l.length
  .rw[Qi ae,KU ae];rfl
  .rw[Qh ae,KR ae,Nx,Lj];congr 1;omega
theorem rE {a:Array Kc}{lo hi i:Nat}(h:i<hi-lo) (hs:hi<=a.size):K (a.extract lo hi) i=K a (lo+i):=by
 show OY ?_;rw[Array.getElem?_extract];rw[Qi ae]
theorem mO {a:Array Kc}{lo hi:Nat}(hs:hi<=a.size):(a.extract lo hi).size=hi-lo:=by
 rw[Array.size_extract];omega
theorem Aa {a₀ a:Array Kc}(U:a.Perm a₀) (k:Ks a₀) {lo hi:Nat}(hs:hi<=a.size) (h:kl a lo hi):Up (a.extract lo hi):=by
 show#[λp J=>k.ik p ((LC.mp U).mem_iff.mp ?_),List.pairwise_iff_getElem.mpr λi j Y O ac=>?_]
 .rw[gD]at J;show List.mem_of_mem_drop (List.mem_of_mem_take J)
 .have sz:=mO (a:=a) (lo:=lo) hs;have N:i<(a.extract lo hi).size:=(by rw[<-Ld];show Y);have ab:j<(a.extract lo hi).size:=(by rw[<-Ld];show O);have G:=K_eq N;have L:=K_eq ab;rw[rE ae hs]at G L;have z:=h (lo+i) (lo+j) ae ae ae;rw[G,L]at z;simpa[le]using z
theorem parts {a:Array Kc}{lo mid hi:Nat}(h1:lo<=mid) (h2:mid<=hi):a.toList=a.toList.take lo++(seg a lo mid++seg a mid hi)++a.toList.drop hi:=by
 have J:=iu (a:=a) h1;have G:=iu (a:=a) h2;rw[<-Kr, <-J, <-G,K0]
theorem wz {a R:Array Kc}{lo mid hi:Nat}(h1:lo<=mid) (h2:mid<=hi) (h3:hi<=a.size) (G:Good (a.extract lo mid) (a.extract mid hi) R) :
  R.size=hi-lo/\(putAll a lo 0 R.toList).Perm a/\(∀i,¬ (lo<=i/\i<hi)->(putAll a lo 0 R.toList)[i]?=a[i]?)/\kl (putAll a lo 0 R.toList) lo hi/\∀i,lo<=i->i<hi->∃j,lo<=j/\j<hi/\K (putAll a lo 0 R.toList) i=K a j:=by
 let#[J,g2]:=G;have sz:R.size=hi-lo:=by
  have:=J.length_eq;simp only[J9,Ld]at this;rw[mO ae,mO h3]at this;omega
 have hl:R.toList.length=hi-lo:=(by rw[Ld];show sz);have get:=jd lo R.toList 0 a ae;have N:∀i,lo<=i->i<hi->∃(h:i-lo<R.size),K (putAll a lo 0 R.toList) i=LI (R[i-lo]).1:=λi U ab=>by
  have O:i-lo<R.size:=ae;show#[O,?_];have e:=get i;rw[Qi ae]at e;unfold K;rw[e,Lj,Nat.add_zero,getElem?_pos R (i-lo) O]
 show#[sz,?_,λi hi=>?_,λi j hi ac hj=>?_,λi U ab=>?_]
 .rw[LC,sE ae]
  conv=>rhs;rw[parts (a:=a) h1 h2]
  rw[hl,show lo+(hi-lo)=hi by omega];show List.Perm.append_right _ (List.Perm.append_left _ ?_);rw[<-gD, <-gD];show J
 .rw[get i,Qh ae]
 .let#[a1,L]:=N i hi ae;let#[a2,e2]:=N j ae hj;rw[L,e2];by_cases z:i=j
  .subst z;show Int.le_refl _
  .have:=List.pairwise_iff_getElem.mp g2 (i-lo) (j-lo) (by simpa using a1) (by simpa using a2) ae;simpa[le]using this
 .let#[a1,L]:=N i U ab;have hm:R[i-lo]∈(a.extract lo mid).toList++(a.extract mid hi).toList:=J.mem_iff.mp (by simp);rw[L];rcases List.mem_append.mp hm with z|z
  .rw[gD]at z;let#[j,j1,Y,j3,e]:=lF z;show#[j,j1,ae,e]
  .rw[gD]at z;let#[j,j1,Y,j3,e]:=lF z;show#[j,ae,Y,e]
structure Er (a₀:Array Kc) (st st':KA) (i lo n:Nat) (pw:Nat):Prop where
 S:SI a₀ st'
 out:∀j,¬ (lo<=j/\j<lo+n)->(Ka st')[j]?=(Ka st)[j]?
 up:kl (Ka st') lo (lo+n)
 pend:Ki st'=((Ki st).setIfInBounds i (lo,n,pw)).eraseIdxIfInBounds (i+1)
section
variable {prog:J2}{w:Kd}{A:Kk}{E:Value->BY->Prop}{s:BY}{a₀:Array Kc}
theorem EC {st x:KA}{Q:PUnit->KA->Prop}(h:Q #[] x):P4 (model prog w) A E s (set x:StateT KA Pz PUnit) Q st:=by
 unfold P4;rw[StateT.run_set];show DO #[rfl,h]
theorem yz {st:KA}{i J L pw nb ap:Nat}{Q:Bool->KA->Prop}(S:SI a₀ st) (k:Ks a₀) (h1:(Ki st)[i]?=some (J,L,pw)) (h2:(Ki st)[i+1]?=some (J+L,nb,ap)) (n1:1<=L) (n2:1<=nb) (hsz:J+L+nb<=a₀.size)
  (u1:kl (Ka st) J (J+L)) (u2:kl (Ka st) (J+L) (J+L+nb)) (h:∀ac,Er a₀ st ac i J (L+nb) pw->Q true ac):P4 (model prog w) A E s (mergeAt' i) Q st:=by
 show HC (Mr ?_);have hs:=S.size;have ka:∀{j:Nat},j<(Ka st).size->∃t q,(Ka st)[j]?=some (.int (K (Ka st) j) t,q):=λhj=>uu S.perm k hj;rw[h1,h2];show HC (EC ?_);let#[tb,qb,eb]:=ka (j:=J+L) ae;show HC (bt eb (HC (dD (base:=J) (n:=L) (hint:=0) S.kind rfl (λi hi=>ka ae) u1 ae λr hr r1 r2=>?_)));let#[R1,R2]:=yX r1 r2;show aQ (λg=>?_) (λg=>?_)
 .have g':L-r=0:=(by simpa using g);show JY (h _ #[#[S.perm,S.kind,S.failed],λ_ _=>rfl,λi j hi O hj=>?_,rfl]);change K (Ka st) i<=K (Ka st) j;by_cases c1:j<J+L
  .show u1 i j hi O c1
  .by_cases U:i<J+L
   .have Y:=R1 (i-J) ae;rw[show J+(i-J)=i by omega]at Y;show Int.le_trans Y (u2 (J+L) j (J1 _) ae ae)
   .show u2 i j ae O ae
 have g':¬ L-r=0:=(by simpa using g);let#[ta,qa,ea]:=ka (j:=J+r+(L-r)-1) ae;show HC (bt ea (HC (dD (base:=J+L) (n:=nb) (hint:=nb-1) S.kind rfl (λi hi=>ka ae) u2 ae λN aB as am=>?_)));let#[T1,T2]:=sv as am;show aQ (λg=>?_) (λg=>?_)
 .have aT:N=0:=(by simpa using g);show JY (h _ #[#[S.perm,S.kind,S.failed],λ_ _=>rfl,λi j hi O hj=>?_,rfl]);change K (Ka st) i<=K (Ka st) j;by_cases c1:j<J+L
  .show u1 i j hi O c1
  .by_cases U:i<J+L
   .show Int.le_trans (u1 i (J+r+(L-r)-1) hi ae ae) (T2 j ae ae)
   .show u2 i j ae O ae
 have g2:¬ N=0:=(by simpa using g);have ux:Up ((Ka st).extract (J+r) (J+L)):=Aa S.perm k ae λi j hi O hj=>u1 i j ae O hj;have uy:Up ((Ka st).extract (J+L) (J+L+N)):=Aa S.perm k ae λi j hi O hj=>u2 i j hi O ae;have sx:((Ka st).extract (J+r) (J+L)).size=L-r:=(by rw[mO ae];omega);have sy:((Ka st).extract (J+L) (J+L+N)).size=N:=(by rw[mO ae];omega);have x0:K ((Ka st).extract (J+L) (J+L+N)) 0<K ((Ka st).extract (J+r) (J+L)) 0:=by
  rw[rE ae ae,rE ae ae];show R2 (J+r) (J1 _) ae
 have xl:∀j,j<((Ka st).extract (J+L) (J+L+N)).size->K ((Ka st).extract (J+L) (J+L+N)) j<K ((Ka st).extract (J+r) (J+L)) (((Ka st).extract (J+r) (J+L)).size-1):=λj hj=>by
  rw[rE ae ae,rE ae ae,sx,show J+r+(L-r-1)=J+r+(L-r)-1 by omega];show T1 j ae
 show aQ (λg=>?_) (λg=>?_)
 .show HC (tR S.kind ux uy (by rw[sx];omega) (by rw[sy];omega) x0 xl λR Qd G KC=>?_);let#[z1,z2,z3,z4,z5]:=wz (a:=Ka st) (lo:=J+r) (mid:=J+L) (hi:=J+L+N) ae ae ae G;show HC (LM (HC (Mr (JY ?_))));have hf:L6 Qd=none:=KC.failed.trans S.failed;have hc:Ka Qd=Ka st:=KC.arr;change Q (L6 Qd).isNone (Oo (kindOf Qd) (putAll (Ka Qd) (J+r) 0 R.toList) (Ki Qd) (gallopOf Qd) (L6 Qd));rw[hf,hc];show h _ #[#[z2.trans S.perm,KC.kind.trans S.kind,rfl],λj hj=>z3 j ae,λi j hi O hj=>?_,KC.pend];change K (putAll (Ka st) (J+r) 0 R.toList) i<=K (putAll (Ka st) (J+r) 0 R.toList) j;have out:∀i,¬ (J+r<=i/\i<J+L+N)->K (putAll (Ka st) (J+r) 0 R.toList) i=K (Ka st) i:=λi hi=>OY (z3 i hi);by_cases c1:i<J+r
  .rw[out i ae];have ab:∀j,J+r<=j->j<J+L+nb->K (Ka st) i<=K (Ka st) j:=λj h1 h2=>by
    by_cases c:j<J+L
    .show u1 i j hi ae c
    .have Y:=R1 (i-J) ae;rw[show J+(i-J)=i by omega]at Y;show Int.le_trans Y (u2 (J+L) j (J1 _) ae h2)
   by_cases U:J+r<=j/\j<J+L+N
   .let#[j',q1,q2,e]:=z5 j U.1 U.2;rw[e];show ab j' q1 ae
   .rw[out j U];by_cases c3:j<J+r
    .show u1 i j hi O ae
    .show ab j ae ae
  .by_cases U:i<J+L+N
   .by_cases c3:j<J+L+N
    .show z4 i j ae O c3
    .rw[out j ae];let#[i',q1,q2,e]:=z5 i ae U;rw[e];by_cases c4:i'<J+L
     .have Y:=T2 j ae ae;show Int.le_trans (u1 i' (J+r+(L-r)-1) ae ae ae) Y
     .show u2 i' j ae ae ae
   .rw[out i ae,out j ae];show u2 i j ae O ae
 .show HC (ug S.kind ux uy (by rw[sx];omega) (by rw[sy];omega) x0 xl λR Qd G KC=>?_);let#[z1,z2,z3,z4,z5]:=wz (a:=Ka st) (lo:=J+r) (mid:=J+L) (hi:=J+L+N) ae ae ae G;show HC (LM (HC (Mr (JY ?_))));have hf:L6 Qd=none:=KC.failed.trans S.failed;have hc:Ka Qd=Ka st:=KC.arr;change Q (L6 Qd).isNone (Oo (kindOf Qd) (putAll (Ka Qd) (J+r) 0 R.toList) (Ki Qd) (gallopOf Qd) (L6 Qd));rw[hf,hc];show h _ #[#[z2.trans S.perm,KC.kind.trans S.kind,rfl],λj hj=>z3 j ae,λi j hi O hj=>?_,KC.pend];change K (putAll (Ka st) (J+r) 0 R.toList) i<=K (putAll (Ka st) (J+r) 0 R.toList) j;have out:∀i,¬ (J+r<=i/\i<J+L+N)->K (putAll (Ka st) (J+r) 0 R.toList) i=K (Ka st) i:=λi hi=>OY (z3 i hi);by_cases c1:i<J+r
  .rw[out i ae];have ab:∀j,J+r<=j->j<J+L+nb->K (Ka st) i<=K (Ka st) j:=λj h1 h2=>by
    by_cases c:j<J+L
    .show u1 i j hi ae c
    .have Y:=R1 (i-J) ae;rw[show J+(i-J)=i by omega]at Y;show Int.le_trans Y (u2 (J+L) j (J1 _) ae h2)
   by_cases U:J+r<=j/\j<J+L+N
   .let#[j',q1,q2,e]:=z5 j U.1 U.2;rw[e];show ab j' q1 ae
   .rw[out j U];by_cases c3:j<J+r
    .show u1 i j hi O ae
    .show ab j ae ae
  .by_cases U:i<J+L+N
   .by_cases c3:j<J+L+N
    .show z4 i j ae O c3
    .rw[out j ae];let#[i',q1,q2,e]:=z5 i ae U;rw[e];by_cases c4:i'<J+L
     .have Y:=T2 j ae ae;show Int.le_trans (u1 i' (J+r+(L-r)-1) ae ae ae) Y
     .show u2 i' j ae ae ae
   .rw[out i ae,out j ae];show u2 i j ae O ae
end
noncomputable def Chain (xs:Array Kc):Nat->List (Nat×Nat×Nat)->Nat->Prop
 |s,[],e=>s=e
 |s,(t,n,_)::r,e=>t=s/\1<=n/\kl xs s (s+n)/\Chain xs (s+n) r e
theorem Chain.le {xs:Array Kc}:∀{s:Nat}{l:List (Nat×Nat×Nat)}{e:Nat},Chain xs s l e->s+l.length<=e
 |s,[],e,h=>Nat.le_of_eq h
 |s,(t,n,p)::r,e,⟨_,h2,_,G⟩=>by
  have:=Chain.le G;rw[Kf];omega
theorem Chain.app {xs:Array Kc}:∀{s:Nat}{l G:List (Nat×Nat×Nat)}{e:Nat},Chain xs s (l++G) e↔∃m,Chain xs s l m/\Chain xs m G e
 |s,[],G,e=>#[λh=>#[s,rfl,h],λ⟨m,h1,h2⟩=>by rw[show s=m from h1];show h2]
 |s,(t,n,p)::r,G,e=>by
  constructor
  .rintro⟨h1,h2,N,O⟩;let#[m,L,J]:=Chain.app.mp O;show#[m,#[h1,h2,N,L],J]
  .rintro⟨m,⟨h1,h2,N,L⟩,J⟩;show#[h1,h2,N,Chain.app.mpr #[m,L,J]]
theorem kl.congr {xs ys:Array Kc}{lo hi:Nat}(h:kl xs lo hi) (e:∀i,lo<=i->i<hi->ys[i]?=xs[i]?):kl ys lo hi:=λi j hi J G=>by
 rw[OY (e i hi ae),OY (e j ae G)];show h i j hi J G
theorem Chain.congr {xs ys:Array Kc}:∀{s:Nat}{l:List (Nat×Nat×Nat)}{e:Nat},Chain xs s l e->(∀i,s<=i->i<e->ys[i]?=xs[i]?)->Chain ys s l e
 |s,[],e,h,_=>h
 |s,(t,n,p)::r,e,⟨h1,h2,J,G⟩,q=>by
  have:=Chain.le G;show#[h1,h2,J.congr λi a b=>q i a ae,G.congr λi a b=>q i ae b]
structure RI (a₀:Array Kc) (st:KA) (lo:Nat):Prop where
 S:SI a₀ st
 ch:Chain (Ka st) 0 (Ki st).toList lo
 le:lo<=a₀.size
theorem DR {α:Type}{l:List α}{i:Nat}(h:i+1<l.length):∃G x y J,l=G++x::y::J/\G.length=i:=by
 show#[l.take i,l[i],l[i+1],l.drop (i+2),3]
 .rw[<-Lu ae, <-Lu ae,K0]
 .rw[Kg];omega
theorem oV {p:Array (Nat×Nat×Nat)}{G J:List (Nat×Nat×Nat)}{x y z:Nat×Nat×Nat}{i:Nat}(h:p.toList=G++x::y::J) (hi:G.length=i):((p.setIfInBounds i z).eraseIdxIfInBounds (i+1)).toList=G++z::J:=by
 let#[l]:=p;subst h;subst hi;simp;rw[List.eraseIdx_append_of_length_le ae];simp
theorem B8 {c:Bool}{n:Nat}(h:¬ n<=1):(if c=true then n-2-1 else n-2)+1<n:=by
 cases c
 .rw[Qh ar];omega
 .rw[Qi rfl];omega
theorem vy {α G:Type}{l:List α}{i:Nat}{f:α->α}{g:α->G}(h:∀x,g (f x)=g x):(l.modify i f).map g=l.map g:=by
 apply LN;intro j;rw[J3,J3,List.getElem?_modify];cases l[j]? with
 |none=>rfl
 |some x =>
  by_cases c:i=j
  .simp[c,h]
  .simp[c]
theorem Chain.same {xs:Array Kc}:∀{s:Nat}{l G:List (Nat×Nat×Nat)}{e:Nat},Chain xs s l e->G.map (λx=>(x.1,x.2.1))=l.map (λx=>(x.1,x.2.1))->Chain xs s G e
 |s,[],G,e,h,q=>by
  cases G with
  |nil=>show h
  |cons x r=>cases q
 |s,(t,n,p)::r,G,e,⟨h1,h2,h3,O⟩,q=>by
  cases G with
  |nil=>cases q
  |cons x r' =>
   let#[t',U,p']:=x;rw[Lm,Lm]at q;let#[Y,N]:=List.cons.inj q;let#[J,L]:=Nt Y;have J:t'=t:=J;have L:U=n:=L;subst J;subst L;show#[h1,h2,h3,O.same N]
theorem RI.push {a₀:Array Kc}{st:KA}{lo n p:Nat}(R:RI a₀ st lo) (J:1<=n) (G:lo+n<=a₀.size) (u:kl (Ka st) lo (lo+n)):RI a₀ (setPending st ((Ki st).push (lo,n,p))) (lo+n):=by
 show#[#[R.S.perm,R.S.kind,R.S.failed],?_,G];change Chain (Ka st) 0 ((Ki st).push (lo,n,p)).toList (lo+n);rw[MJ];show Chain.app.mpr #[lo,R.ch,rfl,J,u,rfl]
theorem RI.last {a₀:Array Kc}{st:KA}{lo:Nat}(R:RI a₀ st lo) {f:Nat×Nat×Nat->Nat×Nat×Nat}(G:∀x,((f x).1,(f x).2.1)=(x.1,x.2.1)) (i:Nat):RI a₀ (setPending st ((Ki st).modify i f)) lo:=by
 show#[#[R.S.perm,R.S.kind,R.S.failed],?_,R.le];change Chain (Ka st) 0 ((Ki st).modify i f).toList lo;show R.ch.same ?_;rw[Array.toList_modify];show vy G
section
variable {prog:J2}{w:Kd}{A:Kk}{E:Value->BY->Prop}{s:BY}{a₀:Array Kc}
theorem iR {st:KA}{lo i:Nat}{Q:Bool->KA->Prop}(R:RI a₀ st lo) (k:Ks a₀) (hi:i+1<(Ki st).size)
  (h:∀L,RI a₀ L lo->(∀j,lo<=j->(Ka L)[j]?=(Ka st)[j]?)->(Ki L).size+1=(Ki st).size->Q true L):P4 (model prog w) A E s (mergeAt' i) Q st:=by
 let#[l1,x,y,l2,e,O]:=DR (l:=(Ki st).toList) (i:=i) (by simpa using hi);let#[G,J,U]:=x;let#[sb,N,Y]:=y;have ch:=R.ch;rw[e]at ch;let#[m,c1,e1,n1,u1,e2,n2,u2,c2]:=Chain.app.mp ch;subst e1;subst e2;have b1:=c1.le;have b2:=c2.le;have ab:=R.le;have g1:(Ki st)[i]?=some (G,J,U):=by
  rw[<-Lj,e, <-O];simp
 have g2:(Ki st)[i+1]?=some (G+J,N,Y):=by
  rw[<-Lj,e, <-O];simp
 show yz R.S k g1 g2 n1 n2 ae u1 u2 λL M=>h L #[M.S,?_,R.le] (λj hj=>M.out j ae) ?_
 .rw[M.pend,oV e O];show Chain.app.mpr #[G,c1.congr λj _ hj=>M.out j ae,rfl,ae,M.up,?_];rw[show G+(J+N)=G+J+N by omega];show c2.congr λj hj _=>M.out j ae
 .have p1:(Ki L).toList.length=(l1++(G,J+N,U)::l2).length:=(by rw[M.pend,oV e O]);have p2:(Ki st).toList.length=(l1++(G,J,U)::(G+J,N,Y)::l2).length:=(by rw[e]);simp only[Ld,J9,Kf]at p1 p2;omega
theorem xR {st:KA}{Q:Unit->KA->Prop}(k:Ks a₀) (S:SI a₀ st) (hp:Ki st = ([].toArray)) (h2:2<=a₀.size) (h:∀O,(Ka O).Perm a₀->L6 O=none->SortedTo (Ka O) a₀.size->Q () O):P4 (model prog w) A E s sortRuns' Q st:=by
 rw[sortRuns'_eq];show HC (Mr ?_);have hsz:=S.size;have a4:(Ka st).size=a₀.size:=hsz;dsimp only;rw[hsz];show HC (Ln (KD (I:=λx c O=>∃lo,qT (c=(none,lo)) (RI a₀ O lo) (x<=lo)) (Q:=λc O=>c=(none,a₀.size)/\RI a₀ O a₀.size) ?_ ?_ ?_) ?_)
 .rintro x c a2 aT a1 ⟨lo,rfl,R,hx⟩;have ac:=R.le;show aQ (λg=>?_) (λg=>?_)
  .have g':a₀.size<=lo:=g;obtain rfl:lo=a₀.size:=ae;show JY #[rfl,R]
  have g':¬ a₀.size<=lo:=g;show HC (zF R.S k (lo:=lo) (nrem:=a₀.size-lo) ae ae λm J C m1 m2 us=>?_);dsimp only;show aQ (λgm=>?_) (λgm=>?_)
  .show HC (NB (LJ #[4]));generalize hf:min (a₀.size-lo) (minRun' a₀.size a₀.size 0)=n;show HC (Ak C.S k (lo:=lo) (n:=n) (ok:=m) ae m1 ae us λab C3 am=>?_);have U:RI a₀ ab lo:=#[C3.S,by
    rw[C3.pend,C.pend];show R.ch.congr λi _ hi=>(C3.pre i hi).trans (C.pre i hi),R.le]
   show HC (Mr ?_);cases e:(Ki ab).back? with
   |none=>show HC (LM (JY #[lo+n,rfl,U.push ae ae am,ae]))
   |some t =>
    let#[s1,n1,p1]:=t;show HC (Ln (KD (I:=λy c G=>qT (c=(none,())) (RI a₀ G lo) (∀j,lo<=j->(Ka G)[j]?=(Ka ab)[j]?)) (Q:=λc G=>qT (c=(none,())) (RI a₀ G lo) (∀j,lo<=j->(Ka G)[j]?=(Ka ab)[j]?)) ?_ ?_ ?_) ?_)
    .rintro y c G a0 aB ⟨rfl,L,N⟩;show HC (Mr ?_);by_cases g:(Ki G).size>1
     .rw[Qi g,getElem?_pos (Ki G) ((Ki G).size-2) ae];show aQ (λ_=>JY #[rfl,L,N]) (λ_=>?_);show HC (iR L k ae λas R5 o5 _=>JY #[rfl,R5,λj Y=>(o5 j Y).trans (N j Y)])
     .rw[Qh g];show JY #[rfl,L,N]
    .show λc G q=>q
    .show#[rfl,U,λ_ _=>rfl]
    .rintro c G ⟨rfl,L,N⟩;show HC (LM (HC (LM (JY #[lo+n,4,ae]))));show RI.push (L.last (f:=λx=>(x.fst,x.2.fst,power' a₀.size (2*s1+n1) (2*s1+n1+n1+n) a₀.size)) (λx=>rfl) _) ae ae (am.congr λi h1 _=>N i h1)
  .have U:RI a₀ J lo:=#[C.S,by
    rw[C.pend];show R.ch.congr λi _ hi=>C.pre i hi,R.le]
   show HC (Mr ?_);cases e:(Ki J).back? with
   |none=>show HC (LM (JY #[lo+m,rfl,U.push ae ae us,ae]))
   |some t =>
    let#[s1,n1,p1]:=t;show HC (Ln (KD (I:=λy c G=>qT (c=(none,())) (RI a₀ G lo) (∀j,lo<=j->(Ka G)[j]?=(Ka J)[j]?)) (Q:=λc G=>qT (c=(none,())) (RI a₀ G lo) (∀j,lo<=j->(Ka G)[j]?=(Ka J)[j]?)) ?_ ?_ ?_) ?_)
    .rintro y c G a0 aB ⟨rfl,L,N⟩;show HC (Mr ?_);by_cases g:(Ki G).size>1
     .rw[Qi g,getElem?_pos (Ki G) ((Ki G).size-2) ae];show aQ (λ_=>JY #[rfl,L,N]) (λ_=>?_);show HC (iR L k ae λas R5 o5 _=>JY #[rfl,R5,λj Y=>(o5 j Y).trans (N j Y)])
     .rw[Qh g];show JY #[rfl,L,N]
    .show λc G q=>q
    .show#[rfl,U,λ_ _=>rfl]
    .rintro c G ⟨rfl,L,N⟩;show HC (LM (HC (LM (JY #[lo+m,4,ae]))));show RI.push (L.last (f:=λx=>(x.fst,x.2.fst,power' a₀.size (2*s1+n1) (2*s1+n1+n1+m) a₀.size)) (λx=>rfl) _) ae ae (us.congr λi h1 _=>N i h1)
 .rintro c O ⟨lo,rfl,R,hx⟩;have:=R.le;obtain rfl:lo=a₀.size:=ae;show#[rfl,R]
 .show#[(0),rfl,#[S,by rw[hp];rfl,Kl _],J1 _]
 .rintro c O ⟨rfl,R⟩;dsimp only;show HC (Ln (KD (I:=λx c J=>qT (c=(none,())) (RI a₀ J a₀.size) ((Ki J).size+x<=a₀.size)) (Q:=λc J=>qT (c=(none,())) (RI a₀ J a₀.size) ((Ki J).size<=1)) ?_ ?_ ?_) ?_)
  .rintro x c J aT a1 ⟨rfl,R2,ac⟩;show HC (Mr ?_);show aQ (λg=>JY #[rfl,R2,g]) (λg=>?_);show HC (iR R2 k ?_ λab U _ a3=>?_)
   .show B8 g
   .show JY #[rfl,U,ae]
  .rintro c J ⟨rfl,R2,ac⟩;show#[rfl,R2,ae]
  .show#[rfl,R,?_];have:=R.ch.le;simpa using this
  .rintro c J ⟨rfl,R2,ac⟩;show JY (h J R2.S.perm R2.S.failed ?_);have ch:=R2.ch;cases e:(Ki J).toList with
   |nil =>
    rw[e]at ch;have:0=a₀.size:=ch;omega
   |cons x r =>
    have hr:r=[]:=by
     have z:(Ki J).toList.length=r.length+1:=(by rw[e];rfl);rw[Ld]at z;show List.length_eq_zero_iff.mp ae
    subst hr;let#[t,n,p]:=x;rw[e]at ch;let#[_,_,u,e2]:=ch;have e3:0+n=a₀.size:=e2;rw[e3]at u;show λi j ap Y=>u i j (Kl _) ap Y
end
theorem Gn {vs:List Value}{ns:List Int}(G:LX vs ns) (J:ns.Nodup):Ks (NQ vs):=by
 show#[G.intKeys,?_];have e:((NQ vs).toList.map λp=>LI p.1)=ns:=by
  rw[pairsOf_toList, <-G.nums]
  conv=>rhs;rw[<-List.map_fst_zip (l₁:=vs) (l₂:=vs) (J1 _)]
  rw[Lc];rfl
 rw[e];show J
section
variable {prog:J2}{w:Kd}{A:Kk}{E:Value->BY->Prop}{s:BY}
theorem oP {a:Addr}{vs:List Value}{ns:List Int}{n:Nat}{P:Fin->BY->Prop}(Y:s.heap.get? a=some (seqObj "list" vs.toArray n)) (hI:LX vs ns) (hn:ns.Nodup) (hz:vs.length<=1000)
  (k:∀(out:Array Value) (ns':List Int),LX out.toList ns'->ns'.Perm ns->ns'.Pairwise (· <= ·)->P (.done (.ret .none)) { s with heap:=sortedHeap s.heap a vs out }):wpAny (model prog w) A (Builtin.«list.sort» #[[.ref a],[]]) P E s:=by
 have lz:sizeLine=16777216:=J5;rw[list_sort_plain];have lt:=Heap.lt_size Y;show By (listItems_at Y rfl (By (Od Y rfl ?_ (by simp only[IF];omega))));obtain⟨ep,ab⟩:∃ep,(s.heap.update a (Obj.mapSeq λ_ => ([].toArray))).get? a=some (seqObj "list" ([].toArray) ep):=#[_,get?_update_seq Y λ_ => ([].toArray)];show By (OT ab rfl (By (wpAny_newTuple (By (Oe (K5 ?_))))));have at2:(((s.heap.update a (Obj.mapSeq λ_ => ([].toArray))).push (seqObj "tuple" vs.toArray 0)).push (seqObj "list" ([].toArray) 0)).get? a=some (seqObj "list" ([].toArray) ep):=by
  have l1:a<((s.heap.update a (Obj.mapSeq λ_ => ([].toArray))).push (seqObj "tuple" vs.toArray 0)).objs.size:=(by rw[Pt,Heap.size_update];show LS lt);rw[Heap.get?_push_ne _ _ _ (Km l1),Heap.get?_push_ne _ _ _ (by rw[Heap.size_update];show Km lt)];show ab
 have done:∀G:KA,(Ka G).Perm (NQ vs)->SortedTo (Ka G) (NQ vs).size->P (.done (.ret .none)) { s with heap:=sortedHeap s.heap a vs ((Ka G).map (·.2)) }:=λG O U=>by
  let#[ns',w1,w2,w3]:=sorted_out hI O U;show k _ ns' w1 w2 w3
 change wpAny (model prog w) A _ P E { s with heap:=((s.heap.update a (Obj.mapSeq λ_ => ([].toArray))).push (seqObj "tuple" vs.toArray 0)).push (seqObj "list" ([].toArray) 0) };dsimp only;by_cases N:vs.toArray.size<2
 .rw[Qi N,Qi N];show By (DO ?_);rw[StateT.run_pure];show By (DO (By (OT at2 rfl (By (Od at2 rfl ?_ (Kl _) ?_)))))
  .simp only[bne_self_eq_false,KQ,if_false];show DO (done (Oo general' (vs.toArray.zip vs.toArray) ([].toArray) 7 none) (OV _) λi j ac hj=>?_);rw[NR]at hj;rw[IF]at N;rw[show i=j by omega];show Int.le_refl _
  .change(Array.map (λx:Kc=>x.2) (vs.toArray.zip vs.toArray)).size<=sizeLine+1;rw[Pu];change(NQ vs).size<=sizeLine+1;rw[NR];omega
 .rw[Qh N,Qh N];rw[IF]at N;obtain⟨J,v2,L,rfl⟩:∃J v2 L,vs=J::v2::L:=by
   match vs,N with
   | [],z=>show absurd ar z
   | [_],z=>show absurd (by rw[KZ];decide) z
   |J::v2::L,_=>show#[J,v2,L,rfl]
  rw[keyKind_ints hI];have sr:=xR (prog:=prog) (w:=w) (A:=A) (E:=E) (s:={ s with heap:=((s.heap.update a (Obj.mapSeq λ_ => ([].toArray))).push (seqObj "tuple" (J::v2::L).toArray 0)).push (seqObj "list" ([].toArray) 0) }) (Gn hI hn)
   (st:=Oo L4 (NQ (J::v2::L)) ([].toArray) 7 none) (Q:=λ_ G=>qT ((Ka G).Perm (NQ (J::v2::L))) (L6 G=none) (SortedTo (Ka G) (NQ (J::v2::L)).size)) #[OV _,1] rfl (by rw[NR];omega) λG O U q3=>#[O,U,q3]
  show By (DO (By (LU sr ?_ λ_ _ e=>e)));rintro⟨⟨⟩,G⟩ s' ⟨rfl,O,U,q3⟩;dsimp only;show By (OT at2 rfl (By (Od at2 rfl ?_ (Kl _) ?_)))
  .rw[U];simp only[bne_self_eq_false,KQ,if_false];show DO (done G O q3)
  .change(Array.map (λx:Kc=>x.2) (Ka G)).size<=sizeLine+1;rw[Pu,O.size_eq,NR];omega
theorem tT {l:Addr}{vs:List Value}{ns:List Int}{Q:Value->BY->Prop}(U:s.heap.IsList l vs.toArray) (Y:LX vs ns) (N:ns.Nodup) (hz:vs.length<=1000)
  (k:∀(out:Array Value) (ns':List Int),LX out.toList ns'->ns'.Perm ns->ns'.Pairwise (· <= ·)->Q (.ref (s.heap.objs.size+1)) { s with heap:=sortedAll s.heap vs out }):wpAny (model prog w) A (call (.builtin "sorted") [.ref l]) Q E s:=by
 have lz:sizeLine=16777216:=J5;show Calls.call_function_entry kind_sorted plain_sorted entry_sorted (args_sorted1 _) ?_;show By (m:=checkCount "sorted" 1 1 _) (DO (By (collect_list U (By (Oe ?_)) ae)));have J:((s.heap.push (seqObj "list" ([].toArray) 0)).update s.heap.objs.size (Obj.mapSeq (· ++ vs.toArray))).objs.size=s.heap.objs.size+1:=(by rw[Heap.size_update,Pt]);have G:=Heap.get?_push_size ((s.heap.push (seqObj "list" ([].toArray) 0)).update s.heap.objs.size (Obj.mapSeq (· ++ vs.toArray))) (o:=seqObj "list" vs.toArray 0) rfl;rw[J]at G;change wpAny _ _ _ _ _ { s with heap:=((s.heap.push (seqObj "list" ([].toArray) 0)).update s.heap.objs.size (Obj.mapSeq (· ++ vs.toArray))).push (seqObj "list" vs.toArray 0) };rw[J];show By (K5 (Lq slot_list_sort #[_,G,rfl] entry_list_sort (oP G Y N hz λout ns' O w2 L=>#[0,DO #[0,k out ns' O w2 L]]) (args_list_sort _)))
end
theorem wH:∀{vs:List Value}{ns:List Int},vs.length=ns.length->(∀(j:Nat) (v:Value),vs[j]?=some v->∃(m:Int) (t:Qe),ns[j]?=some m/\v=.int m t)->LX vs ns
 | [],[],_,_=>.nil
 |v::vs,n::ns,G,h=>by
  let#[m,t,e,rfl]:=h 0 v rfl;cases e;show .cons n t (wH (by simpa using G) λj u J=>by simpa using h (j+1) u (by simpa using J))
 | [],_::_,G,_=>by simp at G
 |_::_,[],G,_=>by simp at G
section
variable {prog:J2}{w:Kd}{A:Kk}{E:Value->BY->Prop}{s:BY}{T:String}{r d:Addr}{n:Nat}{P:Nat->Value->Prop}{OK:Heap->Prop}
theorem lO {ns:List Int}{Q:Value->BY->Prop}(S:KdlSrc prog w T r d n P OK) (hh:A.handled=none) (bG:OK s.heap) (hP:∀(i:Nat) (v:Value),P i v->∃(m:Int) (t:Qe),ns[i]?=some m/\v=.int m t) (hl:ns.length=n) (O:ns.Nodup) (hz:n<=1000)
  (k:∀(h1 h':Heap) (tk:Nat) (out:Array Value) (ns':List Int) (e:Nat),(∀b o,s.heap.get? b=some o->h1.get? b=some o)->(∀b o,h1.get? b=some o->h'.get? b=some o)->h'.get? h1.objs.size=some (seqObj "list" out e)->LX out.toList ns'->ns'.Perm ns->ns'.Pairwise (· <= ·)->Q (.ref h1.objs.size) { s with heap:=h',toks:=tk }) :
  wpAny (model prog w) A (call (.builtin "sorted") [.ref r]) Q E s:=by
 have lz:sizeLine=16777216:=J5;show Calls.call_function_entry kind_sorted plain_sorted entry_sorted (args_sorted1 _) ?_;show By (m:=checkCount "sorted" 1 1 _) (DO (By (PySem.W.kdu_collect (A:=A.in1) S hh bG ae λh1 tk G U L=>?_)));have ln:G.toList.length=n:=(by rw[Ld];show L.1);show By (Oe ?_ ae);have hI:LX G.toList ns:=wH ae λj v e=>hP j v (L.2 j v (by rw[<-Lj];show e));have J:=Heap.get?_push_size h1 (o:=seqObj "list" G.toList.toArray 0) rfl;change wpAny _ _ _ _ _ { s with heap:=h1.push (seqObj "list" G.toList.toArray 0),toks:=tk };show By (K5 (Lq slot_list_sort #[_,J,rfl] entry_list_sort (oP J hI O ae λout ns' w1 w2 w3=>#[0,DO #[0,?_]]) (args_list_sort _)));let#[e,Y]:=sortedHeap_at (vs:=G.toList) (out:=out) J;show k h1 _ tk out ns' e U (λb o N=>?_) Y w1 w2 w3;have lt:=Heap.lt_size N;rw[sortedHeap_old (Km lt) (by rw[Pt];show LS lt),Heap.get?_push_ne _ _ _ (Km lt)];show N
end
end Srt
namespace L2
open PySem PySem.Spec PyProof.Rows
section
variable {X:Cx}
theorem qC:di X (.builtin "sorted") (λxs H Q=>∃(p:Addr) (ns:List Int),xs=[.ref p]/\bB X.K H p (ns.map V.int)/\ns.Nodup/\ns.length<=1000/\∀(l:Addr) (ns':List Int),H l=none->ns'.Perm ns->ns'.Pairwise (· <= ·)->Q (.ref l) (upd H l (.lst (ns'.map V.int)))):=by
 intro pins s σ H xs us Q I r h;let#[p,ns,rfl,U,ab,hn,q]:=h;let#[u,rfl,L]:=vals1 r;cases L;let#[its,J,pl,hz]:=I.list U;have hI:=intsAre_of J;have O:=J.length;rw[DD]at O;show Srt.tT pl.isList hI ab ae λout ns' a1 G N=>?_;let#[e,Y]:=sortedAll_at s.heap its out;have hs:sizeLine=16777216:=J5;show#[.ref (s.heap.objs.size+1),_,I.laid (t':=s.toks) (λb o e=>sortedAll_old e) (MV _) (show bR X.prog X.w _ _ _ (.lst (ns'.map V.int))from#[by rw[DD,G.length_eq];omega,out.toList,e,gi a1,by simpa using Y]),rfl,q _ ns' (I.bG.fresh (MV _)) G N]
end
end L2
namespace Srt
open PySem PyProof.Rows
theorem rH {prog:J2}{w:Kd}{A:Kk}{I:Addr}{fp wr:List Addr}{G:Array Ox->Array Ox->Prop}{n:Nat}{P:Nat->Value->Prop}{St:Nat->BY->Prop}(W:WalksS prog w A I fp wr G n P St) (m:Nat) (U:Nat->Value->Prop) :
  WalksS prog w A I fp wr G (m+n) (λj v=>(j<m/\U j v)\/(m<=j/\P (j-m) v)) (λi s=>m<=i/\St (i-m) s) where
 sub:=W.sub
 grefl:=W.grefl
 gtrans:=W.gtrans
 frame:=λi s h' tk st Y J=>#[st.1,W.frame (i-m) s h' tk st.2 Y J]
 item:=λi s Q E hi st h=>W.item (i-m) s Q E (by have:=st.1;omega) st.2 λv s' O N L=>h v s' (.inr #[st.1,O]) #[by have:=st.1;omega,by rw[show i+1-m=i-m+1 by have:=st.1;omega];show N] L
 done:=λs Q E st h=>W.done s Q E (by have:=st.2;rwa [show m+n-m=n by omega]at this) h
 self:=λi s Q E st h=>W.self (i-m) s Q E st.2 h
section
variable {prog:J2}{w:Kd}{A:Kk}{s:BY}{T:String}{r d:Addr}{n:Nat}{P:Nat->Value->Prop}{OK:Heap->Prop}
theorem ui {R:PR->BY->Prop}(Z:KdlSrc prog w T r d n P OK) (hh:A.handled=none) (bG:OK s.heap) (S:Addr) (sr:S≠r) (sd:S≠d) (res:Value) (G:Array Value) (c:Nat) (hS:s.heap.get? S=some { cls:=.type "list",data:=.seq G c }) (hz:G.size+n<sizeLine)
  (k:∀h' tk O L,(∀b o,b≠S->s.heap.get? b=some o->h'.get? b=some o)->h'.get? S=some { cls:=.type "list",data:=.seq O L }->ItemsOf (λj v=>(j<G.size/\G[j]?=some v)\/(G.size<=j/\P (j-G.size) v)) O (G.size+n)->R (.ok (.ret res)) { s with heap:=h',toks:=tk }) :
  wpAny (model prog w) A.in1 (Builtin.List.listExtendWith (.ref S) (.ref r) res) (λaB s'=>match aB with|.done f=>R (.ok f) s' |.again L=>L.quiet=true/\Mm (model prog w) A L R s') (λe s'=>R (.error e) s') s:=by
 have nI:S≠s.heap.objs.size:=Km (Heap.lt_size hS);let#[oI,St,as,W,ab]:=Z.iter A.in1 s hh bG;have am:S∉[s.heap.objs.size,d]:=λz=>by
  rcases List.mem_cons.mp z with e|z
  .show nI e
  .show sd (List.mem_singleton.mp z)
 have ac:∀(h:Heap) (Y tk:Nat),St 0 h->(∀b o,b≠S->s.heap.get? b=some o->h.get? b=some o)->h.get? S=some { cls:=.type "list",data:=.seq G Y } ->
   Mm (model prog w) A (.builtin "list.extend.loop" #[[.ref S,.ref s.heap.objs.size,res],[]]) R { s with heap:=h,toks:=tk }:=by
  intro h Y tk q0 U N;have WS:=rH W.toS G.size λj v=>G[j]?=some v;show codeAny_extend_loopS WS (Ow hz) S am res n G.size _ G Y ae ae #[J1 _,by rw[Nat.sub_self];show q0] N #[rfl,λj v e=>.inl #[?_,e]] λs' O L mv e1 e2=>?_
  .show(Array.getElem?_eq_some_iff.mp e).1
  .rw[Moved.eq_with mv];show k s'.heap s'.toks O L (λb o J e=>mv.heap b o (λz=>?_) (U b o J e)) e1 e2;rcases List.mem_cons.mp z with z|z
   .show J z
   .show LV _ (List.mem_singleton.mp z▸Heap.lt_size e)
 unfold Builtin.List.listExtendWith;show By (MW (T:=T) (Z.type s bG) ?_);have ns:Builtin.List.listSameRef (.ref S) (.ref r)=false:=(by simp[Builtin.List.listSameRef,sr]);simp only[ns,Z.notList,Z.notTuple,Bool.or_false,KQ,if_false];show By (as _ _ ?_);have S1:=Heap.get?_push_of_some oI hS;show By (K5 (Z.hint _ _ _ _ (Z.keep _ _ bG λb _ o e=>Heap.get?_push_of_some _ e) ?_));show Ly (λ_=>?_) (λ_=>DO #[Ny PySem.F.plain_extend_loop _,ac _ c _ ab (λb o _ e=>Heap.get?_push_of_some _ e) S1]);show By (LJ (By ?_));change wpAny _ _ (updateSeq S (·.push .none)>>=λ_=>updateSeq S (·.pop)) _ _ _;have U:=PySem.IsL.update S1 (·.push Value.none);have N:=PySem.IsL.update U (·.pop);have ep:(G.push Value.none).pop=G:=Array.pop_push ..;show By (wpAny_updateSeq S1 rfl (wpAny_updateSeq U rfl (DO #[Ny PySem.F.plain_extend_loop _,?_]) ?_ ?_) ?_ ?_)
 .rw[ep]at N;show ac _ _ _ (W.frame 0 _ _ ab λb J o e=>?_) (λb o J e=>?_) N
  .have ap:b≠S:=λz=>am (z▸J);show(Heap.get?_update_other _ _ (JZ ap)).trans ((Heap.get?_update_other _ _ (JZ ap)).trans e)
  .show(Heap.get?_update_other _ _ (JZ J)).trans ((Heap.get?_update_other _ _ (JZ J)).trans (Heap.get?_push_of_some _ e))
 .change(G.push Value.none).size<=sizeLine;rw[NC];omega
 .change((G.push Value.none).pop).size<=sizeLine+1;rw[ep];omega
 .omega
 .change(G.push Value.none).size<=sizeLine+1;rw[NC];omega
end
end Srt
namespace L2
open PySem PySem.Spec PyProof.Rows
theorem pR:∀{xs:List V}{vs:List Value},xs.length=vs.length->(∀(j:Nat) (x:V) (v:Value),xs[j]?=some x->vs[j]?=some v->RelV x v)->Vals xs vs
 | [],[],_,_=>.nil
 |x::xs,v::vs,G,h=>.cons (h 0 x v rfl rfl) (pR (by simpa using G) λj a b L J=>h (j+1) a b (by simpa using L) (by simpa using J))
 | [],_::_,G,_=>by simp at G
 |_::_,[],G,_=>by simp at G
section
variable {X:Cx}
inductive sI (x:V) (vs:List V) (H:Hp) (Q:VK):Prop
 |mk (l:_) (d:_) (xs:_) (kvs:_) (_:x=.ref l) (_:vs=[.ref d]) (_:H l=some (.lst xs)) (_:H d=some (.dK kvs)) (_:xs.length+kvs.length<sizeLine) (_:Q .non (upd H l (.lst (xs++kvs.map λkv=>kV kv.1)))):sI x vs H Q
theorem uA (hc:X.calm=true):Ey X "list.extend" sI:=by
 intro pins s σ H x vs v us Q I rx rv h;let#[l,d,xs,kvs,rfl,rfl,O,Y,hz,q]:=h;cases rx;let#[u,rfl,ru]:=rv.one;cases ru;let#[z,its,n,r,hl,e]:=I.mJ O;let#[_,hd,vs,ac,dd]:=gI I.bG Y;let#[ep,ap]:=dd.dictAt;have as:=ac.length;have ab:l≠d:=λz=>(by rw[z,Y]at O;cases O);show Ol (N2 PySem.F.slot_list_extend.plain PySem.F.entry_list_extend (PySem.F.slot_list_extend.check _ _ _ _ _ _ _ _ #[_,e,rfl] (PySem.F.args_list_extend_2 _ _) ?_));change wpAny _ _ (Builtin.List.listExtendWith (.ref l) (.ref d) .none) _ _ s;show Srt.ui (R:=λr s'=>match r with|.ok (.ret v)=>EP X pins σ Q v s' |.ok _=>False|.error e=>X.xe e s') (kdl_dict (knd:=br X.prog X.w) (kvs:=vs) (ep:=ep) hd) (I.ok.hd hc) ap l ab ab .none its.toArray n e (by rw[IF];omega) λh' tk J c' k1 k2 k3=>#[.non,_,?_,rfl,q];let#[sz,it]:=k3;have sz:J.size=its.length+vs.length:=(by rw[sz,IF]);show I.write (x:=l) (e:=l) (by rw[O];show trivial) (.inl rfl) k1 #[_,k2] (show bR X.prog X.w _ _ _ (.lst _)from#[?_,J.toList,c',pR ?_ λj x v G hv=>?_,by simpa using k2])
 .rw[J9,DD];omega
 .have al:J.toList.length=J.size:=Ld;rw[J9,DD];omega
 .have am:J[j]?=some v:=(by rw[<-Lj];show hv);rcases it j v am with⟨U,N⟩|⟨U,N⟩
  .rw[IF]at U;rw[KU ae]at G;let#[b,eb,rb]:=r.get G;have:its[j]?=some v:=(by simpa using N);rw[this]at eb;cases eb;show rb
  .rw[IF]at U N;let#[k,y,e1,e2]:=N;rw[KR ae,J3]at G;have L:(vs.map (·.1))[j-its.length]?=some k:=(by rw[J3,e1];rfl);rw[<-ac.keys,J3]at L;rw[show j-xs.length=j-its.length by omega]at G;cases e4:kvs[j-its.length]? with
   |none=>rw[e4]at L;cases L
   |some kv =>
    rw[e4]at L G;obtain rfl:kv.1=k:=Option.some.inj L;obtain rfl:kV kv.1=x:=Option.some.inj G;show oW e2
noncomputable def Iz (K:PySem.W.Frag):R2:=λx y H Q=>∃p q xs ys,x=.ref p/\y=.ref q/\cg K H p xs/\cg K H q ys/\xs.all dv=true/\ys.all dv=true/\Q (.bl (gQ xs ys)) H
theorem oy:∀{xs ys:List V},((List.range (min xs.length ys.length)).all (λj=>kO (xs.getD j .non) (ys.getD j .non))&&xs.length==ys.length)=gQ xs ys:=by
 intro xs ys;by_cases e:xs.length=ys.length
 .rw[e,Nat.min_self,beq_self_eq_true,Bool.and_true, <-gH e,e]
 .rw[js e,beq_eq_false_iff_ne.mpr e,Mp]
theorem AA (hu:X.A.units<Me):kW X (Lo .Eq) (Iz X.K):=by
 intro pins s σ H x y v u Q I rx ry h;let#[p,q,xs,ys,rfl,rfl,hx,hy,fx,fy,hq]:=h;cases rx;cases ry;let#[its,r,pl,hz]:=I.tuple hx;let#[N,L,ab,as]:=I.tuple hy;have U:=r.length;have ap:=L.length;show SeqAt.eq_tupleAt (e:=λj=>kO (xs.getD j .non) (ys.getD j .non)) pl ab hu (λj h1 h2=>?_) #[.bl (gQ xs ys),H,I,?_,hq]
 .rw[IF]at h1 h2;have J:j<xs.length:=ae;have G:j<ys.length:=ae;let#[a,ea,ra]:=r.get (i:=j) (x:=xs[j]) (by simp[J]);let#[b,eb,Y]:=L.get (i:=j) (x:=ys[j]) (by simp[G]);let#[_,am]:=List.getElem?_eq_some_iff.mp ea;let#[_,ac]:=List.getElem?_eq_some_iff.mp eb;have O:xs.getD j .non=xs[j]:=(by simp[J]);have g2:ys.getD j .non=ys[j]:=(by simp[G]);change Nd _ _ its.toArray[j] N.toArray[j] (kO (xs.getD j .non) (ys.getD j .non));have a1:its.toArray[j]=a:=(by simpa using am);have a2:N.toArray[j]=b:=(by simpa using ac);rw[O,g2,a1,a2];show lV ra Y (List.all_eq_true.mp fx _ (La J)) (List.all_eq_true.mp fy _ (La G))
 .change Value.bool _=Value.bool _;rw[IF,IF, <-U, <-ap,oy]
end
section
variable {X:Cx}{pins:List (Addr×Obj)}{σ:St}{H:Hp}{s:BY}
end
section
variable {X:Cx}
end
end L2
namespace PySem
open PySem.Sem (wp)
section
variable {prog:J2}{w:Kd}{A:Kk}{E:Value->BY->Prop}{h:Heap}{g:Array Ox}{d:Drawn}{t:Nat}{os:OsState}{a:Addr}{its:Array Value}{n:Nat}
end
open PyProof.Rows
namespace F
end F
section
variable {prog:J2}{w:Kd}{K:Type} [DecidableEq K] {knd:KeyKind prog w K}{A:Kk}{E:Value->BY->Prop}
end
end PySem
namespace L2
open PySem PySem.Spec PyProof.Rows
section
variable {X:Cx}{scope:Nl}{cl:List (Str×Addr)}{t:Str×Str}{caps:List (Str×Nat)}{pins:List (Addr×Obj)}{σ:St}{H:Hp}{s:BY}{C:Addr}{fp:List Addr}
end
section
variable {X:Cx}{scope:Nl}{cl:List (Str×Addr)}{t:Str×Str}{caps:List (Str×Nat)}{elt iter:Kt}{ifs:List Kt}{px pos:Mj}{es:List Kt}{kx:Nat}{g:TG}{wi:TI}{tt:TT}{te:TE}
end
theorem Ei:Kq "zip" = some (.type "zip"):=ao
theorem qH:Kq "enumerate" = some (.type "enumerate"):=ao
theorem tO:Kq "all" = some (.builtin "all"):=ao
theorem Eh:Kq "min" = some (.builtin "min"):=ao
section
variable {X:Cx}{pins:List (Addr×Obj)}{σ:St}{H:Hp}{s:BY}{h':Heap}
theorem Inv.jk {t':Nat}{ch:List Addr}(I:Inv X pins σ H s) (k:∀b o,b∉ch->s.heap.get? b=some o->h'.get? b=some o) (J:∀b∈ch,gp X pins H b):Inv X pins σ H { s with heap:=h',toks:=t' }:=by
 have L:∀b u,H b=some u->b∉ch:=λb u e z=>(by rw[(J b z).1]at e;cases e);show I.step (g':=s.gens) (d':=s.drawn) (ch:=ch) (λb N=>?_) (λb o _ _ G e _=>k b o G e) (λb o _ _ G e _=>#[o.slots,k b o G e]) (λ_ _ _ _ n=>n)
  (λb o G e=>#[o,k b o G e]) (λ_ _ e=>e) (λ_ _ _ e=>e) (λb ps e=>#[([].toArray),by rw[e];simp]) (λm hm=>?_) (λb u e=>?_) I.bare
 .let#[_,Y,f2,f3,O,U]:=J b N;show#[f3,Y,O,U]
 .let#[o,es,ep,ho,r]:=hm;show#[o,es,ep,k _ o (λz=>(J _ z).2.1 rfl) ho,r]
 .show(I.bG b u e).pI (λc v G q=>k c v ?_ q) (λ_ q=>q) λ_ _ q=>q;rcases G with z|z
  .rw[z];show L b u e
  .show L c _ z
theorem Inv.tI {D:Addr}{ys:List V}{its:List Value}(I:Inv X pins σ H s) (f:gp X pins H D) (e:IsTup s.heap D its.toArray) (r:Vals ys its) (hz:ys.length<=sizeLine) :
  Inv X pins σ (upd H D (.tup ys)) s:=by
 let#[J,O,f2,U,L,N]:=f;let#[hh,g,d,tk,os]:=s;show I.step (g':=g) (d':=d) (t':=tk) (h':=hh) (ch:=[D]) (λb G=>?_) (λb o _ _ _ e _=>e) (λb o _ _ _ e _=>#[o.slots,e]) (λb o G _ n=>?_) (λb o _ e=>#[o,e]) (λb xs q=>?_) (λb o u q=>?_) (λb ps q=>#[([].toArray),?_]) (λm Y=>Y) (λb u q=>?_) I.bare
 .have z:b=D:=(by simpa using G);subst z;show#[U,O,L,N]
 .rw[ah (λz=>G (by simp[z]))];show n
 .rw[ah (aq q J)];show q
 .rw[ah (aq q J)];show q
 .rw[ah (aq q J),q];simp
 .by_cases G:b=D
  .subst G;rw[af]at q;cases q;show#[hz,its,r,e]
  .rw[ah G]at q;show(I.bG b u q).pI (λ_ _ _ z=>z) (λc z=>by rw[ah (aq z J)];show z) λc xs z=>by rw[ah (aq z J)];show z
end
noncomputable def GX (K:PySem.W.Frag) (G J:Addr):It :=
 #[λi H=>∃xs ys x y,bB K H G xs/\bB K H J ys/\xs[i]?=some x/\ys[i]?=some y,
  λi H v H'=>∃T x y,v=.ref T/\H T=none/\H'=upd H T (.tup [x,y])/\(∀xs,bB K H G xs->xs[i]?=some x)/\∀ys,bB K H J ys->ys[i]?=some y,
  λi H=>∃xs ys,bB K H G xs/\bB K H J ys/\(xs.length<=i\/ys.length<=i)]
noncomputable def JV (z TI TO G J L N:Addr) (i:Nat) (h:Heap):Prop:=IsZip h z TI TO .none/\IsPair h TI (.ref G) (.ref J)/\(∃a b,IsPair h TO a b)/\h.IsListIter G L i/\h.IsListIter J N i
theorem u3:2<=sizeLine:=by rw[J5];decide
theorem As {P:J2}{w:Kd}{K:PySem.W.Frag}{es:List Kt}{kx:Nat}{px:Mj}{z TI TO U L l1 l2:Addr}(D:ZipApart z TI TO U L l1 l2):Turn P w K (.Tuple es kx px) (GX K l1 l2) [z,TI,TO,U,L] z (JV z TI TO U L l1 l2) where
 mem:=by simp
 obj:=by
  rintro i h ⟨O,J,⟨a,b',Y⟩,h1,h2⟩ b G;simp only[Ku,Kb,or_false]at G;rcases G with rfl|rfl|rfl|rfl|rfl
  .show#[_,O,λv q=>by cases(show MF _=Mw v from q)]
  .show#[_,J,λv q=>by cases(show Pn _ _=Mw v from q)]
  .show#[_,Y,λv q=>by cases(show Pn _ _=Mw v from q)]
  .let#[o,e,c,d]:=h1;show#[o,e,λv q=>by rw[d]at q;cases q]
  .let#[o,e,c,d]:=h2;show#[o,e,λv q=>by rw[d]at q;cases q]
 keep:=λi h h' ⟨O,J,⟨a,b,Y⟩,h1,h2⟩ k=>#[k z (by simp) _ O,k TI (by simp) _ J,#[a,b,k TO (by simp) _ Y],h1.at λo e=>k U (by simp) o e,h2.at λo e=>k L (by simp) o e]
 item:=by
  intro X hP hw hK hc i pins s σ H E I hf st hg;subst hP hw hK;let#[O,J,#[a,b,Y],h1,h2]:=st;let#[xs,ys,x,y,q1,q2,e1,e2]:=hg;let#[as,ap,p1,_]:=I.list q1;let#[a4,ac,p2,_]:=I.list q2;let#[u1,aT,aB]:=ap.get e1;let#[u2,a3,a6]:=ac.get e2;have f4:∀b∈[z,TO,U,L],gp X pins H b:=λb G=>hf b (by simp only[Ku,Kb,or_false]at G ⊢;rcases G with h|h|h|h<;>simp[h]);show wpAny_pyNext_zip_item D O J Y h1 h2 p1.isList p2.isList (x:=u1) (y:=u2) (by simpa using aT) (by simpa using a3) λh' z' a0 a1 a2 pT sz kk=>?_;have I1:Inv X pins σ H { s with heap:=h' }:=I.jk (t':=s.toks) (ch:=[z,TO,U,L]) (λb o G e=>kk b o (λq=>G (by simp[q])) (λq=>G (by simp[q])) (λq=>G (by simp[q])) (λq=>G (by simp[q])) e) f4;show#[0,wpAny_letOwnedTupleGo_zip z' λab z2 N=>?_];replace N:Heap.SameBut z h' ab:=N;have I2:Inv X pins σ H { s with heap:=ab }:=I1.jk (s:={ s with heap:=h' }) (h':=ab) (t':=s.toks) (ch:=[z]) (λb o G e=>(N.2 b (λq=>G (by simp[q]))).trans e) λb G=>hf b (by simp only[ME]at G;simp[G]);have fT:gp X pins H s.heap.objs.size:=I.jm (J1 _) (I.bG.fresh (J1 _));have nz:s.heap.objs.size≠z:=OB (Heap.lt_size O);have a5:IsPair ab s.heap.objs.size u1 u2:=N.extBut _ _ nz pT;have I3:Inv X pins σ (upd H s.heap.objs.size (.tup [x,y])) { s with heap:=ab }:=I2.tI (its:=[u1,u2]) fT #[_,a5,rfl,0] (.cons aB (.cons a6 .nil)) u3;show#[.ref s.heap.objs.size,_,I3,rfl,#[_,x,y,rfl,fT.1,rfl,λzs am=>by rw[I.jg am q1];show e1,λzs am=>by rw[I.jg am q2];show e2],#[z2,N.extBut _ _ D.TIz (kk _ _ D.TIz D.TITO D.TIi1 D.TIi2 J),#[2,N.extBut _ _ D.TOz a0],a1.extBut N.extBut D.i1z,a2.extBut N.extBut D.i2z],λb G=>?_];have nb:b≠s.heap.objs.size:=by
   intro q;simp only[Ku,Kb,or_false]at G;let#[o1,g1,_]:=h1;let#[o2,g2,_]:=h2;rcases G with e|e|e|e|e<;>rw[e]at q
   .show nz q.symm
   .show Km (Heap.lt_size J) q
   .show Km (Heap.lt_size Y) q
   .show Km (Heap.lt_size g1) q
   .show Km (Heap.lt_size g2) q
  rw[ah nb];show(hf b G).1
 done:=by
  intro X hP hw hK hc i pins s σ H E I hf st hg;subst hP hw hK;let#[O,J,#[a,b,Y],h1,h2]:=st;let#[xs,ys,q1,q2,e]:=hg;let#[as,ap,p1,_]:=I.list q1;let#[a4,ac,p2,_]:=I.list q2;have a7:=ap.length;have ba:=ac.length;have f4:∀b∈[z,TO,U,L],gp X pins H b:=λb G=>hf b (by simp only[Ku,Kb,or_false]at G ⊢;rcases G with h|h|h|h<;>simp[h]);show wpAny_pyNext_zip_end (I.ok.hd hc) D O J Y h1 h2 p1.isList p2.isList (e.elim (λe=>.inl (by simp;omega)) λe=>.inr (by simp;omega)) λh' kk=>#[rfl,I.jk (t':=s.toks) (ch:=[z,TO,U,L]) (λb o G e=>kk b o (λq=>G (by simp[q])) (λq=>G (by simp[q])) (λq=>G (by simp[q])) (λq=>G (by simp[q])) e) f4]
 self:=λ_ _ _ _ _ st h=>ON st.1 h
section
variable {X:Cx}
noncomputable def HW (K:PySem.W.Frag) (ta:TA):TI:=λσ H R=>ta σ H λvs H1=>ym λG J=>EZ (vs=[.ref G,.ref J]) ((∃xs,bB K H1 G xs)) ((∃ys,bB K H1 J ys)) (R (GX K G J) H1)
theorem Dn {es:List Kt}{kx:Nat}{px:Mj}{a b:Kt}{ta:TA}{p pos:Mj}(hg:Gl X "zip") (hm:X.mg "zip" = none) (ha:PA X [a,b] ta) (hs:starEach [a,b] X.env=[(false,eval a X.env),(false,eval b X.env)]:=by rfl) (Y:starEach [b] X.env=[(false,eval b X.env)]:=by rfl) :
  PI X (.Tuple es kx px) (.Call (.Name "zip" p) [a,b] [] pos) (HW X.K ta):=by
 intro pins s σ H R I h;show Call_ (iq I hg hm Ei (KS (bV (ha pos pins s σ H _ I h) λus G ⟨vs,H1,J,r1,q1⟩=>?_) (by rw[hs,Y]) (by rw[Y];rfl)));let#[N,U,rfl,#[xs,g1],#[ys,g2],q]:=q1;let#[u1,u2,rfl,e1,e2]:=vals2 r1;obtain rfl:u1=Value.ref N:=e1;obtain rfl:u2=Value.ref U:=e2;let#[a0,a2,L,_]:=J.list g1;let#[a1,aT,p2,_]:=J.list g2;have am:N<G.heap.objs.size:=let ⟨_,e,_⟩:=L.isList;Heap.lt_size e;have ap:U<G.heap.objs.size:=let ⟨_,e,_⟩:=p2.isList;Heap.lt_size e;show call_zip_2 L.isList p2.isList λh' hz as ab ac aB hsz hk=>?_;show ON hz ?_;show#[G.heap.objs.size+4,[G.heap.objs.size+4,G.heap.objs.size+2,G.heap.objs.size+3,G.heap.objs.size,G.heap.objs.size+1],2,H1,rfl,J.kept (t':=G.toks) hk,As (zipApart_new am ap),#[hz,as,#[2,ab],ac,aB],λb O=>?_,q];have le:G.heap.objs.size<=b:=by
  simp only[Ku,Kb,or_false]at O;rcases O with e|e|e|e|e<;>rw[e]<;>first|show J1 _|show Nat.le_add_right _ _
 show J.jm le (J.bG.fresh le)
noncomputable def Gd (K:PySem.W.Frag) (l:Addr):It :=
 #[λi H=>∃xs x,bB K H l xs/\xs[i]?=some x,
  λi H v H'=>∃T x,v=.ref T/\H T=none/\H'=upd H T (.tup [.int i,x])/\∀xs,bB K H l xs->xs[i]?=some x,
  λi H=>∃xs,bB K H l xs/\xs.length<=i]
noncomputable def JX (e G l:Addr) (i:Nat) (h:Heap):Prop:=(∃J,IsEnum h e G i J)/\h.IsListIter G l i
theorem xC {P:J2}{w:Kd}{K:PySem.W.Frag}{es:List Kt}{kx:Nat}{px:Mj}{e L l:Addr}(D:e≠L):Turn P w K (.Tuple es kx px) (Gd K l) [e,L] e (JX e L l) where
 mem:=by simp
 obj:=by
  rintro i h ⟨⟨Y,J⟩,h1⟩ b G;simp only[Ku,Kb,or_false]at G;rcases G with rfl|rfl
  .show#[_,J,λv q=>by cases(show MF _=Mw v from q)]
  .let#[o,e,c,d]:=h1;show#[o,e,λv q=>by rw[d]at q;cases q]
 keep:=λi h h' ⟨⟨Y,J⟩,h1⟩ k=>#[#[Y,k e (by simp) _ J],h1.at λo q=>k L (by simp) o q]
 item:=by
  intro X hP hw hK hc i pins s σ H E I N st hg;subst hP hw hK;let#[#[Y,J],h1]:=st;let#[xs,x,U,e1]:=hg;let#[am,ac,p1,_]:=I.list U;let#[u1,as,ap]:=ac.get e1;show wpAny_pyNext_enum_item J h1 p1.isList (x:=u1) (by simpa using as) D λh' eo a1 pT sz kk=>?_;have I1:Inv X pins σ H { s with heap:=h',toks:=s.toks+1 }:=I.jk (t':=s.toks+1) (ch:=[e,L]) (λb o G q=>kk b o (λz=>G (by simp[z])) (λz=>G (by simp[z])) q) N;show#[0,wpAny_letOwnedTupleGo_enum eo λab e2 O=>?_];replace O:Heap.SameBut e h' ab:=O;have I2:Inv X pins σ H { s with heap:=ab,toks:=s.toks+1 }:=I1.jk (s:={ s with heap:=h',toks:=s.toks+1 }) (h':=ab) (t':=s.toks+1) (ch:=[e]) (λb o G q=>(O.2 b (λz=>G (by simp[z]))).trans q) λb G=>N b (by simp only[ME]at G;simp[G]);have fT:gp X pins H s.heap.objs.size:=I.jm (J1 _) (I.bG.fresh (J1 _));have ne:s.heap.objs.size≠e:=OB (Heap.lt_size J);have aT:=O.extBut _ _ ne pT;have I3:Inv X pins σ (upd H s.heap.objs.size (.tup [.int i,x])) { s with heap:=ab,toks:=s.toks+1 }:=I2.tI (its:=[.int i s.toks,u1]) fT #[_,aT,rfl,0] (.cons #[0] (.cons ap .nil)) u3;show#[.ref s.heap.objs.size,_,I3,rfl,#[_,x,rfl,fT.1,rfl,λzs aB=>by rw[I.jg aB U];show e1],#[#[u1,?_],a1.extBut O.extBut (JZ D)],λb G=>?_]
  .have ec:((i+1:Nat):Int)=(i:Int)+1:=(by push_cast;rfl);rw[ec];show e2
  .have nb:b≠s.heap.objs.size:=by
    intro q;simp only[Ku,Kb,or_false]at G;let#[o1,g1,_]:=h1;rcases G with z|z<;>rw[z]at q
    .show ne q.symm
    .show Km (Heap.lt_size g1) q
   rw[ah nb];show(N b G).1
 done:=by
  intro X hP hw hK hc i pins s σ H E I N st hg;subst hP hw hK;let#[#[Y,J],h1]:=st;let#[xs,U,e1]:=hg;let#[am,ac,p1,_]:=I.list U;have a0:=ac.length;let#[f0,f1,f2,f3,f4,f5]:=N L (by simp);show wpAny_pyNext_enum_end (I.ok.hd hc) J h1 p1.isList (by simp;omega) λh' eb=>#[rfl,I.turned (t':=s.toks) (λb o G q=>eb b o G q) f0 f1 f3 f4 f5]
 self:=λ_ _ _ _ _ st h=>let ⟨⟨_,J⟩,_⟩:=st;OI J h
noncomputable def Hj (K:PySem.W.Frag) (ta:TA):TI:=λσ H R=>ta σ H λvs H1=>∃l,vs=[.ref l]/\(∃xs,bB K H1 l xs)/\R (Gd K l) H1
theorem BC {es:List Kt}{kx:Nat}{px:Mj}{a:Kt}{ta:TA}{p pos:Mj}(O:Gl X "enumerate") (hm:X.mg "enumerate" = none) (ha:PA X [a] ta) (hs:starEach [a] X.env=[(false,eval a X.env)]:=by rfl) :
  PI X (.Tuple es kx px) (.Call (.Name "enumerate" p) [a] [] pos) (Hj X.K ta):=by
 intro pins s σ H R I h;show Call_ (iq I O hm qH (KS (bV (ha pos pins s σ H _ I h) λus G ab=>?_) hs rfl));let#[vs,H1,J,U,q1]:=ab;let#[l,rfl,#[xs,Y],q]:=q1;let#[u1,rfl,e1]:=vals1 U;obtain rfl:u1=Value.ref l:=e1;let#[ac,am,p1,_]:=J.list Y;show call_enumerate_list p1.isList λh' L hi hsz hk=>?_;show OI L ?_;show#[G.heap.objs.size+1,[G.heap.objs.size+1,G.heap.objs.size],2,H1,rfl,J.kept (t':=G.toks) hk,xC (l:=l) (Nat.succ_ne_self _),#[#[_,L],hi],λb N=>?_,q];have le:G.heap.objs.size<=b:=by
  simp only[Ku,Kb,or_false]at N;rcases N with e|e<;>rw[e]<;>first|show J1 _|show Nat.le_add_right _ _
 show J.jm le (J.bG.fresh le)
theorem qv:∀{bs:List Bool}{its:List Value},Vals (bs.map V.bl) its->its=bs.map Value.bool
 | [],_,.nil=>rfl
 |b::bs,_,.cons r t=>by rw[qv t,show _=Value.bool b from r];rfl
theorem kE (hc:X.calm=true):di X (.builtin "all") (λxs H Q=>∃(l:Addr) (bs:List Bool),xs=[.ref l]/\bB X.K H l (bs.map V.bl)/\Q (.bl (bs.all id)) H):=by
 intro pins s σ H xs us Q I r h;let#[l,bs,rfl,O,q]:=h;let#[u,rfl,ru]:=vals1 r;obtain rfl:u=Value.ref l:=ru;let#[its,rv,p,_]:=I.list O;have ei:=qv rv;subst ei;have L:=p.isList;have ab:l<s.heap.objs.size:=let ⟨_,e,_⟩:=L;Heap.lt_size e;show call_all_walk (Ml L ?_);show#[s.heap.objs.size,[s.heap.objs.size,l],[s.heap.objs.size],(bs.map Value.bool).toArray.size,2,λi=>(bs[i]?).getD true,rfl,Pw (A:=X.A.in1) (I.ok.hd hc) _ l (Km ab) (bs.map Value.bool).toArray,
  #[#[_,Heap.get?_push_size _ rfl,1],L.push _],λi v s' Q' E' Y N=>?_,λh' tk U=>?_]
 .have ac:(bs.map Value.bool).toArray[i]?=some v:=Y;have G:(bs.map Value.bool)[i]?=some v:=(by simpa using ac);rw[J3]at G;cases J:bs[i]? with
  |none=>rw[J]at G;cases G
  |some b =>
   rw[J]at G;have e2:Value.bool b=v:=Option.some.inj G;subst e2;simp only[J,OO]at N;show Lf N
 .have e:((List.range (bs.map Value.bool).toArray.size).all λi=>(bs[i]?).getD true)=bs.all id:=by
   rw[IF,DD];show LSm.range_all bs
  rw[e];show#[.bl _,H,I.kept (PB U),rfl,q]
end
theorem zO {K:PySem.W.Frag}{a:Addr}{xs:List V}{g:TG}{tb:TS}{D:Ends}{σ:St}{H:Hp}(Pv:Nat->St->Hp->Prop) (h0:Pv 0 σ H) (Y:∀i σ H,i<=xs.length->Pv i σ H->bB K H a xs)
  (hs:∀i x σ H T,xs[i]?=some x->H T=none->Pv i σ H->g (.ref T) σ (upd H T (.tup [.int i,x])) λJ H2=>tb { D with nx:=Pv (i+1),ct:=Pv (i+1),bk:=D.nx } J H2) (hd:∀σ H,Pv xs.length σ H->D.nx σ H) :
  ∃W:Nat->Nat->St->Hp->Prop,(∃m,W 0 m σ H)/\∀i m σ H,W i m σ H ->
   ((Gd K a).stop i H/\D.nx σ H)\/((Gd K a).go i H/\∃N:St->Hp->Prop,(∀G H',N G H'->∃O,O<m/\W (i+1) O G H')/\∀x H',(Gd K a).BU i H x H'->g x σ H' λJ H2=>tb { D with nx:=N,ct:=N,bk:=D.nx } J H2):=by
 show#[λi m σ H=>m=xs.length-i/\i<=xs.length/\Pv i σ H,#[xs.length,by simp,Kl _,h0],?_];rintro i m σ H ⟨rfl,hi,p⟩;have L:=Y i σ H hi p;by_cases U:i<xs.length
 .show .inr #[#[xs,xs[i],L,by simp[U]],Pv (i+1),λG H' p'=>#[xs.length-(i+1),ae,rfl,U,p'],?_];rintro v H' ⟨T,x,rfl,hT,rfl,e1⟩;show hs i x σ H T (e1 xs L) hT p
 .have e:i=xs.length:=ae;subst e;show .inl #[#[xs,L,J1 _],hd σ H p]
section
variable {X:Cx}
theorem gw (hc:X.calm=true):di X (.builtin "sorted") (λxs H Q=>∃(a:Addr) (kvs:List (Key×V)) (ns:List Int),xs=[.ref a]/\H a=some (.dK kvs)/\kvs.map (·.1)=ns.map Sum.inl/\ns.Nodup/\ns.length<=1000 /\
  ∀(l:Addr) (ns':List Int),H l=none->ns'.Perm ns->ns'.Pairwise (· <= ·)->Q (.ref l) (upd H l (.lst (ns'.map V.int)))):=by
 intro pins s σ H xs us Q I r h;let#[a,kvs,ns,rfl,ha,hk,ab,hn,q]:=h;let#[u,rfl,U]:=vals1 r;cases U;let#[_,hd,vs,ac,dd]:=gI I.bG ha;let#[ep,am]:=dd.dictAt;have J:vs.map (·.1)=ns.map Sum.inl:=(by rw[<-ac.keys];show hk);have ll:ns.length=vs.length:=by
  have:=congrArg List.length J;simpa using this.symm
 have hs:sizeLine=16777216:=J5;show Srt.lO (kdl_dict (knd:=br X.prog X.w) (kvs:=vs) (ep:=ep) (d:=a) hd) (I.ok.hd hc) am (ns:=ns) (λi w' hw=>?_) ll ab ae λh1 h' tk out ns' e k1 k2 he a1 N Y=>?_
 .let#[k,x,e1,e2]:=hw;have G:(vs.map (·.1))[i]?=some k:=(by rw[J3,e1];rfl);rw[J,J3]at G;cases L:ns[i]? with
  |none=>rw[L]at G;cases G
  |some m =>
   rw[L]at G;obtain rfl:Sum.inl m=k:=Option.some.inj G;let#[t,rfl]:=oW e2;show#[m,t,1]
 .have O:Inv X pins σ H { s with heap:=h1,toks:=tk }:=I.kept k1;show#[.ref h1.objs.size,_,O.laid (t':=tk) k2 (J1 _) (show bR X.prog X.w _ _ _ (.lst (ns'.map V.int))from#[by rw[DD,N.length_eq];omega,out.toList,e,gi a1,by simpa using he]),rfl,q _ ns' (O.bG.fresh (J1 _)) N Y]
inductive wF (H₀:Hp) (t:TE) (Q:VK) (v:V) (H':Hp):Prop
 |mk (a:_) (o:_) (kvs:_) (_:H' a=some (.cu o (.dK kvs))) (_:(∀o u',H₀ a≠some (.cu o u'))) (_:Q v (upd H' a (.dK kvs))):wF H₀ t Q v H'
noncomputable def Dy (H₀:Hp) (t:TE):TE:=λσ H Q=>t σ H λv H'=>wF H₀ t Q v H'
theorem vJ {e:Kt}{t:TE}(h:PE X e t):PE X e (Dy X.H₀ t):=by
 intro pins s σ H Q I q;show bV (h pins s σ H _ I q) λu U O=>?_;let#[v,H',L,r,a,o,kvs,N,G,J]:=O;show#[v,_,L.ED N G,r,J]
end
theorem lX:Px table "dict_itemiterator.__iter__" = some Builtin.«dict_keyiterator.__iter__» :=
 N3 (id' := "dict_keyiterator.__iter__") (by kernel_rfl) (by first|rfl|decide +kernel|(unfold String.splitOn;simp +decide [String.splitOnAux])) ao (by kernel_rfl)
theorem gP {prog:J2}{w:Kd}{A:Kk}{E:Value->BY->Prop}{s:BY}{G d:Addr}{i n ep:Nat}{ok ov:Value}{Q:Value->BY->Prop}(L:IsItemIter s.heap G d i n ep ok ov) (h:Q (.ref G) s):wpAny (model prog w) A (Pa (.ref G)) Q E s:=by
 have J:s.TypeIs (.ref G) "dict_itemiterator" := #[_,L,rfl];show Nu J PySem.F.slot_dict_itemiterator_iter (Lq PySem.F.slot_dict_itemiterator_iter J lX ?_ (PySem.F.args_dict_itemiterator_iter_1 _));change wpAny _ _ (ret (.ref G)) _ _ s;show DO #[0,"dict_itemiterator",_,J,PySem.F.slot_dict_itemiterator_next.lookup,h]
noncomputable def E5 (a:Addr) (o:Obj) (kvs:List (Key×V)):It :=
 #[λi H=>H a=some (.cu o (.dK kvs))/\i<kvs.length,λi H x H'=>∃T k v,x=.ref T/\H T=none/\kvs[i]?=some (k,v)/\H'=upd H T (.tup [kV k,v]),λi H=>H a=some (.cu o (.dK kvs))/\kvs.length<=i]
theorem Ac:∀{kvs:List (Key×V)}{vs:List (Key×Value)},Paired (λ(p:Key×V) (q:Key×Value)=>p.1=q.1/\RelV p.2 q.2) kvs vs->∀{i:Nat},i<kvs.length->∃k v x,kvs[i]?=some (k,v)/\vs[i]?=some (k,x)/\RelV v x
 |_,_,.nil,_,h=>by simp at h
 |p::_,J::_,.cons q _,0,_=>#[p.1,p.2,J.2,rfl,by rw[q.1];rfl,q.2]
 |_::_,_::_,.cons _ t,i+1,h=>by
  let#[k,v,x,L,G,N]:=Ac t (i:=i) (by simpa using h);show#[k,v,x,by simpa using L,by simpa using G,N]
theorem CQ {kvs:List (Key×V)}{vs:List (Key×Value)}(r:KV kvs vs) {i:Nat}(hi:i<kvs.length):∃k v x,kvs[i]?=some (k,v)/\vs[i]?=some (k,x)/\RelV v x:=Ac r hi
theorem vt {P:J2}{w:Kd}{K:PySem.W.Frag}{es:List Kt}{kx:Nat}{px:Mj}(a J:Addr) (a0:a≠J) (o:Obj) (kvs:List (Key×V)):Turn P w K (.Tuple es kx px) (E5 a o kvs) [J] J (λi h=>∃ok ov,IsItemIter h J a i kvs.length (yk o) ok ov) where
 mem:=by simp
 obj:=λi h st b G=>by
  have e:b=J:=(by simpa using G);subst e;let#[ok,ov,st]:=st;show#[_,st,λv q=>by cases(show MF _=Mw v from q)]
 keep:=λi h h' st k=>let ⟨ok,ov,st⟩:=st;#[ok,ov,k J (by simp) _ st]
 item:=by
  intro X hP hw hK hc i pins s σ H E I L st hg;subst hP hw hK;let#[ac,ap]:=hg;let#[Y,N,f2,O,f4,f5]:=L J (by simp);let#[hd,vs,r,da]:=kG I.bG ac;have am:=r.length;let#[k,v,x,e1,e2,e3]:=CQ r ap;let#[ok,ov,st]:=st;rw[am]at st ⊢;show wpAny_pyNext_items_item st da e2 λaB h' as ho hT hsz hk=>?_;have I1:Inv X pins σ H { s with heap:=h',toks:=s.toks }:=I.turned (λb o G e=>hk b o G e) Y N O f4 f5;show#[0,wpAny_letOwnedTupleGo_items ho λab e4 U=>?_];replace U:Heap.SameBut J h' ab:=U;have I2:Inv X pins σ H { s with heap:=ab,toks:=s.toks }:=I1.turned (s:={ s with heap:=h',toks:=s.toks }) (h':=ab) (t':=s.toks) (λb o G e=>(U.2 b G).trans e) Y N O f4 f5;have fT:gp X pins H s.heap.objs.size:=I.jm (J1 _) (I.bG.fresh (J1 _));have ne:s.heap.objs.size≠J:=OB (Heap.lt_size st);have aT:=U.extBut _ _ ne hT;have I3:Inv X pins σ (upd H s.heap.objs.size (.tup [kV k,v])) { s with heap:=ab,toks:=s.toks }:=I2.tI (its:=[aB,x]) fT #[_,aT,rfl,0] (.cons (oW as) (.cons e3 .nil)) u3;show#[.ref s.heap.objs.size,_,I3,rfl,#[_,k,v,rfl,fT.1,e1,rfl],#[2,e4],λb G=>?_];have nb:b≠s.heap.objs.size:=λq=>ne (by rw[<-q];simpa using G);rw[ah nb];show(L b G).1
 done:=by
  intro X hP hw hK hc i pins s σ H E I L st hg;subst hP hw hK;let#[ac,ap]:=hg;let#[Y,N,f2,O,f4,f5]:=L J (by simp);let#[hd,vs,r,da]:=kG I.bG ac;have am:=r.length;let#[ok,ov,st]:=st;rw[am]at st;show wpAny_pyNext_items_end (I.ok.hd hc) st da (by simp;omega) λh' eb=>#[rfl,I.turned (t':=s.toks) (λb o G e=>eb b o G e) Y N O f4 f5]
 self:=λ_ _ _ _ _ st h=>by
  let#[ok,ov,st]:=st;show gP st h
section
variable {X:Cx}
noncomputable def EB (H₀:Hp) (td:TE):TI:=λσ H R=>td σ H λx H1=>ym λa kvs=>EZ (x=.ref a) (H1 a=some (.dK kvs)) ((∀o G,H₀ a≠some (.cu o G))) (∀o,R (E5 a o kvs) (upd H1 a (.cu o (.dK kvs))))
theorem lS {es:List Kt}{kx:Nat}{px:Mj}{o:Kt}{apos cpos:Mj}{td:TE}(ho:PE X o td) (ac:LR o "items" X.env (eval o X.env)=eval o X.env:=by rfl) (am:(apos.endLine==cpos.line)=true:=by rfl):PI X (.Tuple es kx px) (.Call (.Attribute o "items" apos) [] [] cpos) (EB X.H₀ td):=by
 intro pins s σ H R I h;show ND ac am (bV (ho pins s σ H _ I h) λu G ab=>?_);let#[x,H1,N,rx,a,kvs,ex,J,hn,q]:=ab;subst ex;obtain rfl:u=Value.ref a:=rx;let#[t1,t2,hd]:=kg N (.inl #[kvs,.inl J]);let#[_,_,vs,aT,Y]:=gI N.bG J;show#["dict","dict.items",LP,PySem.F.slot_dict_items,PySem.F.type_dict_items,t1,t2,Calls.callWith_builtin rfl (PySem.evalArgs_none ?_)];show LL PySem.F.slot_dict_items Y.typeIs PySem.F.entry_dict_items (PySem.F.args_dict_items_1 _) (meets_dict_items (br X.prog X.w) a hd) #[#[vs,Y],?_];have nw:=Heap.get?_push_size G.heap (o:={ cls:=.type "dict_items",data:=.fields ([.ref a].toArray) }) rfl;have U:Inv X pins σ H1 { G with heap:=G.heap.push { cls:=.type "dict_items",data:=.fields ([.ref a].toArray) },toks:=G.toks }:=N.kept λb o e=>Heap.get?_push_of_some _ e;let#[_,a0,as,aB,AL]:=gI U.bG J;let#[ob,ap,ep,L,g2,g3,g4]:=id AL;have O:=U.freeze J L hn;have lt:a<(G.heap.push { cls:=.type "dict_items",data:=.fields ([.ref a].toArray) }).objs.size:=Heap.lt_size L;have da:(G.heap.push { cls:=.type "dict_items",data:=.fields ([.ref a].toArray) }).DictAt (br X.prog X.w) a as (yk ob):=#[ob,ap,L,g2,by unfold yk;rw[g3],g4];show wpAny_pyIter_items #[_,nw,1] da ?_;show#[(G.heap.push { cls:=.type "dict_items",data:=.fields ([.ref a].toArray) }).objs.size,[(G.heap.push { cls:=.type "dict_items",data:=.fields ([.ref a].toArray) }).objs.size],_,E5 a ob kvs,0,O.kept (t':=G.toks) λb o e=>Heap.get?_push_of_some _ e,vt a _ (Km lt) ob kvs,#[.none,.none,?_],λb hb=>?_,q ob]
 .rw[aB.length];show Heap.get?_push_size _ rfl
 .have e:b=(G.heap.push { cls:=.type "dict_items",data:=.fields ([.ref a].toArray) }).objs.size:=(by simpa using hb);subst e;show O.jm (J1 _) (O.bG.fresh (J1 _))
end
noncomputable def Hs (a:Addr) (o:Obj) (kvs:List (Key×V)):It :=
 #[λi H=>H a=some (.cu o (.dK kvs))/\i<kvs.length,λi H x H'=>H'=H/\∃k,kvs[i]?=some (k,x),λi H=>H a=some (.cu o (.dK kvs))/\kvs.length<=i]
theorem wW {P:J2}{w:Kd}{K:PySem.W.Frag}{tg:Kt}(a G:Addr) (aB:a≠G) (o:Obj) (kvs:List (Key×V)):Turn P w K tg (Hs a o kvs) [G] G (λi h=>h.IsValIter G a i kvs.length (yk o)) where
 mem:=by simp
 obj:=λi h st b J=>by
  have e:b=G:=(by simpa using J);subst e;let#[ob,h1,_,L]:=st;show#[ob,h1,λv z=>by rw[L]at z;cases z]
 keep:=λi h h' ⟨ob,h1,h2,L⟩ k=>#[ob,k G (by simp) _ h1,h2,L]
 item:=by
  intro X hP hw hK hc i pins s σ H E I N st O;subst hP hw hK;let#[ac,ap]:=O;let#[f0,Y,f2,f3,U,f5]:=N G (by simp);let#[hd,vs,r,da]:=kG I.bG ac;have ab:=r.length;let#[k,v,x,e1,e2,e3]:=CQ r ap;rw[ab]at st ⊢;show wpAny_pyNext_values_item st da e2 λh' am as=>?_;have I1:Inv X pins σ H { s with heap:=h',toks:=s.toks }:=I.turned (λb o J e=>(as.2 b J).trans e) f0 Y f3 U f5;let#[ob,h1,h2,L]:=id am;show#[0,oq (s:={ s with heap:=h' }) (n := "dict_valueiterator") h1 h2 L ar #[v,H,I1,e3,#[rfl,k,e1],am,λb J=>(N b J).1]]
 done:=by
  intro X hP hw hK hc i pins s σ H E I N st O;subst hP hw hK;let#[ac,ap]:=O;let#[f0,Y,f2,f3,U,f5]:=N G (by simp);let#[hd,vs,r,da]:=kG I.bG ac;have ab:=r.length;rw[ab]at st;show wpAny_pyNext_values_end (I.ok.hd hc) st da (by simp;omega) λh' eb=>#[rfl,I.turned (t':=s.toks) (λb o J e=>eb b o J e) f0 Y f3 U f5]
 self:=λ_ _ _ _ _ st h=>wpAny_pyIter_valiter st h
section
variable {X:Cx}{tg:Kt}
noncomputable def GN (H₀:Hp) (td:TE):TI:=λσ H R=>td σ H λx H1=>ym λa kvs=>EZ (x=.ref a) (H1 a=some (.dK kvs)) ((∀o G,H₀ a≠some (.cu o G))) (∀o,R (Hs a o kvs) (upd H1 a (.cu o (.dK kvs))))
theorem Cp {o:Kt}{apos cpos:Mj}{td:TE}(ho:PE X o td) (am:LR o "values" X.env (eval o X.env)=eval o X.env:=by rfl) (ac:(apos.endLine==cpos.line)=true:=by rfl):PI X tg (.Call (.Attribute o "values" apos) [] [] cpos) (GN X.H₀ td):=by
 intro pins s σ H R I h;show ND am ac (bV (ho pins s σ H _ I h) λu G ab=>?_);let#[x,H1,N,rx,a,kvs,ex,J,hn,q]:=ab;subst ex;obtain rfl:u=Value.ref a:=rx;let#[t1,t2,hd]:=kg N (.inl #[kvs,.inl J]);let#[_,_,vs,aT,Y]:=gI N.bG J;show#["dict","dict.values",LP,PySem.F.slot_dict_values,PySem.F.type_dict_values,t1,t2,Calls.callWith_builtin rfl (PySem.evalArgs_none ?_)];show LL PySem.F.slot_dict_values Y.typeIs PySem.F.entry_dict_values (PySem.F.args_dict_values_1 _) (meets_dict_values (br X.prog X.w) a hd) #[#[vs,Y],?_];have nw:=Heap.get?_push_size G.heap (o:={ cls:=.type "dict_values",data:=.fields ([.ref a].toArray) }) rfl;have U:Inv X pins σ H1 { G with heap:=G.heap.push { cls:=.type "dict_values",data:=.fields ([.ref a].toArray) },toks:=G.toks }:=N.kept λb o e=>Heap.get?_push_of_some _ e;let#[_,a0,as,aB,AL]:=gI U.bG J;let#[ob,ap,ep,L,g2,g3,g4]:=id AL;have O:=U.freeze J L hn;have lt:a<(G.heap.push { cls:=.type "dict_values",data:=.fields ([.ref a].toArray) }).objs.size:=Heap.lt_size L;have da:(G.heap.push { cls:=.type "dict_values",data:=.fields ([.ref a].toArray) }).DictAt (br X.prog X.w) a as (yk ob):=#[ob,ap,L,g2,by unfold yk;rw[g3],g4];show wpAny_pyIter_values #[_,nw,1] da ?_;show#[(G.heap.push { cls:=.type "dict_values",data:=.fields ([.ref a].toArray) }).objs.size,[(G.heap.push { cls:=.type "dict_values",data:=.fields ([.ref a].toArray) }).objs.size],_,Hs a ob kvs,0,O.kept (t':=G.toks) λb o e=>Heap.get?_push_of_some _ e,wW a _ (Km lt) ob kvs,?_,λb hb=>?_,q ob]
 .rw[aB.length];show#[_,Heap.get?_push_size _ rfl,1]
 .have e:b=(G.heap.push { cls:=.type "dict_values",data:=.fields ([.ref a].toArray) }).objs.size:=(by simpa using hb);subst e;show O.jm (J1 _) (O.bG.fresh (J1 _))
end
end L2
namespace Srt
open PySem PyProof.Rows
section
variable {prog:J2}{w:Kd}{A:Kk}{E:Value->BY->Prop}{s:BY}{a₀:Array Kc}
end
section
variable {prog:J2}{w:Kd}{A:Kk}{E:Value->BY->Prop}{s:BY}
end
section
variable {prog:J2}{w:Kd}{A:Kk}{E:Value->BY->Prop}{s:BY}{T:String}{r d:Addr}{n:Nat}{P:Nat->Value->Prop}{OK:Heap->Prop}
end
end Srt
namespace L2
open PySem PySem.Spec PyProof.Rows
section
variable {X:Cx}
end
end L2
namespace Sp
open PySem PySem.StrLaws PySem.Builtin PySem.Builtin.Str
end Sp
namespace L2
open PySem PySem.Spec PyProof.Rows PySem.Builtin PySem.Builtin.Str
section
variable {X:Cx}
theorem lM (L:X.calm=true):di X (.builtin "sum") (λxs H Q=>∃(p:Addr) (ns:List Int),xs=[.ref p]/\bB X.K H p (ns.map V.int)/\Q (.int ns.sum) H):=by
 intro pins s σ H xs us Q I r h;let#[p,ns,rfl,Y,q]:=h;let#[u,rfl,N]:=vals1 r;cases N;let#[its,U,pl,hz]:=I.list Y;have J:=intsAre_of U;have O:=J.numsOf;let#[ys,e]:=J.allInts.items;have G:=pl.isList;rw[e]at G;show sum_intListG (I.ok.hd L) G λh' tk t' hk=>?_;have hs:preSum (numAt ys) ys.size=ns.sum:=by
  rw[preSum_eq,KP (by simp), <-nums_intItems, <-e];rw[show its.toArray.toList=its from rfl,O]
 show#[.int ns.sum,H,I.kept hk,#[_,by rw[hs]],q]
end
section
variable {X:Cx}
theorem xO:di X (.type "range") (λxs H Q=>∃i j:Int,xs=[.int i,.int j]/\∀p,H p=none->Q (.ref p) (upd H p (.rng i j))):=by
 intro pins s σ H xs us Q I r h;let#[i,j,rfl,q]:=h;let#[u,G,rfl,#[t,rfl],#[t',rfl]]:=vals2 r;show call_range_2 #[.ref s.heap.objs.size,_,I.laid (λb o e=>Heap.get?_push_of_some _ e) (J1 _) ?_,rfl,q _ (I.bG.fresh (J1 _))];show#[2,_,Heap.get?_push_size s.heap rfl]
end
section
variable {X:Cx}
noncomputable def wj (K:PySem.W.Frag):List V->Hp->VK->Prop:=λxs H Q=>∃p ys,xs=[.ref p]/\(bB K H p ys\/cg K H p ys)/\Q (.int (ys.length:Nat)) H
theorem xA:di X (.builtin "len") (wj X.K):=bF
end
section
variable {X:Cx}
theorem mD (hc:X.calm=true):di X (.type "list") (λxs H Q=>∃(p:Addr) (i:Int) (n:Nat),xs=[.ref p]/\H p=some (.rng i (i+n))/\n<=1000 /\ -1000<=i/\i<=1000/\∀l,H l=none->Q (.ref l) (upd H l (.lst ((List.range n).map λk:Nat=>V.int (i+k))))):=by
 intro pins s σ H xs us Q I r h;let#[p,i,n,rfl,hp,hn,i0,i1,q]:=h;let#[u,rfl,L]:=vals1 r;cases L;have hs:sizeLine=16777216:=J5;let#[t,u,v,e]:=(show bR X.prog X.w H s.heap p (.rng i (i+n))from I.bG p _ hp);show call_list_range (n:=n) (I.ok.hd hc) e (small_one ae ae ae ae) (by rw[rangeSize_one];split<;>omega) ae λh' tk G c' kp O it=>?_;have U:Vals ((List.range n).map λk:Nat=>V.int (i+k)) G.toList:=by
  let#[h1,h2]:=it;show pR ?_ λj x v J hv=>?_
  .rw[DD,KL];simpa using h1.symm
  .rw[J3]at J;let#[k,Y,rfl]:=Option.map_eq_some_iff.mp J;have N:k=j:=by
    have:=List.getElem?_eq_some_iff.mp Y;let#[_,e]:=this;simpa using e.symm
   let#[t,e]:=h2 j v (by simpa using hv);show#[t,by rw[e,N];congr 1;omega]
 show#[.ref s.heap.objs.size,_,I.laid kp (J1 _) (show bR X.prog X.w _ h' _ (.lst ((List.range n).map λk:Nat=>V.int (i+k)))from#[by rw[DD,KL];omega,G.toList,c',U,by simpa using O]),rfl,q _ (I.bG.fresh (J1 _))]
end
theorem tN {a:Addr}{o:Obj}{kvs:List (Key×V)}{caps:List (Str×Nat)}{te:TE}{σ:St}{H:Hp}{G:List V->Hp->Prop}(Pv:Nat->List V->Hp->Prop) (U:Pv 0 [] H)
  (N:∀i zs H,i<=kvs.length->Pv i zs H->H a=some (.cu o (.dK kvs)))
  (hs:∀i k v zs H,kvs[i]?=some (k,v)->Pv i zs H->te (fU caps σ (some (kV k))) H (λz H3=>zs.length<sizeLine/\Pv (i+1) (zs++[z]) H3))
  (hd:∀zs H,Pv kvs.length zs H->G zs H):∃W:Nat->Nat->List V->Hp->Prop,(∃m,W 0 m [] H)/\ic caps nA te σ (Dh a o kvs) G W:=by
 show#[λi m zs H=>m=kvs.length-i/\i<=kvs.length/\Pv i zs H,#[kvs.length,by simp,Kl _,U],?_];rintro i m zs H ⟨rfl,hi,p⟩;have L:=N i zs H hi p;by_cases J:i<kvs.length
 .show .inr #[#[L,J],Pv (i+1),λab H' Y=>#[kvs.length-(i+1),ae,rfl,J,Y],?_];rintro x H' ⟨rfl,k,v,O,rfl⟩;unfold nA;dsimp only;rw[Qi rfl];show hs i k v zs _ O p
 .have e:i=kvs.length:=ae;subst e;show .inl #[#[L,J1 _],hd zs H p]
theorem qG {caps:List (Str×Nat)}{te:TE}{σ:St}{H:Hp}{lo st:Int}{n:Nat}{J:List V->Hp->Prop}(Pv:Nat->List V->Hp->Prop) (L:Pv 0 [] H)
  (hs:∀i ys H,i<n->Pv i ys H->te (fU caps σ (some (.int (lo+i*st)))) H (λy H3=>ys.length<sizeLine/\Pv (i+1) (ys++[y]) H3))
  (hd:∀ys H,Pv n ys H->J ys H):∃W:Nat->Nat->List V->Hp->Prop,(∃m,W 0 m [] H)/\ic caps nA te σ (Di lo st n) J W:=by
 show#[λi m ys H=>m=n-i/\i<=n/\Pv i ys H,#[n,by simp,Kl _,L],?_];rintro i m ys H ⟨rfl,hi,p⟩;by_cases G:i<n
 .show .inr #[G,Pv (i+1),λO H' N=>#[n-(i+1),ae,rfl,G,N],λx H' y=>?_];let#[e,y]:=y;subst e y;unfold nA;dsimp only;rw[Qi rfl];show hs i ys _ G p
 .have e:i=n:=ae;subst e;show .inl #[J1 _,hd ys H p]
theorem BH {K:PySem.W.Frag}{a b:Addr}{xs ys:List V}{g:TG}{tb:TS}{D:Ends}{σ:St}{H:Hp}(Pv:Nat->St->Hp->Prop) (h0:Pv 0 σ H) (he:xs.length=ys.length)
  (hl:∀i σ H,i<=xs.length->Pv i σ H->bB K H a xs/\bB K H b ys)
  (hs:∀i x y σ H T,xs[i]?=some x->ys[i]?=some y->H T=none->Pv i σ H->g (.ref T) σ (upd H T (.tup [x,y])) λL H2=>tb { D with nx:=Pv (i+1),ct:=Pv (i+1),bk:=D.nx } L H2)
  (hd:∀σ H,Pv xs.length σ H->D.nx σ H) :
  ∃W:Nat->Nat->St->Hp->Prop,(∃m,W 0 m σ H)/\∀i m σ H,W i m σ H ->
   ((GX K a b).stop i H/\D.nx σ H)\/((GX K a b).go i H/\∃N:St->Hp->Prop,(∀J H',N J H'->∃U,U<m/\W (i+1) U J H')/\∀x H',(GX K a b).BU i H x H'->g x σ H' λL H2=>tb { D with nx:=N,ct:=N,bk:=D.nx } L H2):=by
 show#[λi m σ H=>m=xs.length-i/\i<=xs.length/\Pv i σ H,#[xs.length,by simp,Kl _,h0],?_];rintro i m σ H ⟨rfl,hi,p⟩;let#[O,G]:=hl i σ H hi p;by_cases Y:i<xs.length
 .have ab:i<ys.length:=ae;show .inr #[#[xs,ys,xs[i],ys[i],O,G,by simp[Y],by simp[ab]],Pv (i+1),λJ H' p'=>#[xs.length-(i+1),ae,rfl,Y,p'],?_];rintro v H' ⟨T,x,y,rfl,hT,rfl,e1,e2⟩;show hs i x y σ H T (e1 _ O) (e2 _ G) hT p
 .have e:i=xs.length:=ae;subst e;show .inl #[#[xs,ys,O,G,.inl (J1 _)],hd σ H p]
inductive Md (P:J2) (w:Kd) (K:PySem.W.Frag) (mg:Str->Option Value) (base:Heap) (cx:wI) (k:Nat) (C:Addr) (m:Str) (sp:Sp):Prop
 |mk (f:Addr) (fd:J0) (ps:List Str) (_:bh P w K mg base cx k f fd ps sp) (_:Binds K fd ps []) (_:Meth K C m f):Md P w K mg base cx k C m sp
inductive Df (P:J2) (w:Kd) (K:PySem.W.Frag) (mg:Str->Option Value) (base:Heap) (cx:wI) (k:Nat) (x:Str) (sp:Sp):Prop
 |mk (f:Addr) (fd:J0) (ps:List Str) (_:bh P w K mg base cx k f fd ps sp) (_:Binds K fd ps []) (_:mg x=some (.ref f)) (_:NW K (.ref f)=true):Df P w K mg base cx k x sp
section
variable {X:Cx}{CX:wI}{k j:Nat}{C:Addr}{sp:Sp}{E:XK}{x m:Str}{p pos apos:Mj}{e o:Kt}{es:List Kt}{ta:TE}{t:TA}
theorem pm {pl:Pz Bool}(G:PE X o ta) (c:qX X.K C) (F:Md X.prog X.w X.K X.mg X.base CX k C m sp) (Y:dB j X.A) (O:Passes CX X E) (L:PA X (e::es) t) (J:k<=j:=by decide)
  (U:starEach (e::es) X.env=(false,eval e X.env)::starEach es X.env:=by rfl) (ab:(backTo pos (starEach es X.env)).any (·.1)=false:=by rfl)
  (N:eval (.Call (.Attribute o m apos) (e::es) [] pos) X.env=(do
   let ov <-eval o X.env
   Oy apos.atName
   let (f,first) <-MQ [ov] (Nz ov m pl)
   Pf pos f first (backTo pos (starEach (e::es) X.env)) (NA pos (Mf [] X.env))):=by rfl) :
  PE X (.Call (.Attribute o m apos) (e::es) [] pos) (wm C m sp [] E ta t):=by
 let#[f,fd,_,g,b,q]:=F;show Bv G c q g (Y.mono J) b .nil O L U ab N
theorem wc {pl:Pz Bool}(G:PE X o ta) (c:qX X.K C) (F:Md X.prog X.w X.K X.mg X.base CX k C m sp) (O:dB j X.A) (N:Passes CX X E) (J:k<=j:=by decide)
  (L:eval (.Call (.Attribute o m apos) [] [] pos) X.env=(do
   let ov <-eval o X.env
   Oy apos.atName
   let (f,first) <-MQ [ov] (Nz ov m pl)
   Pf pos f first (backTo pos (starEach [] X.env)) (NA pos (Mf [] X.env))):=by rfl) :
  PE X (.Call (.Attribute o m apos) [] [] pos) (wm C m sp [] E ta BD):=by
 let#[f,fd,_,g,b,q]:=F;show yt G c q g (O.mono J) b .nil N L
theorem pc (F:Df X.prog X.w X.K X.mg X.base CX k x sp) (Y:dB j X.A) (U:Passes CX X E) (O:PA X (e::es) t) (L:Gl X x:=by rfl) (N:k<=j:=by decide)
  (G:(x==("__debug__" : Str))=false:=by decide) (J:starEach (e::es) X.env=(false,eval e X.env)::starEach es X.env:=by rfl) (ab:(backTo pos (starEach es X.env)).any (·.1)=false:=by rfl) :
  PE X (.Call (.Name x p) (e::es) [] pos) (Cz sp [] E t):=by
 let#[f,fd,_,g,b,q,r]:=F;show Ci g (Y.mono N) L q r b .nil U O G J ab
end
end L2
namespace St
open PySem L2
noncomputable def top (i:Nat):Ky:=PySem.Challenge.pw_ownroom_k12_copies_apart.main.body.getD i (.Pass #[(0),(0),(0),(0)])
noncomputable abbrev mP:Ky:=inClass (top 10) 0
noncomputable abbrev Az:Ky:=inClass (top 10) 1
noncomputable abbrev An:Ky:=inClass (top 10) 3
noncomputable abbrev yu:Ky:=inClass (top 10) 2
noncomputable abbrev Ad:Ky:=inClass (top 10) 7
noncomputable abbrev vA:Ky:=inClass (top 10) 4
noncomputable abbrev tF:Ky:=inClass (top 10) 5
noncomputable abbrev DP:Ky:=inClass (top 10) 6
noncomputable abbrev ph:Ky:=inClass (top 10) 8
theorem kc:¬ (("owners" : Str) = "contents"):=ao
noncomputable def ju (ow co:Addr):List (Str×V):=bo "contents" (.ref co) (bo "owners" (.ref ow) [])
theorem fM (ow co:Addr):(ju ow co).lookup ("owners" : Str)=some (.ref ow):=by
 unfold ju;rw[aD,Qh kc,aD,Qi rfl]
theorem qQ (ow co:Addr):(ju ow co).lookup ("contents" : Str)=some (.ref co):=by
 unfold ju;rw[aD,Qi rfl]
theorem aX (ow co:Addr) {m:Str}(h1:¬ m = "contents") (h2:¬ m = "owners"):(ju ow co).lookup m=none:=by
 unfold ju;rw[aD,Qh h1,aD,Qh h2]
 all_goals rfl
noncomputable def dS (H:Hp) (M:Addr->Prop):V->Option (List Int)->Prop
 |.non,none=>True
 |.ref a,some ns=>¬ M a/\H a=some (.lst (ns.map V.int))
 |_,_=>False
structure aR (C:Addr) (H:Hp) (M:Addr->Prop) (p ow co:Addr) (os:List Int) (pg:List (Option (List Int))):Prop where
 ob:∃dx,H p=some (.ins C dx (ju ow co))
 hw:H ow=some (.lst (os.map V.int))
 hc:∃cs,H co=some (.lst cs)/\Paired (dS H M) cs pg
noncomputable def Off (B:Addr->Prop) (H H':Hp):Prop:=∀b o,H b=some o->¬ B b->H' b=some o
theorem dS.off {B M:Addr->Prop}{H H':Hp}(h:Off B H H') (G:∀b,B b->M b):∀{v:V}{x:Option (List Int)},dS H M v x->dS H' M v x
 |.non,none,_=>trivial
 |.ref a,some ns,⟨h1,h2⟩=>#[h1,h a _ h2 λz=>h1 (G a z)]
theorem iE {B M:Addr->Prop}{H H':Hp}(h:Off B H H') (G:∀b,B b->M b) {cs:List V}{pg:List (Option (List Int))}(q:Paired (dS H M) cs pg):Paired (dS H' M) cs pg :=
 Paired.Ay q λ_ _ z=>z.off h G
theorem lJ {α G:Type}{F:α->G->Prop}:∀{xs:List α}{ys:List G}{i:Nat}{y:G},Paired F xs ys->ys[i]?=some y->∃x,xs[i]?=some x/\F x y
 |_,_,_,_,.nil,e=>by simp at e
 |_,_,0,_,.cons r _,e=>by simp at e;subst e;show#[0,r]
 |_,_,i+1,y,.cons _ t,e=>by
  let#[u,h1,h2]:=lJ (i:=i) (y:=y) t (by simpa using e);show#[u,by simpa using h1,h2]
theorem iY {α G:Type}{F:α->G->Prop}{x:α}{y:G}(r:F x y):∀{xs:List α}{ys:List G}(i:Nat),Paired F xs ys->Paired F (xs.set i x) (ys.set i y)
 |_,_,_,.nil=>.nil
 |_,_,0,.cons _ t=>.cons r t
 |_,_,i+1,.cons q t=>.cons q (iY r i t)
theorem lP {α G:Type}{F:α->G->Prop}{x:α}{y:G}(r:F x y):∀n:Nat,Paired F (replicate n x) (replicate n y)
 |0=>.nil
 |n+1=>.cons r (lP r n)
structure Txt (K:PySem.W.Frag) (mg:Str->Option Value) (C:Addr):Prop where
 cl:qX K C
 nO:cW K C "owners"
 nC:cW K C "contents"
 len:mg "len" = none
 list:mg "list" = none
 pc:∃u,mg "PAGE_CELLS" = some u/\RelV (.int 8) u
inductive gX (C:Addr) (vs:List V) (H:Hp) (Q:VK) (e3:XK):Prop
 |mk (p dx:Addr) (n:Nat) (_:vs=[.ref p,.int n]) (_:n<=60) (_:H p=some (.ins C dx [])) (_:∀(ow co:Addr) (H':Hp),H ow=none->H co=none->ow≠co->(∀M,aR C H' M p ow co (replicate n 0) (replicate n none))->Off (· = p) H H'->Q .non H'):gX C vs H Q e3
noncomputable def dU (os:List Int) (n:Int):Int:=if n<0\/(os.length:Int)<=n then 0 else os.getD n.toNat 0
theorem ly {os:List Int}{n:Int}(h:dU os n≠0):0<=n/\n.toNat<os.length/\n<os.length/\n=(n.toNat:Int):=by
 unfold dU at h;by_cases z:n<0\/(os.length:Int)<=n
 .rw[Qi z]at h;show absurd rfl h
 .omega
theorem uf {os:List Int}{j:Nat}(h:j<os.length):dU os (j:Int)=os.getD j 0:=by
 unfold dU;rw[Qh ae];simp
inductive gG (C:Addr) (vs:List V) (H:Hp) (Q:VK) (e3:XK):Prop
 |mk (p ow co:Addr) (M:Addr->Prop) (os:List Int) (pg:List (Option (List Int))) (n:Int) (_:vs=[.ref p,.int n]) (_:aR C H M p ow co os pg) (_:os.length<=60) (_:Q (.int (dU os n)) H):gG C vs H Q e3
inductive fX (C:Addr) (vs:List V) (H:Hp) (Q:VK) (e3:XK):Prop
 |mk (p ow co:Addr) (M:Addr->Prop) (os:List Int) (pg:List (Option (List Int))) (n:Int) (_:vs=[.ref p,.int n]) (_:aR C H M p ow co os pg) (_:os.length<=60) (_:dU os n≠0) (_:Q .non H):fX C vs H Q e3
inductive u0 (C:Addr) (vs:List V) (H:Hp) (Q:VK) (e3:XK):Prop
 |mk (p ow co:Addr) (M:Addr->Prop) (os:List Int) (pg:List (Option (List Int))) (_:vs=[.ref p]) (_:aR C H M p ow co os pg) (_:M ow) (_:M co) (_:(∀b,M b->H b≠none)) (_:ow≠co) (_:os.length=pg.length) (_:os.length<=60) (_:(¬ (0:Int)∈os->Q .non H)) (_:((0:Int)∈os->∀H',aR C H' M p ow co (os.set (os.idxOf 0) 1) (pg.set (os.idxOf 0) (some (replicate 8 0)))->Off (λb=>b=ow\/b=co) H H'->Q (.int (os.idxOf 0:Nat)) H')):u0 C vs H Q e3
inductive qO (C:Addr) (vs:List V) (H:Hp) (Q:VK) (e3:XK):Prop
 |mk (p ow co:Addr) (M:Addr->Prop) (os:List Int) (pg:List (Option (List Int))) (n:Int) (_:vs=[.ref p,.int n]) (_:aR C H M p ow co os pg) (_:M ow) (_:M co) (_:ow≠co) (_:os.length<=60) (_:dU os n≠0) (_:∀H',aR C H' M p ow co (os.set n.toNat (dU os n-1)) pg->Off (λb=>b=ow\/b=co) H H'->Q .non H'):qO C vs H Q e3
inductive p5 (C:Addr) (vs:List V) (H:Hp) (Q:VK) (e3:XK):Prop
 |mk (p ow co:Addr) (M:Addr->Prop) (os:List Int) (pg:List (Option (List Int))) (n:Int) (_:vs=[.ref p,.int n]) (_:aR C H M p ow co os pg) (_:M ow) (_:M co) (_:ow≠co) (_:os.length<=60) (_:dU os n≠0) (_:∀H',aR C H' M p ow co (os.set n.toNat (dU os n+1)) pg->Off (λb=>b=ow\/b=co) H H'->Q .non H'):p5 C vs H Q e3
inductive pB (C:Addr) (vs:List V) (H:Hp) (Q:VK) (e3:XK):Prop
 |mk (p ow co:Addr) (M:Addr->Prop) (os:List Int) (pg:List (Option (List Int))) (_:vs=[.ref p]) (_:aR C H M p ow co os pg) (_:Q (.int (os.count 0:Nat)) H):pB C vs H Q e3
inductive k7 (C:Addr) (vs:List V) (H:Hp) (Q:VK) (e3:XK):Prop
 |mk (p ow co:Addr) (M:Addr->Prop) (os:List Int) (pg:List (Option (List Int))) (n:Int) (ns:List Int) (_:vs=[.ref p,.int n]) (_:aR C H M p ow co os pg) (_:os.length<=60) (_:dU os n≠0) (_:pg[n.toNat]?=some (some ns)) (_:∀l,H l=none->Q (.ref l) (upd H l (.lst (ns.map V.int)))):k7 C vs H Q e3
inductive wq (K:PySem.W.Frag) (C:Addr) (vs:List V) (H:Hp) (Q:VK) (e3:XK):Prop
 |mk (p ow co c:Addr) (M:Addr->Prop) (os:List Int) (pg:List (Option (List Int))) (n:Int) (ns:List Int) (_:vs=[.ref p,.int n,.ref c]) (_:aR C H M p ow co os pg) (_:M ow) (_:M co) (_:(∀b,M b->H b≠none)) (_:ow≠co) (_:os.length=pg.length) (_:os.length<=60) (_:dU os n≠0) (_:bB K H c (ns.map V.int)) (_:∀H',aR C H' M p ow co os (pg.set n.toNat (some ns))->Off (λb=>b=ow\/b=co) H H'->Q .non H'):wq K C vs H Q e3
section
variable {P:J2}{w:Kd}{K:PySem.W.Frag}{mg:Str->Option Value}{base:Heap}
theorem rep1 {α:Type}(x:α) (n:Nat):(replicate n [x]).flatten=replicate n x:=by
 induction n with
 |zero=>rfl
 |succ n G=>rw[LA,LF,G,LA];rfl
theorem Jg:aC ["self","many"] ["self","many"] (aw mP):=L2.bD
theorem qd {f C:Addr}{fd:J0}(F:cQ K "__init__" "Store.__init__" mP f fd) (T:Txt K mg C):bh P w K mg base aW 1 f fd ["self","many"] (gX C):=by
 show F.ok Jg (λvs H Q E h=>?_) (λa3 A outer s H vs Q E hr h=>?_)
 .let#[p,dx,n,rfl,_]:=h;rfl
 .let#[p,dx,n,rfl,hn,hp,k]:=h;show#[_,ag (fC (pv 0) (aA mN (cn (aa ak ai)) (pv 1)) rfl) (aj (fC (pv 0) (aA mN (cn (aa vD ai)) (pv 1)) rfl)),?_];have hs:sizeLine=16777216:=J5;show#[ar,λN ap=>?_];have aT:p≠N:=aq hp ap;show#[0,N,n,0,rfl,af,ae,ae,by rw[KZ];omega,λow L=>?_];have a1:ow≠N:=λz=>(by rw[z,af]at L;cases L);rw[ah a1]at L;have U:p≠ow:=aq hp L;show#[0,p,C,dx,[],rfl,by rw[ah U,ah aT];show hp,T.cl,T.nO,ar,?_];show#[ar,λO J=>?_];have as:O≠p:=λz=>(by rw[z,af]at J;cases J);rw[ah as]at J;have am:O≠ow:=λz=>(by rw[z,af]at J;cases J);rw[ah am]at J;have aB:O≠N:=λz=>(by rw[z,af]at J;cases J);rw[ah aB]at J;show#[0,O,n,0,rfl,af,ae,ae,by rw[KZ];omega,λco G=>?_];have a0:co≠O:=λz=>(by rw[z,af]at G;cases G);rw[ah a0]at G;have Y:co≠p:=λz=>(by rw[z,af]at G;cases G);rw[ah Y]at G;have ab:co≠ow:=λz=>(by rw[z,af]at G;cases G);rw[ah ab]at G;have a2:co≠N:=λz=>(by rw[z,af]at G;cases G);rw[ah a2]at G;show#[0,p,C,dx,0,by rw[ah (JZ Y),ah (JZ as),af],T.cl,T.nC,by change 1<1000;decide,?_];rw[show((n:Int)).toNat=n by omega,rep1,rep1];show k ow co _ L G (JZ ab) (λM=>#[#[dx,af],?_,#[_,?_,lP (show dS _ M .non none from trivial) n]]) λb o e hb=>?_
  .rw[ah (JZ U),ah (JZ ab),ah (JZ am),ah (JZ U),af,List.map_replicate]
  .rw[ah Y,af]
  .have ac:b≠p:=hb;rw[ah ac,ah (aq e G),ah (aq e J),ah ac,ah (aq e L),ah (aq e ap)];show e
theorem HD:aC ["self","n"] ["self","n"] (aw vA):=L2.bD
theorem yZ {f C:Addr}{fd:J0}(F:cQ K "count" "Store.count" vA f fd) (T:Txt K mg C):bh P w K mg base aW 1 f fd ["self","n"] (gG C):=by
 show F.ok HD (λvs H Q E h=>?_) (λN A outer s H vs Q E U h=>?_)
 .let#[p,ow,co,M,os,pg,n,rfl,_]:=h;rfl
 .let#[p,ow,co,M,os,pg,n,rfl,S,O,k]:=h;let#[#[dx,h1],L,_]:=id S;show#[_,ag (aS (iK (aE gL (pv 1) ak (aJ _)) (gW (aE Gw (pv 1) (aN bF (by rfl) T.len boot_len (aa (aL (pv 0) rfl) ai)) (aJ _)))).pt (aj (aF ak)) aG)
   (aj (aF (a8 cG (aL (pv 0) rfl) (pv 1) (λ_ _=>rfl)))),?_]
  show#[0,_,0,rfl,0,?_];show iH (λc=>?_) (λc=>?_)
  .show dZ ?_;have J:n<0:=(by simpa using c);unfold dU at k;rw[Qi (.inl J)]at k;show k
  .have J:¬ n<0:=(by simpa using c);show#[0,0,p,C,dx,_,0,h1,T.cl,T.nO,fM _ _,ow,0,.inl (bB.of L),_,0,rfl,0,?_];show iH (λd=>?_) (λd=>?_)
   .have d':(os.length:Int)<=n:=(by simpa using d);unfold dU at k;rw[Qi (.inr d')]at k;show k
   .have d':¬ (os.length:Int)<=n:=(by simpa using d);obtain⟨j,rfl⟩:∃j:Nat,n=j:=#[n.toNat,ae];have G:j<os.length:=ae;rw[uf G]at k;show#[0,p,C,dx,_,0,h1,T.cl,T.nO,fM _ _,0,ow,_,j,.int (os.getD j 0),1,bB.of L,jI ?_,k];rw[J3,J4 G];simp[G]
theorem JG:aC ["self","n"] ["self","n"] (aw ph):=L2.bD
theorem xg {f C:Addr}{fd:J0}(F:cQ K "refuse_free" "Store.refuse_free" ph f fd) (T:Txt K mg C) (L:Md P w K mg base aW 1 C "count" (gG C)) :
  bh P w K mg base aW 2 f fd ["self","n"] (fX C):=by
 show F.ok JG (λvs H Q E h=>?_) (λO A outer s H vs Q E N h=>?_)
 .let#[p,ow,co,M,os,pg,n,rfl,_]:=h;rfl
 .let#[p,ow,co,M,os,pg,n,rfl,S,G,J,k]:=h;let#[#[dx,h1],U,_]:=id S;show#[_,aj (aS (aE bU (pm (pv 0) T.cl L N ay (aa (pv 1) ai)) ak (aJ _)) (cU) aG),?_];show#[0,p,dx,0,h1,aX _ _ ao ao,0,p,ow,co,M,os,pg,n,rfl,S,G,rfl,0,?_];show iH (λc=>?_) (λc=>?_)
  .show absurd (by simpa using c) J
  .show k
theorem Hy:aC ["self","n"] ["self","n"] (aw An):=L2.bD
theorem gv {H:Hp}{M:Addr->Prop}{a:Addr}{o:HO}{cs:List V}{pg:List (Option (List Int))}(J:M a) (q:Paired (dS H M) cs pg):Paired (dS (upd H a o) M) cs pg :=
 iE (B:=(· = a)) (λb u e G=>by rw[ah (show b≠a from G)];show e) (λb z=>by rw[show b=a from z];show J) q
theorem ky {H:Hp}{M:Addr->Prop}{a:Addr}{o:HO}{cs:List V}{pg:List (Option (List Int))}(G:H a=none) (q:Paired (dS H M) cs pg):Paired (dS (upd H a o) M) cs pg :=
 iE (B:=λ_=>False) (λb u e _=>by rw[ah (aq e G)];show e) (λb z=>z.elim) q
theorem iB {H:Hp}{p a C dx:Addr}{fs:List (Str×V)}{xs:List V}(h:H p=some (.ins C dx fs)) (h':H a=some (.lst xs)):p≠a:=cH h h' (by intro z;cases z)
theorem BR {f C:Addr}{fd:J0}(F:cQ K "less" "Store.less" An f fd) (T:Txt K mg C) (GG:Md P w K mg base aW 2 C "refuse_free" (fX C)) :
  bh P w K mg base aW 3 f fd ["self","n"] (qO C):=by
 show F.ok Hy (λvs H Q E h=>?_) (λac A outer s H vs Q E hr h=>?_)
 .let#[p,ow,co,M,os,pg,n,rfl,_]:=h;rfl
 .let#[p,ow,co,M,os,pg,n,rfl,S,U,mc,O,N,L,k]:=h;let#[#[dx,h1],G,cs,ab,hp]:=id S;show#[_,ag (aP (pm (pv 0) T.cl GG hr ay (aa (pv 1) ai)))
   (aj (we (aL (pv 0) rfl) (pv 1) (rh) ak Eu set_list)),?_]
  show#[0,p,dx,0,h1,aX _ _ ao ao,0,p,ow,co,M,os,pg,n,rfl,S,N,L,?_];let#[h0,J,hn,en]:=ly L;generalize n.toNat=j at *;subst en;show#[0,p,C,dx,_,0,h1,T.cl,T.nO,fM _ _,0,ow,_,j,.int (os.getD j 0),1,bB.of G,jI (by rw[J3,J4 J];simp[J]),_,0,rfl,ow,_,j,j,1,G,3]
  .unfold vS;rw[DD,Qi ae,Qi ae];simp
  .rw[uf J]at k;show k _ #[#[dx,by rw[ah (iB h1 G)];show h1],?_,#[cs,by rw[ah (JZ O)];show ab,gv U hp]] λb o e Y=>?_
   .rw[af,PY]
   .rw[ah (λz=>Y (.inl z))];show e
theorem JJ:aC ["self","n"] ["self","n"] (aw tF):=L2.bD
theorem zu {f C:Addr}{fd:J0}(F:cQ K "cells" "Store.cells" tF f fd) (T:Txt K mg C) (GG:Md P w K mg base aW 2 C "refuse_free" (fX C)) :
  bh P w K mg base aW 3 f fd ["self","n"] (k7 C):=by
 show F.ok JJ (λvs H Q E h=>?_) (λac A outer s H vs Q E hr h=>?_)
 .let#[p,ow,co,M,os,pg,n,ns,rfl,_]:=h;rfl
 .let#[p,ow,co,M,os,pg,n,ns,rfl,S,L,G,J,k]:=h;let#[#[dx,h1],hw,cs,ab,U]:=id S;show#[_,ag (aP (pm (pv 0) T.cl GG hr ay (aa (pv 1) ai)))
   (aj (aF (bS dJ (by rfl) T.list eR (aa (a8 cG (aL (pv 0) rfl) (pv 1) (λ_ _=>rfl)) ai)))),?_]
  show#[0,p,dx,0,h1,aX _ _ ao ao,0,p,ow,co,M,os,pg,n,rfl,S,L,G,?_];let#[h0,hj,hn,Y]:=ly G;generalize n.toNat=j at *;subst Y;let#[v,O,cv]:=lJ U J;obtain⟨a,rfl,N⟩:∃a,v=.ref a/\H a=some (.lst (ns.map V.int)):=by
   cases v with
   |ref a=>show#[a,rfl,cv.2]
   |_=>show Lp cv
  show#[0,p,C,dx,_,0,h1,T.cl,T.nC,qQ _ _,0,co,cs,j,0,rfl,bB.of ab,jI O,a,0,.inl (bB.of N),k]
theorem Ga:aC ["self","n","cells"] ["self","n","cells"] (aw DP):=L2.bD
theorem iX {α G:Type}{F:α->G->Prop}:∀{xs:List α}{ys:List G},Paired F xs ys->xs.length=ys.length
 |_,_,.nil=>rfl
 |_,_,.cons _ t=>by rw[Kf,Kf,iX t]
theorem EF {f C:Addr}{fd:J0}(F:cQ K "put" "Store.put" DP f fd) (T:Txt K mg C) (GG:Md P w K mg base aW 2 C "refuse_free" (fX C)) :
  bh P w K mg base aW 3 f fd ["self","n","cells"] (wq K C):=by
 show F.ok Ga (λvs H Q E h=>?_) (λac A outer s H vs Q E hr h=>?_)
 .let#[p,ow,co,c,M,os,pg,n,ns,rfl,_]:=h;rfl
 .let#[p,ow,co,c,M,os,pg,n,ns,rfl,S,mw,mc,mt,ab,ap,Y,O,hq,k]:=h;let#[#[dx,h1],N,cs,L,U]:=id S;show#[_,ag (aP (pm (pv 0) T.cl GG hr ay (aa (pv 1) ai)))
   (aj (cV (bS dJ (by rfl) T.list eR (aa (pv 2) ai)) (ed (aL (pv 0) rfl) (pv 1) set_list))),?_]
  show#[0,p,dx,0,h1,aX _ _ ao ao,0,p,ow,co,M,os,pg,n,rfl,S,Y,O,?_];let#[h0,hj,hn,en]:=ly O;generalize n.toNat=j at *;subst en;have am:=iX U;show#[0,c,0,.inl hq,λl J=>?_];have G:∀{b:Addr}{o:HO},H b=some o->b≠l:=λe=>aq e J;show#[0,p,C,dx,_,0,by rw[ah (G h1)];show h1,T.cl,T.nC,qQ _ _,0,co,cs,j,j,1,by rw[ah (G L)];show L,3]
  .unfold vS;rw[Qi ae,Qi ae];simp
  .have hM:¬ M l:=λz=>mt l z J;show k _ #[#[dx,by rw[ah (iB h1 L),ah (G h1)];show h1],by rw[ah ab,ah (G N)];show N,#[_,af,gv mc (iY #[hM,af] j (ky J U))]] λb o e hb=>?_;rw[ah (λz=>hb (.inr z)),ah (G e)];show e
theorem Jq:aC ["self","n"] ["self"] (aw Az):=L2.bD
theorem JM (os:List Int):Eg (.int 0) (os.map V.int)=decide ((0:Int)∈os):=by
 unfold Eg;rw[List.any_map,LO,List.any_eq_true,decide_eq_true_iff];constructor
 .rintro⟨x,G,e⟩;have J:x=0:=by
   have:(x==(0:Int))=true:=e;simpa using this
  subst J;show G
 .intro h;show#[(0),h,rfl]
theorem Co {f C:Addr}{fd:J0}(F:cQ K "take" "Store.take" Az f fd) (T:Txt K mg C):bh P w K mg base aW 1 f fd ["self"] (u0 C):=by
 show F.ok Jq (λvs H Q E h=>?_) (λab A outer s H vs Q E hr h=>?_)
 .let#[p,ow,co,M,os,pg,rfl,_]:=h;rfl
 .let#[p,ow,co,M,os,pg,rfl,S,mw,mc,mt,Y,am,hl,k0,k1]:=h;let#[#[dx,h1],J,cs,U,hp]:=id S;let#[u8,m8,r8]:=T.pc;have hs:sizeLine=16777216:=J5;show#[_,ag (aS (aE jA ak (aL (pv 0) rfl) (by with_unfolding_all rfl)) (aj (aF vD)) aG)
   (ag (aK (i:=1) Jq.nd rfl (J6 rfl) (gR KY PySem.F.slot_list_index PySem.F.type_list_index yW (aL (pv 0) rfl) (aa ak ai)))
   (ag (cV ak (ed (aL (pv 0) rfl) (pv 1) set_list))
   (ag (cV (aA mN (cn (aa ak ai)) (cA (by rfl) m8 r8)) (ed (aL (pv 0) rfl) (pv 1) set_list))
   (aj (aF (pv 1)))))),?_]
  show#[0,p,C,dx,_,0,h1,T.cl,T.nO,fM _ _,ow,0,.inl (bB.of J),rfl,fm _,0,?_];change if (!Eg (.int 0) (os.map V.int))=true then _ else _
  rw[JM];by_cases c:(0:Int)∈os
  .rw[decide_eq_true c];show bC ?_;have hj:os.idxOf 0<os.length:=List.idxOf_lt_length_iff.mpr c;have ac:=iX hp;show#[0,p,C,dx,_,0,h1,T.cl,T.nO,fM _ _,.inl #[5,bB.of J],ow,os,(0),1,J,c,?_];have k2:=k1 c;generalize os.idxOf 0=j at *;show#[0,p,C,dx,_,0,h1,T.cl,T.nO,fM _ _,0,ow,_,j,j,1,J,3]
   .unfold vS;rw[DD,Qi ae,Qi ae];simp
   .show#[ar,λl L=>?_];have lw:l≠ow:=λz=>(by rw[z,af]at L;cases L);rw[ah lw]at L;show#[l,(8),0,rfl,af,ae,ae,by rw[KZ];omega,λq G=>?_];have ql:q≠l:=λz=>(by rw[z,af]at G;cases G);rw[ah ql]at G;have qw:q≠ow:=λz=>(by rw[z,af]at G;cases G);rw[ah qw]at G;have O:∀{b:Addr}{o:HO},H b=some o->b≠l:=λe=>aq e L;have N:∀{b:Addr}{o:HO},H b=some o->b≠q:=λe=>aq e G;show#[0,p,C,dx,_,0,by rw[ah (N h1),ah (O h1),ah (iB h1 J)];show h1,T.cl,T.nC,qQ _ _,0,co,cs,j,j,1,by rw[ah (N U),ah (O U),ah (JZ Y)];show U,3]
    .unfold vS;rw[Qi ae,Qi ae];simp
    .show#[0,?_];have hM:¬ M q:=λz=>mt q z G;show k2 _ #[#[dx,by rw[ah (iB h1 U),ah (N h1),ah (O h1),ah (iB h1 J)];show h1],?_,#[_,af,gv mc (iY #[hM,by rw[af];rfl] j (ky (by rw[ah ql,ah qw];show G) (ky (by rw[ah lw];show L) (gv mw hp))))]] λb o e hb=>?_
     .rw[ah Y,ah (N J),ah (O J),af,PY]
     .rw[ah (λz=>hb (.inr z)),ah (N e),ah (O e),ah (λz=>hb (.inl z))];show e
  .rw[decide_eq_false c];show k0 c
theorem Jb:aC ["self","n"] ["self","n"] (aw yu):=L2.bD
theorem Bt {f C:Addr}{fd:J0}(F:cQ K "more" "Store.more" yu f fd) (T:Txt K mg C) (GG:Md P w K mg base aW 2 C "refuse_free" (fX C)) :
  bh P w K mg base aW 3 f fd ["self","n"] (p5 C):=by
 show F.ok Jb (λvs H Q E h=>?_) (λac A outer s H vs Q E hr h=>?_)
 .let#[p,ow,co,M,os,pg,n,rfl,_]:=h;rfl
 .let#[p,ow,co,M,os,pg,n,rfl,S,U,mc,O,N,L,k]:=h;let#[#[dx,h1],G,cs,ab,hp]:=id S;show#[_,ag (aP (pm (pv 0) T.cl GG hr ay (aa (pv 1) ai)))
   (aj (we (aL (pv 0) rfl) (pv 1) (rh) ak DZ set_list)),?_]
  show#[0,p,dx,0,h1,aX _ _ ao ao,0,p,ow,co,M,os,pg,n,rfl,S,N,L,?_];let#[h0,J,hn,en]:=ly L;generalize n.toNat=j at *;subst en;show#[0,p,C,dx,_,0,h1,T.cl,T.nO,fM _ _,0,ow,_,j,.int (os.getD j 0),1,bB.of G,jI (by rw[J3,J4 J];simp[J]),_,0,rfl,ow,_,j,j,1,G,3]
  .unfold vS;rw[DD,Qi ae,Qi ae];simp
  .rw[uf J]at k;show k _ #[#[dx,by rw[ah (iB h1 G)];show h1],?_,#[cs,by rw[ah (JZ O)];show ab,gv U hp]] λb o e Y=>?_
   .rw[af,PY]
   .rw[ah (λz=>Y (.inl z))];show e
theorem Jm:aC ["self"] ["self"] (aw Ad):=L2.bD
theorem BJ {f C:Addr}{fd:J0}(F:cQ K "free" "Store.free" Ad f fd) (T:Txt K mg C):bh P w K mg base aW 1 f fd ["self"] (pB C):=by
 show F.ok Jm (λvs H Q E h=>?_) (λJ A outer s H vs Q E L h=>?_)
 .let#[p,ow,co,M,os,pg,rfl,_]:=h;rfl
 .let#[p,ow,co,M,os,pg,rfl,S,k]:=h;let#[#[dx,h1],G,_]:=id S;show#[_,aj (aF (gR KY PySem.F.slot_list_count PySem.F.type_list_count Av (aL (pv 0) rfl) (aa ak ai))),?_];show#[0,p,C,dx,_,0,h1,T.cl,T.nO,fM _ _,.inl #[5,bB.of G],ow,os,(0),1,G,k]
end
end St
namespace Tb
open PySem L2
noncomputable def top (i:Nat):Ky:=PySem.Challenge.pw_ownroom_k12_copies_apart.main.body.getD i (.Pass #[(0),(0),(0),(0)])
noncomputable abbrev wK:Ky:=top 29
noncomputable abbrev mP:Ky:=inClass (top 30) 0
noncomputable abbrev Ef:Ky:=inClass (top 30) 1
noncomputable abbrev EY:Ky:=inClass (top 30) 2
noncomputable abbrev u6:Ky:=inClass (top 30) 3
noncomputable abbrev vG:Ky:=inClass (top 30) 4
theorem au {H:Hp}{l:Addr}{X:HO}(h:H l=none):bf H (upd H l X):=λb o e=>by rw[ah (aq e h)];show e
noncomputable def Off (B:Addr->Prop) (H H':Hp):Prop:=∀b o,H b=some o->¬ B b->H' b=some o
section
variable {α:Type}
noncomputable def look (l:List (Int×α)) (k:Int):Option α:=(l.find? λx=>decide (x.1=k)).map (·.2)
noncomputable def dk (f:α->V) (l:List (Int×α)):List (Key×V):=l.map λx=>(Sum.inl x.1,f x.2)
noncomputable def aU (l:List (Int×α)) (k:Int) (a:α):List (Int×α):=l.map λx=>if x.1=k then(k,a)else x
noncomputable def bg (l:List (Int×α)) (k:Int):List (Int×α):=l.filter λx=>decide (x.1≠k)
theorem ie (k:Int):look ([]:List (Int×α)) k=none:=rfl
theorem aO (x:Int×α) (l:List (Int×α)) (k:Int):look (x::l) k=if x.1=k then some x.2 else look l k:=by
 unfold look;rw[Mz];by_cases h:x.1=k
 .rw[decide_eq_true h,Qi h];rfl
 .rw[decide_eq_false h,Qh h]
theorem cI (f:α->V) (k:Int):∀l:List (Int×α),dF (dk f l) (Sum.inl k)=(look l k).map f
 | []=>rfl
 |x::l=>by
  have G:=cI f k l;change dF ((Sum.inl x.1,f x.2)::dk f l) (Sum.inl k)=_;rw[aO];by_cases h:x.1=k
  .rw[Qi h,er (by rw[h])];rfl
  .rw[Qh h,ck (λe=>h (Sum.inl.inj e)),G]
theorem ax {l:List (Int×α)}{k:Int}{a:α}(h:look l k=some a):(k,a)∈l:=by
 unfold look at h;let#[x,G,e]:=Option.map_eq_some_iff.mp h;have h1:=List.mem_of_find?_eq_some G;have h2:x.1=k:=(by simpa using List.find?_some G);rw[<-h2, <-e];show h1
theorem cf {l:List (Int×α)}{k:Int}(h:look l k=none):¬ k∈l.map (·.1):=by
 unfold look at h;rw[Option.map_eq_none_iff,List.find?_eq_none]at h;rintro m;let#[x,G,e]:=List.mem_map.mp m;show h x G (decide_eq_true e)
theorem bL {l:List (Int×α)}{k:Int}{a:α}(L:(l.map (·.1)).Nodup) (h:(k,a)∈l):look l k=some a:=by
 induction l with
 |nil=>cases h
 |cons x l G =>
  rw[aO];let#[N,J]:=List.nodup_cons.mp (show(x.1::l.map (·.1)).Nodup from L);rcases List.mem_cons.mp h with e|m
  .rw[<-e,Qi rfl]
  .have:¬ x.1=k:=λe=>N (e▸List.mem_map.mpr #[_,m,rfl]);rw[Qh this];show G J m
theorem DX (f:α->V) (l:List (Int×α)) (k:Int):((dk f l).any λG=>decide (G.1=Sum.inl k))=(look l k).isSome:=by
 rw[jj,cI];cases look l k<;>rfl
theorem cF {f:α->V}{l:List (Int×α)}{k:Int}{a:α}(h:look l k=none):putK (dk f l) (Sum.inl k) (f a)=dk f (l++[(k,a)]):=by
 rw[jV _ (by rw[cI,h];rfl)];unfold dk;rw[Ke];rfl
theorem hJ {f:α->V}{l:List (Int×α)}{k:Int}{a b:α}(h:look l k=some b):putK (dk f l) (Sum.inl k) (f a)=dk f (aU l k a):=by
 unfold putK;rw[Qi (by rw[DX,h];rfl)];unfold dk aU;rw[Lc,Lc];congr 1;funext x;change(if (Sum.inl x.1:Key)=Sum.inl k then((Sum.inl x.1:Key),f a)else(Sum.inl x.1,f x.2))=((Sum.inl (if x.1=k then(k,a)else x).1:Key),f (if x.1=k then(k,a)else x).2);by_cases e:x.1=k
 .rw[Qi (by rw[e]),Qi e,e]
 .rw[Qh (λz=>e (Sum.inl.inj z)),Qh e]
theorem eF (f:α->V) (l:List (Int×α)) (k:Int):mQ (dk f l) (Sum.inl k)=dk f (bg l k):=by
 unfold mQ dk bg;rw[List.filter_map];congr 1;congr 1;funext x;change decide (¬ (Sum.inl x.1:Key)=Sum.inl k)=decide (¬ x.1=k);by_cases e:x.1=k
 .rw[e];simp
 .simp[e]
theorem bE {l:List (Int×α)}{k:Int}{a:α}(j:Int) (h:look l k=none):look (l++[(k,a)]) j=if j=k then some a else look l j:=by
 induction l with
 |nil =>
  change look [(k,a)] j=_;rw[aO,ie];by_cases e:j=k
  .rw[Qi e,Qi e.symm]
  .rw[Qh e,Qh (JZ e)]
 |cons x l J =>
  rw[aO]at h;by_cases e:x.1=k
  .rw[Qi e]at h;cases h
  .rw[Qh e]at h;change look (x::(l++[(k,a)])) j=_;rw[aO,aO,J h];by_cases G:x.1=j
   .rw[Qi G,Qi G,Qh (λz=>e (G.trans z))]
   .rw[Qh G,Qh G]
theorem bM {l:List (Int×α)}{k:Int}{a b:α}(j:Int) (h:look l k=some b):look (aU l k a) j=if j=k then some a else look l j:=by
 induction l with
 |nil=>cases h
 |cons x l J =>
  rw[aO]at h;change look ((if x.1=k then(k,a)else x)::aU l k a) j=_;by_cases e:x.1=k
  .rw[Qi e,aO,aO];by_cases G:j=k
   .rw[Qi G.symm,Qi G]
   .rw[Qh (JZ G),Qh G,Qh (λz=>G (z.symm.trans e))];clear J h
    induction l with
    |nil=>rfl
    |cons y l J =>
     change look ((if y.1=k then(k,a)else y)::aU l k a) j=_;by_cases L:y.1=k
     .rw[Qi L,aO,aO,Qh (JZ G),Qh (λz=>G (z.symm.trans L)),J]
     .rw[Qh L,aO,aO,J]
  .rw[Qh e]at h;rw[Qh e,aO,aO,J h];by_cases G:x.1=j
   .rw[Qi G,Qi G,Qh (λz=>e (G.trans z))]
   .rw[Qh G,Qh G]
theorem cj (l:List (Int×α)) (k j:Int):look (bg l k) j=if j=k then none else look l j:=by
 induction l with
 |nil =>
  change look [] j=if j=k then none else look [] j
  rw[ie];split<;>rfl
 |cons x l J =>
  unfold bg at *;rw[Ls];by_cases e:x.1=k
  .rw[Qh (by simp[e]),J,aO];by_cases G:j=k
   .rw[Qi G,Qi G]
   .rw[Qh G,Qh G,Qh (λz=>G (z.symm.trans e))]
  .rw[Qi (by simp[e]),aO,aO,J];by_cases G:x.1=j
   .rw[Qi G,Qi G,Qh (λz=>e (G.trans z))]
   .rw[Qh G,Qh G]
theorem fB (l:List (Int×α)) (k:Int) (a:α):(aU l k a).map (·.1)=l.map (·.1):=by
 unfold aU;rw[Lc];congr 1;funext x;change(if x.1=k then(k,a)else x).1=x.1;by_cases e:x.1=k
 .rw[Qi e,e]
 .rw[Qh e]
theorem jS (l:List (Int×α)) (k:Int):(bg l k).map (·.1)=(l.map (·.1)).filter λx=>decide (x≠k):=by
 unfold bg;rw[List.filter_map];rfl
theorem gy (l:List (Int×α)) (k:Int) (a:α):(aU l k a).length=l.length:=by unfold aU;rw[DD]
theorem mem_set {l:List (Int×α)}{k:Int}{a:α}{x:Int×α}(h:x∈aU l k a):x=(k,a)\/(x∈l/\x.1≠k):=by
 unfold aU at h;let#[y,G,e]:=List.mem_map.mp h;by_cases c:y.1=k
 .rw[Qi c]at e;show .inl e.symm
 .rw[Qh c]at e;subst e;show .inr #[G,c]
theorem bZ {l:List (Int×α)}{k:Int}{x:Int×α}(h:x∈bg l k):x∈l/\x.1≠k:=by
 unfold bg at h;let#[h1,h2]:=List.mem_filter.mp h;show#[h1,of_decide_eq_true h2]
theorem cE (f:α->V) (l:List (Int×α)):(dk f l).length=l.length:=by unfold dk;rw[DD]
theorem lu {l:List (Int×α)}{k:Int}{a:α}(L:(l.map (·.1)).Nodup) (h:look l k=some a):(bg l k).length+1=l.length:=by
 induction l with
 |nil=>cases h
 |cons x l G =>
  let#[N,J]:=List.nodup_cons.mp (show(x.1::l.map (·.1)).Nodup from L);rw[aO]at h;unfold bg at *;rw[Ls];by_cases e:x.1=k
  .rw[Qh (by simp[e])];have:l.filter (λx=>decide (x.1≠k))=l:=by
    rw[Nj];intro y O;have:y.1≠k:=λz=>N (by rw[e, <-z];show List.mem_map.mpr #[_,O,rfl]);simpa using this
   rw[this,Kf]
  .rw[Qh e]at h;rw[Qi (by simpa using e),Kf,Kf,G J h]
end
noncomputable abbrev tq:=List (Int×(Addr×List V))
noncomputable abbrev jf:=List (Int×(Addr×tq))
noncomputable def fS:Addr×List V->V:=λx=>.ref x.1
noncomputable def fF:Addr×tq->V:=λx=>.ref x.1
noncomputable def zv:V->Bool
 |.int _=>true
 |.str _=>true
 |_=>false
noncomputable def lT (xs:List V):Bool:=xs.all zv&&decide (xs.length<1000)
theorem AQ {xs:List V}(h:lT xs=true):xs.all zv=true:=(N4.mp h).1
theorem BA {xs:List V}(h:lT xs=true):xs.length<1000:=of_decide_eq_true (N4.mp h).2
noncomputable def ju (fs:Addr):List (Str×V):=bo "first_step" (.ref fs) []
theorem km (fs:Addr):(ju fs).lookup ("first_step" : Str)=some (.ref fs):=by
 unfold ju;rw[aD,Qi rfl]
theorem aX (fs:Addr) {m:Str}(h:¬ m = "first_step"):(ju fs).lookup m=none:=by
 unfold ju;rw[aD,Qh h]
 all_goals rfl
structure gJ (H:Hp) (k:Int) (sec:tq):Prop where
 ht:∀y∈sec,H y.2.1=some (.tup y.2.2)/\lT y.2.2=true/\y.1/8=k/\0<=y.1/\y.1<64
 ns:(sec.map (·.1)).Nodup
 ne:sec≠[]
structure TabAt (C:Addr) (H:Hp) (p fs:Addr) (tb:jf):Prop where
 ob:∃dx,H p=some (.ins C dx (ju fs))
 hf:H fs=some (.dK (dk fF tb))
 hd:∀x∈tb,H x.2.1=some (.dK (dk fS x.2.2))
 hs:∀x∈tb,gJ H x.1 x.2.2
 nk:(tb.map (·.1)).Nodup
 na:∀x∈tb,∀y∈tb,x.2.1=y.2.1->x.1=y.1
 nf:∀x∈tb,x.2.1≠fs
noncomputable def cY (tb:jf) (q:Int):Option (List V):=(look tb (q/8)).bind λx=>(look x.2 q).map (·.2)
noncomputable def eK (fs:Addr) (tb:jf):Addr->Prop:=λb=>b=fs\/∃x∈tb,b=x.2.1
theorem gJ.keep {H H':Hp}{k:Int}{G:tq}(S:gJ H k G) (h:∀b xs,H b=some (.tup xs)->H' b=some (.tup xs)):gJ H' k G :=
 #[λy J=>#[h _ _ (S.ht y J).1,(S.ht y J).2],S.ns,S.ne]
theorem TabAt.same {C:Addr}{H H':Hp}{p fs:Addr}{tb:jf}(T:TabAt C H p fs tb) (s:bf H H'):TabAt C H' p fs tb:=by
 let#[#[dx,h1],h2,U,O,N,L,J]:=T;show#[#[dx,s _ _ h1],s _ _ h2,λx G=>s _ _ (U x G),λx G=>(O x G).keep λb xs e=>s _ _ e,N,L,J]
theorem TabAt.put {C:Addr}{H H':Hp}{p fs d:Addr}{tb:jf}{k:Int}{J sec':tq}(T:TabAt C H p fs tb) (L:look tb k=some (d,J)) (o:Off (· = d) H H') (hd:H' d=some (.dK (dk fS sec'))) (S:gJ H' k sec'):TabAt C H' p fs (aU tb k (d,sec')):=by
 let#[#[dx,h1],h2,h3,h4,h5,h6,U]:=T;have O:=ax L;have ab:=h3 _ O;have Y:∀x∈tb,x.1≠k->x.2.1≠d:=λx G hk e=>hk (h6 x G _ O e);have same:dk fF (aU tb k (d,sec'))=dk fF tb:=by
  have e:=hJ (f:=fF) (a:=(d,sec')) L;rw[<-e];have e2:=hJ (f:=fF) (a:=(d,J)) L;have e3:fF (d,sec')=fF (d,J):=rfl;rw[e3,e2];unfold dk aU;rw[Lc];show Lx λx G=>?_;change((Sum.inl (if x.1=k then(k,(d,J))else x).1:Key),fF (if x.1=k then(k,(d,J))else x).2)=(Sum.inl x.1,fF x.2);by_cases c:x.1=k
  .rw[Qi c,c];have:look tb k=some x.2:=bL h5 (by rw[<-c];show G);rw[L]at this;rw[<-Option.some.inj this]
  .rw[Qh c]
 show#[#[dx,o _ _ h1 (cH h1 ab (by intro z;cases z))],by rw[same];show o _ _ h2 (JZ (U _ O)),λx G=>?_,λx G=>?_,by rw[fB];show h5,λx G y N e=>?_,λx G=>?_]
 .rcases mem_set G with rfl|⟨G,c⟩
  .show hd
  .show o _ _ (h3 x G) (Y x G c)
 .rcases mem_set G with rfl|⟨G,c⟩
  .show S
  .show(h4 x G).keep λb xs e=>o _ _ e (cH e ab (by intro z;cases z))
 .rcases mem_set G with rfl|⟨G,c⟩<;>rcases mem_set N with rfl|⟨N,c'⟩
  .rfl
  .show absurd e.symm (Y y N c')
  .show absurd e (Y x G c)
  .show h6 x G y N e
 .rcases mem_set G with rfl|⟨G,c⟩
  .show(U _ O:d≠fs)
  .show U x G
theorem TabAt.add {C:Addr}{H H':Hp}{p fs d:Addr}{tb:jf}{k:Int}{sec':tq}(T:TabAt C H p fs tb) (Y:look tb k=none) (L:H d=none) (o:Off (· = fs) H H') (hf:H' fs=some (.dK (dk fF (tb++[(k,(d,sec'))])))) (hd:H' d=some (.dK (dk fS sec'))) (S:gJ H' k sec') :
  TabAt C H' p fs (tb++[(k,(d,sec'))]):=by
 let#[#[dx,h1],h2,U,h4,h5,h6,N]:=T;have O:∀x∈tb,x.2.1≠d:=λx G=>aq (U x G) L;have ab:d≠fs:=λe=>(by rw[e,h2]at L;cases L);show#[#[dx,o _ _ h1 (cH h1 h2 (by intro z;cases z))],hf,λx G=>?_,λx G=>?_,?_,λx G y J e=>?_,λx G=>?_]
 .rcases List.mem_append.mp G with G|G
  .show o _ _ (U x G) (N x G)
  .rw[List.mem_singleton.mp G];show hd
 .rcases List.mem_append.mp G with G|G
  .show(h4 x G).keep λb xs e=>o _ _ e (cH e h2 (by intro z;cases z))
  .rw[List.mem_singleton.mp G];show S
 .rw[Ke];show fG h5 (cf Y)
 .rcases List.mem_append.mp G with G|G<;>rcases List.mem_append.mp J with J|J
  .show h6 x G y J e
  .rw[List.mem_singleton.mp J]at e;show absurd e (O x G)
  .rw[List.mem_singleton.mp G]at e;show absurd e.symm (O y J)
  .rw[List.mem_singleton.mp G,List.mem_singleton.mp J]
 .rcases List.mem_append.mp G with G|G
  .show N x G
  .rw[List.mem_singleton.mp G];show ab
theorem TabAt.del {C:Addr}{H H':Hp}{p fs d:Addr}{tb:jf}{k:Int}{ab:tq}(T:TabAt C H p fs tb) (Y:look tb k=some (d,ab)) (o:Off (λb=>b=d\/b=fs) H H') (hf:H' fs=some (.dK (dk fF (bg tb k)))):TabAt C H' p fs (bg tb k):=by
 let#[#[dx,h1],h2,J,h4,h5,N,L]:=T;have U:=ax Y;have O:=J _ U;show#[#[dx,o _ _ h1 λz=>z.elim (cH h1 O (by intro z;cases z)) (cH h1 h2 (by intro z;cases z))],hf,λx G=>?_,λx G=>?_,?_,λx G y hy e=>N x (bZ G).1 y (bZ hy).1 e,λx G=>L x (bZ G).1]
 .let#[G,c]:=bZ G;show o _ _ (J x G) λz=>z.elim (λe=>c (N x G _ U e)) (L x G)
 .let#[G,c]:=bZ G;show(h4 x G).keep λb xs e=>o _ _ e λz=>z.elim (cH e O (by intro z;cases z)) (cH e h2 (by intro z;cases z))
 .rw[jS];show h5.filter _
theorem AM:∀(n:Nat) (a:Int) (l:List Int),l.Nodup->(∀x∈l,a<=x/\x<a+n)->l.length<=n
 |0,a,l,_,h=>by
  cases l with
  |nil=>show J1 _
  |cons x r=>have:=h x Kv;omega
 |n+1,a,l,G,h=>by
  have J:=AM n a (l.filter λx=>decide (x≠a+n)) (G.filter _) λx U=>by
   let#[h1,h2]:=List.mem_filter.mp U;have h3:=h x h1;have h4:x≠a+n:=of_decide_eq_true h2;omega
  have e:(l.filter λx=>decide (x≠a+n)).length+1>=l.length:=by
   clear J h
   induction l with
   |nil=>simp
   |cons x r O =>
    let#[Y,L]:=List.nodup_cons.mp G;rw[Ls];by_cases c:x=a+n
    .rw[Qh (by simp[c])];have:r.filter (λx=>decide (x≠a+n))=r:=by
      rw[Nj];intro y N;have:y≠a+n:=λe=>Y (by rw[c, <-e];show N);simpa using this
     rw[this];simp
    .rw[Qi (by simpa using c)];have:=O L;rw[Kf,Kf];omega
  omega
theorem gJ.len {H:Hp}{k:Int}{G:tq}(S:gJ H k G):G.length<=64:=by
 have:=AM 64 0 (G.map (·.1)) S.ns λx J=>by
  let#[y,L,rfl]:=List.mem_map.mp J;have:=S.ht y L;omega
 rwa [DD]at this
theorem TabAt.kb {C:Addr}{H:Hp}{p fs:Addr}{tb:jf}(T:TabAt C H p fs tb):∀x∈tb,0<=x.1/\x.1<8:=λx G=>by
 have S:=T.hs x G;cases e:x.2.2 with
 |nil=>show absurd e S.ne
 |cons y r =>
  have:=S.ht y (by rw[e];show Kv);omega
theorem TabAt.len {C:Addr}{H:Hp}{p fs:Addr}{tb:jf}(T:TabAt C H p fs tb):tb.length<=8:=by
 have:=AM 8 0 (tb.map (·.1)) T.nk λx G=>by
  let#[y,J,rfl]:=List.mem_map.mp G;have:=T.kb y J;omega
 rwa [DD]at this
theorem TabAt.vZ {C:Addr}{H:Hp}{p fs:Addr}{tb:jf}(T:TabAt C H p fs tb) {q:Int}(h:cY tb q≠none):0<=q/\q<64:=by
 unfold cY at h;cases e:look tb (q/8)with
 |none=>rw[e]at h;show absurd rfl h
 |some a =>
  rw[e,Mi]at h;cases G:look a.2 q with
  |none=>rw[G]at h;show absurd rfl h
  |some b =>
   have:=(T.hs _ (ax e)).ht _ (ax G);omega
end Tb
namespace L2
open PySem PySem.Spec PyProof.Rows
section
variable {X:Cx}
theorem oT {α G:Type}(f:α->G):∀(l:List α) (i:Nat),(l.map f).eraseIdx i=(l.eraseIdx i).map f
 | [],_=>rfl
 |_::_,0=>rfl
 |a::l,i+1=>by
  change f a::(l.map f).eraseIdx i=f a::(l.eraseIdx i).map f;rw[oT f l i]
inductive vQ (x:V) (vs:List V) (H:Hp) (Q:VK):Prop
 |mk (l:Addr) (ns:List Int) (k:Int) (_:x=.ref l) (_:vs=[.int k]) (_:H l=some (.lst (ns.map V.int))) (_:k∈ns) (_:Q .non (upd H l (.lst ((ns.erase k).map V.int)))):vQ x vs H Q
theorem oU:Ey X "list.remove" vQ:=by
 intro pins s σ H x vs v us Q I U rv h;let#[l,ns,k,rfl,rfl,N,L,q]:=h;cases U;let#[u,rfl,ru]:=rv.one;let#[t,rfl]:=ru;let#[z,its,n,r,J,e]:=I.mJ N;have hi:=intsAre_of r;have ab:=hi.length;have ac:=J;rw[DD]at J z;have hs:sizeLine=16777216:=J5;have G:ns.idxOf k<ns.length:=List.idxOf_lt_length_iff.mpr L;show Mc NF #[_,e,rfl] PySem.F.entry_list_remove (PySem.F.args_list_remove_2 _ _)
  (MeetsSeq.list_remove l its.toArray n (.int k t) (Qc k) (λy hy=>eq_isInt k t hi y (by simpa using hy)) (ns.idxOf k) (by simpa[ab]using G) ?_ ?_ (by rw[IF];omega)) #[e,?_]
 .change Qc k its[ns.idxOf k]=true;rw[Pp k hi _ ae G];simpa using List.getElem_idxOf G
 .intro j O Y;change Qc k its[j]=false;rw[Pp k hi j (by simpa using O) ae];show ne_of_lt_idxOf Y _
 .show#[.non,_,I.BS (its':=its.eraseIdx (ns.idxOf k)) N e ?_ ?_ ?_,?_,q]
  .change its.toArray.eraseIdxIfInBounds _=(its.eraseIdx _).toArray;rw[List.eraseIdxIfInBounds_toArray]
  .rw[List.erase_eq_eraseIdx_of_idxOf rfl, <-oT];show r.eraseIdx _
  .rw[DD];have:=List.length_erase_of_mem L;omega
  .trivial
end
noncomputable def ja (K:PySem.W.Frag) (H:Hp) (a:Addr) (xs:List V):Prop:=H a=some (.tup xs)\/cg K (λ_=>none) a xs
theorem ja.sq {K:PySem.W.Frag}{H:Hp}{a:Addr}{xs:List V}(h:ja K H a xs):cg K H a xs:=by
 rcases h with h|h
 .show cg.of h
 .rcases h with h|h
  .rcases h with h|⟨o,h⟩
   .cases h
   .cases h
  .show .inr h
theorem ja.keep {K:PySem.W.Frag}{H H':Hp}{a:Addr}{xs:List V}(h:ja K H a xs) (s:∀o,H a=some o->H' a=some o):ja K H' a xs:=by
 rcases h with h|h
 .show .inl (s _ h)
 .show .inr h
theorem ja.off {K:PySem.W.Frag}{H H':Hp}{a:Addr}{xs:List V}(h:ja K H a xs) (s:H a=some (.tup xs)->H' a=some (.tup xs)):ja K H' a xs:=by
 rcases h with h|h
 .show .inl (s h)
 .show .inr h
theorem xZ {X:Cx}:di X (.builtin "isinstance") (λxs H Q=>(∃x n t b,xs=[x,.ty n]/\jH X.K H x t/\Mb X.K t (.type n)=some b/\Q (.bl b) H)\/∃a ys,xs=[.ref a,.ty "tuple"]/\cg X.K H a ys/\Q (.bl true) H):=by
 intro pins s σ H xs us Q I r h;rcases h with h|⟨a,ys,rfl,L,q⟩
 .show dG pins s σ H xs us Q I r h
 .let#[u,c,rfl,G,J]:=vals2 r;obtain rfl:c=Value.type "tuple" := J;cases(show u=Value.ref a from G);let#[its,_,#[o,h1,h2,_],_]:=I.tuple L;show Mn kitx_tuple I.kj #[o,h1,h2] (Ez _) (λz=>nomatch z) λtk=>#[.bl true,H,I.tok _,rfl,q]
end L2
namespace Tb
open PySem L2
structure yL (mg:Str->Option Value):Prop where
 AN:mg "isinstance" = none
 tuple:mg "tuple" = none
 list:mg "list" = none
 dict:mg "dict" = none
 len:mg "len" = none
 sorted:mg "sorted" = none
noncomputable def zy:V->Bool
 |.int _=>true
 |.str _=>true
 |.non=>true
 |_=>false
inductive pM (vs:List V) (H:Hp) (Q:VK) (e3:XK):Prop
 |mk (v:_) (_:vs=[v]) (_:zy v=true) (_:Q v H):pM vs H Q e3
noncomputable def uS (K:PySem.W.Frag):Sp:=λvs H Q _=>(∃v,vs=[v]/\zy v=true/\Q v H)\/∃(a:Addr) (xs:List V),vs=[.ref a]/\ja K H a xs/\lT xs=true/\∀H' l,bf H H'->H l=none->H' l=some (.tup xs)->Q (.ref l) H'
theorem AZ:∀{v:V},zv v=true->zy v=true
 |.int _,_=>rfl
 |.str _,_=>rfl
section
variable {P:J2}{w:Kd}{K:PySem.W.Frag}{mg:Str->Option Value}{base:Heap}
theorem HD:aC ["value","copied","key"] ["value"] (aw wK):=L2.bD
theorem yO {f:Addr}{fd:J0}(F:cQ K "own_copy" "own_copy" wK f fd) (T:yL mg):bh P w K mg base aW 1 f fd ["value"] pM:=by
 show F.ok HD (λvs H Q E h=>?_) (λJ A outer s H vs Q E L h=>?_)
 .let#[v,rfl,_]:=h;rfl
 .let#[v,rfl,G,k]:=h;show#[_,(ag (aS (eM (aN dG (by rfl) T.AN bW (aa (pv 0) (aa (eS (v:=.ty "tuple") (by rfl) T.tuple mS rfl) ai)))) (aj dR) aG)
   (ag (aS (eM (aN dG (by rfl) T.AN bW (aa (pv 0) (aa (eS (v:=.ty "list") (by rfl) T.list eR rfl) ai)))) (aj dR) aG)
   (ag (aS (eM (aN dG (by rfl) T.AN bW (aa (pv 0) (aa (eS (v:=.ty "dict") (by rfl) T.dict qg rfl) ai)))) (ag dR
   (ag dR
   (aj dR))) aG)
   (aj (aF (pv 0)))))),?_]
  cases v with
  |int i=>show#[0,.int i,"tuple",_,false,rfl,.int i,AB _,false,rfl,bC #[0,.int i,"list",_,false,rfl,.int i,zR _,false,rfl,bC #[0,.int i,"dict",_,false,rfl,.int i,yo _,false,rfl,bC #[0,k]]]]
  |str i=>show#[0,.str i,"tuple",_,false,rfl,.str i,yF _,false,rfl,bC #[0,.str i,"list",_,false,rfl,.str i,zT _,false,rfl,bC #[0,.str i,"dict",_,false,rfl,.str i,Aw _,false,rfl,bC #[0,k]]]]
  |non=>show#[0,.non,"tuple",_,false,rfl,.non,zH _,false,rfl,bC #[0,.non,"list",_,false,rfl,.non,Aq _,false,rfl,bC #[0,.non,"dict",_,false,rfl,.non,y7 _,false,rfl,bC #[0,k]]]]
  |_=>cases G
theorem BX {f:Addr}{fd:J0}(F:cQ K "own_copy" "own_copy" wK f fd) (T:yL mg) (G0:Df P w K mg base aW 1 "own_copy" pM):bh P w K mg base aW 2 f fd ["value"] (uS K):=by
 show F.ok HD (λvs H Q E h=>?_) (λap A outer s H vs Q E hr h=>?_)
 .rcases h with⟨v,rfl,_⟩|⟨a,xs,rfl,_⟩
  .rfl
  .rfl
 .show#[_,(ag (aS (eM (aN xZ (by rfl) T.AN bW (aa (pv 0) (aa (eS (v:=.ty "tuple") (by rfl) T.tuple mS rfl) ai)))) (aj (aF (bS nE (by rfl) T.tuple mS (aa (fJ (cl:=[]) (caps:=[]) #[rfl,ao,ao,rfl,by kernel_rfl,by intro p N;simp at N,by kernel_rfl,by intro p N;simp at N,ao] rfl (DS (pv 0)) (λ_ _ _ _=>eY) (λ_ _ _ _=>(pc G0 hr ay (aa (pv 0) ai)))) ai)))) aG)
   (ag (aS (eM (aN dG (by rfl) T.AN bW (aa (pv 0) (aa (eS (v:=.ty "list") (by rfl) T.list eR rfl) ai)))) (aj dR) aG)
   (ag (aS (eM (aN dG (by rfl) T.AN bW (aa (pv 0) (aa (eS (v:=.ty "dict") (by rfl) T.dict qg rfl) ai)))) (ag dR
   (ag dR
   (aj dR))) aG)
   (aj (aF (pv 0)))))),?_]
  rcases h with⟨v,rfl,hv,k⟩|⟨a,xs,rfl,J,O,k⟩
  .cases v with
   |int i=>show#[0,.inl #[.int i,"tuple",_,false,rfl,.int i,AB _,false,rfl,bC #[0,.int i,"list",_,false,rfl,.int i,zR _,false,rfl,bC #[0,.int i,"dict",_,false,rfl,.int i,yo _,false,rfl,bC #[0,k]]]]]
   |str i=>show#[0,.inl #[.str i,"tuple",_,false,rfl,.str i,yF _,false,rfl,bC #[0,.str i,"list",_,false,rfl,.str i,zT _,false,rfl,bC #[0,.str i,"dict",_,false,rfl,.str i,Aw _,false,rfl,bC #[0,k]]]]]
   |non=>show#[0,.inl #[.non,"tuple",_,false,rfl,.non,zH _,false,rfl,bC #[0,.non,"list",_,false,rfl,.non,Aq _,false,rfl,bC #[0,.non,"dict",_,false,rfl,.non,y7 _,false,rfl,bC #[0,k]]]]]
   |_=>cases hv
  .have hs:sizeLine=16777216:=J5;have hx:=AQ O;have hn:=BA O;show#[0,.inr #[a,xs,rfl,J.sq,true,rfl,dZ ?_]];show#[0,a,rfl,#[xs,J.sq],?_];show xU (xs:=xs) (λi ys H'=>H'=H/\ys=xs.take i) #[1] (λi ys H' _ p=>by rw[p.1];show J.sq) (λi x ys H' hi p=>?_) (λys H' p l U=>?_)
   .let#[rfl,rfl]:=p;let#[ab,am]:=List.getElem?_eq_some_iff.mp hi;show#[0,x,rfl,AZ (List.all_eq_true.mp hx x (am▸La ab)),?_,4]
    .rw[Kg];omega
    .rw[List.take_succ,hi];rfl
   .let#[rfl,rfl]:=p;rw[Lk];show#[l,xs,rfl,.inl #[bB.of af,λL G=>?_]];have Y:L≠l:=λz=>(by rw[z,af]at G;cases G);have ac:H' L=none:=(by rw[ah Y]at G;show G);show k _ L ((au U).trans (au G)) ac af
end
structure Txt (K:PySem.W.Frag) (mg:Str->Option Value) (C:Addr):Prop where
 cl:qX K C
 nF:cW K C "first_step"
 sp:∃u,mg "STEP_PAGES" = some u/\RelV (.int 8) u
noncomputable def Fi (H:Hp) (v:V):Option (List V)->Prop
 |none=>v=.non
 |some xs=>∃t,v=.ref t/\H t=some (.tup xs)
inductive gX (C:Addr) (vs:List V) (H:Hp) (Q:VK) (e3:XK):Prop
 |mk (p dx:Addr) (_:vs=[.ref p]) (_:H p=some (.ins C dx [])) (_:∀(fs:Addr) (H':Hp),H fs=none->TabAt C H' p fs []->Off (· = p) H H'->Q .non H'):gX C vs H Q e3
inductive oj (C:Addr) (vs:List V) (H:Hp) (Q:VK) (e3:XK):Prop
 |mk (p fs:Addr) (tb:jf) (q:Int) (_:vs=[.ref p,.int q]) (_:TabAt C H p fs tb) (_:∀H' v,bf H H'->Fi H' v (cY tb q)->Q v H'):oj C vs H Q e3
inductive rQ (K:PySem.W.Frag) (C:Addr) (vs:List V) (H:Hp) (Q:VK) (e3:XK):Prop
 |mk (p fs t:Addr) (tb:jf) (q:Int) (xs:List V) (_:vs=[.ref p,.int q,.ref t]) (_:TabAt C H p fs tb) (_:0<=q) (_:q<64) (_:ja K H t xs) (_:lT xs=true) (_:∀H' tb',TabAt C H' p fs tb'->(∀j,cY tb' j=if j=q then some xs else cY tb j)->Off (eK fs tb) H H'->(∀b,eK fs tb' b->eK fs tb b\/H b=none)->Q .non H'):rQ K C vs H Q e3
inductive oX (C:Addr) (vs:List V) (H:Hp) (Q:VK) (e3:XK):Prop
 |mk (p fs:Addr) (tb:jf) (q:Int) (_:vs=[.ref p,.int q]) (_:TabAt C H p fs tb) (_:∀H' tb',TabAt C H' p fs tb'->(∀j,cY tb' j=if j=q then none else cY tb j)->(tb'.length=tb.length\/tb'.length+1=tb.length)->Off (eK fs tb) H H'->(∀b,eK fs tb' b->eK fs tb b\/H b=none)->Q .non H'):oX C vs H Q e3
noncomputable def fP (tb:jf):List Int:=tb.flatMap λx=>x.2.2.map (·.1)
inductive eV (C:Addr) (vs:List V) (H:Hp) (Q:VK) (e3:XK):Prop
 |mk (p fs:Addr) (tb:jf) (_:vs=[.ref p]) (_:TabAt C H p fs tb) (_:∀H' l (ns:List Int),bf H H'->H l=none->H' l=some (.lst (ns.map V.int))->ns.Perm (fP tb)->ns.Pairwise (· <= ·)->Q (.ref l) H'):eV C vs H Q e3
theorem rJ {C:Addr}{H:Hp}{p fs:Addr}{tb:jf}(T:TabAt C H p fs tb) (q:Int):q∈fP tb↔cY tb q≠none:=by
 unfold fP;rw[List.mem_flatMap];constructor
 .rintro⟨x,L,N⟩;let#[y,G,rfl]:=List.mem_map.mp N;have S:=T.hs x L;unfold cY;rw[(S.ht y G).2.2.1,bL T.nk L,Mi,bL S.ns G];simp
 .intro h;unfold cY at h;cases e:look tb (q/8)with
  |none=>rw[e]at h;show absurd rfl h
  |some a =>
   rw[e,Mi]at h;cases J:look a.2 q with
   |none=>rw[J]at h;show absurd rfl h
   |some b=>show#[_,ax e,List.mem_map.mpr #[_,ax J,rfl]]
theorem jB {C:Addr}{H:Hp}{p fs:Addr}{tb:jf}(T:TabAt C H p fs tb):(fP tb).Nodup:=by
 have hs:=T.hs;have hk:=T.nk;clear T
 induction tb with
 |nil=>show Lz
 |cons x r O =>
  let#[n1,U]:=List.nodup_cons.mp (show(x.1::r.map (·.1)).Nodup from hk);change(x.2.2.map (·.1)++fP r).Nodup;rw[List.nodup_append];show#[(hs x Kv).ns,O (λy J=>hs y (Kp _ J)) U,λa ha b G e=>n1 ?_];let#[y,J,rfl]:=List.mem_map.mp ha;let#[z,N,G]:=List.mem_flatMap.mp G;let#[L,Y,rfl]:=List.mem_map.mp G;have a1:=((hs x Kv).ht y J).2.2.1;have a2:=((hs z (Kp _ N)).ht L Y).2.2.1;have e':y.1=L.1:=e;rw[<-a1,e',a2];show List.mem_map.mpr #[z,N,rfl]
theorem qY {C:Addr}{H:Hp}{p fs:Addr}{tb:jf}(T:TabAt C H p fs tb) (i:Nat):(fP (tb.take i)).length<=64:=by
 have h1:(fP tb).length<=64:=AM 64 0 (fP tb) (jB T) λx G=>by
  have:=T.vZ ((rJ T x).mp G);omega
 have h2:(fP (tb.take i)).length<=(fP tb).length:=by
  conv=>rhs;rw[<-K0 i tb]
  unfold fP;rw[List.flatMap_append,J9];omega
 omega
theorem rf {tb:jf}{q:Int}{d:Addr}{G:tq}(h:look tb (q/8)=some (d,G)):cY tb q=(look G q).map (·.2):=by
 unfold cY;rw[h,Mi]
theorem sZ {tb:jf}{q:Int}(h:look tb (q/8)=none):cY tb q=none:=by
 unfold cY;rw[h];rfl
theorem nJ {tb:jf}{k q:Int}{d:Addr}{J sec':tq}{o:Option (Addr×List V)}(G:look tb k=some (d,J)) (L:q/8=k) (h:∀j,look sec' j=if j=q then o else look J j) (j:Int) :
  cY (aU tb k (d,sec')) j=if j=q then o.map (·.2)else cY tb j:=by
 unfold cY;rw[bM (j/8) G];by_cases c:j/8=k
 .rw[Qi c,Mi,h j,c,G,Mi];by_cases e:j=q
  .rw[Qi e,Qi e]
  .rw[Qh e,Qh e]
 .rw[Qh c,Qh (λe=>c (by rw[e];show L))]
theorem xn {tb:jf}{k q:Int}{d:Addr}{sec':tq}{o:Option (Addr×List V)}(G:look tb k=none) (J:q/8=k) (h:∀j,look sec' j=if j=q then o else none) (j:Int) :
  cY (tb++[(k,(d,sec'))]) j=if j=q then o.map (·.2)else cY tb j:=by
 unfold cY;rw[bE (j/8) G];by_cases c:j/8=k
 .rw[Qi c,Mi,h j,c,G];by_cases e:j=q
  .rw[Qi e,Qi e]
  .rw[Qh e,Qh e];rfl
 .rw[Qh c,Qh (λe=>c (by rw[e];show J))]
theorem xD {tb:jf}{k q:Int}{d:Addr}{G:tq}(L:look tb k=some (d,G)) (J:q/8=k) (h:∀j,j≠q->look G j=none) (j:Int) :
  cY (bg tb k) j=if j=q then none else cY tb j:=by
 unfold cY;rw[cj];by_cases c:j/8=k
 .rw[Qi c,c,L];by_cases e:j=q
  .rw[Qi e];rfl
  .rw[Qh e,Mi,h j e];rfl
 .rw[Qh c,Qh (λe=>c (by rw[e];show J))]
theorem AR {H:Hp}{k q:Int}{J:tq}{l:Addr}{xs:List V}(S:gJ H k J) (L:H l=some (.tup xs)) (U:lT xs=true) (N:q/8=k) (O:0<=q) (h1:q<64) :
  ∃sec',putK (dk fS J) (Sum.inl q) (.ref l)=dk fS sec'/\(∀j,look sec' j=if j=q then some (l,xs)else look J j)/\gJ H k sec':=by
 cases e:look J q with
 |none =>
  show#[J++[(q,(l,xs))],cF (f:=fS) (a:=(l,xs)) e,λj=>bE j e,λy G=>?_,?_,by simp]
  .rcases List.mem_append.mp G with G|G
   .show S.ht y G
   .rw[List.mem_singleton.mp G];show#[L,U,N,O,h1]
  .rw[Ke];show fG S.ns (cf e)
 |some b =>
  show#[aU J q (l,xs),hJ (f:=fS) (a:=(l,xs)) e,λj=>bM j e,λy G=>?_,3]
  .rcases mem_set G with rfl|⟨G,_⟩
   .show#[L,U,N,O,h1]
   .show S.ht y G
  .rw[fB];show S.ns
  .intro z;have:=gy J q (l,xs);rw[z]at this;show S.ne (List.length_eq_zero_iff.mp this.symm)
theorem hV {B:Addr->Prop}{H H' G:Hp}(s:bf H H') (o:Off B H' G):Off B H G:=λb u e J=>o b u (s b u e) J
theorem pL {B:Addr->Prop}{H:Hp}{a:Addr}{X:HO}(h:B a):Off B H (upd H a X):=λb u e G=>by rw[ah (λz=>G (by rw[z];show h))];show e
theorem Off.mono {B G:Addr->Prop}{H H':Hp}(o:Off B H H') (h:∀b,B b->G b):Off G H H':=λb u e J=>o b u e λz=>J (h b z)
theorem Dr {C:Addr}{H:Hp}{p fs:Addr}{tb:jf}(T:TabAt C H p fs tb):(dk fF tb).length<sizeLine:=by
 have h:=T.len;have hs:sizeLine=16777216:=J5;rw[cE];omega
theorem D5 {H:Hp}{k:Int}{G:tq}(S:gJ H k G):(dk fS G).length<sizeLine:=by
 have h:=S.len;have hs:sizeLine=16777216:=J5;rw[cE];omega
theorem vO {fs d:Addr}{tb:jf}{k:Int}{L sec':tq}(J:(k,(d,L))∈tb) {b:Addr}(h:eK fs (aU tb k (d,sec')) b):eK fs tb b:=by
 rcases h with h|⟨x,G,h⟩
 .show .inl h
 .rcases mem_set G with rfl|⟨G,_⟩
  .show .inr #[_,J,h]
  .show .inr #[x,G,h]
theorem Bm {fs:Addr}{tb:jf}{k:Int}{b:Addr}(h:eK fs (bg tb k) b):eK fs tb b:=by
 rcases h with h|⟨x,G,h⟩
 .show .inl h
 .show .inr #[x,(bZ G).1,h]
theorem j6 (tb:jf) (k:Int):dF (dk fF tb) (Sum.inl k)=(look tb k).map fF:=cI fF k tb
theorem ue (G:tq) (k:Int):dF (dk fS G) (Sum.inl k)=(look G k).map fS:=cI fS k G
section
variable {P:J2}{w:Kd}{K:PySem.W.Frag}{mg:Str->Option Value}{base:Heap}
theorem Jg:aC ["self"] ["self"] (aw mP):=L2.bD
theorem qd {f C:Addr}{fd:J0}(F:cQ K "__init__" "Table.__init__" mP f fd) (T:Txt K mg C):bh P w K mg base aW 1 f fd ["self"] (gX C):=by
 show F.ok Jg (λvs H Q E h=>?_) (λO A outer s H vs Q E U h=>?_)
 .let#[p,dx,rfl,_]:=h;rfl
 .let#[p,dx,rfl,L,k]:=h;show#[_,(aj (fC (pv 0) dg rfl)),?_];intro fs J;have np:p≠fs:=aq L J;show#[0,p,C,dx,[],rfl,by rw[ah np];show L,T.cl,T.nF,ar,?_];show k fs _ J #[#[dx,by rw[af];rfl],by rw[ah (JZ np),af];rfl,λx G=>(Kb G).elim,λx G=>(Kb G).elim,.nil,λx G=>(Kb G).elim,λx G=>(Kb G).elim] λb u e N=>?_;rw[ah N,ah (aq e J)];show e
theorem Js:aC ["self","page","second"] ["self","page"] (aw Ef):=L2.bD
theorem El {f C:Addr}{fd:J0}(F:cQ K "get" "Table.get" Ef f fd) (T:Txt K mg C) (GC:Df P w K mg base aW 2 "own_copy" (uS K)):bh P w K mg base aW 3 f fd ["self","page"] (oj C):=by
 let#[u8,m8,r8]:=T.sp;show F.ok Js (λvs H Q E h=>?_) (λac A outer s H vs Q E N h=>?_)
 .let#[p,fs,tb,q,rfl,_]:=h;rfl
 .let#[p,fs,tb,q,rfl,TT,k]:=h;let#[dx,h1]:=TT.ob;show#[_,(ag (aK (i:=2) Js.nd rfl (J6 rfl) (rO (aZ N) (aL (pv 0) rfl) (aA bH (pv 1) (cA (by rfl) m8 r8)) dg #[1,1]))
   (aj (aF (pc GC N ay (aa (Au (aZ N) (pv 2) (pv 1) #[1,1]) ai))))),?_]
  show#[0,p,C,dx,_,.ref fs,rfl,h1,T.cl,T.nF,km fs,fs,rfl,.inl #[_,.inl TT.hf],0,_,0,rfl,#[ar,ar],λe Y=>?_];have G:=au (X:=.dK []) Y;have L:=TT.same G;show#[_,du.k (k:=.inl (q/8)) L.hf,?_];rw[j6];cases c:look tb (q/8)with
  |none =>
   show#[0,e,rfl,.inl #[_,.inl af],0,_,du.k (k:=.inl q) af,.inl #[.non,1,k _ _ G ?_]];rw[sZ c];rfl
  |some a =>
   let#[d,ab]:=a;have O:=ax c;have hd:=L.hd _ O;show#[0,d,rfl,.inl #[_,.inl hd],0,_,du.k (k:=.inl q) hd,?_];rw[ue];have le:=rf c;cases J:look ab q with
   |none =>
    show .inl #[.non,1,k _ _ G ?_];rw[le,J];rfl
   |some b =>
    let#[t,xs]:=b;have hs:=(L.hs _ O).ht _ (ax J);show .inr #[t,xs,rfl,.inl hs.1,hs.2.1,λH' l s' am U=>k _ _ (G.trans s') ?_];rw[le,J];show#[l,rfl,U]
theorem Hy:aC ["self","page","entry","second"] ["self","page","entry"] (aw EY):=L2.bD
theorem D7 {f C:Addr}{fd:J0}(F:cQ K "lay" "Table.lay" EY f fd) (T:Txt K mg C) (GC:Df P w K mg base aW 2 "own_copy" (uS K)):bh P w K mg base aW 3 f fd ["self","page","entry"] (rQ K C):=by
 let#[u8,m8,r8]:=T.sp;show F.ok Hy (λvs H Q E h=>?_) (λas A outer s H vs Q E hr h=>?_)
 .let#[p,fs,t,tb,q,xs,rfl,_]:=h;rfl
 .let#[p,fs,t,tb,q,xs,rfl,TT,q0,q1,ht,G,k]:=h;let#[dx,h1]:=TT.ob;show#[_,(ag (aK (i:=3) Hy.nd rfl (J6 rfl) (zb (aL (pv 0) rfl) (aA bH (pv 1) (cA (by rfl) m8 r8)) dg #[1,1]))
   (aj (jK (aZ hr) (pv 3) (pv 1) (pc GC hr ay (aa (pv 2) ai)) rfl))),?_]
  show#[0,p,C,dx,_,.ref fs,rfl,h1,T.cl,T.nF,km fs,fs,rfl,.inl #[_,.inl TT.hf],0,_,0,rfl,#[ar,ar],λe O=>?_];have se:=au (X:=.dK []) O;have T1:=TT.same se;show#[_,.inl (q/8),T1.hf,rfl,Dr T1,λv J=>?_,λJ=>?_]
  .rw[j6]at J;cases c:look tb (q/8)with
   |none=>rw[c]at J;cases J
   |some a =>
    let#[d,ap]:=a;rw[c]at J;obtain rfl:V.ref d=v:=Option.some.inj J;have U:=ax c;show#[0,.inr #[t,xs,rfl,ht.keep λo e=>se _ _ e,G,λH2 l s2 am Y=>?_]];have T2:=T1.same s2;let#[sec',e1,e2,S']:=AR (T2.hs _ U) Y G rfl q0 q1;have hd:=T2.hd _ U;show#[0,0,d,0,gf.k (k:=.inl q) hd (D5 (T2.hs _ U)),?_];rw[e1];have N:Off (· = d) H2 (upd H2 d (.dK (dk fS sec'))):=pL rfl;show k _ _ (T2.put c N af (S'.keep λb ys L=>N _ _ L (cH L hd (by intro z;cases z)))) (λj=>nJ c rfl e2 j) (hV (se.trans s2) (N.mono λb z=>.inr #[_,U,z])) λb z=>.inl (vO U z)
  .rw[j6]at J;have c:look tb (q/8)=none:=by
    cases c:look tb (q/8)with
    |none=>rfl
    |some a=>rw[c]at J;cases J
   have ep:putK (dk fF tb) (Sum.inl (q/8)) (.ref e)=dk fF (tb++[(q/8,(e,[]))]):=cF (f:=fF) (a:=(e,[])) c;rw[ep];have ef:e≠fs:=λz=>aq TT.hf O z.symm;have hE:upd (upd H e (.dK [])) fs (.dK (dk fF (tb++[(q/8,(e,[]))]))) e=some (.dK []):=(by rw[ah ef,af]);have o1:Off (· = fs) H (upd (upd H e (.dK [])) fs (.dK (dk fF (tb++[(q/8,(e,[]))])))):=λb u L hb=>(by rw[ah hb,ah (aq L O)];show L);show#[0,.inr #[t,xs,rfl,ht.off λe=>o1 _ _ e (cH e TT.hf (by intro z;cases z)),G,λH2 l s2 am Y=>?_]];have ab:=s2 _ _ hE;show#[0,0,e,0,gf.k (k:=.inl q) ab ar,?_];have e1:putK ([]:List (Key×V)) (Sum.inl q) (.ref l)=dk fS [(q,(l,xs))]:=rfl;rw[e1];have N:Off (· = e) H2 (upd H2 e (.dK (dk fS [(q,(l,xs))]))):=pL rfl;have oA:Off (· = fs) H (upd H2 e (.dK (dk fS [(q,(l,xs))]))):=λb u L hb=>N b u (s2 _ _ (o1 b u L hb)) (aq L O);have ac:(upd H2 e (.dK (dk fS [(q,(l,xs))]))) l=some (.tup xs):=N _ _ Y (cH Y ab (by intro z;cases z));show k _ _ (TT.add (sec':=[(q,(l,xs))]) c O oA ?_ af #[λy hy=>?_,?_,by simp]) (λj=>xn (o:=some (l,xs)) c rfl (λj=>?_) j) (oA.mono λb z=>.inl z) λb z=>?_
   rotate_left 4
   .rcases z with z|⟨x,G,z⟩
    .show .inl (.inl z)
    .rcases List.mem_append.mp G with G|G
     .show .inl (.inr #[x,G,z])
     .rw[List.mem_singleton.mp G]at z;rw[z];show .inr O
   .show N _ _ (s2 _ _ af) (JZ ef) |>.trans ?_;unfold dk;rw[Ke,Ke];rfl
   .rw[List.mem_singleton.mp hy];show#[ac,G,rfl,q0,q1]
   .simp
   .rw[aO,ie];by_cases z:j=q
    .rw[Qi z,Qi z.symm]
    .rw[Qh z,Qh (JZ z)]
theorem HP:aC ["self","page","k","second"] ["self","page"] (aw u6):=L2.bD
theorem yw {f C:Addr}{fd:J0}(F:cQ K "clear" "Table.clear" u6 f fd) (T:Txt K mg C) (TP:yL mg):bh P w K mg base aW 1 f fd ["self","page"] (oX C):=by
 let#[u8,m8,r8]:=T.sp;have Y:=T;show F.ok HP (λvs H Q E h=>?_) (λap A outer s H vs Q E hr h=>?_)
 .let#[p,fs,tb,q,rfl,_]:=h;rfl
 .let#[p,fs,tb,q,rfl,TT,k]:=h;let#[dx,h1]:=TT.ob;replace T:=TP;show#[_,(ag (aK (i:=2) HP.nd rfl (J6 rfl) (aA bH (pv 1) (cA (by rfl) m8 r8)))
   (ag (aK (i:=3) HP.nd rfl (J6 rfl) (rO (aZ hr) (aL (pv 0) rfl) (pv 2) dg #[1,1]))
   (ag (aS (ij (gc (aZ hr) (pv 1) (pv 3))) (aj o8) aG)
   (ag (aP (eI (pv 3) (pv 1) #[1,1]))
   (aj (aS (aE bU (aN kB (by rfl) T.len boot_len (aa (pv 3) ai)) ak (aJ _)) (aj (aP (eI (aL (pv 0) rfl) (pv 2) #[1,1]))) aG)))))),?_]
  show#[0,_,0,rfl,#[ar,ar],?_];show#[0,p,C,dx,_,.ref fs,rfl,h1,Y.cl,Y.nF,km fs,fs,rfl,.inl #[_,.inl TT.hf],0,λe he=>?_];have L:=au (X:=.dK []) he;have J:=TT.same L;show#[_,du.k (k:=.inl (q/8)) J.hf,?_];rw[j6];cases c:look tb (q/8)with
  |none =>
   show#[0,0,e,0,du.k (k:=.inl q) af,true,rfl,dZ ?_];show k _ _ J (λj=>?_) (.inl rfl) (hV L λb u O _=>O) λb z=>.inl z;by_cases z:j=q
   .rw[Qi z,z];show sZ c
   .rw[Qh z]
  |some a =>
   let#[d,G]:=a;have N:=ax c;have hd:=J.hd _ N;have S:=J.hs _ N;show#[0,0,d,0,du.k (k:=.inl q) hd,?_];rw[ue];cases c2:look G q with
   |none =>
    show#[true,rfl,dZ ?_];show k _ _ J (λj=>?_) (.inl rfl) (hV L λb u O _=>O) λb z=>.inl z;by_cases z:j=q
    .rw[Qi z,z,rf c,c2];rfl
    .rw[Qh z]
   |some b =>
    show#[false,rfl,bC ?_];show#[0,d,rfl,.inl #[_,.inl hd],0,_,.inl q,fS b,hd,rfl,by rw[ue,c2];rfl,?_];rw[eF];show#[0,d,0,af,4];have U:Off (· = d) (upd H e (.dK [])) (upd (upd H e (.dK [])) d (.dK (dk fS (bg G q)))):=pL rfl;by_cases z:bg G q=[]
    .have n0:decide (V.int ((dk fS (bg G q)).length:Nat)=V.int 0)=true:=(by rw[z];rfl);rw[n0];show#[true,rfl,dZ ?_];have am:d≠fs:=TT.nf _ N;have ab:(upd (upd H e (.dK [])) d (.dK (dk fS (bg G q)))) fs=some (.dK (dk fF tb)):=U _ _ J.hf (JZ am);have ac:(upd (upd H e (.dK [])) d (.dK (dk fS (bg G q)))) p=some (.ins C dx (ju fs)):=U _ _ (L _ _ h1) (cH (L _ _ h1) hd (by intro z;cases z));show#[0,p,C,dx,_,.ref fs,rfl,ac,Y.cl,Y.nF,km fs,fs,rfl,.inl #[_,.inl ab],0,_,.inl (q/8),fF (d,G),ab,rfl,by rw[j6,c];rfl,?_];rw[eF];have o3:Off (λb=>b=d\/b=fs) (upd H e (.dK [])) (upd (upd (upd H e (.dK [])) d (.dK (dk fS (bg G q)))) fs (.dK (dk fF (bg tb (q/8))))):=λb u O hb=>by
      rw[ah λz=>hb (.inr z),ah λz=>hb (.inl z)];show O
     show k _ _ (J.del c o3 af) (λj=>xD c rfl (λj hj=>?_) j) (.inr ?_) (hV L (o3.mono λb z=>z.elim (λz=>.inr #[_,N,z]) .inl)) λb z=>.inl (Bm z)
     .have:=cj G q j;rw[z,ie,Qh hj]at this;show this.symm
     .show lu TT.nk c
    .have n0:decide (V.int ((dk fS (bg G q)).length:Nat)=V.int 0)=false:=decide_eq_false λy=>by
      injection y with y;rw[cE]at y;show z (List.length_eq_zero_iff.mp ae)
     rw[n0];show#[false,rfl,bC ?_];have S2:gJ (upd (upd H e (.dK [])) d (.dK (dk fS (bg G q)))) (q/8) (bg G q):=#[λy hy=>?_,?_,z]
     .show k _ _ (J.put c U af S2) (λj=>nJ c rfl (λj=>cj G q j) j) (.inl (gy _ _ _)) (hV L (U.mono λb z=>.inr #[_,N,z])) λb z=>.inl (vO N z)
     .have y2:=S.ht y (bZ hy).1;show#[U _ _ y2.1 (cH y2.1 hd (by intro z;cases z)),y2.2]
     .rw[jS];show S.ns.filter _
theorem Ga:aC ["self","found","k"] ["self"] (aw vG):=L2.bD
theorem zp {f C:Addr}{fd:J0}(F:cQ K "pages" "Table.pages" vG f fd) (O:Txt K mg C) (T:yL mg):bh P w K mg base aW 1 f fd ["self"] (eV C):=by
 show F.ok Ga (λvs H Q E h=>?_) (λaB A outer s H vs Q E hr h=>?_)
 .let#[p,fs,tb,rfl,_]:=h;rfl
 .let#[p,fs,tb,rfl,TT,k]:=h;let#[dx,h1]:=TT.ob;have J:=TT.hf;have hs:sizeLine=16777216:=J5;show#[_,(ag (aK (i:=1) Ga.nd rfl (J6 rfl) (cn ai))
   (ag (jD (cN Kh rfl (qh (aL (pv 0) rfl)) (aY (i:=2) Ga.nd rfl (J6 rfl)) (aj (aP (gR KY NG NH (uA rfl) (pv 1) (aa (bj (aZ hr) (aL (pv 0) rfl) (pv 2) (λ_ _=>rfl)) ai))))))
   (aj (aF (aN qC (by rfl) T.sorted gq (aa (pv 1) ai)))))),?_]
  have ab:∀o u',H fs≠some (.cu o u'):=λo u' z=>(by rw[J]at z;cases z);show#[ar,λl G=>?_];have sl:=au (X:=.lst []) G;have Y:l≠fs:=λz=>aq J G z.symm;have am:p≠l:=aq h1 G;have as:p≠fs:=cH h1 J (by intro z;cases z);show#[0,p,C,dx,_,.ref fs,rfl,sl _ _ h1,O.cl,O.nF,km fs,fs,0,sl _ _ J,ab,λo=>?_];show qZ (kvs:=dk fF tb) (λi σ H'=>H'=upd (upd H l (.lst ((fP (tb.take i)).map V.int))) fs (.cu o (.dK (dk fF tb)))/\∃v,σ=[some (.ref p),some (.ref l),v]) #[rfl,0] (λi σ H' _ h=>by rw[h.1,af]) (λi k v σ H' hi h=>?_) (λσ H' h=>?_)
  .let#[rfl,v',rfl]:=h;unfold dk at hi;rw[J3]at hi;cases e:tb[i]? with
   |none=>rw[e]at hi;cases hi
   |some x =>
    rw[e]at hi;let#[rfl,rfl]:=Nt (Option.some.inj hi);have N:x∈tb:=J7 e;have hd:=TT.hd x N;have dl:x.2.1≠l:=aq hd G;have df:x.2.1≠fs:=TT.nf x N;have aT:i<tb.length:=(List.getElem?_eq_some_iff.mp e).1;have AM:=qY TT i;have bx:=(TT.hs x N).len;have eH:(upd (upd H l (.lst ((fP (tb.take i)).map V.int))) fs (.cu o (.dK (dk fF tb)))) l=some (.lst ((fP (tb.take i)).map V.int)):=(by rw[ah Y,af]);show#[0,.inl #[5,bB.of eH],0,p,C,dx,_,.ref fs,rfl,by rw[ah as,ah am];show h1,O.cl,O.nF,km fs,0,fs,.ref x.2.1,rfl,.inl #[dk fF tb,.inl x.1,.inr #[o,af],4],l,x.2.1,_,dk fS x.2.2,1,eH,by rw[ah df,ah dl];show hd,3]
    .rw[j6,bL TT.nk N];rfl
    .rw[DD,cE];omega
    .show#[?_,0];rw[List.take_succ,e];funext b;by_cases z:b=l
     .rw[z,af,ah Y,af];have ek:(dk fS x.2.2).map (λkv=>kV kv.1)=(x.2.2.map (·.1)).map V.int:=by
       unfold dk;rw[Lc,Lc];rfl
      rw[ek, <-Ke];unfold fP;rw[List.flatMap_append];simp
     .rw[ah z];by_cases U:b=fs
      .rw[U,af,af]
      .rw[ah U,ah U,ah z,ah z]
  .let#[rfl,v',rfl]:=h;show#[fs,o,_,af,ab,?_];rw[cE,Lk];have e0:upd (upd (upd H l (.lst ((fP tb).map V.int))) fs (.cu o (.dK (dk fF tb)))) fs (.dK (dk fF tb))=upd H l (.lst ((fP tb).map V.int)):=by
    funext b;by_cases z:b=fs
    .rw[z,af,ah (JZ Y)];show J.symm
    .rw[ah z,ah z]
   rw[e0];have AM:=qY TT tb.length;rw[Lk]at AM;have ap:=au (X:=.lst ((fP tb).map V.int)) G;show#[0,l,fP tb,rfl,bB.of af,jB TT,ae,λl2 ns' L hp hs=>?_];have ac:l2≠l:=λz=>(by rw[z,af]at L;cases L);show k _ l2 ns' (ap.trans (au L)) (by rw[ah ac]at L;show L) af hp hs
end
end Tb
namespace Rm
open PySem L2
noncomputable def top (i:Nat):Ky:=PySem.Challenge.pw_ownroom_k12_copies_apart.main.body.getD i (.Pass #[(0),(0),(0),(0)])
noncomputable abbrev iW:Ky:=top 20
noncomputable abbrev kH:Ky:=top 21
noncomputable abbrev uW:Ky:=top 22
noncomputable abbrev qA:Ky:=top 23
noncomputable abbrev mT:Ky:=top 24
noncomputable abbrev qI:Ky:=top 25
noncomputable abbrev yr:Ky:=top 26
theorem au {H:Hp}{l:Addr}{X:HO}(h:H l=none):bf H (upd H l X):=λb o e=>by rw[ah (aq e h)];show e
theorem Bs {H H':Hp}{l:Addr}{X:HO}(s:bf H H') (h:H l=none):bf H (upd H' l X):=λb o e=>by rw[ah (aq e h)];show s b o e
structure Ar (mg:Str->Option Value):Prop where
 vZ:∃u,mg "ROOM_PAGES" = some u/\RelV (.int 64) u
 cells:∃u,mg "PAGE_CELLS" = some u/\RelV (.int 8) u
 list:mg "list" = none
 range:mg "range" = none
 len:mg "len" = none
noncomputable def cB (p m:Int):Prop:=m<1\/p<0\/64<p+m
noncomputable def aM (p m:Int):List Int:=(List.range m.toNat).map λk:Nat=>p+k
inductive eG (vs:List V) (H:Hp) (Q:VK) (e3:XK):Prop
 |mk (p m:Int) (_:vs=[.int p,.int m]) (_:¬ cB p m) (_:∀(H':Hp) (l:Addr),bf H H'->H l=none->H' l=some (.lst ((aM p m).map V.int))->Q (.ref l) H'):eG vs H Q e3
theorem mM (q:Int):∀G:List Int,Eg (.int q) (G.map V.int)=decide (q∈G)
 | []=>rfl
 |m::G=>by
  have J:=mM q G;unfold Eg at J ⊢;rw[Lm,NZ,J];by_cases e:q=m
  .rw[e];simp[kO]
  .have L:m≠q:=JZ e;simp[kO,e,L]
inductive gB (vs:List V) (H:Hp) (Q:VK) (e3:XK):Prop
 |mk (a b:Addr) (ms ps:List Int) (_:vs=[.ref a,.ref b]) (_:H a=some (.lst (ms.map V.int))) (_:H b=some (.lst (ps.map V.int))) (_:(∀q∈ps,q∈ms)) (_:Q .non H):gB vs H Q e3
section
variable {P:J2}{w:Kd}{K:PySem.W.Frag}{mg:Str->Option Value}{base:Heap}
theorem Ik:aC ["page","many"] ["page","many"] (aw iW):=L2.bD
theorem qu {f:Addr}{fd:J0}(F:cQ K "pages_from" "pages_from" iW f fd) (T:Ar mg):bh P w K mg base aW 1 f fd ["page","many"] eG:=by
 let#[am,ab,Y]:=T.vZ;show F.ok Ik (λvs H Q E h=>?_) (λac A outer s H vs Q E hr h=>?_)
 .let#[p,m,rfl,_]:=h;rfl
 .let#[p,m,rfl,G,kQ]:=h;have hs:sizeLine=16777216:=J5;have d1:¬ m<1:=λz=>G (.inl z);have d2:¬ p<0:=λz=>G (.inr (.inl z));have U:¬ 64<p+m:=λz=>G (.inr (.inr z));show#[_,(ag (aS (PW.pt (iK (aE gL (pv 1) ak (aJ _)) (iK (aE gL (pv 0) ak (aJ _)) (gW (aE iO (aA bu (pv 0) (pv 1)) (cA (by rfl) ab Y) (aJ _)))))) cU aG)
   (aj (aF (bS (mD rfl) (by rfl) T.list eR (aa (bS xO (by rfl) T.range Ag (aa (pv 0) (aa (aA bu (pv 0) (pv 1)) ai))) ai))))),?_]
  show bX λ_ ji N=>?_;clear ji;show#[0,_,0,rfl,0,?_];show iH (λc=>absurd (of_decide_eq_true c) d1) (λ_=>?_);show#[0,_,0,rfl,0,?_];show iH (λc=>absurd (of_decide_eq_true c) d2) (λ_=>?_);show#[0,0,_,0,5,0,rfl,0,?_];show tU (λc=>absurd (of_decide_eq_true c) U) (λ_=>N _ ?_);show#[0,0,0,_,0,rfl,p,p+m,rfl,λpr O=>?_];have L:=au (X:=.rng p (p+m)) O;show#[pr,p,m.toNat,rfl,by rw[af,Ma ae],ae,ae,ae,λl J=>?_];show kQ _ l (L.trans (au J)) (L.free J) ?_;rw[af];unfold aM;rw[Lc];rfl
theorem Gf:aC ["mapped","pages","page"] ["mapped","pages"] (aw kH):=L2.bD
theorem sF {f:Addr}{fd:J0}(F:cQ K "refuse_unmapped" "refuse_unmapped" kH f fd):bh P w K mg base aW 1 f fd ["mapped","pages"] gB:=by
 show F.ok Gf (λvs H Q E h=>?_) (λab A outer s H vs Q E hr h=>?_)
 .let#[a,b,N,ps,rfl,_]:=h;rfl
 .let#[a,b,N,ps,rfl,U,G,hm,Y]:=h;show#[_,(aj (cN Kh rfl (ff (pv 1)) (aY (i:=2) Gf.nd rfl (J6 rfl)) (aj (aS (aE jA (pv 2) (pv 0) (by with_unfolding_all rfl)) cU aG)))),?_];show#[0,b,rfl,#[_,bB.of G],?_];show eh (K:=K) (a:=b) (xs:=ps.map V.int) (λi σ H2=>∃v2:Option V,σ=[some (.ref a),some (.ref b),v2]/\H2=H) #[0,rfl] (λi σ H2 _ L=>by let#[_,_,e]:=L;rw[e];show bB.of G) ?_ ?_
  .rintro i x σ H2 J ⟨v2,rfl,rfl⟩;rw[J3]at J;let#[q,O,rfl]:=Option.map_eq_some_iff.mp J;show#[0,0,a,0,.inl (bB.of U),rfl,fm _,0,?_];rw[mM,decide_eq_true (hm q (J7 O))];show bC #[0,rfl]
  .rintro σ H2 ⟨v2,rfl,rfl⟩;show Y
end
theorem xB {p m:Int}(h:¬ cB p m):∀q∈aM p m,0<=q/\q<64/\q.natAbs.log2<1920:=λq G=>by
 unfold aM at G;let#[k,J,rfl]:=List.mem_map.mp G;rw[List.mem_range]at J;have h1:¬ m<1:=λz=>h (.inl z);have h2:¬ p<0:=λz=>h (.inr (.inl z));have O:¬ 64<p+m:=λz=>h (.inr (.inr z));show#[ae,ae,?_];by_cases z:(p+(k:Int)).natAbs=0
 .rw[z];decide
 .rw[Nat.log2_lt z];have L:(p+(k:Int)).natAbs<64:=ae;have N:(64:Nat)<2^1920:=ao;omega
inductive pz (vs:List V) (H:Hp) (Q:VK) (e3:XK):Prop
 |mk (a:Addr) (ms:List Int) (p m:Int) (_:vs=[.ref a,.int p,.int m]) (_:H a=some (.lst (ms.map V.int))) (_:¬ cB p m) (_:(∀q∈aM p m,¬ q∈ms)) (_:∀(H':Hp) (l:Addr),bf H H'->H l=none->H' l=some (.lst ((aM p m).map V.int))->Q (.ref l) H'):pz vs H Q e3
inductive mi (vs:List V) (H:Hp) (Q:VK) (e3:XK):Prop
 |mk (a:Addr) (ms:List Int) (p m:Int) (_:vs=[.ref a,.int p,.int m]) (_:H a=some (.lst (ms.map V.int))) (_:¬ cB p m) (_:(∀q∈aM p m,q∈ms)) (_:∀(H':Hp) (l:Addr),bf H H'->H l=none->H' l=some (.lst ((aM p m).map V.int))->Q (.ref l) H'):mi vs H Q e3
noncomputable def jN (ad:Int):Int:=ad/8
noncomputable def iI (ad n:Int):Int:=(ad+n-1)/8-ad/8+1
noncomputable def cR (ad n:Int) (G:List Int):Prop:=n<0\/(0<n/\(cB (jN ad) (iI ad n)\/¬ ∀q∈aM (jN ad) (iI ad n),q∈G))
noncomputable def av (ad n:Int):List Int:=if n=0 then[]else aM (jN ad) (iI ad n)
inductive iz (vs:List V) (H:Hp) (Q:VK) (e3:XK):Prop
 |mk (a:Addr) (ms:List Int) (ad n:Int) (_:vs=[.ref a,.int ad,.int n]) (_:H a=some (.lst (ms.map V.int))) (_:¬ cR ad n ms) (_:∀(H':Hp) (l:Addr),bf H H'->H l=none->H' l=some (.lst ((av ad n).map V.int))->Q (.ref l) H'):iz vs H Q e3
section
variable {P:J2}{w:Kd}{K:PySem.W.Frag}{mg:Str->Option Value}{base:Heap}
theorem Dg:aC ["mapped","page","many","pages","wanted"] ["mapped","page","many"] (aw uW):=L2.bD
theorem yM {f:Addr}{fd:J0}(F:cQ K "pages_to_map" "pages_to_map" uW f fd) (GP:Df P w K mg base aW 1 "pages_from" eG):bh P w K mg base aW 2 f fd ["mapped","page","many"] pz:=by
 show F.ok Dg (λvs H Q E h=>?_) (λac A outer s H vs Q E hr h=>?_)
 .let#[a,U,p,m,rfl,_]:=h;rfl
 .let#[a,U,p,m,rfl,ha,nb,Y,kQ]:=h;show#[_,(ag (aK (i:=3) Dg.nd rfl (J6 rfl) (pc GP hr ay (aa (pv 1) (aa (pv 2) ai))))
   (ag (cN Kh rfl (ff (pv 3)) (aY (i:=4) Dg.nd rfl (J6 rfl)) (aj (aS (aE yj (pv 4) (pv 0) (by with_unfolding_all rfl)) cU aG)))
   (aj (aF (pv 3))))),?_]
  show#[0,0,p,m,rfl,nb,λH1 l N nl J=>?_];show#[0,l,rfl,#[_,bB.of J],?_];show eh (K:=K) (a:=l) (xs:=(aM p m).map V.int) (λi σ H2=>∃G:Option V,σ=[some (.ref a),some (.int p),some (.int m),some (.ref l),G]/\H2=H1) #[0,rfl] (λi σ H2 _ O=>by let#[_,_,e]:=O;rw[e];show bB.of J) ?_ ?_
  .rintro i x σ H2 L ⟨G,rfl,rfl⟩;rw[J3]at L;let#[q,ab,rfl]:=Option.map_eq_some_iff.mp L;show#[0,0,a,0,.inl (bB.of (N _ _ ha)),rfl,fm _,0,?_];rw[mM,decide_eq_false (Y q (J7 ab))];show bC #[0,rfl]
  .rintro σ H2 ⟨G,rfl,rfl⟩;show#[0,kQ _ l N nl J]
theorem Gh:aC ["mapped","page","many","pages"] ["mapped","page","many"] (aw qA):=L2.bD
theorem xN {f:Addr}{fd:J0}(F:cQ K "pages_to_drop" "pages_to_drop" qA f fd) (GP:Df P w K mg base aW 1 "pages_from" eG) (U:Df P w K mg base aW 1 "refuse_unmapped" gB):bh P w K mg base aW 2 f fd ["mapped","page","many"] mi:=by
 show F.ok Gh (λvs H Q E h=>?_) (λab A outer s H vs Q E J h=>?_)
 .let#[a,G,p,m,rfl,_]:=h;rfl
 .let#[a,G,p,m,rfl,ha,Y,O,kQ]:=h;show#[_,(ag (aK (i:=3) Gh.nd rfl (J6 rfl) (pc GP J ay (aa (pv 1) (aa (pv 2) ai))))
   (ag (aP (pc U J ay (aa (pv 0) (aa (pv 3) ai))))
   (aj (aF (pv 3))))),?_]
  show#[0,0,p,m,rfl,Y,λH1 l L nl N=>?_];show#[0,0,a,l,G,aM p m,rfl,L _ _ ha,N,O,#[0,kQ _ l L nl N]]
theorem BM:aC ["mapped","address","many","first","last","pages"] ["mapped","address","many"] (aw mT):=L2.bD
theorem uo {f:Addr}{fd:J0}(F:cQ K "pages_of_cells" "pages_of_cells" mT f fd) (T:Ar mg) (GP:Df P w K mg base aW 1 "pages_from" eG) (GU:Df P w K mg base aW 1 "refuse_unmapped" gB):bh P w K mg base aW 2 f fd ["mapped","address","many"] iz:=by
 let#[u8,m8,O]:=T.cells;show F.ok BM (λvs H Q E h=>?_) (λab A outer s H vs Q E hr h=>?_)
 .let#[a,G,ad,n,rfl,_]:=h;rfl
 .let#[a,G,ad,n,rfl,ha,J,Y]:=h;show#[_,(ag (aS (aE bU (pv 2) ak (aJ _)) (aj (aF (cn ai))) aG)
   (ag (aS (aE gL (pv 2) ak (aJ _)) cU aG)
   (ag (aK (i:=3) BM.nd rfl (J6 rfl) (aA bH (pv 1) (cA (by rfl) m8 O)))
   (ag (aK (i:=4) BM.nd rfl (J6 rfl) (aA bH (aA pJ (aA bu (pv 1) (pv 2)) ak) (cA (by rfl) m8 O)))
   (ag (aK (i:=5) BM.nd rfl (J6 rfl) (pc GP hr ay (aa (pv 3) (aa (aA bu (aA pJ (pv 4) (pv 3)) ak) ai))))
   (ag (aP (pc GU hr ay (aa (pv 0) (aa (pv 5) ai))))
   (aj (aF (pv 5))))))))),?_]
  show#[0,rfl,0,?_];show iH (λc=>?_) (λc=>?_)
  .have e:n=0:=V.int.inj (of_decide_eq_true c);show#[ar,λl L=>?_];show Y _ l (au L) L ?_;rw[af];unfold av;rw[Qi e];rfl
  have ne:¬ n=0:=λz=>c (decide_eq_true (by rw[z]));have nn:¬ n<0:=λz=>J (.inl z);have n0:0<n:=ae;have np:¬ cB (jN ad) (iI ad n):=λz=>J (.inr #[n0,.inl z]);have ni:∀q∈aM (jN ad) (iI ad n),q∈G:=L0 λz=>J (.inr #[n0,.inr z]);show#[0,_,0,rfl,0,?_];show iH (λc'=>absurd (of_decide_eq_true c') nn) (λ_=>?_);show#[0,_,0,rfl,#[ar,ar],0,0,_,0,5,0,5,0,rfl,#[ar,ar],?_];show#[0,0,0,_,0,5,0,rfl,jN ad,iI ad n,rfl,np,λH1 l U nl N=>?_];show#[0,0,a,l,G,aM (jN ad) (iI ad n),rfl,U _ _ ha,N,ni,#[0,Y _ l U nl ?_]];unfold av;rw[Qh ne];show N
end
theorem qD {ws:List Int}{s n:Nat}:fA (ws.map V.int) (some (s:Int)) (some ((s:Int)+(n:Int)))=((ws.drop s).take n).map V.int:=by
 unfold fA;rw[DD,HT.lE,show((s:Int)+(n:Int))=((s+n:Nat):Int)by push_cast;rfl,HT.lE, <-map_drop, <-Py];congr 1;by_cases h:s<=ws.length
 .rw[Nr h];by_cases h2:s+n<=ws.length
  .rw[Nr h2,show s+n-s=n by omega]
  .rw[MY ae,KP (by rw[Lr];omega),KP (by rw[Lr];omega)]
 .rw[MY ae,MY ae,List.drop_eq_nil_of_le (J1 _),List.drop_eq_nil_of_le ae];simp
theorem ur {ws:List Int}{s:Nat}:fA (ws.map V.int) none (some (s:Int))=(ws.take s).map V.int:=by
 unfold fA;rw[DD,HT.lE,show HT.c6 ws.length 0 none=0 from rfl,List.drop_zero,Nat.sub_zero, <-Py];congr 1;by_cases h:s<=ws.length
 .rw[Nr h]
 .rw[MY ae,KP (J1 _),KP ae]
theorem x8 {ws:List Int}{s:Nat}:fA (ws.map V.int) (some (s:Int)) none=(ws.drop s).map V.int:=by
 unfold fA;rw[DD,HT.lE,show HT.c6 ws.length ws.length none=ws.length from rfl, <-map_drop, <-Py];congr 1;by_cases h:s<=ws.length
 .rw[Nr h,KP (by rw[Lr];omega)]
 .rw[MY ae,List.drop_eq_nil_of_le (J1 _),List.drop_eq_nil_of_le ae];simp
theorem eB {K:PySem.W.Frag}{H H':Hp}{a:Addr}{xs:List V}(h:bB K H a xs) (s:∀o,H a=some o->H' a=some o):bB K H' a xs:=by
 rcases h with(h|⟨o,h⟩)|h
 .show .inl (.inl (s _ h))
 .show .inl (.inr #[o,s _ h])
 .show .inr h
theorem tY {α J:Type}{F G:α->J->Prop}(h:∀x y,F x y->G x y):∀{xs:List α}{ys:List J},Paired F xs ys->Paired G xs ys
 |_,_,.nil=>.nil
 |_,_,.cons q t=>.cons (h _ _ q) (tY h t)
theorem t7 {α G:Type}{F:α->G->Prop}{xs L:List α}{ys J:List G}(p:Paired F xs ys) (h:Paired F L J):Paired F (xs++L) (ys++J):=by
 induction p with
 |nil=>show h
 |cons q _ N=>show .cons q N
theorem uI {α G:Type}{F:α->G->Prop}{x:α}{xs:List α}{ys:List G}(p:Paired F xs ys) (h:x∈xs):∃y,F x y:=by
 induction p with
 |nil=>cases h
 |cons q _ J =>
  rcases List.mem_cons.mp h with e|h
  .show#[_,e▸q]
  .show J h
inductive mf (vs:List V) (H:Hp) (Q:VK) (e3:XK):Prop
 |mk (a:Addr) (ws:List Int) (ad:Int) (n:Nat) (_:vs=[.ref a,.int ad,.int n]) (_:H a=some (.lst (ws.map V.int))) (_:∀(H':Hp) (l:Addr),bf H H'->H l=none->H' l=some (.lst (((ws.drop (ad%8).toNat).take n).map V.int))->Q (.ref l) H'):mf vs H Q e3
noncomputable def dP (ws:List Int) (s:Nat) (cs:List Int):List Int:=ws.take s++cs++ws.drop (s+cs.length)
noncomputable def fV (k:Nat) (ws:List Int):List (List Int):=(List.range k).map λi=>(ws.drop (8*i)).take 8
inductive uZ (K:PySem.W.Frag) (vs:List V) (H:Hp) (Q:VK) (e3:XK):Prop
 |mk (a c:Addr) (ws cs:List Int) (ad:Int) (k:Nat) (_:vs=[.ref a,.int ad,.ref c]) (_:H a=some (.lst (ws.map V.int))) (_:bB K H c (cs.map V.int)) (_:ws.length<=600) (_:cs.length<=600) (_:k<=64) (_:(dP ws (ad%8).toNat cs).length=8*k) (_:∀(H':Hp) (l:Addr) (rs:List Addr),bf H H'->H l=none->H' l=some (.lst (rs.map V.ref))->Paired (λr (row:List Int)=>H' r=some (.lst (row.map V.int))) rs (fV k (dP ws (ad%8).toNat cs))->(∀r∈rs,H r=none)->rs.Nodup->Q (.ref l) H'):uZ K vs H Q e3
theorem Ip:∀k:Nat,k<65->Builtin.Range.small 0 (8*(k:Int)) 8=true/\Builtin.Range.rangeSize 0 (8*(k:Int)) 8=(k:Int)/\Builtin.divisionGoesByPylong (8*(k:Int)-0) 8=false:=ao
section
variable {P:J2}{w:Kd}{K:PySem.W.Frag}{mg:Str->Option Value}{base:Heap}
theorem Fx:aC ["whole","address","many","start"] ["whole","address","many"] (aw qI):=L2.bD
theorem yf {f:Addr}{fd:J0}(F:cQ K "run_within" "run_within" qI f fd) (T:Ar mg):bh P w K mg base aW 1 f fd ["whole","address","many"] mf:=by
 let#[u8,m8,L]:=T.cells;show F.ok Fx (λvs H Q E h=>?_) (λU A outer s H vs Q E Y h=>?_)
 .let#[a,ws,ad,n,rfl,_]:=h;rfl
 .let#[a,ws,ad,n,rfl,O,k]:=h;show#[_,(ag (aK (i:=3) Fx.nd rfl (J6 rfl) (aA bJ (pv 1) (cA (by rfl) m8 L)))
   (aj (aF (de gz (pv 0) (cX (pv 3)) (cX (aA bu (pv 3) (pv 2))))))),?_]
  show#[0,_,0,rfl,(by change(0:Int)<8;decide),?_];have N:=Ll ad (show(8:Int)≠0 by decide);show#[0,0,ad%8,rfl,0,0,_,0,rfl,ad%8+n,rfl,a,0,bB.of O,λl G=>?_];have e:ad%8=((ad%8).toNat:Int):=(Ma N).symm;have J:fA (ws.map V.int) (some (ad%8)) (some (ad%8+n))=((ws.drop (ad%8).toNat).take n).map V.int:=by
   rw[e];show qD
  show k _ l (au G) G (by rw[af,J])
theorem De:aC ["whole","address","cells","start","changed"] ["whole","address","cells"] (aw yr):=L2.bD
theorem B0 {f:Addr}{fd:J0}(F:cQ K "pages_with" "pages_with" yr f fd) (T:Ar mg):bh P w K mg base aW 1 f fd ["whole","address","cells"] (uZ K):=by
 let#[u8,m8,r8]:=T.cells;show F.ok De (λvs H Q E h=>?_) (λa4 A outer s H vs Q E hr h=>?_)
 .let#[a,c,ws,cs,ad,j,rfl,_]:=h;rfl
 .let#[a,c,ws,cs,ad,j,rfl,ha,hc,hw,a5,hj,a3,k]:=h;have hs:sizeLine=16777216:=J5;show#[_,(ag (aK (i:=3) De.nd rfl (J6 rfl) (aA bJ (pv 1) (cA (by rfl) m8 r8)))
   (ag (aK (i:=4) De.nd rfl (N0 rfl) (aA tS (aA tS (de gz (pv 0) fE (cX (pv 3))) (bS dJ (by rfl) T.list eR (aa (pv 2) ai))) (de gz (pv 0) (cX (aA bu (pv 3) (aN bF (by rfl) T.len boot_len (aa (pv 2) ai)))) fE)))
   (aj (aF (fJ (cl:=[("changed",s.heap.objs.size+1)]) (caps:=[("changed",4)]) #[rfl,ao,ao,rfl,by kernel_rfl,by intro p G;simp only[Ku,Kb,or_false]at G;rcases G with rfl<;>first|rfl|show#[rfl,.inl rfl,.inl rfl]|show#[rfl,.inl rfl,.inr rfl],by kernel_rfl,by intro p G;simp only[Ku,Kb,or_false]at G;rcases G with rfl<;>first|rfl|show#[rfl,.inl rfl,.inl rfl]|show#[rfl,.inl rfl,.inr rfl],ao] rfl (w9 (by rfl) T.range (aa ak (aa (aN bF (by rfl) T.len boot_len (aa (pv 4) ai)) (aa (cA (by rfl) m8 r8) ai)))) (λ_ _ _ _=>eY) (λ_ _ _ _=>(de (show Gu _ (DJ K)from gz) (pv 1) (cX (pv 0)) (cX (aA bu (pv 0) (cA (by rfl) m8 r8)))))))))),?_]
  show gx λ_ jt=>?_;show#[0,_,0,rfl,(by change(0:Int)<8;decide),?_];have m0:=Ll ad (show(8:Int)≠0 by decide);have e:ad%8=((ad%8).toNat:Int):=(Ma m0).symm;show jt _ _ ?_;change m7 _ _ _ [some (V.ref a),some (.int ad),some (.ref c),some (.int (ad%8)),none] H;rw[e];generalize (ad%8).toNat=st at *;clear e m0;show gx λ_ jt=>?_;show#[0,0,(st:Int),rfl,a,0,bB.of ha,λU a0=>?_];rw[ur];have s1:=au (X:=.lst ((ws.take st).map V.int)) a0;have e1:(upd H U (.lst ((ws.take st).map V.int))) U=some (.lst ((ws.take st).map V.int)):=af;show#[0,c,0,.inl (eB hc (s1 _)),λl2 a2=>?_];have s2:=au (X:=.lst (cs.map V.int)) a2;show#[U,l2,_,0,rfl,s2 _ _ e1,af,by rw[DD,DD,Kg];omega,λl3 aB=>?_];rw[<-Ke];have s3:=au (X:=.lst ((ws.take st++cs).map V.int)) aB;have S3:=(s1.trans s2).trans s3;have e3:(upd (upd (upd H U (.lst ((ws.take st).map V.int))) l2 (.lst (cs.map V.int))) l3 (.lst ((ws.take st++cs).map V.int))) l3=some (.lst ((ws.take st++cs).map V.int)):=af;generalize upd (upd (upd H U (.lst ((ws.take st).map V.int))) l2 (.lst (cs.map V.int))) l3 (.lst ((ws.take st++cs).map V.int))=H3 at *;show#[0,0,0,c,0,.inl (eB hc (S3 _)),_,0,rfl,0,a,0,bB.of (S3 _ _ ha),λl4 aT=>?_];rw[show((st:Int)+((cs.map V.int).length:Nat))=((st+cs.length:Nat):Int)by rw[DD];push_cast;rfl,x8];have s4:=au (X:=.lst ((ws.drop (st+cs.length)).map V.int)) aT;show#[l3,l4,_,0,rfl,s4 _ _ e3,af,by rw[DD,DD,J9,Kg,Lr];omega,λN a1=>?_];rw[<-Ke,show ws.take st++cs++ws.drop (st+cs.length)=dP ws st cs from rfl];have S5:bf H (upd (upd H3 l4 (.lst ((ws.drop (st+cs.length)).map V.int))) N (.lst ((dP ws st cs).map V.int))):=(S3.trans s4).trans (au a1);have e5:(upd (upd H3 l4 (.lst ((ws.drop (st+cs.length)).map V.int))) N (.lst ((dP ws st cs).map V.int))) N=some (.lst ((dP ws st cs).map V.int)):=af;generalize upd (upd H3 l4 (.lst ((ws.drop (st+cs.length)).map V.int))) N (.lst ((dP ws st cs).map V.int))=H5 at *;generalize dP ws st cs=sp at *;let#[r1,r2,r3]:=Ip j ae;show jt _ _ (ID λ_ jr=>?_);show#[0,N,0,.inl (bB.of e5),(0),8*(j:Int),(8),j,by rw[DD,a3];push_cast;rfl,r1,r2,ar,r3,?_];show qG (lo:=0) (st:=8) (n:=j) (λi ys Y=>∃J:List Addr,xM (ys=J.map V.ref) (J.length=i) (Paired (λr (am:List Int)=>Y r=some (.lst (am.map V.int))) J (fV i sp)) (bf H5 Y) ((∀r∈J,H5 r=none)) J.Nodup) #[[],1,.nil,bf.refl _,(λ_ h=>nomatch h),Lz] ?_ ?_
  .rintro i ys Y hi ⟨J,rfl,ac,G,O,hn,nd⟩;show#[0,0,0,0,_,0,rfl,0,N,0,bB.of (O _ _ e5),λr ab=>?_];rw[show(0+(i:Int)*8)=((8*i:Nat):Int)by push_cast;omega,show(((8*i:Nat):Int)+8)=((8*i:Nat):Int)+((8:Nat):Int)from rfl,qD];have sr:=au (X:=.lst (((sp.drop (8*i)).take 8).map V.int)) ab;show#[by rw[DD];omega,J++[r],by rw[Ke];rfl,by rw[J9,ac];rfl,?_,O.trans sr,λx L=>?_,?_]
   .unfold fV at G ⊢;rw[Nk,Ke];show t7 (tY (λx y h=>sr _ _ h) G) (.cons af .nil)
   .rcases List.mem_append.mp L with L|L
    .show hn x L
    .rw[List.mem_singleton.mp L];show O.free ab
   .show List.nodup_append.mpr #[nd,List.nodup_cons.mpr #[by simp,Lz],λx L y hy=>?_];rw[List.mem_singleton.mp hy];intro z;let#[am,as]:=uI G L;rw[z,ab]at as;cases as
  .rintro ys Y ⟨J,rfl,ac,G,O,hn,nd⟩ l6 ap;have s7:=au (X:=.lst (J.map V.ref)) ap;show jr _ _ (k _ l6 J ((S5.trans O).trans s7) ((S5.trans O).free ap) af (tY (λx y h=>s7 _ _ h) G) (λr h=>S5.free (hn r h)) nd)
end
end Rm
namespace Pg
noncomputable def upd {α:Type}(f:Bool->α) (b:Bool) (v:α):Bool->α:=λc=>if c=b then v else f c
noncomputable def dt {α:Type}(f:Int->α) (k:Int) (v:α):Int->α:=λj=>if j=k then v else f j
theorem af {α:Type}{f:Bool->α}{b:Bool}{v:α}:upd f b v b=v:=Qi rfl
theorem aV {α:Type}{f:Bool->α}{b c:Bool}{v:α}(h:c≠b):upd f b v c=f c:=Qh h
theorem bq {α:Type}{f:Int->α}{b:Int}{v:α}:dt f b v b=v:=Qi rfl
theorem aH {α:Type}{f:Int->α}{b c:Int}{v:α}(h:c≠b):dt f b v c=f c:=Qh h
structure PS where
 ow:Bool->List Int
 co:Bool->List (Option (List Int))
 pl:Int->Option (Bool×Nat)
 ls:Int
 inf:List Int
noncomputable def Vw (s:PS) (k:Int) (cs:List Int) (c:Int):Prop:=∃b n,s.pl k=some (b,n)/\(s.co b)[n]?=some (some cs)/\(s.ow b)[n]?=some c
structure Good (s:PS):Prop where
 rg:∀k p,s.pl k=some p->1<=k/\k<=s.ls
 va:∀k b n,s.pl k=some (b,n)->∃cs c,(s.co b)[n]?=some (some cs)/\(s.ow b)[n]?=some c/\1<=c/\cs.length=8
 inj:∀k j p,s.pl k=some p->s.pl j=some p->k=j
 on:∀b n c,(s.ow b)[n]?=some c->c=0\/∃k,s.pl k=some (b,n)
 ln:∀b,(s.co b).length=(s.ow b).length
 nd:s.inf.Nodup
 fi:∀k,k∈s.inf↔∃n,s.pl k=some (true,n)
noncomputable def vR (s:PS) (b:Bool) (k:Int) (cs:List Int) (c:Int):PS :=
 { ow:=upd s.ow b ((s.ow b).set ((s.ow b).idxOf 0) c),co:=upd s.co b ((s.co b).set ((s.ow b).idxOf 0) (some cs)),pl:=dt s.pl k (some (b,(s.ow b).idxOf 0)),ls:=s.ls,inf:=if b=true then s.inf++[k]else s.inf }
noncomputable def nG (s:PS) (k:Int) (b:Bool) (n:Nat):PS :=
 { ow:=upd s.ow b ((s.ow b).set n 0),co:=s.co,pl:=dt s.pl k none,ls:=s.ls,inf:=s.inf.erase k }
noncomputable def cz (s:PS) (b:Bool) (n:Nat) (c:Int):PS:={ s with ow:=upd s.ow b ((s.ow b).set n c) }
noncomputable def write (s:PS) (b:Bool) (n:Nat) (cs:List Int):PS:={ s with co:=upd s.co b ((s.co b).set n (some cs)) }
theorem t5 {l:List Int}(h:(0:Int)∈l):l[l.idxOf 0]?=some 0:=by
 have G:l.idxOf 0<l.length:=List.idxOf_lt_length_iff.mpr h;rw[J4 G,List.getElem_idxOf G]
theorem vx {l:List Int}(h:(0:Int)∈l):l.idxOf 0<l.length:=List.idxOf_lt_length_iff.mpr h
section
variable {s:PS}{b:Bool}{k:Int}{cs:List Int}{c:Int}{n:Nat}
theorem vU (G:Good s) (h:(0:Int)∈s.ow b):∀j,s.pl j≠some (b,(s.ow b).idxOf 0):=by
 intro j e;let#[cs,c,_,h2,J,_]:=G.va _ _ _ e;rw[t5 h]at h2;cases h2;omega
theorem mG (G:Good s) (h0:(0:Int)∈s.ow b) (hk:s.pl k=none) (h1:1<=k) (h2:k<=s.ls) (h3:1<=c) (h4:cs.length=8):Good (vR s b k cs c):=by
 have hl:=vx h0;have hf:=vU G h0;have ac:(s.ow b).idxOf 0<(s.co b).length:=(by rw[G.ln b];show hl);show#[3,3,3,?_]
 .intro j p e;by_cases N:j=k
  .subst N;show#[h1,h2]
  .show G.rg j p (by rw[<-e];show(aH N).symm)
 .intro j L n' e;by_cases N:j=k
  .subst N;have e:some (b,(s.ow b).idxOf 0)=some (L,n'):=(by rw[<-e];show bq.symm);cases e;show#[cs,c,3,h3,h4]
   .change(upd s.co b _ b)[_]?=_;rw[af,KH ac]
   .change(upd s.ow b _ b)[_]?=_;rw[af,KH hl]
  .have U:s.pl j=some (L,n'):=(by rw[<-e];show(aH N).symm);let#[am,c',e1,e2,e3,e4]:=G.va _ _ _ U;show#[am,c',3,e3,e4]
   .change(upd s.co b _ L)[_]?=_;by_cases J:L=b
    .subst J;rw[af,Kx (λq=>hf j (by rw[U,q]))];show e1
    .rw[aV J];show e1
   .change(upd s.ow b _ L)[_]?=_;by_cases J:L=b
    .subst J;rw[af,Kx (λq=>hf j (by rw[U,q]))];show e2
    .rw[aV J];show e2
 .intro j Y p e O;by_cases N:j=k
  .by_cases ab:Y=k
   .rw[N,ab]
   .subst N;have e:some (b,(s.ow b).idxOf 0)=some p:=(by rw[<-e];show bq.symm);have O:s.pl Y=some p:=(by rw[<-O];show(aH ab).symm);show absurd (O.trans e.symm) (hf Y)
  .have U:s.pl j=some p:=(by rw[<-e];show(aH N).symm);by_cases ab:Y=k
   .subst ab;have O:some (b,(s.ow b).idxOf 0)=some p:=(by rw[<-O];show bq.symm);show absurd (U.trans O.symm) (hf j)
   .have O:s.pl Y=some p:=(by rw[<-O];show(aH ab).symm);show G.inj _ _ _ U O
 .intro L n' c' e;have e:(upd s.ow b ((s.ow b).set ((s.ow b).idxOf 0) c) L)[n']?=some c':=e;by_cases J:L=b
  .subst J;by_cases en:(s.ow L).idxOf 0=n'
   .show .inr #[k,by change dt s.pl k _ k=_;rw[bq,en]]
   .rw[af,Kx en]at e;rcases G.on _ _ _ e with h|⟨j,h⟩
    .show .inl h
    .show .inr #[j,?_];change dt s.pl k _ j=_;rw[aH (λq=>by rw[q,hk]at h;cases h)];show h
  .rw[aV J]at e;rcases G.on _ _ _ e with h|⟨j,h⟩
   .show .inl h
   .show .inr #[j,?_];change dt s.pl k _ j=_;rw[aH (λq=>by rw[q,hk]at h;cases h)];show h
 .intro L;change(upd s.co b _ L).length=(upd s.ow b _ L).length;by_cases J:L=b
  .subst J;rw[af,af,KG,KG];show G.ln _
  .rw[aV J,aV J];show G.ln _
 .change(if b=true then s.inf++[k]else s.inf).Nodup;by_cases J:b=true
  .rw[Qi J];show List.nodup_append.mpr #[G.nd,by simp,?_];intro x hx y hy e;rw[ME]at hy;subst hy;subst e;let#[m,hm]:=(G.fi x).mp hx;rw[hk]at hm;cases hm
  .rw[Qh J];show G.nd
 .intro j;change j∈(if b=true then s.inf++[k]else s.inf)↔∃m,dt s.pl k (some (b,(s.ow b).idxOf 0)) j=some (true,m);by_cases N:j=k
  .subst N;rw[bq];by_cases J:b=true
   .subst J;rw[Qi rfl];show#[λ_=>#[0],λ_=>by simp]
   .rw[Qh J,G.fi];show#[λ⟨m,h⟩=>(by rw[hk]at h;cases h),λ⟨m,h⟩=>(by cases h;show absurd rfl J)]
  .rw[aH N, <-G.fi];by_cases J:b=true
   .rw[Qi J];simp[N]
   .rw[Qh J]
theorem mC (J:(0:Int)∈s.ow b) (G:Good s):Vw (vR s b k cs c) k cs c:=by
 show#[b,(s.ow b).idxOf 0,bq,3]
 .change(upd s.co b _ b)[_]?=_;rw[af,KH (by rw[G.ln b];show vx J)]
 .change(upd s.ow b _ b)[_]?=_;rw[af,KH (vx J)]
theorem j8 (G:Good s) (h0:(0:Int)∈s.ow b) {j:Int}(hj:j≠k) {ab:List Int}{c':Int}:Vw (vR s b k cs c) j ab c'↔Vw s j ab c':=by
 have hf:=vU G h0;have A:∀J L,s.pl j=some (J,L)->((vR s b k cs c).co J)[L]?=(s.co J)[L]?/\((vR s b k cs c).ow J)[L]?=(s.ow J)[L]?:=by
  intro J L e;change(upd s.co b _ J)[L]?=_/\(upd s.ow b _ J)[L]?=_;by_cases Y:J=b
  .subst Y;have:(s.ow J).idxOf 0≠L:=λq=>hf j (by rw[e,q]);rw[af,af,Kx this,Kx this];show#[1]
  .rw[aV Y,aV Y];show#[1]
 constructor
 .rintro⟨J,L,N,O,U⟩;have N:s.pl j=some (J,L):=(by rw[<-N];show(aH hj).symm);show#[J,L,N,by rw[<-(A _ _ N).1];show O,by rw[<-(A _ _ N).2];show U]
 .rintro⟨J,L,N,O,U⟩;show#[J,L,(aH hj).trans N,by rw[(A _ _ N).1];show O,by rw[(A _ _ N).2];show U]
theorem jT (G:Good s) (O:s.pl k=some (b,n)):Good (nG s k b n):=by
 let#[ac,c0,g1,g2,_,_]:=G.va _ _ _ O;have hn:n<(s.ow b).length:=(List.getElem?_eq_some_iff.mp g2).1;have up:∀{j p},(nG s k b n).pl j=some p->j≠k/\s.pl j=some p:=by
  intro j p e;by_cases L:j=k
  .subst L;have U:(none:Option (Bool×Nat))=some p:=(by rw[<-e];show bq.symm);cases U
  .show#[L,by rw[<-e];show(aH L).symm]
 show#[3,3,3,?_]
 .intro j p e;show G.rg j p (up e).2
 .intro j N n' e;let#[L,U]:=up e;let#[ab,Y,e1,e2,e3,e4]:=G.va _ _ _ U;show#[ab,Y,e1,?_,e3,e4];change(upd s.ow b _ N)[_]?=_;by_cases J:N=b
  .subst J;rw[af,Kx (λq=>L (G.inj _ _ _ U (by rw[O,q])))];show e2
  .rw[aV J];show e2
 .intro j j' p e e';show G.inj _ _ _ (up e).2 (up e').2
 .intro N n' Y e;have e:(upd s.ow b ((s.ow b).set n 0) N)[n']?=some Y:=e;by_cases J:N=b
  .subst J;by_cases en:n=n'
   .subst en;rw[af,KH hn]at e;cases e;show .inl rfl
   .rw[af,Kx en]at e;rcases G.on _ _ _ e with h|⟨j,h⟩
    .show .inl h
    .show .inr #[j,?_];change dt s.pl k _ j=_;rw[aH (λq=>by rw[q,O]at h;cases h;show en rfl)];show h
  .rw[aV J]at e;rcases G.on _ _ _ e with h|⟨j,h⟩
   .show .inl h
   .show .inr #[j,?_];change dt s.pl k _ j=_;rw[aH (λq=>by rw[q,O]at h;cases h;show J rfl)];show h
 .intro N;change(s.co N).length=(upd s.ow b _ N).length;by_cases J:N=b
  .subst J;rw[af,KG];show G.ln _
  .rw[aV J];show G.ln _
 .show G.nd.erase k
 .intro j;change j∈s.inf.erase k↔∃m,dt s.pl k none j=some (true,m);rw[List.Nodup.mem_erase_iff G.nd,G.fi];by_cases L:j=k
  .subst L;rw[bq];show#[λh=>absurd rfl h.1,λ⟨m,h⟩=>by cases h]
  .rw[aH L];show#[λh=>h.2,λh=>#[L,h]]
theorem iC (G:Good s) (hk:s.pl k=some (b,n)) {j:Int}(U:j≠k) {ab:List Int}{c':Int}:Vw (nG s k b n) j ab c'↔Vw s j ab c':=by
 have A:∀J L,s.pl j=some (J,L)->((nG s k b n).ow J)[L]?=(s.ow J)[L]?:=by
  intro J L e;change(upd s.ow b _ J)[L]?=_;by_cases eb:J=b
  .subst eb;rw[af,Kx (λq=>U (G.inj _ _ _ e (by rw[hk,q])))]
  .rw[aV eb]
 constructor
 .rintro⟨J,L,N,O,Y⟩;have N:s.pl j=some (J,L):=(by rw[<-N];show(aH U).symm);show#[J,L,N,O,by rw[<-A _ _ N];show Y]
 .rintro⟨J,L,N,O,Y⟩;show#[J,L,(aH U).trans N,O,by rw[A _ _ N];show Y]
theorem rT (G:Good s) (J:s.pl k=some (b,n)):(0:Int)∈(nG s k b n).ow b:=by
 let#[Y,U,O,N,_,_]:=G.va _ _ _ J;have L:n<(s.ow b).length:=(List.getElem?_eq_some_iff.mp N).1;change(0:Int)∈upd s.ow b _ b;rw[af];show J7 (KH L)
theorem jo (G:Good s) (hk:s.pl k=some (b,n)) (hc:1<=c):Good (cz s b n c):=by
 let#[ac,c0,g1,g2,_,g4]:=G.va _ _ _ hk;have hn:n<(s.ow b).length:=(List.getElem?_eq_some_iff.mp g2).1;show#[G.rg,?_,G.inj,3,G.nd,G.fi]
 .intro j J N e;let#[ab,Y,e1,e2,e3,e4]:=G.va j J N e;have A:∃U,(upd s.ow b ((s.ow b).set n c) J)[N]?=some U/\1<=U:=by
   by_cases L:J=b
   .subst L;rw[af];by_cases O:n=N
    .subst O;show#[c,KH hn,hc]
    .rw[Kx O];show#[Y,e2,e3]
   .rw[aV L];show#[Y,e2,e3]
  let#[U,a1,a2]:=A;show#[ab,U,e1,a1,a2,e4]
 .intro J N Y e;have e:(upd s.ow b ((s.ow b).set n c) J)[N]?=some Y:=e;by_cases L:J=b
  .subst L;rw[af]at e;by_cases O:n=N
   .subst O;show .inr #[k,hk]
   .rw[Kx O]at e;show G.on _ _ _ e
  .rw[aV L]at e;show G.on _ _ _ e
 .intro J;change(s.co J).length=(upd s.ow b _ J).length;by_cases L:J=b
  .subst L;rw[af,KG];show G.ln _
  .rw[aV L];show G.ln _
theorem iV (G:Good s) (J:s.pl k=some (b,n)) {O:Int}(h:Vw s k cs O):Vw (cz s b n c) k cs c:=by
 let#[Y,n',L,N,U]:=h;rw[J]at L;cases L;show#[b,n,J,N,?_];change(upd s.ow b _ b)[_]?=_;rw[af,KH (List.getElem?_eq_some_iff.mp U).1]
theorem dw (G:Good s) (hk:s.pl k=some (b,n)) {j:Int}(hj:j≠k) {Y:List Int}{c':Int}:Vw (cz s b n c) j Y c'↔Vw s j Y c':=by
 have A:∀J L,s.pl j=some (J,L)->((cz s b n c).ow J)[L]?=(s.ow J)[L]?:=by
  intro J L e;change(upd s.ow b _ J)[L]?=_;by_cases eb:J=b
  .subst eb;rw[af,Kx (λq=>hj (G.inj _ _ _ e (by rw[hk,q])))]
  .rw[aV eb]
 constructor
 .rintro⟨J,L,N,O,U⟩;show#[J,L,N,O,by rw[<-A _ _ N];show U]
 .rintro⟨J,L,N,O,U⟩;show#[J,L,N,O,by rw[A _ _ N];show U]
theorem u4 (G:Good s) (hk:s.pl k=some (b,n)) (hc:cs.length=8):Good (write s b n cs):=by
 let#[ab,c0,g1,g2,_,g4]:=G.va _ _ _ hk;have hn:n<(s.co b).length:=(List.getElem?_eq_some_iff.mp g1).1;show#[G.rg,?_,G.inj,G.on,?_,G.nd,G.fi]
 .intro j J O e;let#[Y,c',U,e2,e3,e4]:=G.va j J O e;have A:∃N,(upd s.co b ((s.co b).set n (some cs)) J)[O]?=some (some N)/\N.length=8:=by
   by_cases L:J=b
   .subst L;rw[af];by_cases en:n=O
    .subst en;show#[cs,KH hn,hc]
    .rw[Kx en];show#[Y,U,e4]
   .rw[aV L];show#[Y,U,e4]
  let#[N,a1,a2]:=A;show#[N,c',a1,e2,e3,a2]
 .intro J;change(upd s.co b _ J).length=(s.ow J).length;by_cases L:J=b
  .subst L;rw[af,KG];show G.ln _
  .rw[aV L];show G.ln _
theorem zA (G:Good s) (J:s.pl k=some (b,n)) {U:List Int}(h:Vw s k U c):Vw (write s b n cs) k cs c:=by
 let#[Y,n',L,N,O]:=h;rw[J]at L;cases L;show#[b,n,J,?_,O];change(upd s.co b _ b)[_]?=_;rw[af,KH (List.getElem?_eq_some_iff.mp N).1]
theorem gS (G:Good s) (hk:s.pl k=some (b,n)) {j:Int}(hj:j≠k) {Y:List Int}{c':Int}:Vw (write s b n cs) j Y c'↔Vw s j Y c':=by
 have A:∀J L,s.pl j=some (J,L)->((write s b n cs).co J)[L]?=(s.co J)[L]?:=by
  intro J L e;change(upd s.co b _ J)[L]?=_;by_cases eb:J=b
  .subst eb;rw[af,Kx (λq=>hj (G.inj _ _ _ e (by rw[hk,q])))]
  .rw[aV eb]
 constructor
 .rintro⟨J,L,N,O,U⟩;show#[J,L,N,by rw[<-A _ _ N];show O,U]
 .rintro⟨J,L,N,O,U⟩;show#[J,L,N,by rw[A _ _ N];show O,U]
end
end Pg
namespace Pg
theorem sum_set {l:List Int}{n:Nat}{x y:Int}(h:l[n]?=some x):(l.set n y).sum=l.sum-x+y:=by
 induction l generalizing n with
 |nil=>cases h
 |cons a l G =>
  cases n with
  |zero =>
   cases h;change(y::l).sum=_;simp only[LQ];lia
  |succ n =>
   have h:l[n]?=some x:=h;change(a::l.set n y).sum=_;simp only[LQ,G h];lia
noncomputable def all (s:PS):Int:=(s.ow true).sum+(s.ow false).sum
theorem pb {ow:Bool->List Int}{b:Bool}{n:Nat}{x y:Int}(h:(ow b)[n]?=some x) :
  (upd ow b ((ow b).set n y) true).sum+(upd ow b ((ow b).set n y) false).sum=(ow true).sum+(ow false).sum-x+y:=by
 cases b
 .rw[aV ar,af,sum_set h];lia
 .rw[af,aV ar,sum_set h];lia
section
variable {s s':PS}{b:Bool}{k:Int}{cs:List Int}{c:Int}{n:Nat}
theorem qp (G:(0:Int)∈s.ow b):all (vR s b k cs c)=all s+c:=by
 have:=pb (ow:=s.ow) (y:=c) (t5 G);unfold all vR;dsimp only;lia
theorem qL {G:Int}(h:(s.ow b)[n]?=some G):all (nG s k b n)=all s-G:=by
 have:=pb (ow:=s.ow) (y:=0) h;unfold all nG;dsimp only;lia
theorem kL {G:Int}(h:(s.ow b)[n]?=some G):all (cz s b n c)=all s-G+c:=by
 have:=pb (ow:=s.ow) (y:=c) h;unfold all cz;dsimp only;omega +splitNatSub
theorem dy {f:Bool->List Int}{n:Nat}{x:Int}(G:Bool):(upd f b ((f b).set n x) G).length=(f G).length:=by
 by_cases e:G=b
 .subst e;rw[af,KG]
 .rw[aV e]
structure Kept (s s':PS) (k:Int):Prop where
 ot:∀j cs' c',j≠k->(Vw s' j cs' c'↔Vw s j cs' c')
 ln:∀b,(s'.ow b).length=(s.ow b).length
 fr:(0:Int)∈s'.ow true->(0:Int)∈s.ow true/\∀j m,j≠k->s.pl j=some (true,m)->s'.pl j=some (true,m)
theorem yH {l:List Int}{n:Nat}{x:Int}(G:x≠0) (h:(0:Int)∈l.set n x):(0:Int)∈l:=by
 rcases List.mem_or_eq_of_mem_set h with h|h
 .show h
 .show absurd h.symm G
theorem xp (G:Good s) (L:(0:Int)∈s.ow true) (N:1<=c):Kept s (vR s true k cs c) k :=
 #[λj O U J=>j8 G L J,λb=>dy b,λh=>#[L,λj m J e=>(aH J).trans e]]
noncomputable def out (s:PS) (G:Int) (L:Nat) (N:List Int) (J:Int):PS:=vR (nG s G true L) false G N J
theorem rW (G:Good s) {J:Int}{L:Nat}{O:List Int}{N:Int}(U:s.pl J=some (true,L)) (hv:Vw s J O N) (hf:(0:Int)∈s.ow false) :
  Good (out s J L O N)/\Vw (out s J L O N) J O N/\(∀j ac c',j≠J->(Vw (out s J L O N) j ac c'↔Vw s j ac c'))/\(0:Int)∈(out s J L O N).ow true/\all (out s J L O N)=all s /\
  (∀b,((out s J L O N).ow b).length=(s.ow b).length)/\(∀j,j≠J->(out s J L O N).pl j=s.pl j):=by
 let#[b',n',e1,e2,e3]:=hv;rw[U]at e1;cases e1;let#[am,c9,a1,a2,a3,a4]:=G.va _ _ _ U;rw[e2]at a1;cases a1;rw[e3]at a2;cases a2;have GR:=jT G U;have ab:(0:Int)∈(nG s J true L).ow false:=by
  show(aV (f:=s.ow) (v:=(s.ow true).set L 0) (show false≠true by decide)).symm▸hf
 have hn:(nG s J true L).pl J=none:=bq;have hr:=G.rg _ _ U;show#[mG GR ab hn hr.1 hr.2 a3 a4,mC ab GR,3,3,?_]
 .intro j ac c' Y;show(j8 GR ab Y).trans (iC G U Y)
 .show(aV (f:=(nG s J true L).ow) (b:=false) (v:=((nG s J true L).ow false).set (((nG s J true L).ow false).idxOf 0) N) (show true≠false by decide)).symm▸rT G U
 .change all (vR _ _ _ _ _)=_;rw[qp ab,qL e3];lia
 .intro b;show(dy (f:=(nG s J true L).ow) b).trans (dy b)
 .intro j Y;show(aH Y).trans (aH Y)
inductive BI (s:PS) (k:Int) (cs:List Int) (c:Int):PS->Prop
 |free:(0:Int)∈s.ow true->BI s k cs c (vR s true k cs c)
 |full {k0:Int}{r:List Int}{n0:Nat}{cs0:List Int}{c0:Int}:¬ (0:Int)∈s.ow true->(0:Int)∈s.ow false->s.inf=k0::r->s.pl k0=some (true,n0)->Vw s k0 cs0 c0->BI s k cs c (vR (out s k0 n0 cs0 c0) true k cs c)
structure JD (s:PS) (k:Int) (cs:List Int) (c:Int) (s':PS):Prop where
 good:Good s'
 vw:Vw s' k cs c
 fr:∃m,s'.pl k=some (true,m)
 kept:Kept s s' k
 ls:s'.ls=s.ls
 al:all s'=all s+c
theorem C5 (G:Good s) (hk:s.pl k=none) (h1:1<=k) (h2:k<=s.ls) (h3:1<=c) (h4:cs.length=8) (h:BI s k cs c s'):JD s k cs c s':=by
 cases h with
 |free h0=>show#[mG G h0 hk h1 h2 h3 h4,mC h0 G,#[_,bq],xp G h0 h3,rfl,qp h0]
 | @full L r J O N nf hf hi hp hv =>
  let#[g1,g2,g3,U,g5,g6,g7]:=rW G hp hv hf;have ap:k≠L:=λe=>(by rw[e,hp]at hk;cases hk);have ab:(out s L J O N).pl k=none:=(by rw[g7 k ap];show hk);show#[mG g1 U ab h1 h2 h3 h4,mC U g1,#[_,bq],#[3,?_],4]
  .intro j ac c' hj;rw[j8 g1 U hj];by_cases e:j=L
   .subst e;constructor
    .intro hw;let#[x1,x2,y1,y2,y3]:=hw;let#[z1,z2,w1,Y,w3]:=g2;rw[y1]at w1;cases w1;rw[y2]at Y;cases Y;rw[y3]at w3;cases w3;show hv
    .intro hw;let#[x1,x2,y1,y2,y3]:=hw;let#[z1,z2,w1,Y,w3]:=hv;rw[y1]at w1;cases w1;rw[y2]at Y;cases Y;rw[y3]at w3;cases w3;show g2
   .show g3 j ac c' e
  .intro b;show(dy (f:=(out s L J O N).ow) b).trans (g6 b)
  .intro h;exfalso;apply nf;have h:(0:Int)∈upd (out s L J O N).ow true (((out s L J O N).ow true).set (((out s L J O N).ow true).idxOf 0) c) true:=h;rw[af]at h;have e1:(out s L J O N).ow true=(s.ow true).set J 0:=by
    show(aV (f:=(nG s L true J).ow) (b:=false) (v:=((nG s L true J).ow false).set (((nG s L true J).ow false).idxOf 0) N) (show true≠false by decide)).trans (show upd s.ow true ((s.ow true).set J 0) true=_ from af)
   rw[e1]at h;let#[i,am,e]:=Lh h;have hl:i<(s.ow true).length:=(by simpa using am);have hz:(0:Int)∈(s.ow true).set J 0:=e1▸U;have e0:((s.ow true).set J 0).idxOf 0=J:=by
    have q:=t5 hz;by_cases en:J=((s.ow true).set J 0).idxOf 0
    .show en.symm
    .rw[Kx en]at q;show absurd (J7 q) nf
   rw[List.getElem_set]at e;split at e
   .lia
   .rename_i ne;rw[List.getElem_set]at e;split at e
    .rename_i e2;show absurd (e0.trans e2) ne
    .show e▸La hl
  .rw[qp U,g5]
theorem Ft (G:Good s) (hf:(0:Int)∈s.ow true\/(0:Int)∈s.ow false) (hn:s.ow true≠[]):((0:Int)∈s.ow true)\/(¬ (0:Int)∈s.ow true/\(0:Int)∈s.ow false/\∃J r L N U,s.inf=J::r/\s.pl J=some (true,L)/\Vw s J N U):=by
 by_cases h:(0:Int)∈s.ow true
 .show .inl h
 .show .inr #[h,hf.resolve_left h,?_];have hp:0<(s.ow true).length:=List.length_pos_iff.mpr hn;have h0:(s.ow true)[0]?=some (s.ow true)[0]:=J4 hp;rcases G.on _ _ _ h0 with e|⟨j,e⟩
  .show absurd (e▸La hp) h
  .have Y:j∈s.inf:=(G.fi j).mpr #[_,e];cases hi:s.inf with
   |nil=>rw[hi]at Y;cases Y
   |cons J r =>
    let#[L,O]:=(G.fi J).mp (by rw[hi];show Kv);let#[N,U,a1,a2,_,_]:=G.va _ _ _ O;show#[J,r,L,N,U,rfl,O,true,L,O,a1,a2]
end
end Pg
namespace Pg
section
variable {s s':PS}{b:Bool}{k:Int}{cs:List Int}{c:Int}{n:Nat}
theorem Vw.one {L:List Int}{O:Int}(h:Vw s k cs c) (h':Vw s k L O):L=cs/\O=c:=by
 let#[x1,x2,y1,Y,U]:=h;let#[z1,z2,N,J,G]:=h';rw[y1]at N;cases N;rw[Y]at J;cases J;rw[U]at G;cases G;show#[1]
theorem Good.vw (G:Good s) (h:Vw s k cs c):1<=c/\cs.length=8:=by
 let#[x1,x2,U,O,N]:=h;let#[ab,c',L,J,Y,e4]:=G.va _ _ _ U;rw[O]at L;cases L;rw[N]at J;cases J;show#[Y,e4]
noncomputable def used (s:PS) (k:Int):PS:={ s with inf:=s.inf.erase k++[k] }
theorem x6 (G:Good s) (L:s.pl k=some (true,n)):Good (used s k):=by
 show#[G.rg,G.va,G.inj,G.on,G.ln,3]
 .show List.nodup_append.mpr #[G.nd.erase k,by simp,?_];intro x N y J e;rw[ME]at J;subst J;subst e;show((List.Nodup.mem_erase_iff G.nd).mp N).1 rfl
 .intro j;change j∈s.inf.erase k++[k]↔_;rw[List.mem_append,ME,List.Nodup.mem_erase_iff G.nd,G.fi];constructor
  .rintro(h|h)
   .show h.2
   .subst h;show#[n,L]
  .intro h;by_cases e:j=k
   .show .inr e
   .show .inl #[e,h]
inductive FE (s:PS) (k:Int):PS->Prop
 |here {n:Nat}:s.pl k=some (true,n)->FE s k (used s k)
 |away {n:Nat}{cs:List Int}{c:Int}{s':PS}:s.pl k=some (false,n)->Vw s k cs c->BI (nG s k false n) k cs c s'->FE s k s'
structure JR (s:PS) (k:Int) (s':PS):Prop where
 good:Good s'
 vw:∀j cs c,Vw s' j cs c↔Vw s j cs c
 fr:∃m,s'.pl k=some (true,m)
 kept:Kept s s' k
 ls:s'.ls=s.ls
 al:all s'=all s
theorem ou (G:Good s) (h:FE s k s'):JR s k s':=by
 cases h with
 |here J=>show#[x6 G J,λ_ _ _=>Iff.rfl,#[_,J],#[λ_ _ _ _=>Iff.rfl,λ_=>rfl,λh=>#[h,λ_ _ _ e=>e]],1]
 | @away n cs c _ J L hb =>
  have GR:=jT G J;have hr:=G.rg _ _ J;have hc:=G.vw L;have B:=C5 GR (show dt s.pl k none k=none from bq) hr.1 hr.2 hc.1 hc.2 hb;have e3:(s.ow false)[n]?=some c:=by
   let#[x1,x2,y1,y2,y3]:=L;rw[J]at y1;cases y1;show y3
  show#[B.good,?_,B.fr,#[3,?_],B.ls,?_]
  .intro j O U;by_cases e:j=k
   .subst e;constructor
    .intro h;let#[Y,N]:=B.vw.one h;subst Y;subst N;show L
    .intro h;let#[Y,N]:=L.one h;subst Y;subst N;show B.vw
   .show(B.kept.ot j O U e).trans (iC G J e)
  .intro j O U e;show(B.kept.ot j O U e).trans (iC G J e)
  .intro b;show(B.kept.ln b).trans (dy b)
  .intro h;let#[a1,a2]:=B.kept.fr h;have e0:(nG s k false n).ow true=s.ow true:=aV (f:=s.ow) (v:=(s.ow false).set n 0) (show true≠false by decide);show#[e0▸a1,λj m e hj=>a2 j m e ((aH e).trans hj)]
  .rw[B.al,qL e3];omega
noncomputable def next (s:PS):PS:={ s with ls:=s.ls+1 }
theorem nW (G:Good s):Good (next s):=#[λk p h=>by have:=G.rg k p h;show#[this.1,by change k<=s.ls+1;omega],G.va,G.inj,G.on,G.ln,G.nd,G.fi]
theorem fw (G:Good s):s.pl (s.ls+1)=none:=by
 cases h:s.pl (s.ls+1)with
 |none=>rfl
 |some p=>have:=G.rg _ _ h;omega
theorem j9 (G:Good s) (L:0<=s.ls) (J:cs.length=8) (h:BI (next s) (s.ls+1) cs 1 s'):JD (next s) (s.ls+1) cs 1 s' :=
 C5 (nW G) (fw G) ae (Int.le_refl _) (Int.le_refl _) J h
inductive CB (s:PS) (k:Int):PS->Prop
 |more {b:Bool}{n:Nat}{cs:List Int}{c:Int}:s.pl k=some (b,n)->Vw s k cs c->1<c->CB s k (cz s b n (c-1))
 |last {b:Bool}{n:Nat}{cs:List Int}:s.pl k=some (b,n)->Vw s k cs 1->CB s k (nG s k b n)
theorem rK (L:s.pl k=some (b,n)) (N:Vw s k cs c):(s.ow b)[n]?=some c:=by
 let#[U,Y,G,O,J]:=N;rw[L]at G;cases G;show J
structure JI (s:PS) (k:Int) (c:Int) (s':PS):Prop where
 good:Good s'
 ot:∀j cs' c',j≠k->(Vw s' j cs' c'↔Vw s j cs' c')
 me:∀cs' c',Vw s' k cs' c'↔(1<c/\c'=c-1/\Vw s k cs' c)
 pl:∀j,j≠k->s'.pl j=s.pl j
 ln:∀b,(s'.ow b).length=(s.ow b).length
 ls:s'.ls=s.ls
 al:all s'=all s-1
 kept:1<c->Kept s s' k
theorem wJ (G:Good s) (N:Vw s k cs c) (h:CB s k s'):JI s k c s':=by
 cases h with
 | @more b n ac c1 J ab hc =>
  let#[O,U]:=N.one ab;subst O;subst U;have e3:=rK J N;show#[jo G J ae,λj Y c' L=>dw G J L,?_,λ_ _=>rfl,λb=>dy b,rfl,3]
  .intro Y c';have W:=iV (c:=c1-1) G J N;constructor
   .intro h;let#[O,U]:=W.one h;subst O;subst U;show#[hc,rfl,N]
   .rintro⟨_,q,h⟩;let#[O,U]:=N.one h;subst O;subst q;show W
  .rw[kL e3];omega
  .intro _;show#[λj Y c' L=>dw G J L,λb=>dy b,λh=>#[?_,λ_ _ _ e=>e]];have h:(0:Int)∈upd s.ow b ((s.ow b).set n (c1-1)) true:=h;by_cases e:true=b
   .subst e;rw[af]at h;show yH ae h
   .rw[aV e]at h;show h
 | @last b n ac J ab =>
  let#[O,U]:=N.one ab;subst O;subst U;have e3:=rK J N;show#[jT G J,λj Y c' L=>iC G J L,?_,λ_ L=>aH L,λb=>dy b,4,λh=>absurd h ar]
  .intro Y c';constructor
   .rintro⟨x1,x2,y1,_,_⟩;have y9:(none:Option (Bool×Nat))=some (x1,x2):=(by rw[<-y1];show bq.symm);cases y9
   .rintro⟨q,_,_⟩;show absurd q ar
  .rw[qL e3]
theorem zl (G:Good s) (J:s.pl k=some (b,n)) (L:Vw s k cs c):Good (cz s b n (c+1))/\Vw (cz s b n (c+1)) k cs (c+1)/\all (cz s b n (c+1))=all s+1:=by
 have:=G.vw L;show#[jo G J ae,iV G J L,?_];rw[kL (rK J L)];omega
end
end Pg
namespace Pg
noncomputable abbrev Ent:=Option Int
noncomputable def full (es:List Ent):Int:=(es.countP (·.isSome):Nat)
structure RI (s:PS) (es:List Ent):Prop where
 good:Good s
 l0:0<=s.ls
 ne:s.ow true≠[]
 is:∀k,some k∈es->∃cs c,Vw s k cs c
 ct:∀k cs c,Vw s k cs c->c=(es.count (some k):Nat)
 al:all s=full es
 rm:es.length<=(s.ow true).length+(s.ow false).length
section
variable {s s':PS}{es r:List Ent}{k:Int}{cs:List Int}{c:Int}
theorem RI.perm {G:List Ent}(R:RI s es) (p:es.Perm G):RI s G :=
 #[R.good,R.l0,R.ne,λk h=>R.is k (p.mem_iff.mpr h),λk cs c h=>by rw[<-p.count_eq];show R.ct k cs c h,by rw[R.al];unfold full;rw[p.countP_eq],by rw[<-p.length_eq];show R.rm]
theorem iw:full (none::es)=full es:=by unfold full;rw[List.countP_cons_of_neg (by simp)]
theorem gg:full (some k::es)=full es+1:=by unfold full;rw[List.countP_cons_of_pos (by simp)];simp
theorem wb:full es<=es.length:=by unfold full;exact_mod_cast List.countP_le_length
theorem jb {j:Int}:(none::es).count (some j)=es.count (some j):=List.count_cons_of_ne (by simp)
theorem dA:(some k::es).count (some k)=es.count (some k)+1:=List.count_cons_self
theorem eJ {j:Int}(h:j≠k):(some k::es).count (some j)=es.count (some j):=List.count_cons_of_ne (by simpa using JZ h)
theorem RI.lay (R:RI s es) (h:es.length<(s.ow true).length+(s.ow false).length):RI s (none::es):=
 #[R.good,R.l0,R.ne,λk h=>R.is k (by simpa using h),λk cs c h=>by rw[jb];show R.ct k cs c h,by rw[iw];show R.al,h]
theorem RI.bare (R:RI s (none::es)):RI s es :=
 #[R.good,R.l0,R.ne,λk h=>R.is k (by simpa using h),λk cs c h=>by rw[<-jb];show R.ct k cs c h,by rw[<-iw];show R.al,Nat.le_of_succ_le R.rm]
theorem RI.leave (R:RI s (some k::es)) (O:Vw s k cs c) (h:CB s k s'):RI s' es:=by
 have L:=wJ R.good O h;have Y:=R.ct _ _ _ O;rw[dA]at Y;show#[L.good,by rw[L.ls];show R.l0,3,3,?_]
 .intro e;have:=L.ln true;rw[e]at this;show R.ne (List.length_eq_zero_iff.mp this.symm)
 .intro j N;by_cases e:j=k
  .subst e;have:0<es.count (some j):=List.count_pos_iff.mpr N;show#[cs,c-1,(L.me cs (c-1)).mpr #[ae,rfl,O]]
  .let#[G,J,q]:=R.is j (Kp _ N);show#[G,J,(L.ot j G J e).mpr q]
 .intro j G J N;by_cases e:j=k
  .subst e;let#[q1,q2,q3]:=(L.me G J).mp N;omega
  .rw[<-eJ e];show R.ct j G J ((L.ot j G J e).mp N)
 .have U:=R.al;rw[gg]at U;rw[L.al,U];omega
 .rw[L.ln,L.ln];show Nat.le_of_succ_le R.rm
theorem RI.share {b:Bool}{n:Nat}(R:RI s es) (N:s.pl k=some (b,n)) (O:Vw s k cs c) (h:es.length<(s.ow true).length+(s.ow false).length):RI (cz s b n (c+1)) (some k::es):=by
 let#[g,v,a]:=zl R.good N O;have U:=R.ct _ _ _ O;show#[g,R.l0,3,3,?_]
 .intro e;have:=dy (f:=s.ow) (b:=b) (n:=n) (x:=c+1) true;have e:upd s.ow b ((s.ow b).set n (c+1)) true=[]:=e;rw[e]at this;show R.ne (List.length_eq_zero_iff.mp this.symm)
 .intro j G;by_cases e:j=k
  .subst e;show#[cs,c+1,v]
  .let#[J,L,q]:=R.is j (by simpa[e]using G);show#[J,L,(dw R.good N e).mpr q]
 .intro j J L G;by_cases e:j=k
  .subst e;let#[_,q]:=v.one G;rw[dA];omega
  .rw[eJ e];show R.ct j J L ((dw R.good N e).mp G)
 .rw[a,gg,R.al]
 .change es.length+1<=(upd s.ow b _ true).length+(upd s.ow b _ false).length;rw[dy,dy];show h
theorem RI.C6 (R:RI s es) (h:FE s k s'):RI s' es:=by
 have F:=ou R.good h;show#[F.good,by rw[F.ls];show R.l0,3,?_,by rw[F.al];show R.al,by rw[F.kept.ln,F.kept.ln];show R.rm]
 .intro e;have:=F.kept.ln true;rw[e]at this;show R.ne (List.length_eq_zero_iff.mp this.symm)
 .intro j G;let#[cs,c,q]:=R.is j G;show#[cs,c,(F.vw j cs c).mpr q]
 .intro j cs c G;show R.ct j cs c ((F.vw j cs c).mp G)
theorem RI.fill (R:RI s (none::r)) (Y:cs.length=8) (h:BI (next s) (s.ls+1) cs 1 s'):RI s' (some (s.ls+1)::r):=by
 have B:=j9 R.good R.l0 Y h;have U:r.count (some (s.ls+1))=0:=by
  apply Nat.eq_zero_of_not_pos;intro q;let#[G,J,x1,x2,O,_]:=R.is _ (Kp _ (List.count_pos_iff.mp q));rw[fw R.good]at O;cases O
 show#[B.good,by rw[B.ls];change 0<=s.ls+1;have:=R.l0;omega,3,3,?_]
 .intro e;have:=B.kept.ln true;rw[e]at this;show R.ne (List.length_eq_zero_iff.mp this.symm)
 .intro j L;by_cases e:j=s.ls+1
  .subst e;show#[cs,(1),B.vw]
  .let#[G,J,q]:=R.is j (by simpa[e]using L);show#[G,J,(B.kept.ot j G J e).mpr q]
 .intro j G J L;by_cases e:j=s.ls+1
  .subst e;let#[_,q]:=B.vw.one L;rw[dA,U,q];rfl
  .rw[eJ e, <-jb];show R.ct j G J ((B.kept.ot j G J e).mp L)
 .have N:=R.al;rw[iw]at N;rw[B.al,gg, <-N];rfl
 .rw[B.kept.ln,B.kept.ln];show R.rm
theorem jq {l:List Int}(h:∀x∈l,1<=x):(l.length:Int)<=l.sum:=by
 induction l with
 |nil=>show Int.le_refl _
 |cons a l G =>
  have h1:=h a Kv;have h2:=G λx J=>h x (Kp _ J);rw[LQ,Kf];omega
theorem Good.pos (G:Good s) {b:Bool}(h:¬ (0:Int)∈s.ow b):∀x∈s.ow b,1<=x:=by
 intro x L;let#[n,J]:=List.getElem?_of_mem L;rcases G.on _ _ _ J with e|⟨j,e⟩
 .show absurd (e▸L) h
 .let#[cs,c,_,N,O,_]:=G.va _ _ _ e;rw[J]at N;cases N;show O
theorem RI.room (R:RI s (none::r)):(0:Int)∈s.ow true\/(0:Int)∈s.ow false:=by
 by_cases h1:(0:Int)∈s.ow true
 .show .inl h1
 .by_cases h2:(0:Int)∈s.ow false
  .show .inr h2
  .exfalso;have O:=jq (R.good.pos h1);have N:=jq (R.good.pos h2);have G:=R.al;rw[iw]at G;have L:=wb (es:=r);have J:=R.rm;rw[Kf]at J;unfold all at G;omega
theorem sV {l:List Int}(h:∀x∈l,1<=x) {n:Nat}{c:Int}(G:l[n]?=some c):(l.length:Int)+c-1<=l.sum:=by
 induction l generalizing n with
 |nil=>cases G
 |cons a l J =>
  have h2:∀x∈l,1<=x:=λx L=>h x (Kp _ L);have h1:=h a Kv;cases n with
  |zero =>
   cases G;have:=jq h2;rw[LQ,Kf];omega
  |succ n =>
   have:=J h2 (show l[n]?=some c from G);rw[LQ,Kf];omega
theorem RI.He (R:RI s es) (L:Vw s k cs c) (U:1<c):(0:Int)∈s.ow true\/(0:Int)∈s.ow false:=by
 by_cases h1:(0:Int)∈s.ow true
 .show .inl h1
 .by_cases h2:(0:Int)∈s.ow false
  .show .inr h2
  .exfalso;have a1:=jq (R.good.pos h1);have N:=jq (R.good.pos h2);have J:=R.al;have Y:=wb (es:=es);have O:=R.rm;unfold all at J;let#[b,n,_,_,G]:=L;cases b
   .have:=sV (R.good.pos h2) G;omega
   .have:=sV (R.good.pos h1) G;omega
end
end Pg
namespace Pg
noncomputable def xH (s:PS) (e:Ent) (cs:List Int):Prop:=match e with
 |none=>cs=replicate 8 0
 |some k=>∃c,Vw s k cs c
noncomputable def bf (es:List Ent) (s s':PS):Prop:=∀e∈es,∀cs,xH s e cs->xH s' e cs
theorem bf.refl {es:List Ent}{s:PS}:bf es s s:=λ_ _ _ h=>h
section
variable {s s':PS}{es r:List Ent}{k:Int}{cs:List Int}{c:Int}
theorem RI.uB (R:RI s (some k::es)) (G:Vw s k cs c) (h:CB s k s'):bf es s s':=by
 have L:=wJ R.good G h;have U:=R.ct _ _ _ G;rw[dA]at U;intro e O ab q;cases e with
 |none=>show q
 |some j =>
  let#[N,q]:=q;by_cases J:j=k
  .subst J;let#[q1,Y]:=G.one q;subst q1;subst Y;have:0<es.count (some j):=List.count_pos_iff.mpr O;show#[N-1,(L.me _ _).mpr #[ae,rfl,G]]
  .show#[N,(L.ot j _ _ J).mpr q]
theorem uE {b:Bool}{n:Nat}(G:Good s) (J:s.pl k=some (b,n)) (L:Vw s k cs c):bf es s (cz s b n (c+1)):=by
 intro e Y ab q;cases e with
 |none=>show q
 |some j =>
  let#[U,q]:=q;by_cases N:j=k
  .subst N;let#[O,q2]:=L.one q;subst O;show#[c+1,iV G J L]
  .show#[U,(dw G J N).mpr q]
theorem vm (G:Good s) (h:FE s k s'):bf es s s':=by
 intro e L N q;cases e with
 |none=>show q
 |some j =>
  let#[J,q]:=q;show#[J,((ou G h).vw _ _ _).mpr q]
theorem RI.xJ (R:RI s (none::r)) (J:cs.length=8) (h:BI (next s) (s.ls+1) cs 1 s'):bf r s s':=by
 have B:=j9 R.good R.l0 J h;intro e O U q;cases e with
 |none=>show q
 |some j =>
  let#[N,q]:=q;have L:j≠s.ls+1:=by
   intro e;let#[Y,x2,G,_]:=q;rw[e,fw R.good]at G;cases G
  show#[N,(B.kept.ot _ _ _ L).mpr q]
theorem RI.part {s1 s2:PS}{ac:List Int}{Y:Int}(R:RI s (some k::r)) (hv:Vw s k ac Y) (hc:1<Y) (h4:cs.length=8) (hB:BI (next s) (s.ls+1) cs 1 s1) (hL:CB s1 k s2) :
  RI s2 (some (s.ls+1)::r)/\bf r s s2/\xH s2 (some (s.ls+1)) cs/\(∃m,s2.pl (s.ls+1)=some (true,m))/\s2.ls=s.ls+1 /\
  ((0:Int)∈s2.ow true->(0:Int)∈s.ow true/\∀j m,s.pl j=some (true,m)->s2.pl j=some (true,m))/\(∀b,(s2.ow b).length=(s.ow b).length):=by
 have B:=j9 R.good R.l0 h4 hB;have nn:=fw R.good;have kn:k≠s.ls+1:=by
  intro e;let#[x1,x2,J,_]:=hv;rw[e,nn]at J;cases J
 have ab:Vw s1 k ac Y:=(B.kept.ot _ _ _ kn).mpr hv;have L:=wJ B.good ab hL;have K:=L.kept hc;have ap:=R.ct _ _ _ hv;rw[dA]at ap;have no:r.count (some (s.ls+1))=0:=by
  apply Nat.eq_zero_of_not_pos;intro q;let#[U,O,x1,x2,J,_]:=R.is _ (Kp _ (List.count_pos_iff.mp q));rw[nn]at J;cases J
 have vn:Vw s2 (s.ls+1) cs 1:=(L.ot _ _ _ (JZ kn)).mpr B.vw;have ln:∀b,(s2.ow b).length=(s.ow b).length:=λb=>(L.ln b).trans (B.kept.ln b);show#[#[L.good,3,3,3],?_,#[(1),vn],3,?_,ln]
 .rw[L.ls,B.ls];change 0<=s.ls+1;have:=R.l0;omega
 .intro e;have:=ln true;rw[e]at this;show R.ne (List.length_eq_zero_iff.mp this.symm)
 .intro j N;by_cases e:j=s.ls+1
  .subst e;show#[cs,(1),vn]
  .have N:some j∈r:=(by simpa[e]using N);by_cases G:j=k
   .subst G;show#[ac,Y-1,(L.me _ _).mpr #[hc,rfl,ab]]
   .let#[U,O,q]:=R.is j (Kp _ N);show#[U,O,(L.ot _ _ _ G).mpr ((B.kept.ot _ _ _ e).mpr q)]
 .intro j U O N;by_cases e:j=s.ls+1
  .subst e;let#[_,q]:=vn.one N;rw[dA,no,q];rfl
  .rw[eJ e];by_cases G:j=k
   .subst G;let#[q1,q2,q3]:=(L.me _ _).mp N;omega
   .rw[<-eJ G];show R.ct j U O ((B.kept.ot _ _ _ e).mp ((L.ot _ _ _ G).mp N))
 .have h9:=R.al;rw[gg]at h9;rw[L.al,B.al,gg, <-h9];change all s+1-1=all s;omega
 .rw[ln,ln];show R.rm
 .intro e he U q;cases e with
  |none=>show q
  |some j =>
   let#[O,q]:=q;have ej:j≠s.ls+1:=by
    intro e;let#[x1,x2,J,_]:=q;rw[e,nn]at J;cases J
   by_cases G:j=k
   .subst G;let#[q1,q2]:=hv.one q;subst q1;show#[Y-1,(L.me _ _).mpr #[hc,rfl,ab]]
   .show#[O,(L.ot _ _ _ G).mpr ((B.kept.ot _ _ _ ej).mpr q)]
 .let#[m,hm]:=B.fr;show#[m,(L.pl _ (JZ kn)).trans hm]
 .rw[L.ls,B.ls];rfl
 .intro h;let#[a1,a2]:=K.fr h;let#[b1,b2]:=B.kept.fr a1;show#[b1,?_];intro j m e;have ej:j≠s.ls+1:=(by intro q;rw[q,nn]at e;cases e);have e1:=b2 j m ej e;by_cases G:j=k
  .subst G;cases hL with
   |more hk am as=>show e1
   |last hk am =>
    have:=(ab.one am).2;omega
  .show a2 j m G e1
theorem RI.write {J:PS}{m:Nat}(R:RI s (some k::r)) {ac:List Int}(hv:Vw s k ac 1) (h4:cs.length=8) (hF:FE s k J) (N:J.pl k=some (true,m)) :
  RI (write J true m cs) (some k::r)/\bf r s (write J true m cs)/\xH (write J true m cs) (some k) cs:=by
 have F:=ou R.good hF;have G:=R.C6 hF;have ab:Vw J k ac 1:=(F.vw _ _ _).mpr hv;have am:=R.ct _ _ _ hv;rw[dA]at am;have no:¬ some k∈r:=λh=>(by have:0<r.count (some k):=List.count_pos_iff.mpr h;omega);have Y:=zA (cs:=cs) G.good N ab;show#[#[u4 G.good N h4,G.l0,G.ne,3,G.al,G.rm],?_,#[(1),Y]]
 .intro j O;by_cases e:j=k
  .subst e;show#[cs,(1),Y]
  .let#[U,L,q]:=G.is j O;show#[U,L,(gS G.good N e).mpr q]
 .intro j U L O;by_cases e:j=k
  .subst e;let#[_,q]:=Y.one O;rw[q];show G.ct _ _ _ ab
  .show G.ct j U L ((gS G.good N e).mp O)
 .intro e he U q;cases e with
  |none=>show q
  |some j =>
   let#[L,q]:=q;have ek:j≠k:=λe=>no (e▸he);show#[L,(gS G.good N ek).mpr ((F.vw _ _ _).mpr q)]
end
end Pg
namespace St
open PySem L2
noncomputable abbrev zg:Ky:=top 12
noncomputable abbrev pQ:Ky:=top 13
section
variable {P:J2}{w:Kd}{K:PySem.W.Frag}{mg:Str->Option Value}{base:Heap}
theorem aR.keep {C p ow co:Addr}{M:Addr->Prop}{os:List Int}{pg:List (Option (List Int))}{H H':Hp}(S:aR C H M p ow co os pg) (h:Off (λ_=>False) H H'):aR C H' M p ow co os pg:=by
 let#[#[dx,h1],G,cs,L,J]:=S;show#[#[dx,h _ _ h1 id],h _ _ G id,cs,h _ _ L id,iE h (λ_ z=>z.elim) J]
theorem cO {H:Hp}{l:Addr}{o:HO}(h:H l=none):Off (λ_=>False) H (upd H l o):=by
 intro b o' e _;rw[ah (λz=>by rw[z,h]at e;cases e)];show e
theorem fK {os:List Int}{n:Nat}{x:Int}(h:n<os.length):dU (os.set n x) n=x:=by
 unfold dU;rw[Qh (by rw[KG];omega)];simp[h]
theorem eT {os:List Int}{n:Nat}{x:Int}(h:os[n]?=some x):dU os n=x:=by
 let#[h1,h2]:=List.getElem?_eq_some_iff.mp h;unfold dU;rw[Qh ae];simp[h1,h2]
theorem Bf {os:List Int}{n:Nat}{x:Int}(h:os[n]?=some x):os.set n x=os:=by
 let#[h1,h2]:=List.getElem?_eq_some_iff.mp h;rw[<-h2];show List.set_getElem_self h1
inductive pC (C:Addr) (vs:List V) (H:Hp) (Q:VK) (e3:XK):Prop
 |mk (p ow co:Addr) (M:Addr->Prop) (os:List Int) (pg:List (Option (List Int))) (n:Nat) (ns:List Int) (c:Nat) (_:vs=[.ref p,.int n]) (_:aR C H M p ow co os pg) (_:M ow) (_:M co) (_:(∀b,M b->H b≠none)) (_:ow≠co) (_:os.length<=60) (_:os[n]?=some (c:Int)) (_:1<=c) (_:c<=1000) (_:pg[n]?=some (some ns)) (_:∀(H':Hp) (t l:Addr),H t=none->H' t=some (.tup [.ref l,.int c])->¬ M l->H' l=some (.lst (ns.map V.int))->aR C H' M p ow co (os.set n 0) pg->Off (λb=>b=ow\/b=co) H H'->Q (.ref t) H'):pC C vs H Q e3
theorem GW:aC ["store","n","moved"] ["store","n"] (aw zg):=L2.bD
theorem B9 {f C:Addr}{fd:J0}(F:cQ K "lift" "lift" zg f fd) (T:Txt K mg C) (GE:Md P w K mg base aW 3 C "cells" (k7 C)) (GC:Md P w K mg base aW 1 C "count" (gG C)) (GL:Md P w K mg base aW 3 C "less" (qO C)) :
  bh P w K mg base aW 4 f fd ["store","n"] (pC C):=by
 show F.ok GW (λvs H Q E h=>?_) (λa0 A outer s H vs Q E U h=>?_)
 .let#[p,ow,co,M,os,pg,n,ns,c,rfl,_]:=h;rfl
 .let#[p,ow,co,M,os,pg,n,ns,c,rfl,S,mw,mc,mt,as,O,Y,c1,c2,hg,k]:=h;let#[#[dx,h1],hw,cs,a6,hp]:=id S;let#[nl,_]:=List.getElem?_eq_some_iff.mp Y;have hc:dU os n≠0:=(by rw[eT Y];omega);show#[_,(ag (aK (i:=2) GW.nd rfl (J6 rfl) (dh (aa (pm (pv 0) T.cl GE U ay (aa (pv 1) ai)) (aa (pm (pv 0) T.cl GC U ay (aa (pv 1) ai)) ai))))
   (ag (rR Kh (aE iO (pm (pv 0) T.cl GC U ay (aa (pv 1) ai)) ak (aJ _)) (aj (aP (pm (pv 0) T.cl GL U ay (aa (pv 1) ai)))))
   (aj (aF (pv 2))))),?_]
  show#[0,p,dx,0,h1,aX _ _ ao ao,0,p,ow,co,M,os,pg,n,ns,rfl,S,O,hc,hg,?_];intro l fl;have N:=S.keep (cO (o:=.lst (ns.map V.int)) fl);have ap:upd H l (.lst (ns.map V.int)) l=some (.lst (ns.map V.int)):=af;have O1:Off (λb=>b=ow\/b=co) H (upd H l (.lst (ns.map V.int))):=λb o e _=>cO fl b o e id;generalize upd H l (.lst (ns.map V.int))=H1 at *;let#[aB,aT]:=N.ob;show#[0,p,aB,0,aT,aX _ _ ao ao,0,p,ow,co,M,os,pg,n,rfl,N,O,?_];rw[eT Y];show#[by change 2<=sizeLine;decide,λt G=>?_];have S2:=N.keep (cO (o:=.tup [.ref l,.int c]) G);have ht:upd H1 t (.tup [.ref l,.int c]) t=some (.tup [.ref l,.int c]):=af;have am:upd H1 t (.tup [.ref l,.int c]) l=some (.lst (ns.map V.int)):=cO G l _ ap id;have O2:Off (λb=>b=ow\/b=co) H (upd H1 t (.tup [.ref l,.int c])):=λb o e z=>cO G b o (O1 b o e z) id;have nM:¬ M l:=λz=>mt l z fl;have fH:H t=none:=by
   cases e:H t with
   |none=>rfl
   |some o =>
    exfalso;by_cases z:t=ow\/t=co
    .rcases z with z|z
     .subst z;rw[N.hw]at G;cases G
     .subst z;let#[_,q,_]:=N.hc;rw[q]at G;cases G
    .rw[O1 t o e z]at G;cases G
  generalize upd H1 t (.tup [.ref l,.int c])=H2 at *;show#[λm σ H3=>∃c':Nat,m=c'/\σ=[some (.ref p),some (.int n),some (.ref t)]/\aR C H3 M p ow co (os.set n c') pg/\H3 t=some (.tup [.ref l,.int c])/\H3 l=some (.lst (ns.map V.int))/\Off (λb=>b=ow\/b=co) H H3,
   #[c,c,1,by rw[Bf Y];show S2,ht,am,O2],?_]
  rintro m σ H3 ⟨c',rfl,rfl,L,J,l3,O3⟩;let#[ab,h3]:=L.ob;show#[0,p,ab,0,h3,aX _ _ ao ao,0,p,ow,co,M,_,pg,n,rfl,L,by rw[KG];show O,?_];rw[fK nl];show#[_,0,rfl,0,?_];by_cases z:(0:Int)<m
  .rw[decide_eq_true z];show#[λac H'=>ac=[some (.ref p),some (.int n),some (.ref t)]/\aR C H' M p ow co (os.set n (m-1:Nat)) pg/\H' t=some (.tup [.ref l,.int c])/\H' l=some (.lst (ns.map V.int))/\Off (λb=>b=ow\/b=co) H H',3]
   .rintro ac H' ⟨a1,a2,a3,a4,a5⟩;show#[m-1,ae,m-1,rfl,a1,a2,a3,a4,a5]
   .show#[0,p,ab,0,h3,aX _ _ ao ao,0,p,ow,co,M,_,pg,n,rfl,L,mw,mc,as,by rw[KG];show O,by rw[fK nl];omega,?_];intro H4 S4 O4;rw[fK nl,show(n:Int).toNat=n from K6 n,List.set_set]at S4;show#[rfl,3,3]
    .have e:((m-1:Nat):Int)=(m:Int)-1:=ae;rw[e];show S4
    .show O4 _ _ J λq=>?_;rcases q with q|q
     .subst q;rw[L.hw]at J;cases J
     .subst q;let#[_,y,_]:=L.hc;rw[y]at J;cases J
    .show O4 _ _ l3 λq=>?_;rcases q with q|q
     .show nM (q▸mw)
     .show nM (q▸mc)
    .intro b o e q;show O4 b o (O3 b o e q) q
  .rw[decide_eq_false z];have e:m=0:=ae;subst e;show#[0,k H3 t l fH J nM l3 L O3]
theorem nK {C p ow co:Addr}{M:Addr->Prop}{os:List Int}{pg:List (Option (List Int))}{H H':Hp}(S:aR C H' M p ow co os pg) (h:Off (λb=>b=ow\/b=co) H H') (mt:∀b,M b->H b≠none):∀b,M b->H' b≠none:=by
 intro b J e;by_cases z:b=ow\/b=co
 .rcases z with z|z
  .subst z;rw[S.hw]at e;cases e
  .subst z;let#[_,q,_]:=S.hc;rw[q]at e;cases e
 .cases G:H b with
  |none=>show mt b J G
  |some o=>rw[h b o G z]at e;cases e
inductive jy (C:Addr) (vs:List V) (H:Hp) (Q:VK) (e3:XK):Prop
 |mk (p ow co t l:Addr) (M:Addr->Prop) (os:List Int) (pg:List (Option (List Int))) (ns:List Int) (c:Nat) (_:vs=[.ref p,.ref t]) (_:aR C H M p ow co os pg) (_:M ow) (_:M co) (_:(∀b,M b->H b≠none)) (_:ow≠co) (_:os.length=pg.length) (_:os.length<=60) (_:(0:Int)∈os) (_:H t=some (.tup [.ref l,.int c])) (_:H l=some (.lst (ns.map V.int))) (_:¬ M l) (_:1<=c) (_:c<=1000) (_:∀H':Hp,aR C H' M p ow co (os.set (os.idxOf 0) c) (pg.set (os.idxOf 0) (some ns))->Off (λb=>b=ow\/b=co) H H'->Q (.int (os.idxOf 0:Nat)) H'):jy C vs H Q e3
theorem Cf:aC ["store","moved","n"] ["store","moved"] (aw pQ):=L2.bD
theorem xr {f C:Addr}{fd:J0}(F:cQ K "settle" "settle" pQ f fd) (T:Txt K mg C) (GT:Md P w K mg base aW 1 C "take" (u0 C)) (GP:Md P w K mg base aW 3 C "put" (wq K C)) (GC:Md P w K mg base aW 1 C "count" (gG C)) (GM:Md P w K mg base aW 3 C "more" (p5 C)) :
  bh P w K mg base aW 4 f fd ["store","moved"] (jy C):=by
 show F.ok Cf (λvs H Q E h=>?_) (λa5 A outer s H vs Q E U h=>?_)
 .let#[p,ow,co,t,l,M,os,pg,ns,c,rfl,_]:=h;rfl
 .let#[p,ow,co,t,l,M,os,pg,ns,c,rfl,S,N,mc,mt,ab,ap,L,h0,J,aB,nM,c1,c2,k]:=h;let#[dx,h1]:=S.ob;have O:os.idxOf 0<os.length:=List.idxOf_lt_length_iff.mpr h0;show#[_,(ag (aK (i:=2) Cf.nd rfl (J6 rfl) (wc (pv 0) T.cl GT U ay))
   (ag (aP (pm (pv 0) T.cl GP U ay (aa (pv 2) (aa (a8 a9 (pv 1) ak (λ_ _=>rfl)) ai))))
   (ag (rR Kh (aE gL (pm (pv 0) T.cl GC U ay (aa (pv 2) ai)) (a8 a9 (pv 1) ak (λ_ _=>rfl)) (aJ _)) (aj (aP (pm (pv 0) T.cl GM U ay (aa (pv 2) ai)))))
   (aj (aF (pv 2)))))),?_]
  show#[0,p,dx,0,h1,aX _ _ ao ao,p,ow,co,M,os,pg,rfl,S,N,mc,mt,ab,ap,L,λz=>absurd h0 z,λ_ H1 S1 O1=>?_];generalize os.idxOf 0=j at *;let#[aT,a0]:=S1.ob;have nt:¬ (t=ow\/t=co):=λq=>by
   rcases q with q|q
   .subst q;rw[S.hw]at J;cases J
   .subst q;let#[_,y,_]:=S.hc;rw[y]at J;cases J
  have as:¬ (l=ow\/l=co):=λq=>by
   rcases q with q|q
   .show nM (q▸N)
   .show nM (q▸mc)
  have t1:=O1 _ _ J nt;have l1:=O1 _ _ aB as;show#[0,p,aT,0,a0,aX _ _ ao ao,0,0,t,_,(0),0,rfl,cg.of t1,rfl,p,ow,co,l,M,2,_,ns,rfl,S1,N,mc,nK S1 O1 mt,ab,by rw[KG,KG];show ap,by rw[KG];show L,by rw[fK O];decide,bB.of l1,?_];intro H2 S2 O2;rw[show(j:Int).toNat=j from K6 j,List.set_set]at S2;show#[λm σ H3=>∃G:Nat,m+G=c/\1<=G/\σ=[some (.ref p),some (.ref t),some (.int j)]/\aR C H3 M p ow co (os.set j G) (pg.set j (some ns))/\H3 t=some (.tup [.ref l,.int c])/\Off (λb=>b=ow\/b=co) H H3,
   #[c-1,(1),ae,J1 _,rfl,S2,O2 _ _ t1 nt,λb o e q=>O2 b o (O1 b o e q) q],?_]
  rintro m σ H3 ⟨G,em,p1,rfl,Y,t3,O3⟩;let#[ac,h3]:=Y.ob;show#[0,p,ac,0,h3,aX _ _ ao ao,0,p,ow,co,M,2,j,rfl,Y,by rw[KG];show L,?_];rw[fK O];show#[0,t,_,(1),0,rfl,cg.of t3,5,0,rfl,0,?_];by_cases z:(G:Int)<c
  .rw[decide_eq_true z];show#[λam H'=>am=[some (.ref p),some (.ref t),some (.int j)]/\aR C H' M p ow co (os.set j (G+1:Nat)) (pg.set j (some ns))/\H' t=some (.tup [.ref l,.int c])/\Off (λb=>b=ow\/b=co) H H',3]
   .rintro am H' ⟨a1,a2,a3,a4⟩;show#[m-1,ae,G+1,ae,ae,a1,a2,a3,a4]
   .show#[0,p,ac,0,h3,aX _ _ ao ao,0,p,ow,co,M,2,j,rfl,Y,N,mc,ab,by rw[KG];show L,by rw[fK O];omega,?_];intro H4 S4 O4;rw[fK O,show(j:Int).toNat=j from K6 j,List.set_set]at S4;show#[rfl,S4,O4 _ _ t3 nt,λb o e q=>O4 b o (O3 b o e q) q]
  .rw[decide_eq_false z];have e:G=c:=ae;subst e;show#[0,k H3 Y O3]
end
structure PA where
 pg:Addr
 fp:Addr
 fo:Addr
 fc:Addr
 sp:Addr
 so:Addr
 sc:Addr
 pd:Addr
 il:Addr
noncomputable def cK (A:PA) (n:Int):List (Str×V):=bo "in_frames" (.ref A.il) (bo "last_sheet" (.int n) (bo "places" (.ref A.pd) (bo "slots" (.ref A.sp) (bo "frames" (.ref A.fp) []))))
noncomputable abbrev EM:=List (Int×Addr×Bool×Nat)
noncomputable def qU (x:Addr×Bool×Nat):V:=.ref x.1
noncomputable def kF (b:Bool) (n:Nat):List V:=[.str (if b=true then "frame" else "slot"),.int n]
structure bK (C CS:Addr) (H:Hp) (M:Addr->Prop) (A:PA) (s:Pg.PS):Prop where
 ob:∃dx,H A.pg=some (.ins C dx (cK A s.ls))
 fr:aR CS H M A.fp A.fo A.fc (s.ow true) (s.co true)
 sl:aR CS H M A.sp A.so A.sc (s.ow false) (s.co false)
 il:H A.il=some (.lst (s.inf.map V.int))
 le:∀b,(s.ow b).length<=60
 pd:∃l:EM,H A.pd=some (.dK (Tb.dk qU l))/\(l.map (·.1)).Nodup/\(∀x∈l,H x.2.1=some (.tup (kF x.2.2.1 x.2.2.2)))/\(∀k,(Tb.look l k).map (·.2)=s.pl k)/\l.length<=1000
structure pY (K:PySem.W.Frag) (mg:Str->Option Value) (C:Addr):Prop where
 cl:qX K C
 nF:cW K C "frames"
 nS:cW K C "slots"
 nP:cW K C "places"
 nL:cW K C "last_sheet"
 nI:cW K C "in_frames"
 list:mg "list" = none
noncomputable abbrev tP:Ky:=inClass (top 14) 9
section
variable {P:J2}{w:Kd}{K:PySem.W.Frag}{mg:Str->Option Value}{base:Heap}
inductive jv (C CS:Addr) (vs:List V) (H:Hp) (Q:VK) (e3:XK):Prop
 |mk (M:Addr->Prop) (A:PA) (s:Pg.PS) (k:Int) (b:Bool) (n:Nat) (_:vs=[.ref A.pg,.int k]) (_:bK C CS H M A s) (_:s.pl k=some (b,n)) (_:∀t,H t=some (.tup (kF b n))->Q (.ref t) H):jv C CS vs H Q e3
theorem oE (A:PA) (n:Int):(cK A n).lookup ("places" : Str)=some (.ref A.pd):=by
 unfold cK;rw[aD,Qh ao,aD,Qh ao,aD,Qi rfl]
theorem IM:aC ["self","sheet"] ["self","sheet"] (aw tP):=L2.bD
theorem zw {f C CS:Addr}{fd:J0}(F:cQ K "place" "Paging.place" tP f fd) (T:pY K mg C):bh P w K mg base aW 1 f fd ["self","sheet"] (jv C CS):=by
 show F.ok IM (λvs H Q E h=>?_) (λab A outer s H vs Q E Y h=>?_)
 .let#[M,J,s',k,b,n,rfl,_]:=h;rfl
 .let#[M,J,s',k,b,n,rfl,G,hk,q]:=h;let#[dx,h1]:=G.ob;let#[l,hd,nd,ht,hl,_]:=G.pd;show#[_,(ag (aS (ij (gc (aZ Y) (pv 1) (aL (pv 0) rfl))) cU aG)
   (aj (aF (bj (aZ Y) (aL (pv 0) rfl) (pv 1) (λ_ _=>rfl))))),?_]
  obtain⟨x,O,ex⟩:∃x,Tb.look l k=some x/\x.2=(b,n):=by
   have:=hl k;rw[hk]at this;show Option.map_eq_some_iff.mp this
  have L:du H J.pd (.int k) (some (qU x)):=by
   have N:=du.k (k:=Sum.inl k) hd;rw[Tb.cI,O]at N;show N
  have U:=ht _ (Tb.ax O);show#[0,0,J.pg,C,dx,_,0,h1,T.cl,T.nP,oE _ _,J.pd,0,L,0,?_];show bC #[0,J.pg,C,dx,_,0,h1,T.cl,T.nP,oE _ _,0,J.pd,qU x,rfl,L,q x.1 ?_];rw[show x.2.1=b by rw[ex],show x.2.2=n by rw[ex]]at U;show U
noncomputable abbrev jX:Ky:=inClass (top 14) 10
noncomputable abbrev lI:Ky:=inClass (top 14) 11
inductive dq (C CS:Addr) (vs:List V) (H:Hp) (Q:VK) (e3:XK):Prop
 |mk (M:Addr->Prop) (A:PA) (s:Pg.PS) (k:Int) (b:Bool) (n:Nat) (_:vs=[.ref A.pg,.int k]) (_:bK C CS H M A s) (_:s.pl k=some (b,n)) (_:Q (.int n) H):dq C CS vs H Q e3
noncomputable def PA.st (A:PA) (b:Bool):Addr:=if b=true then A.fp else A.sp
inductive fq (C CS:Addr) (vs:List V) (H:Hp) (Q:VK) (e3:XK):Prop
 |mk (M:Addr->Prop) (A:PA) (s:Pg.PS) (k:Int) (b:Bool) (n:Nat) (_:vs=[.ref A.pg,.int k]) (_:bK C CS H M A s) (_:s.pl k=some (b,n)) (_:Q (.ref (A.st b)) H):fq C CS vs H Q e3
theorem cL (A:PA) (n:Int) {m:Str}(h1:¬ m = "in_frames") (h2:¬ m = "last_sheet") (J:¬ m = "places") (L:¬ m = "slots") (G:¬ m = "frames"):(cK A n).lookup m=none:=by
 unfold cK;rw[aD,Qh h1,aD,Qh h2,aD,Qh J,aD,Qh L,aD,Qh G]
 all_goals rfl
theorem nZ (A:PA) (n:Int):(cK A n).lookup ("frames" : Str)=some (.ref A.fp):=by
 unfold cK;rw[aD,Qh ao,aD,Qh ao,aD,Qh ao,aD,Qh ao,aD,Qi rfl]
theorem wu (A:PA) (n:Int):(cK A n).lookup ("slots" : Str)=some (.ref A.sp):=by
 unfold cK;rw[aD,Qh ao,aD,Qh ao,aD,Qh ao,aD,Qi rfl]
theorem Il:aC ["self","sheet"] ["self","sheet"] (aw jX):=L2.bD
theorem sG {f C CS:Addr}{fd:J0}(F:cQ K "number_of" "Paging.number_of" jX f fd) (T:pY K mg C) (U:Md P w K mg base aW 1 C "place" (jv C CS)):bh P w K mg base aW 2 f fd ["self","sheet"] (dq C CS):=by
 show F.ok Il (λvs H Q E h=>?_) (λY A outer s H vs Q E N h=>?_)
 .let#[M,J,s',k,b,n,rfl,_]:=h;rfl
 .let#[M,J,s',k,b,n,rfl,G,O,q]:=h;let#[dx,h1]:=G.ob;show#[_,(aj (aF (a8 a9 (pm (pv 0) T.cl U N ay (aa (pv 1) ai)) ak (λ_ _=>rfl)))),?_];show#[0,J.pg,dx,0,h1,cL _ _ ao ao ao ao ao,0,M,J,s',k,b,n,rfl,G,O,λt L=>?_];show#[t,_,(1),0,rfl,cg.of L,rfl,q]
theorem Jj:aC ["self","sheet"] ["self","sheet"] (aw lI):=L2.bD
theorem vE {f C CS:Addr}{fd:J0}(F:cQ K "store_of" "Paging.store_of" lI f fd) (T:pY K mg C) (U:Md P w K mg base aW 1 C "place" (jv C CS)):bh P w K mg base aW 2 f fd ["self","sheet"] (fq C CS):=by
 show F.ok Jj (λvs H Q E h=>?_) (λY A outer s H vs Q E N h=>?_)
 .let#[M,J,s',k,b,n,rfl,_]:=h;rfl
 .let#[M,J,s',k,b,n,rfl,G,O,q]:=h;let#[dx,h1]:=G.ob;show#[_,(ag (aS (aE bU (a8 a9 (pm (pv 0) T.cl U N ay (aa (pv 1) ai)) ak (λ_ _=>rfl)) aI (aJ _)) (aj (aF (aL (pv 0) rfl))) aG)
   (aj (aF (aL (pv 0) rfl)))),?_]
  show#[0,J.pg,dx,0,h1,cL _ _ ao ao ao ao ao,0,M,J,s',k,b,n,rfl,G,O,λt L=>?_];show#[t,_,(0),0,rfl,cg.of L,1,0,?_];cases b with
  |true=>show dZ #[0,J.pg,C,dx,_,0,h1,T.cl,T.nF,nZ _ _,q]
  |false=>show bC #[0,J.pg,C,dx,_,0,h1,T.cl,T.nS,wu _ _,q]
noncomputable abbrev qB:Ky:=inClass (top 14) 12
noncomputable abbrev pN:Ky:=inClass (top 14) 4
noncomputable def PA.ow (A:PA) (b:Bool):Addr:=if b=true then A.fo else A.so
noncomputable def PA.co (A:PA) (b:Bool):Addr:=if b=true then A.fc else A.sc
theorem bK.st {C CS:Addr}{H:Hp}{M:Addr->Prop}{A:PA}{s:Pg.PS}(G:bK C CS H M A s) (b:Bool):aR CS H M (A.st b) (A.ow b) (A.co b) (s.ow b) (s.co b):=by
 cases b
 .show G.sl
 .show G.fr
inductive mX (C CS:Addr) (vs:List V) (H:Hp) (Q:VK) (e3:XK):Prop
 |mk (M:Addr->Prop) (A:PA) (s:Pg.PS) (k:Int) (cs:List Int) (c:Int) (_:vs=[.ref A.pg,.int k]) (_:bK C CS H M A s) (_:Pg.Vw s k cs c) (_:Q (.int c) H):mX C CS vs H Q e3
inductive lL (C CS:Addr) (vs:List V) (H:Hp) (Q:VK) (e3:XK):Prop
 |mk (M:Addr->Prop) (A:PA) (s:Pg.PS) (k:Int) (cs:List Int) (c:Int) (_:vs=[.ref A.pg,.int k]) (_:bK C CS H M A s) (_:Pg.Vw s k cs c) (_:c≠0) (_:∀l,H l=none->Q (.ref l) (upd H l (.lst (cs.map V.int)))):lL C CS vs H Q e3
theorem IT:aC ["self","sheet"] ["self","sheet"] (aw qB):=L2.bD
theorem xY {f C CS:Addr}{fd:J0}(F:cQ K "count" "Paging.count" qB f fd) (T:pY K mg C) (TS:Txt K mg CS) (Y:Md P w K mg base aW 2 C "store_of" (fq C CS)) (O:Md P w K mg base aW 2 C "number_of" (dq C CS)) (U:Md P w K mg base aW 1 CS "count" (gG CS)):bh P w K mg base aW 3 f fd ["self","sheet"] (mX C CS):=by
 show F.ok IT (λvs H Q E h=>?_) (λam A outer s H vs Q E L h=>?_)
 .let#[M,J,s',k,cs,c,rfl,_]:=h;rfl
 .let#[M,J,s',k,cs,c,rfl,G,#[b,n,N,ap,ac],q]:=h;let#[dx,h1]:=G.ob;have S:=G.st b;let#[ab,h2]:=S.ob;show#[_,(aj (aF (pm (pm (pv 0) T.cl Y L ay (aa (pv 1) ai)) TS.cl U L ay (aa (pm (pv 0) T.cl O L ay (aa (pv 1) ai)) ai)))),?_];show#[0,J.pg,dx,0,h1,cL _ _ ao ao ao ao ao,0,M,J,s',k,b,n,rfl,G,N,?_];show#[_,ab,0,h2,aX _ _ ao ao,?_];show#[0,J.pg,dx,0,h1,cL _ _ ao ao ao ao ao,0,M,J,s',k,b,n,rfl,G,N,?_];show#[2,_,M,2,n,rfl,S,G.le b,?_];rw[eT ac];show q
theorem IU:aC ["self","sheet"] ["self","sheet"] (aw pN):=L2.bD
theorem wY {f C CS:Addr}{fd:J0}(F:cQ K "cells" "Paging.cells" pN f fd) (T:pY K mg C) (TS:Txt K mg CS) (Y:Md P w K mg base aW 2 C "store_of" (fq C CS)) (O:Md P w K mg base aW 2 C "number_of" (dq C CS)) (GE:Md P w K mg base aW 3 CS "cells" (k7 CS)):bh P w K mg base aW 4 f fd ["self","sheet"] (lL C CS):=by
 show F.ok IU (λvs H Q E h=>?_) (λap A outer s H vs Q E L h=>?_)
 .let#[M,J,s',k,cs,c,rfl,_]:=h;rfl
 .let#[M,J,s',k,cs,c,rfl,G,#[b,n,N,ac,am],U,q]:=h;let#[dx,h1]:=G.ob;have S:=G.st b;let#[ab,h2]:=S.ob;show#[_,(aj (aF (pm (pm (pv 0) T.cl Y L ay (aa (pv 1) ai)) TS.cl GE L ay (aa (pm (pv 0) T.cl O L ay (aa (pv 1) ai)) ai)))),?_];show#[0,J.pg,dx,0,h1,cL _ _ ao ao ao ao ao,0,M,J,s',k,b,n,rfl,G,N,?_];show#[_,ab,0,h2,aX _ _ ao ao,?_];show#[0,J.pg,dx,0,h1,cL _ _ ao ao ao ao ao,0,M,J,s',k,b,n,rfl,G,N,?_];show#[2,_,M,2,n,cs,rfl,S,G.le b,by rw[eT am];show U,by rw[show(n:Int).toNat=n from K6 n];show ac,q]
end
theorem aR.off {C p ow co:Addr}{B M:Addr->Prop}{os:List Int}{pg:List (Option (List Int))}{H H':Hp}(S:aR C H M p ow co os pg) (h:Off B H H') (N:∀b,B b->M b) (U:¬ B p) (G:¬ B ow) (Y:¬ B co):aR C H' M p ow co os pg:=by
 let#[#[dx,h1],J,cs,O,L]:=S;show#[#[dx,h _ _ h1 U],h _ _ J G,cs,h _ _ O Y,iE h N L]
structure PA.Ok (A:PA) (M:Addr->Prop):Prop where
 ds:[A.pg,A.fp,A.fo,A.fc,A.sp,A.so,A.sc,A.pd,A.il].Nodup
 mm:∀x∈[A.pg,A.fp,A.fo,A.fc,A.sp,A.so,A.sc,A.pd,A.il],M x
noncomputable def PA.own (A:PA):Addr->Prop:=λb=>b∈[A.pg,A.fo,A.fc,A.so,A.sc,A.pd,A.il]
noncomputable abbrev pf:Ky:=inClass (top 14) 8
theorem mE {α:Type}{l:List α}(h:l.Nodup) (i j:Nat) {a b:α}(hi:l[i]?=some a) (L:l[j]?=some b) (N:i≠j):a≠b:=by
 let#[h1,J]:=List.getElem?_eq_some_iff.mp hi;let#[h2,G]:=List.getElem?_eq_some_iff.mp L;have q:=List.pairwise_iff_getElem.mp h;rcases Nat.lt_or_gt_of_ne N with z|z
 .rw[<-J, <-G];show q i j h1 h2 z
 .rw[<-J, <-G];show JZ (q j i h2 h1 z)
theorem gb {a b c:Addr}(h1:a≠b) (h2:a≠c):¬ (a=b\/a=c):=λz=>z.elim h1 h2
theorem Ff {M:Addr->Prop}{a b:Addr}(h1:M a) (h2:M b):∀c,c=a\/c=b->M c:=λc z=>z.elim (λe=>by rw[e];show h1) λe=>by rw[e];show h2
theorem in1 {M:Addr->Prop}{a:Addr}(h1:M a):∀c,c=a->M c:=λc e=>by rw[e];show h1
section
variable {A:PA}{M:Addr->Prop}
theorem PA.Ok.n (ok:A.Ok M) (i j:Nat) {a b:Addr}(hi:[A.pg,A.fp,A.fo,A.fc,A.sp,A.so,A.sc,A.pd,A.il][i]?=some a) (J:[A.pg,A.fp,A.fo,A.fc,A.sp,A.so,A.sc,A.pd,A.il][j]?=some b) (G:i≠j):a≠b:=mE ok.ds i j hi J G
theorem PA.Ok.m (ok:A.Ok M) (i:Nat) {a:Addr}(hi:[A.pg,A.fp,A.fo,A.fc,A.sp,A.so,A.sc,A.pd,A.il][i]?=some a):M a:=ok.mm a (J7 hi)
theorem PA.eX (i:Nat) {a:Addr}(hi:[A.pg,A.fo,A.fc,A.so,A.sc,A.pd,A.il][i]?=some a):A.own a:=J7 hi
theorem PA.Ok.own (ok:A.Ok M):∀b,A.own b->M b:=by
 intro b h;unfold PA.own at h;simp only[Ku,Kb,or_false]at h;rcases h with h|h|h|h|h|h|h<;>rw[h]
 .show ok.m 0 rfl
 .show ok.m 2 rfl
 .show ok.m 3 rfl
 .show ok.m 5 rfl
 .show ok.m 6 rfl
 .show ok.m 7 rfl
 .show ok.m 8 rfl
theorem bK.alive {C CS:Addr}{H H':Hp}{s:Pg.PS}(G:bK C CS H' M A s) (o:Off A.own H H') (mt:∀b,M b->H b≠none):∀b,M b->H' b≠none:=by
 intro b L e;by_cases z:A.own b
 .unfold PA.own at z;simp only[Ku,Kb,or_false]at z;let#[dx,h1]:=G.ob;let#[_,U,_]:=G.fr.hc;let#[_,O,_]:=G.sl.hc;let#[l,N,_]:=G.pd;rcases z with z|z|z|z|z|z|z<;>rw[z]at e
  .rw[h1]at e;cases e
  .rw[G.fr.hw]at e;cases e
  .rw[U]at e;cases e
  .rw[G.sl.hw]at e;cases e
  .rw[O]at e;cases e
  .rw[N]at e;cases e
  .rw[G.il]at e;cases e
 .cases J:H b with
  |none=>show mt b L J
  |some o'=>rw[o b o' J z]at e;cases e
theorem bK.keep {C CS:Addr}{H H':Hp}{s:Pg.PS}(G:bK C CS H M A s) (h:Off (λ_=>False) H H'):bK C CS H' M A s:=by
 let#[dx,h1]:=G.ob;let#[l,hd,U,N,J,L]:=G.pd;show#[#[dx,h _ _ h1 id],G.fr.keep h,G.sl.keep h,h _ _ G.il id,G.le,#[l,h _ _ hd id,U,λx O=>h _ _ (N x O) id,J,L]]
theorem bK.mq {C CS:Addr}{H:Hp}{s:Pg.PS}(G:bK C CS H M A s) (ok:A.Ok M) (r:List Int):bK C CS (upd H A.il (.lst (r.map V.int))) M A { s with inf:=r }:=by
 have o:Off (· = A.il) H (upd H A.il (.lst (r.map V.int))):=λb o e z=>(by rw[ah z];show e);let#[dx,h1]:=G.ob;let#[l,hd,U,J,N,O]:=G.pd;show#[#[dx,o _ _ h1 (ok.n 0 8 rfl rfl ar)],G.fr.off o (in1 (ok.m 8 rfl)) (ok.n 1 8 rfl rfl ar) (ok.n 2 8 rfl rfl ar) (ok.n 3 8 rfl rfl ar),G.sl.off o (in1 (ok.m 8 rfl)) (ok.n 4 8 rfl rfl ar) (ok.n 5 8 rfl rfl ar) (ok.n 6 8 rfl rfl ar),af,G.le,
  #[l,o _ _ hd (ok.n 7 8 rfl rfl ar),U,λx L=>o _ _ (J x L) (cH (J x L) G.il (by intro z;cases z)),N,O]]
theorem bK.DY {C CS:Addr}{H:Hp}{s s':Pg.PS}(G:bK C CS H M A s) (J:s'.ow=s.ow) (L:s'.co=s.co) (e3:s'.ls=s.ls) (e4:s'.inf=s.inf) (Y:∀j,s'.pl j=s.pl j):bK C CS H M A s':=by
 let#[l,hd,nd,U,N,O]:=G.pd;show#[by rw[e3];show G.ob,by rw[J,L];show G.fr,by rw[J,L];show G.sl,by rw[e4];show G.il,by rw[J];show G.le,#[l,hd,nd,U,λj=>by rw[Y];show N j,O]]
theorem BP {H:Hp}{l:EM}{f:Int->Option (Bool×Nat)}{k:Int}{t:Addr}{b:Bool}{n:Nat}(U:(l.map (·.1)).Nodup) (O:∀x∈l,H x.2.1=some (.tup (kF x.2.2.1 x.2.2.2))) (L:∀j,(Tb.look l j).map (·.2)=f j) (ab:l.length<=999\/(f k≠none/\l.length<=1000)) (Y:H t=some (.tup (kF b n))) :
  ∃G:EM,putK (Tb.dk qU l) (Sum.inl k) (.ref t)=Tb.dk qU G/\(G.map (·.1)).Nodup/\(∀x∈G,H x.2.1=some (.tup (kF x.2.2.1 x.2.2.2)))/\(∀j,(Tb.look G j).map (·.2)=Pg.dt f k (some (b,n)) j)/\G.length<=1000:=by
 have N:∀G:EM,(∀j,Tb.look G j=if j=k then some (t,b,n)else Tb.look l j)->∀j,(Tb.look G j).map (·.2)=Pg.dt f k (some (b,n)) j:=by
  intro G h j;rw[h j];by_cases e:j=k
  .rw[Qi e,e,Pg.bq];rfl
  .rw[Qh e,Pg.aH e];show L j
 cases e:Tb.look l k with
 |none =>
  have fk:f k=none:=(by rw[<-L k,e];rfl);show#[l++[(k,(t,b,n))],Tb.cF (f:=qU) (a:=(t,b,n)) e,?_,λx J=>?_,N _ λj=>Tb.bE j e,?_]
  .rw[Ke];show fG U (Tb.cf e)
  .rcases List.mem_append.mp J with J|J
   .show O x J
   .rw[List.mem_singleton.mp J];show Y
  .rw[J9,KZ];rcases ab with h|h
   .omega
   .show absurd fk h.1
 |some y =>
  show#[Tb.aU l k (t,b,n),Tb.hJ (f:=qU) (a:=(t,b,n)) e,by rw[Tb.fB];show U,λx J=>?_,N _ λj=>Tb.bM j e,?_]
  .rcases Tb.mem_set J with rfl|⟨J,_⟩
   .show Y
   .show O x J
  .rw[Tb.gy];omega
theorem bK.yQ {C CS t:Addr}{H:Hp}{s:Pg.PS}{l:EM}{f:Int->Option (Bool×Nat)}{k:Int}{b:Bool}{n:Nat}(ok:A.Ok M)
  (ob:∃dx,H A.pg=some (.ins C dx (cK A s.ls))) (fr:aR CS H M A.fp A.fo A.fc (s.ow true) (s.co true)) (sl:aR CS H M A.sp A.so A.sc (s.ow false) (s.co false)) (il:H A.il=some (.lst (s.inf.map V.int))) (le:∀b,(s.ow b).length<=60)
  (hd:H A.pd=some (.dK (Tb.dk qU l))) (U:(l.map (·.1)).Nodup) (ht:∀x∈l,H x.2.1=some (.tup (kF x.2.2.1 x.2.2.2))) (L:∀j,(Tb.look l j).map (·.2)=f j) (ab:l.length<=999\/(f k≠none/\l.length<=1000)) (Y:H t=some (.tup (kF b n))) (hp:∀j,s.pl j=Pg.dt f k (some (b,n)) j) :
  bK C CS (upd H A.pd (.dK (putK (Tb.dk qU l) (Sum.inl k) (.ref t)))) M A s:=by
 have o:Off (· = A.pd) H (upd H A.pd (.dK (putK (Tb.dk qU l) (Sum.inl k) (.ref t)))):=λb o e z=>(by rw[ah z];show e);let#[N,O,e2,J,e4,e5]:=BP (k:=k) U ht L ab Y;let#[dx,h1]:=ob;show#[#[dx,o _ _ h1 (ok.n 0 7 rfl rfl ar)],fr.off o (in1 (ok.m 7 rfl)) (ok.n 1 7 rfl rfl ar) (ok.n 2 7 rfl rfl ar) (ok.n 3 7 rfl rfl ar),sl.off o (in1 (ok.m 7 rfl)) (ok.n 4 7 rfl rfl ar) (ok.n 5 7 rfl rfl ar) (ok.n 6 7 rfl rfl ar),o _ _ il (ok.n 8 7 rfl rfl ar),le,
  #[N,by rw[af,O],e2,λx G=>o _ _ (J x G) (cH (J x G) hd (by intro z;cases z)),λj=>by rw[hp j];show e4 j,e5]]
theorem lu {α:Type}{k:Int}:∀{l:List (Int×α)},(l.map (·.1)).Nodup->l.length<=(Tb.bg l k).length+1
 | [],_=>Kl _
 |x::r,h=>by
  let#[L,J]:=List.nodup_cons.mp (show(x.1::r.map (·.1)).Nodup from h);have G:=lu (k:=k) J;unfold Tb.bg at G ⊢;rw[Ls];by_cases c:x.1=k
  .rw[Qh (by simp[c])];have:r.filter (λx=>decide (x.1≠k))=r:=by
    rw[Nj];intro y N;have:y.1≠k:=λe=>L (by rw[c, <-e];show List.mem_map.mpr #[y,N,rfl]);simpa using this
   rw[this,Kf];show J1 _
  .rw[Qi (by simpa using c),Kf,Kf];omega
theorem pG {s:Pg.PS}(G:Pg.Good s) (le:∀b,(s.ow b).length<=60) {l:EM}(nd:(l.map (·.1)).Nodup) (J:∀x∈l,s.pl x.1=some x.2.2):l.length<=120:=by
 have lt:∀x∈l,x.2.2.2<60:=λx L=>by
  let#[cs,c,_,h2,_,_]:=G.va x.1 x.2.2.1 x.2.2.2 (J x L);have h3:=(List.getElem?_eq_some_iff.mp h2).1;have h4:=le x.2.2.1;omega
 have:=Tb.AM 120 0 (l.map λx=>if x.2.2.1=true then(x.2.2.2:Int)else 60+(x.2.2.2:Int)) ?_ ?_
 .rwa [DD]at this
 .show List.pairwise_map.mpr ((List.pairwise_map.mp nd).imp_of_mem ?_);intro a b U N ab e;have h1:=lt a U;have h2:=lt b N;show ab (G.inj a.1 b.1 b.2.2 ?_ (J b N));rw[J a U];congr 1;have e:(if a.2.2.1=true then(a.2.2.2:Int)else 60+(a.2.2.2:Int))=if b.2.2.1=true then(b.2.2.2:Int)else 60+(b.2.2.2:Int):=e
  show OG ?_ ?_
  .cases Y:a.2.2.1<;>cases O:b.2.2.1
   .rfl
   .rw[Y,O,Qh ar,Qi rfl]at e;omega
   .rw[Y,O,Qi rfl,Qh ar]at e;omega
   .rfl
  .split at e<;>split at e<;>omega
 .intro x L;let#[y,hy,rfl]:=List.mem_map.mp L;have h1:=lt y hy;split<;>omega
theorem vW {s:Pg.PS}(G:Pg.Good s) (le:(s.ow true).length<=60):s.inf.length<=60:=by
 have:=Tb.AM 60 0 (s.inf.map λk=>match s.pl k with|some p=>(p.2:Int)|none=>0) ?_ ?_
 .rwa [DD]at this
 .show List.pairwise_map.mpr (G.nd.imp_of_mem ?_);intro a b U N Y e;let#[n,J]:=(G.fi a).mp U;let#[m,L]:=(G.fi b).mp N;rw[J,L]at e;have e:(n:Int)=m:=e;have e:n=m:=ae;subst e;show Y (G.inj _ _ _ J L)
 .intro x hx;let#[y,O,rfl]:=List.mem_map.mp hx;let#[n,J]:=(G.fi y).mp O;let#[cs,c,_,h2,_,_]:=G.va _ _ _ J;have h3:=(List.getElem?_eq_some_iff.mp h2).1;rw[J];change 0<=(n:Int)/\(n:Int)<0+(60:Nat);omega
end
section
variable {P:J2}{w:Kd}{K:PySem.W.Frag}{mg:Str->Option Value}{base:Heap}
inductive lQ (C CS:Addr) (vs:List V) (H:Hp) (Q:VK) (e3:XK):Prop
 |mk (M:Addr->Prop) (A:PA) (s:Pg.PS) (k:Int) (n:Nat) (cs:List Int) (c:Nat) (_:vs=[.ref A.pg,.int k]) (_:bK C CS H M A s) (_:A.Ok M) (_:(∀b,M b->H b≠none)) (_:s.pl k=some (true,n)) (_:Pg.Vw s k cs c) (_:¬ k∈s.inf) (_:(0:Int)∈s.ow false) (_:(∀b,(s.co b).length=(s.ow b).length)) (_:1<=c) (_:c<=1000) (_:∀H':Hp,bK C CS H' M A (Pg.out s k n cs c)->Off A.own H H'->Q .non H'):lQ C CS vs H Q e3
theorem Gx:aC ["self","sheet","moved"] ["self","sheet"] (aw pf):=L2.bD
theorem uP {f C CS:Addr}{fd:J0}(F:cQ K "put_out" "Paging.put_out" pf f fd) (T:pY K mg C) (ab:Df P w K mg base aW 4 "lift" (pC CS)) (as:Df P w K mg base aW 4 "settle" (jy CS)) (a2:Md P w K mg base aW 2 C "number_of" (dq C CS)):bh P w K mg base aW 5 f fd ["self","sheet"] (lQ C CS):=by
 show F.ok Gx (λvs H Q E h=>?_) (λba A outer s H vs Q E U h=>?_)
 .let#[M,J,s',k,n,cs,c,rfl,_]:=h;rfl
 .let#[M,J,s',k,n,cs,c,rfl,G,ok,mt,hk,hv,ni,h0,a6,c1,c2,q]:=h;let#[dx,h1]:=G.ob;let#[b',n',e1,e2,e3]:=hv;rw[hk]at e1;cases e1;let#[l,hd,nd,O,hl,a3]:=G.pd;have hs:sizeLine=16777216:=J5;show#[_,(ag (aK (i:=2) Gx.nd rfl (J6 rfl) (pc ab U ay (aa (aL (pv 0) rfl) (aa (pm (pv 0) T.cl a2 U ay (aa (pv 1) ai)) ai))))
   (aj (jK (aZ U) (aL (pv 0) rfl) (pv 1) (dh (aa aI (aa (pc as U ay (aa (aL (pv 0) rfl) (aa (pv 2) ai))) ai))) rfl))),?_]
  show#[0,J.pg,C,dx,_,0,h1,T.cl,T.nF,nZ _ _,?_];show#[0,J.pg,dx,0,h1,cL _ _ ao ao ao ao ao,0,M,J,s',k,true,n,rfl,G,hk,?_];show#[J.fp,J.fo,J.fc,M,2,n,cs,c,rfl,G.fr,ok.m 2 rfl,ok.m 3 rfl,mt,ok.n 2 3 rfl rfl ar,G.le true,e3,c1,c2,e2,?_];intro H1 t l0 ft ac nl a5 S1 Y;have a0:=Y _ _ h1 (gb (ok.n 0 2 rfl rfl ar) (ok.n 0 3 rfl rfl ar));have am:=G.sl.off Y (Ff (ok.m 2 rfl) (ok.m 3 rfl)) (gb (ok.n 4 2 rfl rfl ar) (ok.n 4 3 rfl rfl ar)) (gb (ok.n 5 2 rfl rfl ar) (ok.n 5 3 rfl rfl ar)) (gb (ok.n 6 2 rfl rfl ar) (ok.n 6 3 rfl rfl ar));show#[0,J.pg,C,dx,_,0,a0,T.cl,T.nS,wu _ _,0,J.sp,J.so,J.sc,t,l0,M,2,cs,c,rfl,am,ok.m 5 rfl,ok.m 6 rfl,nK S1 Y mt,ok.n 5 6 rfl rfl ar,(a6 false).symm,G.le false,h0,ac,a5,nl,c1,c2,?_];intro H2 S2 O2;show#[by change 2<=sizeLine;decide,λu fu=>?_];have a4:=(S1.off O2 (Ff (ok.m 5 rfl) (ok.m 6 rfl)) (gb (ok.n 1 5 rfl rfl ar) (ok.n 1 6 rfl rfl ar)) (gb (ok.n 2 5 rfl rfl ar) (ok.n 2 6 rfl rfl ar)) (gb (ok.n 3 5 rfl rfl ar) (ok.n 3 6 rfl rfl ar))).keep (cO (o:=.tup (kF false ((s'.ow false).idxOf 0))) fu);have a1:=S2.keep (cO (o:=.tup (kF false ((s'.ow false).idxOf 0))) fu);have L:∀b o,H b=some o->¬ (b=J.fo\/b=J.fc)->¬ (b=J.so\/b=J.sc)->upd H2 u (.tup (kF false ((s'.ow false).idxOf 0))) b=some o:=λb o e z1 z2=>cO fu b o (O2 b o (Y b o e z1) z2) id;have hu:upd H2 u (.tup (kF false ((s'.ow false).idxOf 0))) u=some (.tup (kF false ((s'.ow false).idxOf 0))):=af;have kd:=L _ _ hd (gb (ok.n 7 2 rfl rfl ar) (ok.n 7 3 rfl rfl ar)) (gb (ok.n 7 5 rfl rfl ar) (ok.n 7 6 rfl rfl ar));have ko:=L _ _ h1 (gb (ok.n 0 2 rfl rfl ar) (ok.n 0 3 rfl rfl ar)) (gb (ok.n 0 5 rfl rfl ar) (ok.n 0 6 rfl rfl ar));have ki:=L _ _ G.il (gb (ok.n 8 2 rfl rfl ar) (ok.n 8 3 rfl rfl ar)) (gb (ok.n 8 5 rfl rfl ar) (ok.n 8 6 rfl rfl ar));have ap:=G.fr.hw;have aB:=G.sl.hw;let#[_,aT,_]:=G.fr.hc;let#[_,a7,_]:=G.sl.hc;have kt:∀x∈l,upd H2 u (.tup (kF false ((s'.ow false).idxOf 0))) x.2.1=some (.tup (kF x.2.2.1 x.2.2.2)):=λx N=>L _ _ (O x N) (gb (cH (O x N) ap (by intro z;cases z)) (cH (O x N) aT (by intro z;cases z))) (gb (cH (O x N) aB (by intro z;cases z)) (cH (O x N) a7 (by intro z;cases z)));change Cr K _ _ _ (upd H2 u (.tup (kF false ((s'.ow false).idxOf 0)))) _;generalize upd H2 u (.tup (kF false ((s'.ow false).idxOf 0)))=H3 at *;show#[0,J.pg,C,dx,_,0,ko,T.cl,T.nP,oE _ _,0,J.pd,0,gf.k (k:=Sum.inl k) kd (by rw[Tb.cE];omega),?_];show q _ (bK.yQ (s:=Pg.out s' k n cs c) (f:=s'.pl) (b:=false) (n:=(s'.ow false).idxOf 0) ok #[dx,ko] a4 a1 ?_ ?_ kd nd kt hl (.inr #[by rw[hk];simp,a3]) hu ?_) ?_
  .change H3 J.il=some (.lst ((s'.inf.erase k).map V.int));rw[List.erase_of_not_mem ni];show ki
  .intro b;cases b
   .change(List.set _ _ _).length<=60;rw[KG];show G.le false
   .change(List.set _ _ _).length<=60;rw[KG];show G.le true
  .intro j;by_cases e:j=k
   .subst e;show Pg.bq.trans Pg.bq.symm
   .show(Pg.aH e).trans ((Pg.aH e).trans (Pg.aH e).symm)
  .intro b o e z;rw[ah (λy=>z (by rw[y];show PA.eX 5 rfl))];show L b o e (λy=>z (y.elim (λy=>by rw[y];show PA.eX 1 rfl) λy=>by rw[y];show PA.eX 2 rfl)) (λy=>z (y.elim (λy=>by rw[y];show PA.eX 3 rfl) λy=>by rw[y];show PA.eX 4 rfl))
noncomputable abbrev mI:Ky:=inClass (top 14) 7
inductive iG (C CS:Addr) (vs:List V) (H:Hp) (Q:VK) (e3:XK):Prop
 |mk (M:Addr->Prop) (A:PA) (s:Pg.PS) (k:Int) (t l:Addr) (cs:List Int) (c:Nat) (_:vs=[.ref A.pg,.int k,.ref t]) (_:bK C CS H M A s) (_:A.Ok M) (_:(∀b,M b->H b≠none)) (_:Pg.Good { s with pl:=Pg.dt s.pl k none }) (_:((0:Int)∈s.ow true\/(0:Int)∈s.ow false)) (_:s.ow true≠[]) (_:(∀b,∀x∈s.ow b,x<=1000)) (_:H t=some (.tup [.ref l,.int c])) (_:H l=some (.lst (cs.map V.int))) (_:¬ M l) (_:1<=c) (_:c<=1000) (_:∀(H':Hp) (s':Pg.PS),Pg.BI { s with pl:=Pg.dt s.pl k none } k cs c s'->bK C CS H' M A s'->Off A.own H H'->Q .non H'):iG C CS vs H Q e3
theorem sR (A:PA) (n:Int):(cK A n).lookup ("in_frames" : Str)=some (.ref A.il):=by
 unfold cK;rw[aD,Qi rfl]
theorem Jd:aC ["self","sheet","moved"] ["self","sheet","moved"] (aw mI):=L2.bD
theorem rP {f C CS:Addr}{fd:J0}(F:cQ K "bring_in" "Paging.bring_in" mI f fd) (T:pY K mg C) (TS:Txt K mg CS) (GF:Md P w K mg base aW 1 CS "free" (pB CS)) (a4:Md P w K mg base aW 5 C "put_out" (lQ C CS)) (bd:Df P w K mg base aW 4 "settle" (jy CS)):bh P w K mg base aW 6 f fd ["self","sheet","moved"] (iG C CS):=by
 show F.ok Jd (λvs H Q E h=>?_) (λb0 A outer s H vs Q E hr h=>?_)
 .let#[M,J,s',k,t,l,cs,c,rfl,_]:=h;rfl
 .let#[M,J,s',k,t,l0,cs,c,rfl,G,ok,mt,gd,hf,hn,hb,O,bi,nl,c1,c2,q]:=h;let#[dx,h1]:=G.ob;let#[bG,h2]:=G.fr.ob;have hs:sizeLine=16777216:=J5;have be:¬ J.own l0:=λz=>nl (ok.own _ z);show#[_,(ag (aS (aE bU (wc (aL (pv 0) rfl) TS.cl GF hr ay) ak (aJ _)) (aj (aP (pm (pv 0) T.cl a4 hr ay (aa (gR KY PySem.F.slot_list_pop PySem.F.type_list_pop Ae (aL (pv 0) rfl) (aa ak ai)) ai)))) aG)
   (ag (jK (aZ hr) (aL (pv 0) rfl) (pv 1) (dh (aa aI (aa (pc bd hr ay (aa (aL (pv 0) rfl) (aa (pv 2) ai))) ai))) rfl)
   (aj (aP (gR KY PySem.F.slot_list_append PySem.F.type_list_append kA (aL (pv 0) rfl) (aa (pv 1) ai)))))),?_]
  show share (λσ H9=>ym λ(L s2:Pg.PS)=>FY (σ=[some (.ref J.pg),some (.int k),some (.ref t)]) (bK C CS H9 M J L) (s2.ow=L.ow) (s2.co=L.co) (s2.ls=L.ls) (s2.inf=L.inf) ((∀j,j≠k->s2.pl j=L.pl j)) (Pg.Good s2) ((0:Int)∈s2.ow true) (Pg.BI { s' with pl:=Pg.dt s'.pl k none } k cs c (Pg.vR s2 true k cs c)) (Off J.own H H9)) (λu' aB=>?A) ?B
  case A =>
   show#[0,J.pg,C,dx,_,0,h1,T.cl,T.nF,nZ _ _,J.fp,bG,0,h2,aX _ _ ao ao,J.fp,J.fo,J.fc,M,_,0,G.fr,rfl,0,?_];show iH (λz'=>?_) (λz'=>?_)
   rotate_left
   .have z:(0:Int)∈s'.ow true:=L0 λn=>z' (by rw[List.count_eq_zero.mpr n];simp);show aB _ _ #[s', { s' with pl:=Pg.dt s'.pl k none },rfl,G,1,1,λj hj=>Pg.aH hj,gd,z,.free z,λb o e _=>e]
   .have z:¬ (0:Int)∈s'.ow true:=List.count_eq_zero.mp (by
     have:(((s'.ow true).count 0:Nat):Int)=0:=(by simpa using z');omega)
    rcases Pg.Ft gd hf hn with h|⟨_,ap,U,r,n0,aT,c0,hi,ab,ac⟩
    .show absurd h z
    .have bv:U≠k:=λe=>by
      have ab:Pg.dt s'.pl k none U=some (true,n0):=ab;rw[e,Pg.bq]at ab;cases ab
     have hi:s'.inf=U::r:=hi;have b2:=(gd.vw ac).1;let#[og,_,_,a5,_,_,b4]:=Pg.rW gd ab ac ap;let#[b1,n1,e1,e2,e3]:=id ac;rw[ab]at e1;cases e1;have a3:s'.pl U=some (true,n0):=(by rw[<-ab];show(Pg.aH bv).symm);have b3:=hb true c0 (J7 e3);obtain⟨a0,rfl⟩:∃c':Nat,c0=c':=#[c0.toNat,ae];have Y:=gd.nd;have Y:s'.inf.Nodup:=Y;rw[hi]at Y;let#[n1,n2]:=List.nodup_cons.mp Y;have N:=G.mq ok r;have O1:Off J.own H (upd H J.il (.lst (r.map V.int))):=λb o e z=>(by rw[ah (λy=>z (by rw[y];show PA.eX 6 rfl))];show e);have as:=G.il;rw[hi]at as;show#[0,J.pg,dx,0,h1,cL _ _ ao ao ao ao ao,0,J.pg,C,dx,_,0,h1,T.cl,T.nI,sR _ _,.inl #[5,bB.of as],J.il,_,(0),(0),.int U,1,as,ar,ar,Nq (Int.le_refl _) (by rw[DD,Kf];omega),4];show#[M,J,_,U,n0,aT,a0,rfl,N,ok,N.alive O1 mt,a3,#[true,n0,a3,e2,e3],n1,ap,gd.ln,ae,ae,λH2 G2 O2=>?_];show aB _ _ #[_,Pg.out { s' with pl:=Pg.dt s'.pl k none } U n0 aT a0,rfl,G2,1,rfl,3,og,a5,.full z ap hi ab ac,λb o e y=>O2 b o (O1 b o e y) y]
     .change s'.inf.erase U=r.erase U;rw[hi,List.erase_cons_head,List.erase_of_not_mem n1]
     .intro j hj;by_cases e:j=U
      .subst e;show Pg.bq.trans Pg.bq.symm
      .show(Pg.aH e).trans ((Pg.aH e).trans ((Pg.aH hj).trans ((Pg.aH e).trans (Pg.aH e)).symm))
  case B =>
   rintro σ H9 ⟨L,s2,rfl,N,w1,w2,w3,w4,w5,g2,z0,bn,O1⟩;let#[am,h3]:=N.ob;have bm:H9 t=some (.tup [.ref l0,.int c]):=O1 _ _ O λy=>by
    let#[_,q1,_]:=G.fr.hc;let#[_,q2,_]:=G.sl.hc;let#[_,q3,_]:=G.pd;have q4:=G.fr.hw;have q5:=G.sl.hw;have q6:=G.il;unfold PA.own at y;simp only[Ku,Kb,or_false]at y;rcases y with y|y|y|y|y|y|y<;>rw[y]at O
    .rw[h1]at O;cases O
    .rw[q4]at O;cases O
    .rw[q1]at O;cases O
    .rw[q5]at O;cases O
    .rw[q2]at O;cases O
    .rw[q3]at O;cases O
    .rw[q6]at O;cases O
   have a6:=O1 _ _ bi be;let#[l,hd,Y,ht,hl,b5]:=N.pd;have a7:l.length<=999:=by
    have a1:=lu (k:=k) Y;have a2:=pG g2 (λb=>by rw[w1];show N.le b) (l:=Tb.bg l k) (by rw[Tb.jS];show Y.filter _) λx hx=>by
     let#[hx,bx]:=Tb.bZ hx;have:=hl x.1;rw[Tb.bL Y hx]at this;rw[w5 x.1 bx, <-this];rfl
    omega
   rw[w1]at z0;have bI:(L.co true).length=(L.ow true).length:=(by rw[<-w1, <-w2];show g2.ln true);show#[0,J.pg,C,am,_,0,h3,T.cl,T.nF,nZ _ _,0,J.fp,J.fo,J.fc,t,l0,M,2,cs,c,rfl,N.fr,ok.m 2 rfl,ok.m 3 rfl,N.alive O1 mt,ok.n 2 3 rfl rfl ar,bI.symm,N.le true,z0,bm,a6,nl,c1,c2,?_];intro H2 S2 O2;show#[by change 2<=sizeLine;decide,λu fu=>?_];have ba:=S2.keep (cO (o:=.tup (kF true ((L.ow true).idxOf 0))) fu);have bz:=(N.sl.off O2 (Ff (ok.m 2 rfl) (ok.m 3 rfl)) (gb (ok.n 4 2 rfl rfl ar) (ok.n 4 3 rfl rfl ar)) (gb (ok.n 5 2 rfl rfl ar) (ok.n 5 3 rfl rfl ar)) (gb (ok.n 6 2 rfl rfl ar) (ok.n 6 3 rfl rfl ar))).keep (cO (o:=.tup (kF true ((L.ow true).idxOf 0))) fu);have kp:∀b o,H9 b=some o->¬ (b=J.fo\/b=J.fc)->upd H2 u (.tup (kF true ((L.ow true).idxOf 0))) b=some o:=λb o e z1=>cO fu b o (O2 b o e z1) id;have hu:upd H2 u (.tup (kF true ((L.ow true).idxOf 0))) u=some (.tup (kF true ((L.ow true).idxOf 0))):=af;have kd:=kp _ _ hd (gb (ok.n 7 2 rfl rfl ar) (ok.n 7 3 rfl rfl ar));have ko:=kp _ _ h3 (gb (ok.n 0 2 rfl rfl ar) (ok.n 0 3 rfl rfl ar));have ki:=kp _ _ N.il (gb (ok.n 8 2 rfl rfl ar) (ok.n 8 3 rfl rfl ar));have bb:=N.fr.hw;let#[_,bl,_]:=N.fr.hc;have kt:∀x∈l,upd H2 u (.tup (kF true ((L.ow true).idxOf 0))) x.2.1=some (.tup (kF x.2.2.1 x.2.2.2)):=λx hx=>kp _ _ (ht x hx) (gb (cH (ht x hx) bb (by intro z;cases z)) (cH (ht x hx) bl (by intro z;cases z)));change Cr K _ _ _ (upd H2 u (.tup (kF true ((L.ow true).idxOf 0)))) _;generalize upd H2 u (.tup (kF true ((L.ow true).idxOf 0)))=H3 at *;show#[0,J.pg,C,am,_,0,ko,T.cl,T.nP,oE _ _,0,J.pd,0,gf.k (k:=Sum.inl k) kd (by rw[Tb.cE];omega),?_];have G4:=bK.yQ (C:=C) (CS:=CS) (s:={ Pg.vR L true k cs c with inf:=L.inf }) (f:=L.pl) (k:=k) (b:=true) (n:=(L.ow true).idxOf 0) ok #[am,ko] ba bz ki (λb=>by
    cases b
    .show N.le false
    .change(List.set _ _ _).length<=60;rw[KG];show N.le true) kd Y kt hl (.inl a7) hu (λj=>rfl)
   have O4:Off J.own H (upd H3 J.pd (.dK (putK (Tb.dk qU l) (Sum.inl k) (.ref u)))):=λb o e z=>by
    rw[ah (λy=>z (by rw[y];show PA.eX 5 rfl))];show kp b o (O1 b o e z) (λy=>z (y.elim (λy=>by rw[y];show PA.eX 1 rfl) λy=>by rw[y];show PA.eX 2 rfl))
   generalize upd H3 J.pd (.dK (putK (Tb.dk qU l) (Sum.inl k) (.ref u)))=H4 at *;let#[bc,h4]:=G4.ob;have bY:L.inf.length<=60:=(by rw[<-w4];show vW g2 (by rw[w1];show N.le true));show#[0,J.pg,C,bc,_,0,h4,T.cl,T.nI,sR _ _,.inl #[5,bB.of G4.il],0,J.il,_,.int k,1,G4.il,by rw[DD];change L.inf.length<_;omega,?_];have G5:=G4.mq ok (L.inf++[k]);rw[Ke]at G5;show q _ _ bn (G5.DY ?_ ?_ w3 ?_ ?_) λb o e z=>by
    rw[ah (λy=>z (by rw[y];show PA.eX 6 rfl))];show O4 b o e z
   .change Pg.upd s2.ow true _=Pg.upd L.ow true _;rw[w1]
   .change Pg.upd s2.co true _=Pg.upd L.co true _;rw[w1,w2]
   .change s2.inf++[k]=L.inf++[k];rw[w4]
   .intro j;change Pg.dt s2.pl k _ j=Pg.dt L.pl k _ j;by_cases e:j=k
    .rw[e,Pg.bq,Pg.bq,w1]
    .rw[Pg.aH e,Pg.aH e];show w5 j e
end
end St
namespace Pg
theorem rD {α:Type}{f:Bool->α}{b:Bool}:upd f b (f b)=f:=by
 funext c;by_cases e:c=b
 .rw[e,af]
 .rw[aV e]
theorem xP {α:Type}{f:Int->α}{k:Int}{v:α}(h:f k=v):dt f k v=f:=by
 funext c;by_cases e:c=k
 .rw[e,bq,h]
 .rw[aH e]
theorem t6 {s:PS}(G:Good s):({ next s with pl:=dt (next s).pl (s.ls+1) none }:PS)=next s:=by
 have e:dt s.pl (s.ls+1) none=s.pl:=xP (fw G);change PS.mk s.ow s.co (dt s.pl (s.ls+1) none) (s.ls+1) s.inf=PS.mk s.ow s.co s.pl (s.ls+1) s.inf;rw[e]
theorem wa {s:PS}{k:Int}{n:Nat}(G:Good s) (L:s.pl k=some (false,n)):¬ k∈s.inf:=λh=>by
 let#[m,J]:=(G.fi k).mp h;rw[L]at J;cases J
theorem uH {s:PS}{k:Int}{n:Nat}(G:Good s) (J:s.pl k=some (false,n)):({ cz s false n 0 with pl:=dt (cz s false n 0).pl k none }:PS)=nG s k false n:=by
 change PS.mk (upd s.ow false ((s.ow false).set n 0)) s.co (dt s.pl k none) s.ls s.inf=PS.mk (upd s.ow false ((s.ow false).set n 0)) s.co (dt s.pl k none) s.ls (s.inf.erase k);rw[List.erase_of_not_mem (wa G J)]
noncomputable def Cb (s:PS):Prop:=∀b,∀x∈s.ow b,x<=1000
theorem DN {ow:Bool->List Int}{b:Bool}{n:Nat}{x:Int}(h:∀b,∀x∈ow b,x<=1000) (J:x<=1000):∀c,∀y∈upd ow b ((ow b).set n x) c,y<=1000:=by
 intro c y G;by_cases e:c=b
 .rw[e,af]at G;rcases List.mem_or_eq_of_mem_set G with h' |h'
  .show h b y h'
  .rw[h'];show J
 .rw[aV e]at G;show h c y G
end Pg
namespace Pg
theorem RI.cb {s:PS}{es:List Ent}(R:RI s es) (le:∀b,(s.ow b).length<=60):Cb s:=by
 intro b x L;let#[n,G]:=List.getElem?_of_mem L;rcases R.good.on b n x G with e|⟨k,J⟩
 .omega
 .let#[cs,c,h1,h2,_,_]:=R.good.va _ _ _ J;rw[G]at h2;cases h2;have Y:=R.ct k cs x #[b,n,J,h1,G];have U:=List.count_le_length (a:=some k) (l:=es);have O:=R.rm;have h6:=le true;have N:=le false;omega
end Pg
namespace St
open PySem L2
section
variable {A:PA}{M:Addr->Prop}
theorem zL (A:PA) (n:Int):(cK A n).lookup ("last_sheet" : Str)=some (.int n):=by
 unfold cK;rw[aD,Qh ao,aD,Qi rfl]
theorem zx (A:PA) (n:Int):cK A n=([("frames",.ref A.fp),("slots",.ref A.sp),("places",.ref A.pd),("last_sheet",.int n),("in_frames",.ref A.il)]:List (Str×V)):=by
 have N:¬ (("frames" : Str) = "slots"):=ao;have L:¬ (("frames" : Str) = "places"):=ao;have e3:¬ (("frames" : Str) = "last_sheet"):=ao;have e4:¬ (("frames" : Str) = "in_frames"):=ao;have U:¬ (("slots" : Str) = "places"):=ao;have O:¬ (("slots" : Str) = "last_sheet"):=ao;have G:¬ (("slots" : Str) = "in_frames"):=ao;have Y:¬ (("places" : Str) = "last_sheet"):=ao;have e9:¬ (("places" : Str) = "in_frames"):=ao;have J:¬ (("last_sheet" : Str) = "in_frames"):=ao;unfold cK;simp only[bo,Qh N,Qh L,Qh e3,Qh e4,Qh U,Qh O,Qh G,Qh Y,Qh e9,Qh J]
theorem DQ (A:PA) (n m:Int):bo "last_sheet" (.int m) (cK A n)=cK A m:=by
 have L:¬ (("frames" : Str) = "last_sheet"):=ao;have G:¬ (("slots" : Str) = "last_sheet"):=ao;have J:¬ (("places" : Str) = "last_sheet"):=ao;rw[zx,zx];simp only[bo,Qh L,Qh G,Qh J,if_true]
theorem bK.Gk {C CS dx:Addr}{H:Hp}{s:Pg.PS}(G:bK C CS H M A s) (ok:A.Ok M) (n:Int):bK C CS (upd H A.pg (.ins C dx (cK A n))) M A { s with ls:=n }:=by
 have o:Off (· = A.pg) H (upd H A.pg (.ins C dx (cK A n))):=λb o e z=>(by rw[ah z];show e);let#[Y,h1]:=G.ob;let#[l,hd,U,J,N,O]:=G.pd;show#[#[dx,af],G.fr.off o (in1 (ok.m 0 rfl)) (ok.n 1 0 rfl rfl ar) (ok.n 2 0 rfl rfl ar) (ok.n 3 0 rfl rfl ar),G.sl.off o (in1 (ok.m 0 rfl)) (ok.n 4 0 rfl rfl ar) (ok.n 5 0 rfl rfl ar) (ok.n 6 0 rfl rfl ar),o _ _ G.il (ok.n 8 0 rfl rfl ar),G.le,
  #[l,o _ _ hd (ok.n 7 0 rfl rfl ar),U,λx L=>o _ _ (J x L) (cH (J x L) h1 (by intro z;cases z)),N,O]]
theorem bK.CW {C CS:Addr}{H H':Hp}{s:Pg.PS}(G:bK C CS H M A s) (ok:A.Ok M) (b:Bool) {os:List Int}{pg:List (Option (List Int))}(S:aR CS H' M (A.st b) (A.ow b) (A.co b) os pg) (o:Off (λx=>x=A.ow b\/x=A.co b) H H') (hl:os.length<=60):bK C CS H' M A { s with ow:=Pg.upd s.ow b os,co:=Pg.upd s.co b pg }:=by
 let#[ab,h1]:=G.ob;let#[l,hd,U,J,Y,N]:=G.pd;have le:∀c,(Pg.upd s.ow b os c).length<=60:=λc=>by
  by_cases e:c=b
  .rw[e,Pg.af];show hl
  .rw[Pg.aV e];show G.le c
 have hw:=(G.st b).hw;let#[_,hc,_]:=(G.st b).hc;have O:∀x∈l,H' x.2.1=some (.tup (kF x.2.2.1 x.2.2.2)):=λx L=>o _ _ (J x L) (gb (cH (J x L) hw (by intro z;cases z)) (cH (J x L) hc (by intro z;cases z)));cases b
 .show#[#[ab,o _ _ h1 (gb (ok.n 0 5 rfl rfl ar) (ok.n 0 6 rfl rfl ar))],G.fr.off o (Ff (ok.m 5 rfl) (ok.m 6 rfl)) (gb (ok.n 1 5 rfl rfl ar) (ok.n 1 6 rfl rfl ar)) (gb (ok.n 2 5 rfl rfl ar) (ok.n 2 6 rfl rfl ar)) (gb (ok.n 3 5 rfl rfl ar) (ok.n 3 6 rfl rfl ar)),S,o _ _ G.il (gb (ok.n 8 5 rfl rfl ar) (ok.n 8 6 rfl rfl ar)),le,
   #[l,o _ _ hd (gb (ok.n 7 5 rfl rfl ar) (ok.n 7 6 rfl rfl ar)),U,O,Y,N]]
 .show#[#[ab,o _ _ h1 (gb (ok.n 0 2 rfl rfl ar) (ok.n 0 3 rfl rfl ar))],S,G.sl.off o (Ff (ok.m 2 rfl) (ok.m 3 rfl)) (gb (ok.n 4 2 rfl rfl ar) (ok.n 4 3 rfl rfl ar)) (gb (ok.n 5 2 rfl rfl ar) (ok.n 5 3 rfl rfl ar)) (gb (ok.n 6 2 rfl rfl ar) (ok.n 6 3 rfl rfl ar)),o _ _ G.il (gb (ok.n 8 2 rfl rfl ar) (ok.n 8 3 rfl rfl ar)),le,
   #[l,o _ _ hd (gb (ok.n 7 2 rfl rfl ar) (ok.n 7 3 rfl rfl ar)),U,O,Y,N]]
theorem bK.y4 {C CS:Addr}{H H':Hp}{s:Pg.PS}(G:bK C CS H M A s) (ok:A.Ok M) (b:Bool) {os:List Int}(S:aR CS H' M (A.st b) (A.ow b) (A.co b) os (s.co b)) (o:Off (λx=>x=A.ow b\/x=A.co b) H H') (J:os.length<=60):bK C CS H' M A { s with ow:=Pg.upd s.ow b os }:=
 (G.CW ok b S o J).DY rfl Pg.rD.symm rfl rfl λ_=>rfl
theorem bK.Fn {C CS:Addr}{H H':Hp}{s:Pg.PS}(G:bK C CS H M A s) (ok:A.Ok M) (b:Bool) {pg:List (Option (List Int))}(S:aR CS H' M (A.st b) (A.ow b) (A.co b) (s.ow b) pg) (o:Off (λx=>x=A.ow b\/x=A.co b) H H'):bK C CS H' M A { s with co:=Pg.upd s.co b pg }:=
 (G.CW ok b S o (G.le b)).DY Pg.rD.symm rfl rfl rfl λ_=>rfl
theorem PA.jW (b:Bool):∀x,x=A.ow b\/x=A.co b->A.own x:=by
 intro x h;cases b
 .rcases h with h|h<;>rw[h]
  .show PA.eX 3 rfl
  .show PA.eX 4 rfl
 .rcases h with h|h<;>rw[h]
  .show PA.eX 1 rfl
  .show PA.eX 2 rfl
theorem PA.Ok.mo (ok:A.Ok M) (b:Bool):M (A.ow b):=ok.own _ (PA.jW b _ (.inl rfl))
theorem PA.Ok.mc (ok:A.Ok M) (b:Bool):M (A.co b):=ok.own _ (PA.jW b _ (.inr rfl))
theorem PA.Ok.oc (ok:A.Ok M) (b:Bool):A.ow b≠A.co b:=by
 cases b
 .show ok.n 5 6 rfl rfl ar
 .show ok.n 2 3 rfl rfl ar
theorem Off.mono {B G:Addr->Prop}{H H':Hp}(o:Off B H H') (h:∀b,B b->G b):Off G H H':=λb u e z=>o b u e λy=>z (h b y)
theorem Off.trans {B:Addr->Prop}{H H' G:Hp}(o:Off B H H') (o':Off B H' G):Off B H G:=λb u e z=>o' b u (o b u e z) z
theorem Off.wr {B:Addr->Prop}{H:Hp}{a:Addr}{o:HO}(h:B a):Off B H (upd H a o):=λb u e z=>by rw[ah (λy=>z (by rw[y];show h))];show e
theorem Off.new {B:Addr->Prop}{H:Hp}{a:Addr}{o:HO}(h:H a=none):Off B H (upd H a o):=λb u e z=>cO h b u e id
theorem bK.Dx {C CS:Addr}{H:Hp}{s:Pg.PS}{l:EM}(G:bK C CS H M A s) (ok:A.Ok M) (k:Int) (hd:H A.pd=some (.dK (Tb.dk qU l))) (U:(l.map (·.1)).Nodup) (L:∀x∈l,H x.2.1=some (.tup (kF x.2.2.1 x.2.2.2))) (N:∀j,(Tb.look l j).map (·.2)=s.pl j) (O:l.length<=1000) :
  bK C CS (upd H A.pd (.dK (Tb.dk qU (Tb.bg l k)))) M A { s with pl:=Pg.dt s.pl k none }:=by
 have o:Off (· = A.pd) H (upd H A.pd (.dK (Tb.dk qU (Tb.bg l k)))):=λb o e z=>(by rw[ah z];show e);let#[dx,h1]:=G.ob;show#[#[dx,o _ _ h1 (ok.n 0 7 rfl rfl ar)],G.fr.off o (in1 (ok.m 7 rfl)) (ok.n 1 7 rfl rfl ar) (ok.n 2 7 rfl rfl ar) (ok.n 3 7 rfl rfl ar),G.sl.off o (in1 (ok.m 7 rfl)) (ok.n 4 7 rfl rfl ar) (ok.n 5 7 rfl rfl ar) (ok.n 6 7 rfl rfl ar),o _ _ G.il (ok.n 8 7 rfl rfl ar),G.le,
  #[Tb.bg l k,af,by rw[Tb.jS];show U.filter _,λx J=>?_,λj=>?_,Ko (List.length_filter_le _ _) O]]
 .have J:=(Tb.bZ J).1;show o _ _ (L x J) (cH (L x J) hd (by intro z;cases z))
 .rw[Tb.cj];change _=Pg.dt s.pl k none j;by_cases e:j=k
  .rw[Qi e,e,Pg.bq];rfl
  .rw[Qh e,Pg.aH e];show N j
end
theorem zt {D:Ends}{σ:St}{H:Hp}(h:D.nx σ H):rA D σ H:=h
noncomputable abbrev kD:Ky:=inClass (top 14) 1
noncomputable abbrev uN:Ky:=inClass (top 14) 2
noncomputable abbrev uU:Ky:=inClass (top 14) 3
noncomputable abbrev p9:Ky:=inClass (top 14) 5
noncomputable abbrev uM:Ky:=inClass (top 14) 6
structure Hh (C CS:Addr) (H:Hp) (M:Addr->Prop) (A:PA) (s:Pg.PS):Prop where
 at_:bK C CS H M A s
 ok:A.Ok M
 mt:∀b,M b->H b≠none
 gd:Pg.Good s
 ne:s.ow true≠[]
 cb:Pg.Cb s
 l0:0<=s.ls
inductive gC (K:PySem.W.Frag) (C CS:Addr) (vs:List V) (H:Hp) (Q:VK) (e3:XK):Prop
 |mk (M:Addr->Prop) (A:PA) (s:Pg.PS) (ca:Addr) (cs:List Int) (_:vs=[.ref A.pg,.ref ca]) (_:Hh C CS H M A s) (_:((0:Int)∈s.ow true\/(0:Int)∈s.ow false)) (_:bB K H ca (cs.map V.int)) (_:ca≠A.pg) (_:cs.length=8) (_:∀(H':Hp) (s':Pg.PS),Pg.BI (Pg.next s) (s.ls+1) cs 1 s'->bK C CS H' M A s'->Off A.own H H'->Q (.int (s.ls+1)) H'):gC K C CS vs H Q e3
inductive kX (C CS:Addr) (vs:List V) (H:Hp) (Q:VK) (e3:XK):Prop
 |mk (M:Addr->Prop) (A:PA) (s:Pg.PS) (k:Int) (cs:List Int) (c:Int) (_:vs=[.ref A.pg,.int k]) (_:Hh C CS H M A s) (_:Pg.Vw s k cs c) (_:∀(H':Hp) (s':Pg.PS),Pg.FE s k s'->bK C CS H' M A s'->Off A.own H H'->Q .non H'):kX C CS vs H Q e3
inductive oZ (C CS:Addr) (vs:List V) (H:Hp) (Q:VK) (e3:XK):Prop
 |mk (M:Addr->Prop) (A:PA) (s:Pg.PS) (k:Int) (b:Bool) (n:Nat) (cs:List Int) (c:Int) (_:vs=[.ref A.pg,.int k]) (_:Hh C CS H M A s) (_:s.pl k=some (b,n)) (_:Pg.Vw s k cs c) (_:∀H':Hp,bK C CS H' M A (Pg.cz s b n (c+1))->Off A.own H H'->Q .non H'):oZ C CS vs H Q e3
inductive lG (C CS:Addr) (vs:List V) (H:Hp) (Q:VK) (e3:XK):Prop
 |mk (M:Addr->Prop) (A:PA) (s:Pg.PS) (k:Int) (cs:List Int) (c:Int) (_:vs=[.ref A.pg,.int k]) (_:bK C CS H M A s) (_:A.Ok M) (_:(∀b,M b->H b≠none)) (_:Pg.Good s) (_:Pg.Vw s k cs c) (_:∀(H':Hp) (s':Pg.PS),Pg.CB s k s'->bK C CS H' M A s'->Off A.own H H'->Q .non H'):lG C CS vs H Q e3
inductive l9 (C CS:Addr) (vs:List V) (H:Hp) (Q:VK) (e3:XK):Prop
 |mk (M:Addr->Prop) (A:PA) (s:Pg.PS) (k:Int) (ca:Addr) (cs0:List Int) (c0:Int) (cs:List Int) (_:vs=[.ref A.pg,.int k,.ref ca]) (_:Hh C CS H M A s) (_:Pg.Vw s k cs0 c0) (_:H ca=some (.lst (cs.map V.int))) (_:¬ A.own ca) (_:cs.length=8) (_:(1<c0->(0:Int)∈s.ow true\/(0:Int)∈s.ow false)) (_:(1<c0->∀(H':Hp) (s1 s2:Pg.PS),Pg.BI (Pg.next s) (s.ls+1) cs 1 s1->Pg.CB s1 k s2->bK C CS H' M A s2->Off A.own H H'->Q (.int (s.ls+1)) H')) (_:(c0=1->∀(H':Hp) (s1:Pg.PS) (m:Nat),Pg.FE s k s1->s1.pl k=some (true,m)->bK C CS H' M A (Pg.write s1 true m cs)->Off A.own H H'->Q (.int k) H')):l9 C CS vs H Q e3
section
variable {P:J2}{w:Kd}{K:PySem.W.Frag}{mg:Str->Option Value}{base:Heap}
theorem Je:aC ["self","cells"] ["self","cells"] (aw kD):=L2.bD
theorem pU {f C CS:Addr}{fd:J0}(F:cQ K "new_sheet" "Paging.new_sheet" kD f fd) (T:pY K mg C) (TS:Txt K mg CS) (GF:Md P w K mg base aW 1 CS "free" (pB CS)) (a0:Md P w K mg base aW 6 C "bring_in" (iG C CS)):bh P w K mg base aW 7 f fd ["self","cells"] (gC K C CS):=by
 show F.ok Je (λvs H Q E h=>?_) (λa4 A outer s H vs Q E Y h=>?_)
 .let#[M,J,s',O,cs,rfl,_]:=h;rfl
 .let#[M,J,s',O,cs,rfl,R,hf,aT,a1,h8,q]:=h;have G:=R.at_;have ok:=R.ok;let#[dx,h1]:=G.ob;let#[a3,h2]:=G.fr.ob;let#[am,h3]:=G.sl.ob;have hs:sizeLine=16777216:=J5;show#[_,(ag (aS (aE bU (aA bu (wc (aL (pv 0) rfl) TS.cl GF Y ay) (wc (aL (pv 0) rfl) TS.cl GF Y ay)) ak (aJ _)) cU aG)
   (ag (xa (pv 0) ak ER)
   (ag (aP (pm (pv 0) T.cl a0 Y ay (aa (aL (pv 0) rfl) (aa (dh (aa (bS dJ (by rfl) T.list eR (aa (pv 1) ai)) (aa ak ai))) ai))))
   (aj (aF (aL (pv 0) rfl)))))),?_]
  show#[0,J.pg,C,dx,_,0,h1,T.cl,T.nF,nZ _ _,J.fp,a3,0,h2,aX _ _ ao ao,J.fp,J.fo,J.fc,M,_,0,G.fr,?_];show#[0,J.pg,C,dx,_,0,h1,T.cl,T.nS,wu _ _,J.sp,am,0,h3,aX _ _ ao ao,J.sp,J.so,J.sc,M,_,0,G.sl,_,0,1,0,?_];show iH (λz=>?_) (λ_=>?_)
  .exfalso;have z:(((s'.ow true).count 0:Nat):Int)+(((s'.ow false).count 0:Nat):Int)=0:=(by simpa using z);rcases hf with h|h
   .have:=List.count_pos_iff.mpr h;omega
   .have:=List.count_pos_iff.mpr h;omega
  show#[0,J.pg,C,dx,_,0,h1,T.cl,T.nL,zL _ _,_,0,rfl,dx,_,h1,by rw[zx];change 5<1000;decide,?_];rw[DQ];have G1:=G.Gk (dx:=dx) ok (s'.ls+1);have O1:Off J.own H (upd H J.pg (.ins C dx (cK J (s'.ls+1)))):=Off.wr (PA.eX 0 rfl);have ap:bB K (upd H J.pg (.ins C dx (cK J (s'.ls+1)))) O (cs.map V.int):=Rm.eB aT λo e=>(by rw[ah a1];show e);have ac:=G1.alive O1 R.mt;have ab:upd H J.pg (.ins C dx (cK J (s'.ls+1))) J.pg=some (.ins C dx (cK J (s'.ls+1))):=af;generalize upd H J.pg (.ins C dx (cK J (s'.ls+1)))=H1 at *;show#[0,J.pg,dx,0,ab,cL _ _ ao ao ao ao ao,0,J.pg,C,dx,_,0,ab,T.cl,T.nL,zL _ _,0,O,0,.inl ap,λl N=>?_];show#[by change 2<=sizeLine;decide,λt L=>?_];have O2:Off J.own H1 (upd (upd H1 l (.lst (cs.map V.int))) t (.tup [.ref l,.int 1])):=(Off.new N).trans (Off.new L);have aB:t≠l:=λe=>(by rw[e,af]at L;cases L);have ht:upd (upd H1 l (.lst (cs.map V.int))) t (.tup [.ref l,.int 1]) t=some (.tup [.ref l,.int 1]):=af;have hl:upd (upd H1 l (.lst (cs.map V.int))) t (.tup [.ref l,.int 1]) l=some (.lst (cs.map V.int)):=(by rw[ah (JZ aB),af]);have G2:bK C CS (upd (upd H1 l (.lst (cs.map V.int))) t (.tup [.ref l,.int 1])) M J { s' with ls:=s'.ls+1 }:=(G1.keep (cO N)).keep (cO L);generalize upd (upd H1 l (.lst (cs.map V.int))) t (.tup [.ref l,.int 1])=H2 at *;have es:=Pg.t6 R.gd;show#[M,J,Pg.next s',s'.ls+1,t,l,cs,(1),rfl,G2,ok,G2.alive O2 ac,by rw[es];show Pg.nW R.gd,hf,R.ne,R.cb,ht,hl,λz=>ac l z N,J1 _,ar,λH3 s3 U G3 O3=>?_];rw[es]at U;let#[a2,h4]:=G3.ob;have as:s3.ls=s'.ls+1:=(Pg.j9 R.gd R.l0 h8 U).ls;show#[0,J.pg,C,a2,_,0,h4,T.cl,T.nL,zL _ _,?_];rw[as];show q H3 s3 U G3 ((O1.trans O2).trans O3)
theorem Fp:aC ["self","sheet","place"] ["self","sheet"] (aw uM):=L2.bD
theorem yV {f C CS:Addr}{fd:J0}(F:cQ K "fetch" "Paging.fetch" uM f fd) (T:pY K mg C) (as:Md P w K mg base aW 1 C "place" (jv C CS)) (aB:Md P w K mg base aW 6 C "bring_in" (iG C CS)) (ac:Df P w K mg base aW 4 "lift" (pC CS)):bh P w K mg base aW 7 f fd ["self","sheet"] (kX C CS):=by
 show F.ok Fp (λvs H Q E h=>?_) (λa0 A outer s H vs Q E hr h=>?_)
 .let#[M,J,s',k,cs,c,rfl,_]:=h;rfl
 .let#[M,J,s',k,cs,c,rfl,R,hv,q]:=h;have G:=R.at_;have ok:=R.ok;have hc:=(R.gd.vw hv).1;let#[b,n,N,e2,e3]:=id hv;let#[dx,h1]:=G.ob;have hs:sizeLine=16777216:=J5;show#[_,(ag (aK (i:=2) Fp.nd rfl (J6 rfl) (pm (pv 0) T.cl as hr ay (aa (pv 1) ai)))
   (ag (aS (aE bU (a8 a9 (pv 2) ak (λ_ _=>rfl)) aI (aJ _)) (ag (aP (gR KY NF PySem.F.type_list_remove oU (aL (pv 0) rfl) (aa (pv 1) ai)))
   (ag (aP (gR KY PySem.F.slot_list_append PySem.F.type_list_append kA (aL (pv 0) rfl) (aa (pv 1) ai)))
   (aj o8))) aG)
   (aj (aP (pm (pv 0) T.cl aB hr ay (aa (pv 1) (aa (pc ac hr ay (aa (aL (pv 0) rfl) (aa (a8 a9 (pv 2) ak (λ_ _=>rfl)) ai))) ai))))))),?_]
  show#[0,J.pg,dx,0,h1,cL _ _ ao ao ao ao ao,0,M,J,s',k,b,n,rfl,G,N,λt ht=>?_];show#[0,t,_,(0),0,rfl,cg.of ht,1,0,?_];cases b with
  |true =>
   show dZ ?_;have hi:k∈s'.inf:=(R.gd.fi k).mpr #[n,N];show#[0,J.pg,C,dx,_,0,h1,T.cl,T.nI,sR _ _,.inl #[5,bB.of G.il],0,J.il,s'.inf,k,1,G.il,hi,?_];have L:=G.mq ok (s'.inf.erase k);have Y:Off J.own H (upd H J.il (.lst ((s'.inf.erase k).map V.int))):=Off.wr (PA.eX 6 rfl);generalize upd H J.il (.lst ((s'.inf.erase k).map V.int))=H1 at *;let#[aT,h2]:=L.ob;have hl:=vW R.gd (G.le true);have a3:(s'.inf.erase k).length<=s'.inf.length:=List.length_erase_le;show#[0,J.pg,C,aT,_,0,h2,T.cl,T.nI,sR _ _,.inl #[5,bB.of L.il],0,J.il,_,.int k,1,L.il,by rw[DD];change(s'.inf.erase k).length<_;omega,?_];have O:=L.mq ok (s'.inf.erase k++[k]);rw[Ke]at O;show q _ _ (.here N) O (Y.trans (Off.wr (PA.eX 6 rfl)))
  |false =>
   show bC ?_;obtain⟨U,rfl⟩:∃U:Nat,c=U:=#[c.toNat,ae];have a1:=R.cb false _ (J7 e3);show#[0,J.pg,dx,0,h1,cL _ _ ao ao ao ao ao,0,0,J.pg,C,dx,_,0,h1,T.cl,T.nS,wu _ _,0,t,_,(1),0,rfl,cg.of ht,4];show#[J.sp,J.so,J.sc,M,2,n,cs,U,rfl,G.sl,ok.m 5 rfl,ok.m 6 rfl,R.mt,ok.n 5 6 rfl rfl ar,G.le false,e3,ae,ae,e2,?_];intro H1 t1 l1 a2 am nl ap S1 Y;have L:=G.y4 ok false S1 Y (by rw[KG];show G.le false);have ab:Off J.own H H1:=Y.mono (PA.jW false);have es:=Pg.uH R.gd N;show#[M,J,Pg.cz s' false n 0,k,t1,l1,cs,U,rfl,L,ok,L.alive ab R.mt,by rw[es];show Pg.jT R.gd N,.inr (Pg.rT R.gd N),R.ne,Pg.DN R.cb ar,am,ap,nl,ae,ae,λH2 s2 hb O O2=>?_];rw[es]at hb;show q _ _ (.away N hv hb) O (ab.trans O2)
theorem Ij:aC ["self","sheet"] ["self","sheet"] (aw uN):=L2.bD
theorem zV {f C CS:Addr}{fd:J0}(F:cQ K "share" "Paging.share" uN f fd) (T:pY K mg C) (TS:Txt K mg CS) (ac:Md P w K mg base aW 2 C "store_of" (fq C CS)) (ab:Md P w K mg base aW 2 C "number_of" (dq C CS)) (GM:Md P w K mg base aW 3 CS "more" (p5 CS)):bh P w K mg base aW 4 f fd ["self","sheet"] (oZ C CS):=by
 show F.ok Ij (λvs H Q E h=>?_) (λap A outer s H vs Q E N h=>?_)
 .let#[M,J,s',k,b,n,cs,c,rfl,_]:=h;rfl
 .let#[M,J,s',k,b,n,cs,c,rfl,R,L,O,q]:=h;have G:=R.at_;have ok:=R.ok;have hc:=(R.gd.vw O).1;have Y:=Pg.rK L O;let#[dx,h1]:=G.ob;have S:=G.st b;let#[am,h2]:=S.ob;show#[_,(aj (aP (pm (pm (pv 0) T.cl ac N ay (aa (pv 1) ai)) TS.cl GM N ay (aa (pm (pv 0) T.cl ab N ay (aa (pv 1) ai)) ai)))),?_];show#[0,J.pg,dx,0,h1,cL _ _ ao ao ao ao ao,0,M,J,s',k,b,n,rfl,G,L,?_];show#[_,am,0,h2,aX _ _ ao ao,?_];show#[0,J.pg,dx,0,h1,cL _ _ ao ao ao ao ao,0,M,J,s',k,b,n,rfl,G,L,?_];show#[2,_,M,2,n,rfl,S,ok.mo b,ok.mc b,ok.oc b,G.le b,by rw[eT Y];omega,λH1 U O1=>?_];rw[eT Y,show(n:Int).toNat=n from K6 n]at U;show q H1 (G.y4 ok b U O1 (by rw[KG];show G.le b)) (O1.mono (PA.jW b))
theorem Ds:aC ["self","sheet","store","n"] ["self","sheet"] (aw uU):=L2.bD
theorem zZ {f C CS:Addr}{fd:J0}(F:cQ K "leave" "Paging.leave" uU f fd) (T:pY K mg C) (TS:Txt K mg CS) (aT:Md P w K mg base aW 2 C "store_of" (fq C CS)) (as:Md P w K mg base aW 2 C "number_of" (dq C CS)) (GL:Md P w K mg base aW 3 CS "less" (qO CS)) (GC:Md P w K mg base aW 1 CS "count" (gG CS)):bh P w K mg base aW 4 f fd ["self","sheet"] (lG C CS):=by
 show F.ok Ds (λvs H Q E h=>?_) (λa1 A outer s H vs Q E O h=>?_)
 .let#[M,J,s',k,cs,c,rfl,_]:=h;rfl
 .let#[M,J,s',k,cs,c,rfl,G,ok,mt,gd,hv,q]:=h;have hc:=(gd.vw hv).1;let#[b,n,L,e2,e3]:=id hv;let#[nl,_]:=List.getElem?_eq_some_iff.mp e3;let#[dx,h1]:=G.ob;have S:=G.st b;let#[a0,h2]:=S.ob;show#[_,(ag (aK (i:=2) Ds.nd rfl (J6 rfl) (pm (pv 0) T.cl aT O ay (aa (pv 1) ai)))
   (ag (aK (i:=3) Ds.nd rfl (J6 rfl) (pm (pv 0) T.cl as O ay (aa (pv 1) ai)))
   (ag (aP (pm (pv 2) TS.cl GL O ay (aa (pv 3) ai)))
   (ag (aS (aE iO (pm (pv 2) TS.cl GC O ay (aa (pv 3) ai)) ak (aJ _)) (aj o8) aG)
   (ag (aS (aE bU (a8 a9 (bj (aZ O) (aL (pv 0) rfl) (pv 1) (λ_ _=>rfl)) ak (λ_ _=>rfl)) aI (aJ _)) (aj (aP (gR KY NF PySem.F.type_list_remove oU (aL (pv 0) rfl) (aa (pv 1) ai)))) aG)
   (aj (aP (eI (aL (pv 0) rfl) (pv 1) #[1,1])))))))),?_]
  show#[0,J.pg,dx,0,h1,cL _ _ ao ao ao ao ao,0,M,J,s',k,b,n,rfl,G,L,?_];show#[0,J.pg,dx,0,h1,cL _ _ ao ao ao ao ao,0,M,J,s',k,b,n,rfl,G,L,?_];show#[0,_,a0,0,h2,aX _ _ ao ao,0,2,_,M,2,n,rfl,S,ok.mo b,ok.mc b,ok.oc b,G.le b,by rw[eT e3];omega,λH1 Y O1=>?_];rw[eT e3,show(n:Int).toNat=n from K6 n]at Y;have N:=G.y4 ok b Y O1 (by rw[KG];show G.le b);have ab:Off J.own H H1:=O1.mono (PA.jW b);let#[aB,h3]:=Y.ob;show#[0,_,aB,0,h3,aX _ _ ao ao,0,2,_,M,2,n,rfl,Y,by rw[KG];show G.le b,?_];rw[fK nl];show#[_,0,rfl,0,?_];by_cases z:(0:Int)<c-1
  .rw[decide_eq_true z];show q _ _ (.more L hv ae) N ab
  .rw[decide_eq_false z];have ec:c=1:=ae;subst ec;show bC (zt ?_);let#[ac,h4]:=N.ob;let#[l,hd,nd,ht,U,hn]:=N.pd;obtain⟨x,hx,ex⟩:∃x,Tb.look l k=some x/\x.2=(b,n):=by
    have h9:(Tb.look l k).map (·.2)=some (b,n):=(U k).trans L;show Option.map_eq_some_iff.mp h9
   have hg:du H1 J.pd (.int k) (some (qU x)):=by
    have q9:=du.k (k:=Sum.inl k) hd;rw[Tb.cI,hx]at q9;show q9
   have hm:=ht _ (Tb.ax hx);rw[show x.2.1=b by rw[ex],show x.2.2=n by rw[ex]]at hm;dsimp only;show share (λσ H9=>σ=[some (.ref J.pg),some (.int k),some (.ref (J.st b)),some (.int n)]/\bK C CS H9 M J { Pg.cz s' b n 0 with inf:=s'.inf.erase k }/\Off J.own H H9) (λu' am=>?A) ?B
   case A =>
    show#[0,J.pg,C,ac,_,0,h4,T.cl,T.nP,oE _ _,0,J.pd,qU x,rfl,hg,x.1,_,(0),0,rfl,cg.of hm,1,0,?_];cases b with
    |true =>
     show dZ ?_;have hi:k∈s'.inf:=(gd.fi k).mpr #[n,L];show#[0,J.pg,C,ac,_,0,h4,T.cl,T.nI,sR _ _,.inl #[5,bB.of N.il],0,J.il,s'.inf,k,1,N.il,hi,?_];show am _ _ #[rfl,N.mq ok (s'.inf.erase k),ab.trans (Off.wr (PA.eX 6 rfl))]
    |false =>
     show bC ?_;show am _ _ #[4,ab];rw[List.erase_of_not_mem (Pg.wa gd L)];show N
   case B =>
    rintro σ H9 ⟨rfl,G9,O9⟩;let#[ap,h5]:=G9.ob;let#[l,hd,nd,ht,U,hn]:=G9.pd;obtain⟨x,hx,ex⟩:∃x,Tb.look l k=some x/\x.2=(b,n):=by
     have h9:(Tb.look l k).map (·.2)=some (b,n):=(U k).trans L;show Option.map_eq_some_iff.mp h9
    show#[0,J.pg,C,ap,_,0,h5,T.cl,T.nP,oE _ _,J.pd,rfl,.inl #[_,.inl hd],0,_,Sum.inl k,qU x,hd,rfl,by rw[Tb.cI,hx];rfl,?_];rw[Tb.eF];show q _ _ (.last L hv) (G9.Dx ok k hd nd ht U hn) (O9.trans (Off.wr (PA.eX 5 rfl)))
theorem Fm:aC ["self","sheet","cells","made"] ["self","sheet","cells"] (aw p9):=L2.bD
theorem xj {f C CS:Addr}{fd:J0}(F:cQ K "change" "Paging.change" p9 f fd) (T:pY K mg C) (TS:Txt K mg CS) (a3:Md P w K mg base aW 3 C "count" (mX C CS)) (a4:Md P w K mg base aW 7 C "new_sheet" (gC K C CS)) (a5:Md P w K mg base aW 4 C "leave" (lG C CS)) (a0:Md P w K mg base aW 7 C "fetch" (kX C CS)) (aT:Md P w K mg base aW 2 C "number_of" (dq C CS)) (GP:Md P w K mg base aW 3 CS "put" (wq K CS)):bh P w K mg base aW 8 f fd ["self","sheet","cells"] (l9 C CS):=by
 show F.ok Fm (λvs H Q E h=>?_) (λa6 A outer s H vs Q E U h=>?_)
 .let#[M,J,s',k,ca,ab,N,cs,rfl,_]:=h;rfl
 .let#[M,J,s',k,ca,ab,N,cs,rfl,R,O,ap,as,h8,hf,q1,q2]:=h;have G:=R.at_;have ok:=R.ok;have hc:=(R.gd.vw O).1;let#[dx,h1]:=G.ob;show#[_,(ag (aS (aE iO (pm (pv 0) T.cl a3 U ay (aa (pv 1) ai)) ak (aJ _)) (ag (aK (i:=3) Fm.nd rfl (J6 rfl) (pm (pv 0) T.cl a4 U ay (aa (pv 2) ai)))
   (ag (aP (pm (pv 0) T.cl a5 U ay (aa (pv 1) ai)))
   (aj (aF (pv 3))))) aG)
   (ag (aP (pm (pv 0) T.cl a0 U ay (aa (pv 1) ai)))
   (ag (aP (pm (aL (pv 0) rfl) TS.cl GP U ay (aa (pm (pv 0) T.cl aT U ay (aa (pv 1) ai)) (aa (pv 2) ai))))
   (aj (aF (pv 1)))))),?_]
  show#[0,J.pg,dx,0,h1,cL _ _ ao ao ao ao ao,0,M,J,s',k,ab,N,rfl,G,O,?_];show#[_,0,rfl,0,?_];by_cases z:(1:Int)<N
  .rw[decide_eq_true z];show#[0,J.pg,dx,0,h1,cL _ _ ao ao ao ao ao,0,M,J,s',ca,cs,rfl,R,hf z,bB.of ap,λe=>as (by rw[e];show PA.eX 0 rfl),h8,λH1 s1 hb L Y=>?_];let#[ac,h2]:=L.ob;have B:=Pg.j9 R.gd R.l0 h8 hb;have kn:k≠s'.ls+1:=by
    intro e;let#[x1,x2,y1,_]:=O;rw[e,Pg.fw R.gd]at y1;cases y1
   show#[0,J.pg,ac,0,h2,cL _ _ ao ao ao ao ao,0,M,J,s1,k,ab,N,rfl,L,ok,L.alive Y R.mt,B.good,(B.kept.ot _ _ _ kn).mpr O,λH2 s2 hl G2 O2=>?_];show#[0,q1 z H2 s1 s2 hb hl G2 (Y.trans O2)]
  .rw[decide_eq_false z];have ec:N=1:=ae;show#[0,J.pg,dx,0,h1,cL _ _ ao ao ao ao ao,0,M,J,s',k,ab,N,rfl,R,O,λH1 s1 am L Y=>?_];have FF:=Pg.ou R.gd am;let#[m,hm]:=FF.fr;have aB:=(FF.vw k ab N).mpr O;have e3:=Pg.rK hm aB;let#[ac,h2]:=L.ob;let#[a1,h3]:=L.fr.ob;have a2:=Y _ _ ap as;show#[0,J.pg,C,ac,_,0,h2,T.cl,T.nF,nZ _ _,J.fp,a1,0,h3,aX _ _ ao ao,?_];show#[0,J.pg,ac,0,h2,cL _ _ ao ao ao ao ao,0,M,J,s1,k,true,m,rfl,L,hm,?_];show#[0,J.fp,J.fo,J.fc,ca,M,2,m,cs,rfl,L.fr,ok.m 2 rfl,ok.m 3 rfl,L.alive Y R.mt,ok.n 2 3 rfl rfl ar,(FF.good.ln true).symm,L.le true,by rw[eT e3];omega,bB.of a2,λH2 S2 O2=>?_];rw[show(m:Int).toNat=m from K6 m]at S2;show#[0,q2 ec H2 s1 m am hm (L.Fn ok true S2 O2) (Y.trans (O2.mono (PA.jW true)))]
end
end St
namespace Tb
open PySem L2
section
variable {α:Type}
theorem B7 {l:List (Int×α)}{k:Int}(h:¬ k∈l.map (·.1)):bg l k=l:=by
 unfold bg;rw[Nj];intro y G;have:y.1≠k:=λe=>h (List.mem_map.mpr #[y,G,e]);simpa using this
theorem kC {k:Int}{a:α}:∀{l:List (Int×α)},(l.map (·.1)).Nodup->look l k=some a->l.Perm ((k,a)::bg l k)
 | [],_,h=>by cases h
 |x::r,L,h=>by
  let#[N,J]:=List.nodup_cons.mp (show(x.1::r.map (·.1)).Nodup from L);rw[aO]at h;by_cases c:x.1=k
  .rw[Qi c]at h;have e:x=(k,a):=OG c (Option.some.inj h);have G:bg (x::r) k=r:=by
    change filter _ (x::r)=r;rw[Ls,Qh (by simp[c])];show B7 (c▸N)
   rw[G,e]
  .rw[Qh c]at h;have G:bg (x::r) k=x::bg r k:=by
    change filter _ (x::r)=_;rw[Ls,Qi (by simpa using c)];rfl
   rw[G];show((kC J h).cons x).trans (List.Perm.swap _ _ _)
theorem wy (l:List (Int×α)) (k:Int) (a:α):bg (aU l k a) k=bg l k:=by
 induction l with
 |nil=>rfl
 |cons x r G =>
  change filter _ ((if x.1=k then(k,a)else x)::aU r k a)=filter _ (x::r);by_cases c:x.1=k
  .rw[Qi c,Ls,Qh (by simp),Ls,Qh (by simp[c])];show G
  .rw[Qh c,Ls,Qi (by simpa using c),Ls,Qi (by simpa using c)];congr 1
theorem m5 {l:List (Int×α)}{k:Int}(G:(l.map (·.1)).Nodup):((bg l k).map (·.1)).Nodup:=G.sublist (List.Sublist.map _ List.filter_sublist)
theorem Dm {l:List (Int×α)}{k:Int}{a:α}(G:(l.map (·.1)).Nodup):(((k,a)::bg l k).map (·.1)).Nodup:=by
 show List.nodup_cons.mpr #[λh=>?_,m5 G];let#[y,J,e]:=List.mem_map.mp h;have:=(List.mem_filter.mp J).2;simp at this;show this e
theorem mY {l:List (Int×α)}{k:Int}{x:Int×α}(h:x∈l) (G:x.1≠k):x∈bg l k:=List.mem_filter.mpr #[h,by simpa using G]
theorem qt {f:α->V}{l:List (Int×α)}{k:Int}{a b:α}(J:(l.map (·.1)).Nodup) (h:look l k=some b) (e:f a=f b):dk f (aU l k a)=dk f l:=by
 unfold dk aU;rw[Lc];show Lx λx G=>?_;change((Sum.inl (if x.1=k then(k,a)else x).1:Key),f (if x.1=k then(k,a)else x).2)=(Sum.inl x.1,f x.2);by_cases c:x.1=k
 .have:look l k=some x.2:=bL J (by rw[<-c];show G);rw[h]at this;rw[Qi c,c,e,Option.some.inj this]
 .rw[Qh c]
theorem jh (l:List (Int×α)) (k j:Int) (a:α):look ((k,a)::bg l k) j=if j=k then some a else look l j:=by
 rw[aO,cj];by_cases c:j=k
 .rw[Qi c.symm,Qi c]
 .rw[Qh (JZ c),Qh c,Qh c]
end
theorem TabAt.off {B:Addr->Prop}{C:Addr}{H H':Hp}{p fs:Addr}{tb:jf}(T:TabAt C H p fs tb) (o:Off B H H') (Y:¬ B p) (J:∀b,eK fs tb b->¬ B b) (n3:∀b xs,H b=some (.tup xs)->¬ B b):TabAt C H' p fs tb:=by
 let#[#[dx,h1],h2,h3,U,O,N,L]:=T;show#[#[dx,o _ _ h1 Y],o _ _ h2 (J _ (.inl rfl)),λx G=>o _ _ (h3 x G) (J _ (.inr #[x,G,rfl])),λx G=>(U x G).keep λb xs e=>o _ _ e (n3 b xs e),O,N,L]
theorem TabAt.dK {C:Addr}{H:Hp}{p fs:Addr}{tb:jf}(T:TabAt C H p fs tb) {b:Addr}(h:eK fs tb b):∃kvs,H b=some (.dK kvs):=by
 rcases h with h|⟨x,G,h⟩
 .show#[_,by rw[h];show T.hf]
 .show#[_,by rw[h];show T.hd x G]
end Tb
namespace St
open PySem L2
structure TD where
 p:Addr
 fs:Addr
 tb:Tb.jf
 t:List (Int×Pg.Ent)
noncomputable abbrev dW:=List (Int×TD)
noncomputable def fR (x:TD):V:=.ref x.p
noncomputable def wU:Pg.Ent->List V
 |none=>[.str "blank"]
 |some k=>[.str "sheet",.int k]
noncomputable def TD.eK (x:TD):Addr->Prop:=Tb.eK x.fs x.tb
structure dn (CT:Addr) (H:Hp) (x:TD):Prop where
 at_:Tb.TabAt CT H x.p x.fs x.tb
 nd:(x.t.map (·.1)).Nodup
 lk:∀q,Tb.cY x.tb q=(Tb.look x.t q).map wU
noncomputable def tu (t:List (Int×Pg.Ent)):List Pg.Ent:=t.map (·.2)
noncomputable def ents (W:dW):List Pg.Ent:=W.flatMap λx=>tu x.2.t
theorem j5 {W:dW}{t:Int}{x:TD}(G:(W.map (·.1)).Nodup) (h:Tb.look W t=some x):(ents W).Perm (tu x.t++ents (Tb.bg W t)):=(Tb.kC G h).flatMap_right _
theorem hU {W:dW}{t:Int}{x y:TD}(G:(W.map (·.1)).Nodup) (h:Tb.look W t=some x):(ents (Tb.aU W t y)).Perm (tu y.t++ents (Tb.bg W t)):=by
 have:=j5 (W:=Tb.aU W t y) (t:=t) (x:=y) (by rw[Tb.fB];show G) (by rw[Tb.bM t h,Qi rfl])
 rwa [Tb.wy]at this
theorem sP {t:List (Int×Pg.Ent)}{q:Int}{e:Pg.Ent}(G:(t.map (·.1)).Nodup) (h:Tb.look t q=some e):(tu t).Perm (e::tu (Tb.bg t q)):=(Tb.kC G h).map _
noncomputable def eQ (pg:Addr) (t:Int) (rd:Addr):List (Str×V):=bo "rooms" (.ref rd) (bo "total" (.int t) (bo "paging" (.ref pg) []))
section
variable (pg:Addr) (t:Int) (rd:Addr)
theorem fY:(eQ pg t rd).lookup ("rooms" : Str)=some (.ref rd):=by
 unfold eQ;rw[aD,Qi rfl]
theorem FH:(eQ pg t rd).lookup ("total" : Str)=some (.int t):=by
 unfold eQ;rw[aD,Qh ao,aD,Qi rfl]
theorem oQ:(eQ pg t rd).lookup ("paging" : Str)=some (.ref pg):=by
 unfold eQ;rw[aD,Qh ao,aD,Qh ao,aD,Qi rfl]
theorem gK {m:Str}(h1:¬ m = "rooms") (h2:¬ m = "total") (G:¬ m = "paging"):(eQ pg t rd).lookup m=none:=by
 unfold eQ;rw[aD,Qh h1,aD,Qh h2,aD,Qh G]
 all_goals rfl
end
noncomputable def bN (s:Pg.PS):Int:=((s.ow true).length+(s.ow false).length:Nat)
theorem uR {s s':Pg.PS}(h:∀b,(s'.ow b).length=(s.ow b).length):bN s'=bN s:=by
 unfold bN;rw[h,h]
structure CA where
 C:Addr
 P:Addr
 S:Addr
 T:Addr
structure RA where
 A:PA
 rp:Addr
 rd:Addr
structure az (c:CA) (H:Hp) (M:Addr->Prop) (a:RA) (s:Pg.PS) (W:dW):Prop where
 ob:∃dx,H a.rp=some (.ins c.C dx (eQ a.A.pg (bN s) a.rd))
 pg:bK c.P c.S H M a.A s
 ok:a.A.Ok M
 mt:∀b,M b->H b≠none
 hd:H a.rd=some (.dK (Tb.dk fR W))
 nd:(W.map (·.1)).Nodup
 tb:∀x∈W,dn c.T H x.2
 dm:∀x∈W,∀b,x.2.eK b->M b/\¬ a.A.own b/\b≠a.rd
 np:∀x∈W,¬ a.A.own x.2.p
 dj:∀x∈W,∀y∈W,x.1≠y.1->∀b,x.2.eK b->¬ y.2.eK b
 CP:M a.rd
 AO:¬ a.A.own a.rd
 yn:¬ a.A.own a.rp
noncomputable def RA.own (a:RA) (W:dW):Addr->Prop:=λb=>a.A.own b\/b=a.rd\/∃x∈W,x.2.eK b
structure Step (H:Hp) (M O:Addr->Prop) (H':Hp) (M' O':Addr->Prop):Prop where
 off:Off O H H'
 mm:∀b,M b->¬ O b->M' b
 mn:∀b,M' b->M b\/H b=none
 on:∀b,O' b->O b\/H b=none
 mt:∀b,M b->H b≠none
 om:∀b,O b->M b
theorem Step.gone {H H':Hp}{M O M' G:Addr->Prop}(a:Step H M O H' M' G) {b:Addr}(h:H' b=none):O b\/H b=none:=by
 cases e:H b with
 |none=>show .inr rfl
 |some u =>
  by_cases z:O b
  .show .inl z
  .rw[a.off b u e z]at h;cases h
theorem Step.trans {H H' N:Hp}{M O M' L J G:Addr->Prop}(a:Step H M O H' M' L) (b:Step H' M' L N J G):Step H M O N J G:=by
 show#[λx o e z=>b.off x o (a.off x o e z) λy=>?_,λx h z=>b.mm x (a.mm x h z) λy=>?_,λx h=>?_,λx h=>?_,a.mt,a.om]
 .rcases a.on x y with y|y
  .show z y
  .rw[e]at y;cases y
 .rcases a.on x y with y|y
  .show z y
  .show a.mt x h y
 .rcases b.mn x h with h|h
  .show a.mn x h
  .rcases a.gone h with h|h
   .show .inl (a.om x h)
   .show .inr h
 .rcases b.on x h with h|h
  .show a.on x h
  .show a.gone h
theorem dS.grow {M M':Addr->Prop}{H:Hp}(h:∀b,M' b->M b\/H b=none):∀{v:V}{x:Option (List Int)},dS H M v x->dS H M' v x
 |.non,none,_=>trivial
 |.ref a,some ns,⟨h1,h2⟩=>#[λz=>(h a z).elim h1 λe=>(by rw[h2]at e;cases e),h2]
theorem aR.grow {C p ow co:Addr}{M M':Addr->Prop}{os:List Int}{pg:List (Option (List Int))}{H:Hp}(S:aR C H M p ow co os pg) (h:∀b,M' b->M b\/H b=none):aR C H M' p ow co os pg:=by
 let#[h1,L,cs,J,G]:=S;show#[h1,L,cs,J,Paired.Ay G λ_ _ z=>z.grow h]
section
variable {A:PA}{M M' B:Addr->Prop}{H H':Hp}
theorem bK.jL {C CS:Addr}{s:Pg.PS}(G:bK C CS H M A s):∀b xs,H b=some (.tup xs)->¬ A.own b:=by
 intro b xs e y;let#[dx,h1]:=G.ob;let#[_,U,_]:=G.fr.hc;let#[_,N,_]:=G.sl.hc;let#[_,L,_]:=G.pd;have O:=G.fr.hw;have J:=G.sl.hw;have Y:=G.il;unfold PA.own at y;simp only[Ku,Kb,or_false]at y;rcases y with y|y|y|y|y|y|y<;>rw[y]at e
 .rw[h1]at e;cases e
 .rw[O]at e;cases e
 .rw[U]at e;cases e
 .rw[J]at e;cases e
 .rw[N]at e;cases e
 .rw[L]at e;cases e
 .rw[Y]at e;cases e
theorem aR.less {C p ow co:Addr}{M M':Addr->Prop}{os:List Int}{pg:List (Option (List Int))}{H:Hp}(S:aR C H M p ow co os pg) (h:∀b,M' b->M b):aR C H M' p ow co os pg:=S.grow λb z=>.inl (h b z)
theorem bK.move {C CS:Addr}{s:Pg.PS}(G:bK C CS H M A s) (o:Off B H H') (N:∀b,B b->M b) (O:∀b,M' b->M b\/H b=none) (J:∀b,A.own b->¬ B b) (n1:¬ B A.fp) (n2:¬ B A.sp) (nt:∀b xs,H b=some (.tup xs)->¬ B b):bK C CS H' M' A s:=by
 let#[dx,h1]:=G.ob;let#[l,hd,nd,L,Y,hn]:=G.pd;show#[#[dx,o _ _ h1 (J _ (PA.eX 0 rfl))],((G.fr.grow (M':=λb=>M b\/M' b) λb z=>z.elim .inl (O b)).off o (λb z=>.inl (N b z)) n1 (J _ (PA.eX 1 rfl)) (J _ (PA.eX 2 rfl))).less λb z=>.inr z,
  ((G.sl.grow (M':=λb=>M b\/M' b) λb z=>z.elim .inl (O b)).off o (λb z=>.inl (N b z)) n2 (J _ (PA.eX 3 rfl)) (J _ (PA.eX 4 rfl))).less λb z=>.inr z,o _ _ G.il (J _ (PA.eX 6 rfl)),G.le,
  #[l,o _ _ hd (J _ (PA.eX 5 rfl)),nd,λx U=>o _ _ (L x U) (nt _ _ (L x U)),Y,hn]]
end
section
variable {c:CA}{H H':Hp}{M M' B:Addr->Prop}{a:RA}{s s':Pg.PS}{W:dW}{t:Int}{x y:TD}
theorem az.Hu {es:List Pg.Ent}(R:az c H M a s W) (G:Pg.RI s es):Hh c.P c.S H M a.A s:=#[R.pg,R.ok,R.mt,G.good,G.ne,G.cb R.pg.le,G.l0]
theorem dn.off (T:dn c.T H x) (o:Off B H H') (G:¬ B x.p) (J:∀b,x.eK b->¬ B b) (L:∀b xs,H b=some (.tup xs)->¬ B b):dn c.T H' x:=#[T.at_.off o G J L,T.nd,T.lk]
theorem az.kh (R:az c H M a s W) (G:bK c.P c.S H' M a.A s') (o:Off a.A.own H H') (L:∀b,(s'.ow b).length=(s.ow b).length):az c H' M a s' W:=by
 let#[dx,h1]:=R.ob;show#[#[dx,by rw[uR L];show o _ _ h1 R.yn],G,R.ok,G.alive o R.mt,o _ _ R.hd R.AO,R.nd,λx J=>(R.tb x J).off o (R.np x J) (λb z=>(R.dm x J b z).2.1) R.pg.jL,R.dm,R.np,R.dj,R.CP,R.AO,R.yn]
theorem az.dr (R:az c H M a s W):∀b,a.own W b->M b:=λb h=>by
 rcases h with h|h|⟨x,G,h⟩
 .show R.ok.own b h
 .rw[h];show R.CP
 .show(R.dm x G b h).1
theorem az.refl (R:az c H M a s W):Step H M (a.own W) H M (a.own W):=#[λ_ _ e _=>e,λ_ h _=>h,λ_ h=>.inl h,λ_ h=>.inl h,R.mt,R.dr]
theorem az.ig (R:az c H M a s W) (e:bf H H'):Step H M (a.own W) H' M (a.own W):=#[λb o h _=>e b o h,λ_ h _=>h,λ_ h=>.inl h,λ_ h=>.inl h,R.mt,R.dr]
theorem az.FA (R:az c H M a s W) (G:bK c.P c.S H' M a.A s') (o:Off a.A.own H H'):Step H M (a.own W) H' M (a.own W):=
 #[o.mono λ_ z=>.inl z,λ_ h _=>h,λ_ h=>.inl h,λ_ h=>.inl h,R.mt,R.dr]
theorem az.same (R:az c H M a s W) (e:bf H H'):az c H' M a s W:=by
 let#[dx,h1]:=R.ob;show#[#[dx,e _ _ h1],R.pg.keep (λb o h _=>e b o h),R.ok,λb J z=>?_,e _ _ R.hd,R.nd,λx G=>#[(R.tb x G).at_.same e,(R.tb x G).nd,(R.tb x G).lk],R.dm,R.np,R.dj,R.CP,R.AO,R.yn];cases h:H b with
 |none=>show R.mt b J h
 |some o=>rw[e b o h]at z;cases z
theorem az.CG (R:az c H M a s W) (o:Off B H H') (G:∀b,B b->M b/\¬ a.own W b) (U:∀b,B b->(∃xs,H b=some (.lst xs))\/∃kvs,H b=some (.dK kvs)) (hM:∀b,M' b->M b\/H b=none) (N:∀b,M b->¬ B b->M' b) (mt:∀b,M' b->H' b≠none):az c H' M' a s W:=by
 let#[dx,h1]:=R.ob;have L:∀{b C dx fs},H b=some (.ins C dx fs)->¬ B b:=λe z=>by
  rcases U _ z with⟨_,h⟩|⟨_,h⟩
  .rw[e]at h;cases h
  .rw[e]at h;cases h
 have nt:∀b xs,H b=some (.tup xs)->¬ B b:=λb xs e z=>by
  rcases U _ z with⟨_,h⟩|⟨_,h⟩
  .rw[e]at h;cases h
  .rw[e]at h;cases h
 let#[am,Y]:=R.pg.fr.ob;let#[ac,O]:=R.pg.sl.ob;show#[#[dx,o _ _ h1 (L h1)],R.pg.move o (λb z=>(G b z).1) hM (λb z y=>(G b y).2 (.inl z)) (L Y) (L O) nt,#[R.ok.ds,λb z=>N b (R.ok.mm b z) λq=>?_],mt,o _ _ R.hd (λz=>(G _ z).2 (.inr (.inl rfl))),R.nd,λx J=>?_,λx J b z=>#[N b (R.dm x J b z).1 λq=>(G b q).2 (.inr (.inr #[x,J,z])),(R.dm x J b z).2],R.np,R.dj,N _ R.CP (λz=>(G _ z).2 (.inr (.inl rfl))),R.AO,R.yn]
 .simp only[Ku,Kb,or_false]at z;rcases z with z|z|z|z|z|z|z|z|z<;>rw[z]at q
  .show(G _ q).2 (.inl (PA.eX 0 rfl))
  .show L Y q
  .show(G _ q).2 (.inl (PA.eX 1 rfl))
  .show(G _ q).2 (.inl (PA.eX 2 rfl))
  .show L O q
  .show(G _ q).2 (.inl (PA.eX 3 rfl))
  .show(G _ q).2 (.inl (PA.eX 4 rfl))
  .show(G _ q).2 (.inl (PA.eX 5 rfl))
  .show(G _ q).2 (.inl (PA.eX 6 rfl))
 .let#[ab,h3]:=(R.tb x J).at_.ob;show(R.tb x J).off o (L h3) (λb z y=>(G b y).2 (.inr (.inr #[x,J,z]))) nt
theorem az.vH (R:az c H M a s W) (hx:Tb.look W t=some x) (ep:y.p=x.p) (T:dn c.T H' y) (o:Off x.eK H H') (hn:∀b,y.eK b->x.eK b\/H b=none):az c H' (λb=>(M b/\¬ x.eK b)\/y.eK b) a s (Tb.aU W t y):=by
 have Y:=Tb.ax hx;have X:=R.tb _ Y;have dK:∀{b},x.eK b->∃kvs,H b=some (.dK kvs):=λz=>X.at_.dK z;have L:=R.dm _ Y;have N:∀{b C dx fs},H b=some (.ins C dx fs)->¬ x.eK b:=λe z=>by
  let#[_,h]:=dK z;rw[e]at h;cases h
 have nt:∀b xs,H b=some (.tup xs)->¬ x.eK b:=λb xs e z=>by
  let#[_,h]:=dK z;rw[e]at h;cases h
 let#[dx,h1]:=R.ob;let#[a0,f1]:=R.pg.fr.ob;let#[a1,f2]:=R.pg.sl.ob;have hM:∀b,(M b/\¬ x.eK b)\/y.eK b->M b\/H b=none:=λb z=>z.elim (λz=>.inl z.1) λz=>(hn b z).elim (λz=>.inl (L b z).1) .inr;show#[#[dx,o _ _ h1 (N h1)],R.pg.move o (λb z=>(L b z).1) hM (λb z y=>(L b y).2.1 z) (N f1) (N f2) nt,#[R.ok.ds,λb z=>.inl #[R.ok.mm b z,λq=>?_]],λb z e=>?_,?_,by rw[Tb.fB];show R.nd,λJ G=>?_,λJ G b z=>?_,λJ G=>?_,λx1 ab x2 ac ap b O z2=>?_,.inl #[R.CP,λq=>(L _ q).2.2 rfl],R.AO,R.yn]
 .simp only[Ku,Kb,or_false]at z;rcases z with z|z|z|z|z|z|z|z|z<;>rw[z]at q
  .show(L _ q).2.1 (PA.eX 0 rfl)
  .show N f1 q
  .show(L _ q).2.1 (PA.eX 1 rfl)
  .show(L _ q).2.1 (PA.eX 2 rfl)
  .show N f2 q
  .show(L _ q).2.1 (PA.eX 3 rfl)
  .show(L _ q).2.1 (PA.eX 4 rfl)
  .show(L _ q).2.1 (PA.eX 5 rfl)
  .show(L _ q).2.1 (PA.eX 6 rfl)
 .rcases z with z|z
  .cases e2:H b with
   |none=>show R.mt b z.1 e2
   |some u=>rw[o b u e2 z.2]at e;cases e
  .let#[_,h]:=T.at_.dK z;rw[e]at h;cases h
 .rw[Tb.qt R.nd hx (show V.ref y.p=V.ref x.p by rw[ep])];show o _ _ R.hd λz=>(L _ z).2.2 rfl
 .rcases Tb.mem_set G with rfl|⟨G,U⟩
  .show T
  .let#[aT,h3]:=(R.tb J G).at_.ob;show(R.tb J G).off o (N h3) (λb z z'=>R.dj J G _ Y U b z z') nt
 .rcases Tb.mem_set G with rfl|⟨G,U⟩
  .show#[.inr z,?_];rcases hn b z with z|z
   .show(L b z).2
   .show#[λq=>R.mt b (R.ok.own b q) z,λq=>by rw[q,R.hd]at z;cases z]
  .show#[.inl #[(R.dm J G b z).1,λq=>R.dj J G _ Y U b z q],(R.dm J G b z).2]
 .rcases Tb.mem_set G with rfl|⟨G,U⟩
  .change ¬ a.A.own y.p;rw[ep];show R.np _ Y
  .show R.np J G
 .have am:∀J∈W,J.1≠t->∀b,J.2.eK b->¬ y.eK b:=λJ G U b O z2=>by
   rcases hn b z2 with z|z
   .show R.dj J G _ Y U b O z
   .let#[_,h]:=(R.tb J G).at_.dK O;rw[z]at h;cases h
  rcases Tb.mem_set ab with rfl|⟨ab,aB⟩<;>rcases Tb.mem_set ac with rfl|⟨ac,as⟩
  .show ap rfl
  .show am x2 ac as b z2 O
  .show am x1 ab aB b O z2
  .show R.dj x1 ab x2 ac ap b O z2
theorem az.qN (R:az c H M a s W) (N:Tb.look W t=some x) (o:Off x.eK H H') (L:∀b,y.eK b->x.eK b\/H b=none):Step H M (a.own W) H' (λb=>(M b/\¬ x.eK b)\/y.eK b) (a.own (Tb.aU W t y)):=by
 have G:=Tb.ax N;show#[o.mono λb z=>.inr (.inr #[_,G,z]),λb z q=>.inl #[z,λw=>q (.inr (.inr #[_,G,w]))],λb z=>z.elim (λz=>.inl z.1) λz=>(L b z).elim (λz=>.inl (R.dm _ G b z).1) .inr,λb z=>?_,R.mt,R.dr];rcases z with z|z|⟨O,J,z⟩
 .show .inl (.inl z)
 .show .inl (.inr (.inl z))
 .rcases Tb.mem_set J with rfl|⟨J,U⟩
  .show(L b z).elim (λz=>.inl (.inr (.inr #[_,G,z]))) .inr
  .show .inl (.inr (.inr #[O,J,z]))
theorem az.FN (R:az c H M a s W) {W':dW}(nd:(W'.map (·.1)).Nodup) (tb:∀x∈W',dn c.T H x.2) (N:∀x∈W',∀b,x.2.eK b->M b/\¬ a.A.own b/\b≠a.rd) (np:∀x∈W',¬ a.A.own x.2.p) (O:∀x∈W',∀y∈W',x.1≠y.1->∀b,x.2.eK b->¬ y.2.eK b) :
  az c (upd H a.rd (.dK (Tb.dk fR W'))) M a s W':=by
 have o:Off (· = a.rd) H (upd H a.rd (.dK (Tb.dk fR W'))):=λb o e z=>(by rw[ah z];show e);have G:∀{b C dx fs},H b=some (.ins C dx fs)->¬ b=a.rd:=λe z=>(by rw[z,R.hd]at e;cases e);have L:∀b xs,H b=some (.tup xs)->¬ b=a.rd:=λb xs e z=>(by rw[z,R.hd]at e;cases e);have al:∀b,upd H a.rd (.dK (Tb.dk fR W')) b=none->H b=none:=λb e=>by
  by_cases z:b=a.rd
  .rw[z,af]at e;cases e
  .rw[ah z]at e;show e
 let#[dx,h1]:=R.ob;let#[am,f1]:=R.pg.fr.ob;let#[ac,Y]:=R.pg.sl.ob;show#[#[dx,o _ _ h1 (G h1)],R.pg.move o (λb z=>by rw[z];show R.CP) (λb z=>.inl z) (λb z y=>R.AO (y▸z)) (G f1) (G Y) L,R.ok,λb U e=>R.mt b U (al b e),af,nd,λx J=>?_,N,np,O,R.CP,R.AO,R.yn];let#[ab,h3]:=(tb x J).at_.ob;show(tb x J).off o (G h3) (λb z y=>(N x J b z).2.2 y) L
theorem az.Ap (R:az c H M a s W) (hn:Tb.look W t=none) (T:dn c.T H y) (J:∀b,y.eK b->M b/\¬ a.own W b) (np:¬ a.A.own y.p):az c (upd H a.rd (.dK (Tb.dk fR (W++[(t,y)])))) M a s (W++[(t,y)]):=by
 show R.FN ?_ (λx G=>?_) (λx G=>?_) (λx G=>?_) (λY h1 O h2 U b L N=>?_)
 .rw[Ke];show fG R.nd (Tb.cf hn)
 .rcases List.mem_append.mp G with G|G
  .show R.tb x G
  .rw[List.mem_singleton.mp G];show T
 .rcases List.mem_append.mp G with G|G
  .show R.dm x G
  .rw[List.mem_singleton.mp G];show λb z=>#[(J b z).1,λq=>(J b z).2 (.inl q),λq=>(J b z).2 (.inr (.inl q))]
 .rcases List.mem_append.mp G with G|G
  .show R.np x G
  .rw[List.mem_singleton.mp G];show np
 .rcases List.mem_append.mp h1 with h1|h1<;>rcases List.mem_append.mp h2 with h2|h2
  .show R.dj Y h1 O h2 U b L N
  .rw[List.mem_singleton.mp h2]at N;show(J b N).2 (.inr (.inr #[Y,h1,L]))
  .rw[List.mem_singleton.mp h1]at L;show(J b L).2 (.inr (.inr #[O,h2,N]))
  .show U (by rw[List.mem_singleton.mp h1,List.mem_singleton.mp h2])
theorem az.Ec (R:az c H M a s W) (t:Int):az c (upd H a.rd (.dK (Tb.dk fR (Tb.bg W t)))) M a s (Tb.bg W t):=
 R.FN (Tb.m5 R.nd) (λx G=>R.tb x (Tb.bZ G).1) (λx G=>R.dm x (Tb.bZ G).1) (λx G=>R.np x (Tb.bZ G).1) (λx G y J=>R.dj x (Tb.bZ G).1 y (Tb.bZ J).1)
end
end St
namespace L2
open PySem PySem.Spec PyProof.Rows
noncomputable def IV (K:PySem.W.Frag):R2:=λx y H Q=>∃p q xs ys,x=.ref p/\y=.ref q/\cg K H p xs/\cg K H q ys/\xs.all dv=true/\ys.all dv=true/\Q (.bl (!gQ xs ys)) H
section
variable {X:Cx}
theorem uq (hu:X.A.units<Me):kW X (Lo .NotEq) (IV X.K):=by
 intro pins s σ H x y v u Q I rx ry h;let#[p,q,xs,ys,rfl,rfl,hx,hy,fx,fy,hq]:=h;cases rx;cases ry;let#[its,r,pl,hz]:=I.tuple hx;let#[N,L,ab,as]:=I.tuple hy;have U:=r.length;have ap:=L.length;show PySem.SeqAt.RcNeAt.tuples (e:=λj=>kO (xs.getD j .non) (ys.getD j .non)) pl ab hu (λj h1 h2=>?_) _ _ _ _ #[.bl (!gQ xs ys),H,I,?_,hq]
 .rw[IF]at h1 h2;have J:j<xs.length:=ae;have G:j<ys.length:=ae;let#[a,ea,ra]:=r.get (i:=j) (x:=xs[j]) (by simp[J]);let#[b,eb,Y]:=L.get (i:=j) (x:=ys[j]) (by simp[G]);let#[_,am]:=List.getElem?_eq_some_iff.mp ea;let#[_,ac]:=List.getElem?_eq_some_iff.mp eb;have O:xs.getD j .non=xs[j]:=(by simp[J]);have g2:ys.getD j .non=ys[j]:=(by simp[G]);change Nd _ _ its.toArray[j] N.toArray[j] (kO (xs.getD j .non) (ys.getD j .non));have a1:its.toArray[j]=a:=(by simpa using am);have a2:N.toArray[j]=b:=(by simpa using ac);rw[O,g2,a1,a2];show lV ra Y (List.all_eq_true.mp fx _ (La J)) (List.all_eq_true.mp fy _ (La G))
 .change Value.bool _=Value.bool _;rw[IF,IF, <-U, <-ap,oy]
end
end L2
namespace St
open PySem L2
noncomputable abbrev pP:Ky:=top 17
noncomputable abbrev qk:Ky:=top 18
noncomputable abbrev uG:Ky:=top 19
noncomputable abbrev qS:Ky:=inClass (top 33) 1
noncomputable abbrev pK:Ky:=inClass (top 33) 2
noncomputable abbrev Af:Ky:=inClass (top 33) 3
noncomputable abbrev tJ:Ky:=inClass (top 33) 4
noncomputable abbrev vf:Ky:=inClass (top 33) 5
noncomputable abbrev uL:Ky:=inClass (top 33) 6
noncomputable abbrev uc:Ky:=inClass (top 33) 7
noncomputable abbrev tG:Ky:=inClass (top 33) 8
noncomputable abbrev qr:Ky:=inClass (top 33) 11
noncomputable abbrev qP:Ky:=inClass (top 33) 12
noncomputable abbrev pX:Ky:=inClass (top 33) 13
structure sW (K:PySem.W.Frag) (mg:Str->Option Value) (c:CA):Prop where
 cl:qX K c.C
 nP:cW K c.C "paging"
 nT:cW K c.C "total"
 nR:cW K c.C "rooms"
 bl:∃aB,mg "BLANK" = some (.ref aB)/\cg K (λ_=>none) aB [.str "blank"]
 pc:∃u,mg "PAGE_CELLS" = some u/\RelV (.int 8) u
 len:mg "len" = none
 sum:mg "sum" = none
 zip:mg "zip" = none
noncomputable def Cv (s:Pg.PS) (W:dW) (cv:Int->Int->List Int):Prop:=∀t x,Tb.look W t=some x->∀q e,Tb.look x.t q=some e->Pg.xH s e (cv t q)
theorem mZ {W:dW}{t q:Int}{x:TD}{e:Pg.Ent}(G:Tb.look W t=some x) (J:Tb.look x.t q=some e):e∈ents W :=
 List.mem_flatMap.mpr #[(t,x),Tb.ax G,List.mem_map.mpr #[(q,e),Tb.ax J,rfl]]
theorem Cv.next {s s':Pg.PS}{W W':dW}{cv:Int->Int->List Int}(h:Cv s W cv) (hs:Pg.bf (ents W') s s') (N:∀t G,Tb.look W' t=some G->∃x,Tb.look W t=some x/\∀q e,Tb.look G.t q=some e->Tb.look x.t q=some e):Cv s' W' cv:=by
 intro t G L q e J;let#[x,h1,h2]:=N t G L;show hs e (mZ L J) _ (h t x h1 q e (h2 q e J))
theorem Cv.keep {s s':Pg.PS}{W:dW}{cv:Int->Int->List Int}(h:Cv s W cv) (hs:Pg.bf (ents W) s s'):Cv s' W cv:=h.next hs λt x G=>#[x,G,λ_ _ e=>e]
theorem ix {W:dW}{t:Int}{x y:TD}(h:Tb.look W t=some x):Tb.look (Tb.aU W t y) t=some y:=by rw[Tb.bM t h,Qi rfl]
theorem set_set {W:dW}{t:Int}{x y:TD}:Tb.aU (Tb.aU W t x) t y=Tb.aU W t y:=by
 unfold Tb.aU;rw[Lc];show Lx λz _=>?_;change(if (if z.1=t then(t,x)else z).1=t then(t,y)else(if z.1=t then(t,x)else z))=if z.1=t then(t,y)else z
 by_cases c:z.1=t
 .rw[Qi c,Qi rfl,Qi c]
 .simp only[Qh c]
theorem cJ {W:dW}{t:Int}{x:TD}(G:(W.map (·.1)).Nodup) (h:Tb.look W t=some x):Tb.aU W t x=W:=by
 unfold Tb.aU
 conv=>rhs;rw[<-List.map_id W]
 show Lx λz J=>?_;change(if z.1=t then(t,x)else z)=z;by_cases c:z.1=t
 .have:=Tb.bL G J;rw[c,h]at this;rw[Qi c,Option.some.inj this, <-c]
 .rw[Qh c]
theorem xm {W:dW}{t q:Int}{x y:TD}{e:Pg.Ent}(J:(W.map (·.1)).Nodup) (G:Tb.look W t=some x) (nx:(x.t.map (·.1)).Nodup) (L:Tb.look x.t q=some e) (N:y.t=Tb.bg x.t q):(ents W).Perm (e::ents (Tb.aU W t y)):=by
 show(j5 J G).trans (((sP nx L).append_right _).trans ?_);rw[<-N];show((hU J G).symm).cons e
theorem z9 {W:dW}{t q:Int}{x y:TD}{e:Pg.Ent}(J:(W.map (·.1)).Nodup) (G:Tb.look W t=some x) (L:y.t=(q,e)::Tb.bg x.t q):(ents (Tb.aU W t y)).Perm (e::(tu (Tb.bg x.t q)++ents (Tb.bg W t))):=by
 show(hU J G).trans ?_;rw[L];show List.Perm.refl _
theorem dn.mem {c:CA}{H:Hp}{x:TD}(T:dn c.T H x) {ns:List Int}(p:ns.Perm (Tb.fP x.tb)) (q:Int):q∈ns↔Tb.look x.t q≠none:=by
 rw[p.mem_iff,Tb.rJ T.at_,T.lk];cases Tb.look x.t q<;>simp
theorem dn.pg {c:CA}{H:Hp}{x:TD}(T:dn c.T H x) {q:Int}(h:Tb.look x.t q≠none):0<=q/\q<64:=T.at_.vZ (by
 rw[T.lk];cases e:Tb.look x.t q with
 |none=>show absurd e h
 |some _=>simp)
inductive eE (vs:List V) (H:Hp) (Q:VK) (e3:XK):Prop
 |mk (a:Addr) (W:dW) (t:Int) (x:TD) (_:vs=[.ref a,.int t]) (_:H a=some (.dK (Tb.dk fR W))) (_:Tb.look W t=some x) (_:Q (.ref x.p) H):eE vs H Q e3
inductive jw (vs:List V) (H:Hp) (Q:VK) (e3:XK):Prop
 |mk (a:Addr) (W:dW) (t:Int) (_:vs=[.ref a,.int t]) (_:H a=some (.dK (Tb.dk fR W))) (_:Tb.look W t=none) (_:Q .non H):jw vs H Q e3
inductive kY (vs:List V) (H:Hp) (Q:VK) (e3:XK):Prop
 |mk (h t:Int) (_:vs=[.int h,.int t]) (_:¬ t<h) (_:Q .non H):kY vs H Q e3
inductive eU (c:CA) (vs:List V) (H:Hp) (Q:VK) (e3:XK):Prop
 |mk (M:Addr->Prop) (a:RA) (s:Pg.PS) (W:dW) (cv:Int->Int->List Int) (t:Int) (x:TD) (lp:Addr) (ps:List Int) (_:vs=[.ref a.rp,.ref x.p,.ref lp]) (_:az c H M a s W) (_:Pg.RI s (ents W)) (_:Cv s W cv) (_:Tb.look W t=some x) (_:H lp=some (.lst (ps.map V.int))) (_:¬ M lp) (_:ps.Nodup) (_:(∀q∈ps,Tb.look x.t q≠none)) (_:∀(H':Hp) (M':Addr->Prop) (s':Pg.PS) (y:TD),az c H' M' a s' (Tb.aU W t y)->Pg.RI s' (ents (Tb.aU W t y))->Cv s' (Tb.aU W t y) cv->(∀q,Tb.look y.t q=if q∈ps then none else Tb.look x.t q)->Step H M (a.own W) H' M' (a.own (Tb.aU W t y))->(∀b,(s'.ow b).length=(s.ow b).length)->Q .non H'):eU c vs H Q e3
inductive uT (c:CA) (vs:List V) (H:Hp) (Q:VK) (e3:XK):Prop
 |mk (M:Addr->Prop) (a:RA) (s:Pg.PS) (W:dW) (cv:Int->Int->List Int) (t p m:Int) (x:TD) (_:vs=[.ref a.rp,.int t,.int p,.int m]) (_:az c H M a s W) (_:Pg.RI s (ents W)) (_:Cv s W cv) (_:Tb.look W t=some x) (_:¬ Rm.cB p m) (_:(∀q∈Rm.aM p m,Tb.look x.t q≠none)) (_:∀(H':Hp) (M':Addr->Prop) (s':Pg.PS) (y:TD),az c H' M' a s' (Tb.aU W t y)->Pg.RI s' (ents (Tb.aU W t y))->Cv s' (Tb.aU W t y) cv->(∀q,Tb.look y.t q=if q∈Rm.aM p m then none else Tb.look x.t q)->Step H M (a.own W) H' M' (a.own (Tb.aU W t y))->(∀b,(s'.ow b).length=(s.ow b).length)->Q .non H'):uT c vs H Q e3
inductive mW (c:CA) (vs:List V) (H:Hp) (Q:VK) (e3:XK):Prop
 |mk (M:Addr->Prop) (a:RA) (s:Pg.PS) (W:dW) (cv:Int->Int->List Int) (t:Int) (x:TD) (_:vs=[.ref a.rp,.int t]) (_:az c H M a s W) (_:Pg.RI s (ents W)) (_:Cv s W cv) (_:Tb.look W t=some x) (_:∀(H':Hp) (M':Addr->Prop) (s':Pg.PS),az c H' M' a s' (Tb.bg W t)->Pg.RI s' (ents (Tb.bg W t))->Cv s' (Tb.bg W t) cv->Step H M (a.own W) H' M' (a.own (Tb.bg W t))->(∀b,(s'.ow b).length=(s.ow b).length)->Q .non H'):mW c vs H Q e3
inductive ma (c:CA) (vs:List V) (H:Hp) (Q:VK) (e3:XK):Prop
 |mk (M:Addr->Prop) (a:RA) (s:Pg.PS) (W:dW) (t:Int) (_:vs=[.ref a.rp,.int t]) (_:az c H M a s W) (_:Tb.look W t=none) (_:W.length<=1000) (_:∀(H':Hp) (M':Addr->Prop) (y:TD),y.t=[]->az c H' M' a s (W++[(t,y)])->Step H M (a.own W) H' M' (a.own (W++[(t,y)]))->Q .non H'):ma c vs H Q e3
section
variable {P:J2}{w:Kd}{K:PySem.W.Frag}{mg:Str->Option Value}{base:Heap}
theorem eL {α:Type}{f:α->V}{H:Hp}{a:Addr}{l:List (Int×α)}{t:Int}(h:H a=some (.dK (Tb.dk f l))):du H a (.int t) ((Tb.look l t).map f):=by
 have q:=du.k (k:=Sum.inl t) h;rw[Tb.cI]at q;show q
theorem IH:aC ["rooms","task"] ["rooms","task"] (aw pP):=L2.bD
theorem ye {f:Addr}{fd:J0}(F:cQ K "room_of" "room_of" pP f fd):bh P w K mg base aW 1 f fd ["rooms","task"] eE:=by
 show F.ok IH (λvs H Q E h=>?_) (λO A outer s H vs Q E J h=>?_)
 .let#[a,W,t,x,rfl,_]:=h;rfl
 .let#[a,W,t,x,rfl,L,N,k]:=h;show#[_,(ag (aS (ij (gc (aZ J) (pv 1) (pv 0))) cU aG)
   (aj (aF (bj (aZ J) (pv 0) (pv 1) (λ_ _=>rfl))))),?_]
  have G:=eL (t:=t) L;rw[N]at G;show#[0,0,a,0,G,0,bC #[0,0,a,fR x,rfl,G,k]]
theorem Iu:aC ["rooms","task"] ["rooms","task"] (aw qk):=L2.bD
theorem ya {f:Addr}{fd:J0}(F:cQ K "refuse_second_room" "refuse_second_room" qk f fd):bh P w K mg base aW 1 f fd ["rooms","task"] jw:=by
 show F.ok Iu (λvs H Q E h=>?_) (λO A outer s H vs Q E N h=>?_)
 .let#[a,W,t,rfl,_]:=h;rfl
 .let#[a,W,t,rfl,J,L,k]:=h;show#[_,(aj (aS (ij (kf (aZ N) (pv 1) (pv 0))) cU aG)),?_];have G:=eL (t:=t) J;rw[L]at G;show#[0,0,a,0,G,0,bC k]
theorem Jl:aC ["held","total"] ["held","total"] (aw uG):=L2.bD
theorem yU {f:Addr}{fd:J0}(F:cQ K "refuse_above" "refuse_above" uG f fd):bh P w K mg base aW 1 f fd ["held","total"] kY:=by
 show F.ok Jl (λvs H Q E h=>?_) (λJ A outer s H vs Q E L h=>?_)
 .let#[h,t,rfl,_]:=h;rfl
 .let#[h,t,rfl,G,k]:=h;show#[_,(aj (aS (aE iO (pv 0) (pv 1) (aJ _)) cU aG)),?_];show#[0,0,_,0,rfl,0,?_];show iH (λc=>absurd (of_decide_eq_true c) G) (λc=>k)
theorem Dl:aC ["self","table","pages","page","entry"] ["self","table","pages"] (aw qr):=L2.bD
theorem nu {f:Addr}{fd:J0}{c:CA}(F:cQ K "leave_pages" "Rooms.leave_pages" qr f fd) (T:sW K mg c) (TT:Tb.Txt K mg c.T) (TP:pY K mg c.P) (GG:Md P w K mg base aW 3 c.T "get" (Tb.oj c.T)) (GK:Md P w K mg base aW 1 c.T "clear" (Tb.oX c.T)) (b1:Md P w K mg base aW 4 c.P "leave" (lG c.P c.S)):bh P w K mg base aW 5 f fd ["self","table","pages"] (eU c):=by
 let#[aB,mB,sB]:=T.bl;have rB:RelV (.ref aB) (.ref aB):=rfl;show F.ok Dl (λvs H Q E h=>?_) (λb3 A outer s H vs Q E hr h=>?_)
 .let#[M,a,s',W,cv,t,x,lp,ps,rfl,_]:=h;rfl
 .let#[M,a,s',W,cv,t,x,lp,ps,rfl,R,ri,a7,Y,a5,bv,bz,bG,q]:=h;show#[_,(aj (cN Kh rfl (ff (pv 2)) (aY (i:=3) Dl.nd rfl (J6 rfl)) (ag (aK (i:=4) Dl.nd rfl (J6 rfl) (pm (pv 1) TT.cl GG hr ay (aa (pv 3) ai)))
   (ag (aP (pm (pv 1) TT.cl GK hr ay (aa (pv 3) ai)))
   (aj (aS (aE (uq hr.iP) (pv 4) (cA (by rfl) mB rB) (aJ _)) (aj (aP (pm (aL (pv 0) rfl) TP.cl b1 hr ay (aa (a8 a9 (pv 4) ak (λ_ _=>rfl)) ai)))) aG)))))),?_]
  have bd:¬ a.own W lp:=λz=>bv (R.dr lp z);show#[0,lp,rfl,#[_,bB.of a5],?_];show eh (K:=K) (a:=lp) (xs:=ps.map V.int) (λi σ H2=>AJ λ(v3 v4:Option V) (M2:Addr->Prop) (s2:Pg.PS) (y:TD)=>HA (σ=[some (.ref a.rp),some (.ref y.p),some (.ref lp),v3,v4]) (az c H2 M2 a s2 (Tb.aU W t y)) (Pg.RI s2 (ents (Tb.aU W t y))) (Cv s2 (Tb.aU W t y) cv) ((∀q,Tb.look y.t q=if q∈ps.take i then none else Tb.look x.t q)) (Step H M (a.own W) H2 M2 (a.own (Tb.aU W t y))) (∀b,(s2.ow b).length=(s'.ow b).length))
   #[2,M,s',x,rfl,by rw[cJ R.nd Y];show R,by rw[cJ R.nd Y];show ri,by rw[cJ R.nd Y];show a7,λq=>by simp,by rw[cJ R.nd Y];show R.refl,λ_=>rfl] (λi σ H2 _ z0=>by let#[_,_,_,_,_,_,_,_,_,_,st,_]:=z0;show bB.of (st.off _ _ a5 bd)) ?_ ?_
  .rintro i u σ H2 hu ⟨v3,v4,M2,s2,y,rfl,R2,aT,as,am,a0,ap⟩;rw[J3]at hu;let#[p,hp,rfl]:=Option.map_eq_some_iff.mp hu;have b0:=J7 hp;let#[hi,b2]:=List.getElem?_eq_some_iff.mp hp;have bm:¬ p∈ps.take i:=λz=>by
    let#[j,hj,e]:=Lh z;rw[Ms]at e;rw[Kg]at hj;show mE bz j i (J4 ae) hp ae e
   have ac:=ix (y:=y) Y;obtain⟨e,he⟩:∃e,Tb.look y.t p=some e:=by
    rw[am p,Qh bm];cases z:Tb.look x.t p with
    |none=>show absurd z (bG p b0)
    |some e=>show#[e,rfl]
   have T2:=R2.tb _ (Tb.ax ac);let#[bi,ht]:=T2.at_.ob;show#[0,y.p,bi,0,ht,Tb.aX _ ao,0,y.p,y.fs,y.tb,p,rfl,T2.at_,λH3 v s3 U=>?_];rw[T2.lk,he]at U;let#[tt,rfl,a1]:=U;have R3:=R2.same s3;have T3:=R3.tb _ (Tb.ax ac);let#[bn,bb]:=T3.at_.ob;show#[0,y.p,bn,0,bb,Tb.aX _ ao,0,y.p,y.fs,y.tb,p,rfl,T3.at_,λH4 J T4 l4 _ o4 n4=>?_];have ba:dn c.T H4 #[y.p,y.fs,J,Tb.bg y.t p]:=#[T4,Tb.m5 T3.nd,λj=>by
    rw[l4 j,Tb.cj];by_cases z:j=p
    .rw[Qi z,Qi z];rfl
    .rw[Qh z,Qh z];show T3.lk j]
   have G:=R3.vH (y:=#[y.p,y.fs,J,Tb.bg y.t p]) ac rfl ba o4 n4;have S4:=a0.trans ((R2.ig s3).trans (R3.qN (y:=#[y.p,y.fs,J,Tb.bg y.t p]) ac o4 n4));have pe:=xm (y:=#[y.p,y.fs,J,Tb.bg y.t p]) R2.nd ac T2.nd he rfl;rw[set_set]at G S4 pe;have ab:=aT.perm pe;have a2:∀j,Tb.look (Tb.bg y.t p) j=if j∈ps.take (i+1)then none else Tb.look x.t j:=λj=>by
    rw[Tb.cj,am j,Li,hp];by_cases z:j=p
    .rw[Qi z,Qi (by rw[z];simp)]
    .rw[Qh z];by_cases O:j∈ps.take i
     .rw[Qi O,Qi (K9 _ O)]
     .rw[Qh O,Qh (by simp[z,O])]
   have a6:∀t' x',Tb.look (Tb.aU W t #[y.p,y.fs,J,Tb.bg y.t p]) t'=some x'->∃a3,Tb.look (Tb.aU W t y) t'=some a3/\∀q e,Tb.look x'.t q=some e->Tb.look a3.t q=some e:=by
    intro t' x' h';rw[Tb.bM t' Y]at h' ⊢;by_cases z:t'=t
    .rw[Qi z]at h' ⊢;cases h';show#[y,rfl,λq e N=>?_];have N:Tb.look (Tb.bg y.t p) q=some e:=N;rw[Tb.cj]at N;by_cases O:q=p
     .rw[Qi O]at N;cases N
     .rw[Qh O]at N;show N
    .rw[Qh z]at h' ⊢;show#[x',h',λ_ _ h=>h]
   have bY:¬ y.eK tt:=λz=>by
    let#[_,h]:=T3.at_.dK z;rw[a1]at h;cases h
   have a4:=o4 _ _ a1 bY;show#[0,tt,aB,_,0,rfl,cg.of a4,ja.sq (.inr sB),?_];cases e with
   |none =>
    show#[1,0,bC ?_];show#[2,_,s2,#[y.p,y.fs,J,Tb.bg y.t p],rfl,G,ab.bare,as.next Pg.bf.refl a6,a2,S4,ap]
   |some k =>
    show#[1,0,dZ ?_];let#[be,bx]:=G.ob;let#[bc,bI]:=G.pg.ob;let#[cs,cc,U]:=ab.is k Kv;show#[0,a.rp,c.C,be,_,0,bx,T.cl,T.nP,oQ _ _ _,a.A.pg,bc,0,bI,cL _ _ ao ao ao ao ao,0,tt,_,(1),0,rfl,cg.of a4,5,a.A,s2,k,cs,cc,rfl,G.pg,G.ok,G.mt,ab.good,U,λH5 s5 le G5 O5=>?_];have L:=Pg.wJ ab.good U le;show#[2,_,s5,#[y.p,y.fs,J,Tb.bg y.t p],rfl,G.kh G5 O5 L.ln,ab.leave U le,as.next (ab.uB U le) a6,a2,S4.trans (G.FA G5 O5),λb=>(L.ln b).trans (ap b)]
  .rintro σ H2 ⟨v3,v4,M2,s2,y,rfl,R2,aT,as,am,a0,ap⟩;rw[DD,Lk]at am;show q H2 M2 s2 y R2 aT as am a0 ap
theorem F0:aC ["self","task","page","many","table"] ["self","task","page","many"] (aw tJ):=L2.bD
theorem Ce {f:Addr}{fd:J0}{c:CA}(F:cQ K "drop" "Rooms.drop" tJ f fd) (T:sW K mg c) (TT:Tb.Txt K mg c.T) (GR:Df P w K mg base aW 1 "room_of" eE) (GD:Df P w K mg base aW 2 "pages_to_drop" Rm.mi) (a3:Md P w K mg base aW 1 c.T "pages" (Tb.eV c.T)) (as:Md P w K mg base aW 5 c.C "leave_pages" (eU c)):bh P w K mg base aW 6 f fd ["self","task","page","many"] (uT c):=by
 show F.ok F0 (λvs H Q E h=>?_) (λa6 A outer s H vs Q E G h=>?_)
 .let#[M,a,s',W,cv,t,p,m,x,rfl,_]:=h;rfl
 .let#[M,a,s',W,cv,t,p,m,x,rfl,R,ri,am,L,J,U,q]:=h;let#[dx,O]:=R.ob;have N:=R.tb _ (Tb.ax L);let#[aT,ht]:=N.at_.ob;have b1:¬ m<1:=λz=>J (.inl z);have b2:¬ p<0:=λz=>J (.inr (.inl z));have b3:¬ 64<p+m:=λz=>J (.inr (.inr z));show#[_,(ag (aK (i:=4) F0.nd rfl (J6 rfl) (pc GR G ay (aa (aL (pv 0) rfl) (aa (pv 1) ai))))
   (aj (aP (pm (pv 0) T.cl as G ay (aa (pv 4) (aa (pc GD G ay (aa (wc (pv 4) TT.cl a3 G ay) (aa (pv 2) (aa (pv 3) ai)))) ai)))))),?_]
  show#[0,a.rp,c.C,dx,_,0,O,T.cl,T.nR,fY _ _ _,0,a.rd,W,t,x,rfl,R.hd,L,?_];show#[0,a.rp,dx,0,O,gK _ _ _ ao ao ao,0,0,x.p,aT,0,ht,Tb.aX _ ao,x.p,x.fs,x.tb,rfl,N.at_,λH1 l1 ns Y a7 aB pm ba=>?_];show#[0,0,l1,ns,p,m,rfl,aB,J,λq hq=>(N.mem pm q).mpr (U q hq),λH2 l2 s2 ab a0=>?_]
  .have S2:=Y.trans s2;show#[M,a,s',W,cv,t,x,l2,Rm.aM p m,rfl,R.same S2,ri,am,L,a0,λz=>R.mt _ z (Y.free ab),?_,U,λH3 M3 s3 y R3 a2 a4 a1 ap a5=>q H3 M3 s3 y R3 a2 a4 a1 ((R.ig S2).trans ap) a5];unfold Rm.aM;show List.pairwise_map.mpr (List.nodup_range.imp ?_);intro i j ac e;show ac ae
theorem E9:aC ["self","task","table"] ["self","task"] (aw pK):=L2.bD
theorem xu {f:Addr}{fd:J0}{c:CA}(F:cQ K "close" "Rooms.close" pK f fd) (T:sW K mg c) (TT:Tb.Txt K mg c.T) (GR:Df P w K mg base aW 1 "room_of" eE) (a3:Md P w K mg base aW 1 c.T "pages" (Tb.eV c.T)) (a0:Md P w K mg base aW 5 c.C "leave_pages" (eU c)):bh P w K mg base aW 6 f fd ["self","task"] (mW c):=by
 show F.ok E9 (λvs H Q E h=>?_) (λa7 A outer s H vs Q E hr h=>?_)
 .let#[M,a,s',W,cv,t,x,rfl,_]:=h;rfl
 .let#[M,a,s',W,cv,t,x,rfl,R,ri,as,J,q]:=h;let#[dx,ho]:=R.ob;have L:=R.tb _ (Tb.ax J);let#[a5,ht]:=L.at_.ob;show#[_,(ag (aK (i:=2) E9.nd rfl (J6 rfl) (pc GR hr ay (aa (aL (pv 0) rfl) (aa (pv 1) ai))))
   (ag (aP (pm (pv 0) T.cl a0 hr ay (aa (pv 2) (aa (wc (pv 2) TT.cl a3 hr ay) ai))))
   (aj (aP (eI (aL (pv 0) rfl) (pv 1) #[1,1]))))),?_]
  show#[0,a.rp,c.C,dx,_,0,ho,T.cl,T.nR,fY _ _ _,0,a.rd,W,t,x,rfl,R.hd,J,?_];show#[0,a.rp,dx,0,ho,gK _ _ _ ao ao ao,0,0,x.p,a5,0,ht,Tb.aX _ ao,x.p,x.fs,x.tb,rfl,L.at_,λH1 l1 ns s1 ap a2 pm ba=>?_];show#[M,a,s',W,cv,t,x,l1,ns,rfl,R.same s1,ri,as,J,a2,λz=>R.mt _ z ap,pm.nodup_iff.mpr (Tb.jB L.at_),λq hq=>(L.mem pm q).mp hq,λH3 M3 s3 y G am a4 ac aT a6=>?_];have ab:=ix (y:=y) J;have ey:y.t=[]:=by
   cases e:y.t with
   |nil=>rfl
   |cons z r =>
    exfalso;have h1:=ac z.1;rw[e,Tb.aO,Qi rfl]at h1;by_cases Y:z.1∈ns
    .rw[Qi Y]at h1;cases h1
    .rw[Qh Y]at h1;show Y ((L.mem pm z.1).mpr (by rw[<-h1];simp))
  let#[aB,a1]:=G.ob;show#[0,a.rp,c.C,aB,_,0,a1,T.cl,T.nR,fY _ _ _,a.rd,rfl,.inl #[_,.inl G.hd],0,_,Sum.inl t,fR y,G.hd,rfl,by rw[Tb.cI,ab];rfl,?_];have R4:=G.Ec t;rw[Tb.eF];rw[Tb.wy]at R4 ⊢;have O:=hU (y:=y) R.nd J;rw[ey]at O;have O:(ents (Tb.aU W t y)).Perm (ents (Tb.bg W t)):=O;show q _ M3 s3 R4 (am.perm O) (a4.next Pg.bf.refl λt' N h'=>?_) (((R.ig s1).trans aT).trans ?_) a6
  .rw[Tb.cj]at h';by_cases z:t'=t
   .rw[Qi z]at h';cases h'
   .rw[Qh z]at h';show#[N,by rw[Tb.bM t' J,Qh z];show h',λ_ _ h=>h]
  .show#[Off.wr (.inr (.inl rfl)),λ_ h _=>h,λ_ h=>.inl h,λb z=>.inl ?_,G.mt,G.dr];rcases z with z|z|⟨N,U,z⟩
   .show .inl z
   .show .inr (.inl z)
   .let#[U,ne]:=Tb.bZ U;show .inr (.inr #[N,?_,z]);unfold Tb.aU;show List.mem_map.mpr #[N,U,by rw[Qh ne]]
theorem Jc:aC ["self","task"] ["self","task"] (aw qS):=L2.bD
theorem xQ {f fI:Addr}{fd dI:J0}{c:CA}(F:cQ K "begin" "Rooms.begin" qS f fd) (T:sW K mg c) (MK:Mk K c.T fI) (ap:mg "Table" = some (.ref c.T)) (GS:Df P w K mg base aW 1 "refuse_second_room" jw) (GI:bh P w K mg base aW 1 fI dI ["self"] (Tb.gX c.T)) (bI:Binds K dI ["self"] []):bh P w K mg base aW 3 f fd ["self","task"] (ma c):=by
 show F.ok Jc (λvs H Q E h=>?_) (λaT A outer s H vs Q E Y h=>?_)
 .let#[M,a,s',W,t,rfl,_]:=h;rfl
 .let#[M,a,s',W,t,rfl,R,L,hl,q]:=h;let#[dx,ho]:=R.ob;have hs:sizeLine=16777216:=J5;show#[_,(ag (aP (pc GS Y ay (aa (aL (pv 0) rfl) (aa (pv 1) ai))))
   (aj (jK (aZ Y) (aL (pv 0) rfl) (pv 1) (sk MK GI (Y.mono ar) (by rfl) ap bI .nil ay) rfl))),?_]
  show#[0,a.rp,c.C,dx,_,0,ho,T.cl,T.nR,fY _ _ _,0,a.rd,W,t,rfl,R.hd,L,?_];show λp aB np ac a0=>#[p,aB,rfl,af,λfs H1 ab T1 off=>#[4]];have U:bf H H1:=λb u e=>off b u (by rw[ah (aq e np),ah (aq e ac)];show e) (aq e np);have J:H fs=none:=by
   cases e:H fs with
   |none=>rfl
   |some u=>rw[ah (aq e np),ah (aq e ac),e]at ab;cases ab
  have O:=R.CG (H':=H1) (B:=λ_=>False) (M':=λb=>M b\/b=fs) (λb o e _=>U b o e) (λb z=>z.elim) (λb z=>z.elim) (λb z=>z.elim .inl λz=>.inr (by rw[z];show J)) (λb z _=>.inl z) (λb z e=>z.elim (λz=>(R.same U).mt b z e) λz=>by rw[z,T1.hf]at e;cases e)
  .let#[as,am]:=O.ob;show#[0,a.rp,c.C,as,_,0,am,T.cl,T.nR,fY _ _ _,0,a.rd,0,gf.k (k:=Sum.inl t) O.hd (by rw[Tb.cE];omega),?_];rw[show(V.ref p)=fR #[p,fs,[],[]]from rfl,Tb.cF L];have TI:dn c.T H1 #[p,fs,[],[]]:=#[T1,Lz,λq=>rfl];have N:∀b,(TD.mk p fs [] []).eK b->b=fs:=λb z=>by
    rcases z with z|⟨_,hx,_⟩
    .show z
    .cases hx
   have R2:=O.Ap L TI (λb z=>#[.inr (N b z),λy=>?_]) (λy=>?_)
   .show q _ _ #[p,fs,[],[]] rfl R2 #[?_,λb z _=>.inl z,λb z=>z.elim .inl λz=>.inr (by rw[z];show J),λb z=>?_,R.mt,R.dr]
    .intro b o e z;rw[ah (λy=>z (.inr (.inl y)))];show U _ _ e
    .rcases z with z|z|⟨x',G,z⟩
     .show .inl (.inl z)
     .show .inl (.inr (.inl z))
     .rcases List.mem_append.mp G with G|G
      .show .inl (.inr (.inr #[x',G,z]))
      .rw[List.mem_singleton.mp G]at z;rw[N b z];show .inr J
   .rw[N b z]at y;show R.mt _ (R.dr _ y) J
   .show R.mt _ (R.ok.own _ y) np
end
theorem vj:Kq "sum" = some (.builtin "sum"):=ao
inductive iA (c:CA) (vs:List V) (H:Hp) (Q:VK) (e3:XK):Prop
 |mk (M:Addr->Prop) (a:RA) (s:Pg.PS) (W:dW) (tt:Addr) (e:Pg.Ent) (cs:List Int) (_:vs=[.ref a.rp,.ref tt]) (_:az c H M a s W) (_:Pg.Good s) (_:H tt=some (.tup (wU e))) (_:Pg.xH s e cs) (_:∀(H':Hp) (l:Addr),bf H H'->H l=none->H' l=some (.lst (cs.map V.int))->Q (.ref l) H'):iA c vs H Q e3
inductive gZ (c:CA) (vs:List V) (H:Hp) (Q:VK) (e3:XK):Prop
 |mk (M:Addr->Prop) (a:RA) (s:Pg.PS) (W:dW) (tt ca:Addr) (e:Pg.Ent) (r:List Pg.Ent) (cs:List Int) (_:vs=[.ref a.rp,.ref tt,.ref ca]) (_:az c H M a s W) (_:Pg.RI s (e::r)) (_:H tt=some (.tup (wU e))) (_:H ca=some (.lst (cs.map V.int))) (_:¬ M ca) (_:cs.length=8) (_:∀(H':Hp) (s':Pg.PS) (k:Int),az c H' M a s' W->Pg.RI s' (some k::r)->Pg.bf r s s'->Pg.xH s' (some k) cs->Step H M (a.own W) H' M (a.own W)->(∀b,(s'.ow b).length=(s.ow b).length)->Q (.int k) H'):gZ c vs H Q e3
noncomputable def heldW (W:dW):Int:=(W.map λx=>(x.2.t.length:Int)).sum
theorem lR:∀W:dW,heldW W=((ents W).length:Int)
 | []=>rfl
 |x::W=>by
  have G:=lR W;unfold heldW at G ⊢;rw[Lm,LQ,G];change _=(((tu x.2.t++ents W).length:Nat):Int);rw[J9];unfold tu;rw[DD];omega
inductive jx (c:CA) (vs:List V) (H:Hp) (Q:VK) (e3:XK):Prop
 |mk (M:Addr->Prop) (a:RA) (s:Pg.PS) (W:dW) (_:vs=[.ref a.rp]) (_:az c H M a s W) (_:W.length<=1000) (_:∀H',bf H H'->Q (.int (ents W).length) H'):jx c vs H Q e3
noncomputable def gM (cv:Int->Int->List Int) (t:Int) (ps:List Int):Int->Int->List Int:=λt' q=>if t'=t/\q∈ps then replicate 8 0 else cv t' q
inductive uF (c:CA) (vs:List V) (H:Hp) (Q:VK) (e3:XK):Prop
 |mk (M:Addr->Prop) (a:RA) (s:Pg.PS) (W:dW) (cv:Int->Int->List Int) (t p m:Int) (x:TD) (_:vs=[.ref a.rp,.int t,.int p,.int m]) (_:az c H M a s W) (_:Pg.RI s (ents W)) (_:Cv s W cv) (_:W.length<=1000) (_:Tb.look W t=some x) (_:¬ Rm.cB p m) (_:(∀q∈Rm.aM p m,Tb.look x.t q=none)) (_:(ents W).length+m<=bN s) (_:∀(H':Hp) (M':Addr->Prop) (y:TD),az c H' M' a s (Tb.aU W t y)->Pg.RI s (ents (Tb.aU W t y))->Cv s (Tb.aU W t y) (gM cv t (Rm.aM p m))->(∀q,Tb.look y.t q=if q∈Rm.aM p m then some none else Tb.look x.t q)->Step H M (a.own W) H' M' (a.own (Tb.aU W t y))->Q .non H'):uF c vs H Q e3
theorem dn.len {c:CA}{H:Hp}{x:TD}(T:dn c.T H x) {ns:List Int}(p:ns.Perm (Tb.fP x.tb)):ns.length=x.t.length:=by
 have h:ns.Perm (x.t.map (·.1)):=by
  rw[List.perm_ext_iff_of_nodup (p.nodup_iff.mpr (Tb.jB T.at_)) T.nd];intro q;rw[T.mem p q];constructor
  .intro h;cases e:Tb.look x.t q with
   |none=>show absurd e h
   |some v=>show List.mem_map.mpr #[_,Tb.ax e,rfl]
  .intro h e;show Tb.cf e h
 rw[h.length_eq,DD]
theorem vF {p m:Int}(h:¬ Rm.cB p m):((Rm.aM p m).length:Int)=m:=by
 have:¬ m<1:=λz=>h (.inl z);unfold Rm.aM;rw[DD,KL];omega
theorem nY (p m:Int):(Rm.aM p m).Nodup:=by
 unfold Rm.aM;show List.pairwise_map.mpr (List.nodup_range.imp ?_);intro i j G e;show G ae
theorem x9 {cv:Int->Int->List Int}{t:Int}:gM cv t []=cv:=by
 funext t' q;unfold gM;rw[Qh (by simp)]
theorem rX {cv:Int->Int->List Int}{t t' q p:Int}{l:List Int}(h:¬ (t'=t/\q=p)):gM cv t (l++[p]) t' q=gM cv t l t' q:=by
 unfold gM;by_cases z:t'=t/\q∈l
 .rw[Qi z,Qi #[z.1,K9 _ z.2]]
 .rw[Qh z,Qh (λy=>by
   rcases List.mem_append.mp y.2 with w|w
   .show z #[y.1,w]
   .show h #[y.1,List.mem_singleton.mp w])]
section
variable {P:J2}{w:Kd}{K:PySem.W.Frag}{mg:Str->Option Value}{base:Heap}
theorem Ia:aC ["self","entry"] ["self","entry"] (aw qP):=L2.bD
theorem uD {f:Addr}{fd:J0}{c:CA}(F:cQ K "cells_of" "Rooms.cells_of" qP f fd) (T:sW K mg c) (TP:pY K mg c.P) (GV:Md P w K mg base aW 4 c.P "cells" (lL c.P c.S)):bh P w K mg base aW 5 f fd ["self","entry"] (iA c):=by
 let#[J,mB,sB]:=T.bl;let#[u8,m8,r8]:=T.pc;have rB:RelV (.ref J) (.ref J):=rfl;show F.ok Ia (λvs H Q E h=>?_) (λam A outer s H vs Q E hr h=>?_)
 .let#[M,a,s',W,tt,e,cs,rfl,_]:=h;rfl
 .let#[M,a,s',W,tt,e,cs,rfl,R,gd,O,G,q]:=h;have hs:sizeLine=16777216:=J5;show#[_,(ag (aS (aE (AA hr.iP) (pv 1) (cA (by rfl) mB rB) (aJ _)) (aj (aF (aA mN (cn (aa ak ai)) (cA (by rfl) m8 r8)))) aG)
   (aj (aF (pm (aL (pv 0) rfl) TP.cl GV hr ay (aa (a8 a9 (pv 1) ak (λ_ _=>rfl)) ai))))),?_]
  show#[0,tt,J,_,0,rfl,cg.of O,ja.sq (.inr sB),?_];cases e with
  |none =>
   show#[1,0,dZ ?_];show#[ar,λl1 ab=>?_];show#[l1,(8),0,rfl,af,ae,ae,by rw[KZ];omega,λl2 Y=>?_];have U:=Tb.au (X:=.lst [V.int 0]) ab;have s2:=Tb.au (X:=.lst ((replicate (8:Int).toNat [V.int 0]).flatten)) Y;have G:cs=replicate 8 0:=G;show q _ l2 (U.trans s2) (U.free Y) ?_;rw[af,G];rfl
  |some k =>
   show#[1,0,bC ?_];let#[cc,N]:=G;let#[dx,ho]:=R.ob;let#[ac,h2]:=R.pg.ob;show#[0,a.rp,c.C,dx,_,0,ho,T.cl,T.nP,oQ _ _ _,a.A.pg,ac,0,h2,cL _ _ ao ao ao ao ao,0,tt,_,(1),0,rfl,cg.of O,rfl,M,a.A,s',k,cs,cc,rfl,R.pg,N,?_,λl L=>q _ l (Tb.au L) L af];have:=(gd.vw N).1;omega
theorem IL:aC ["self","entry","cells"] ["self","entry","cells"] (aw pX):=L2.bD
theorem qM {f:Addr}{fd:J0}{c:CA}(F:cQ K "sheet_with" "Rooms.sheet_with" pX f fd) (T:sW K mg c) (TP:pY K mg c.P) (aT:Md P w K mg base aW 7 c.P "new_sheet" (gC K c.P c.S)) (ba:Md P w K mg base aW 8 c.P "change" (l9 c.P c.S)):bh P w K mg base aW 9 f fd ["self","entry","cells"] (gZ c):=by
 let#[aB,mB,sB]:=T.bl;have rB:RelV (.ref aB) (.ref aB):=rfl;show F.ok IL (λvs H Q E h=>?_) (λbb A outer s H vs Q E hr h=>?_)
 .let#[M,a,s',W,tt,U,e,r,cs,rfl,_]:=h;rfl
 .let#[M,a,s',W,tt,U,e,r,cs,rfl,R,G,ht,am,a0,N,q]:=h;have ab:¬ a.A.own U:=λz=>a0 (R.ok.own _ z);let#[dx,ho]:=R.ob;let#[ap,h2]:=R.pg.ob;show#[_,(ag (aS (aE (AA hr.iP) (pv 1) (cA (by rfl) mB rB) (aJ _)) (aj (aF (pm (aL (pv 0) rfl) TP.cl aT hr ay (aa (pv 2) ai)))) aG)
   (aj (aF (pm (aL (pv 0) rfl) TP.cl ba hr ay (aa (a8 a9 (pv 1) ak (λ_ _=>rfl)) (aa (pv 2) ai)))))),?_]
  show#[0,tt,aB,_,0,rfl,cg.of ht,ja.sq (.inr sB),?_];cases e with
  |none =>
   show#[1,0,dZ ?_];show#[0,a.rp,c.C,dx,_,0,ho,T.cl,T.nP,oQ _ _ _,a.A.pg,ap,0,h2,cL _ _ ao ao ao ao ao,0,M,a.A,s',U,cs,rfl,R.Hu G,G.room,bB.of am,λe=>ab (by rw[e];show PA.eX 0 rfl),N,λH1 s1 O J L=>?_];have B:=Pg.j9 G.good G.l0 N O;show q H1 s1 _ (R.kh J L B.kept.ln) (G.fill N O) (G.xJ N O) #[(1),B.vw] (R.FA J L) B.kept.ln
  |some k =>
   show#[1,0,bC ?_];let#[as,c0,Y]:=G.is k Kv;show#[0,a.rp,c.C,dx,_,0,ho,T.cl,T.nP,oQ _ _ _,a.A.pg,ap,0,h2,cL _ _ ao ao ao ao ao,0,tt,_,(1),0,rfl,cg.of ht,rfl,0,M,a.A,s',k,U,as,c0,cs,rfl,R.Hu G,Y,am,ab,N,λz=>G.He Y z,λz H1 s1 s2 O hl J L=>?_,λz H1 s1 m ac hm J L=>?_]
   .let#[a1,a2,a3,a4,a5,a6,a7]:=G.part Y z N O hl;show q H1 s2 _ (R.kh J L a7) a1 a2 a3 (R.FA J L) a7
   .subst z;let#[a1,a2,a3]:=G.write Y N ac hm;have FF:=Pg.ou G.good ac;show q H1 _ k (R.kh J L FF.kept.ln) a1 a2 a3 (R.FA J L) FF.kept.ln
theorem Ib:aC ["self"] ["self"] (aw tG):=L2.bD
theorem Ai {f:Addr}{fd:J0}{c:CA}(F:cQ K "held" "Rooms.held" tG f fd) (T:sW K mg c) (TT:Tb.Txt K mg c.T) (aB:Md P w K mg base aW 1 c.T "pages" (Tb.eV c.T)):bh P w K mg base aW 2 f fd ["self"] (jx c):=by
 show F.ok Ib (λvs H Q E h=>?_) (λa2 A outer s H vs Q E hr h=>?_)
 .let#[M,a,s',W,rfl,_]:=h;rfl
 .let#[M,a,s',W,rfl,R,lw,k]:=h;have hs:sizeLine=16777216:=J5;let#[dx,h1]:=R.ob;show#[_,(aj (aF (aN (lM rfl) (by rfl) T.sum vj (aa (vJ (fJ (cl:=[("self",s.heap.objs.size+1)]) (caps:=[("self",0)]) #[rfl,ao,ao,rfl,by kernel_rfl,by intro p N;simp only[Ku,Kb,or_false]at N;rcases N with rfl<;>first|rfl|show#[rfl,.inl rfl,.inl rfl]|show#[rfl,.inl rfl,.inr rfl],by kernel_rfl,by intro p N;simp only[Ku,Kb,or_false]at N;rcases N with rfl<;>first|rfl|show#[rfl,.inl rfl,.inl rfl]|show#[rfl,.inl rfl,.inr rfl],ao] rfl (qh (aL (pv 0) rfl)) (λ_ _ _ _=>eY) (λ_ _ _ _=>(aN (show di _ _ (wj K)from xA) (by rfl) T.len boot_len (aa (wc (bj (aZ hr) (show PE _ _ (Cr K _ "rooms")from aL (pv 1) rfl) (pv 0) (λ_ _=>rfl)) TT.cl aB hr ay) ai))))) ai)))),?_];have hn:∀(o:Obj) u',H a.rd≠some (.cu o u'):=λo u' z=>(by rw[R.hd]at z;cases z);show#[0,a.rp,c.C,dx,_,0,h1,T.cl,T.nR,fY _ _ _,a.rd,0,R.hd,hn,λo=>?_];have aT:a.rp≠a.rd:=λz=>(by rw[z,R.hd]at h1;cases h1);have O:Off (· = a.rd) H (upd H a.rd (.cu o (.dK (Tb.dk fR W)))):=Off.wr rfl;have Y:(upd H a.rd (.cu o (.dK (Tb.dk fR W)))) a.rd=some (.cu o (.dK (Tb.dk fR W))):=af;have a0:=O _ _ h1 aT;have as:∀x∈W,dn c.T (upd H a.rd (.cu o (.dK (Tb.dk fR W)))) x.2:=λx G=>by
   let#[a3,h3]:=(R.tb x G).at_.ob;show(R.tb x G).off O (λz=>by rw[z,R.hd]at h3;cases h3) (λb z=>(R.dm x G b z).2.2) (λb xs e z=>by rw[z,R.hd]at e;cases e)
  show tN (a:=a.rd) (o:=o) (kvs:=Tb.dk fR W) (λi ys H2=>ys=((W.take i).map λx=>(x.2.t.length:Int)).map V.int/\bf (upd H a.rd (.cu o (.dK (Tb.dk fR W)))) H2) #[rfl,λ_ _ e=>e] (λi zs H2 _ ⟨_,e⟩=>e _ _ Y) ?_ ?_
  .rintro i kk v zs H2 hk ⟨rfl,J⟩;have ab:(W.map λx:Int×TD=>((Sum.inl x.1:Key),fR x.2))[i]?=some (kk,v):=hk;rw[J3]at ab;let#[x,G,e]:=Option.map_eq_some_iff.mp ab;cases e;have hm:=J7 G;have hi:i<W.length:=(List.getElem?_eq_some_iff.mp G).1;have ap:Tb.look W x.1=some x.2:=Tb.bL R.nd hm;have hg:du H2 a.rd (.int x.1) (some (fR x.2)):=.inl #[Tb.dk fR W,Sum.inl x.1,.inr #[o,J _ _ Y],rfl,by rw[Tb.cI,ap];rfl];have TX:=as x hm;have T2:=TX.at_.same J;let#[a1,ht]:=T2.ob;show#[0,a.rp,c.C,dx,_,0,J _ _ a0,T.cl,T.nR,fY _ _ _,0,a.rd,fR x.2,rfl,hg,x.2.p,a1,0,ht,Tb.aX _ ao,x.2.p,x.2.fs,x.2.tb,rfl,T2,λH3 l ns s3 fl L pm a4=>?_];show#[l,0,.inl (bB.of L),3,J.trans s3]
   .rw[DD,DD,Kg];omega
   .rw[DD,TX.len pm,Li,G,Ke,Ke];rfl
  .rintro zs H2 ⟨rfl,J⟩ l L;have ac:=J _ _ Y;have am:l≠a.rd:=λz=>(by rw[z,ac]at L;cases L);show#[a.rd,o,Tb.dk fR W,by rw[ah (JZ am)];show ac,hn,l,(W.map λx=>(x.2.t.length:Int)),rfl,bB.of ?_,?_]
   .rw[ah am,af,Tb.cE,Lk]
   .have e9:=lR W;unfold heldW at e9;rw[e9];show k _ λb u e=>?_;by_cases z:b=a.rd
    .rw[z,af, <-e,z,R.hd]
    .have U:H2 b=some u:=J _ _ (O _ _ e z);rw[ah z,ah (λy=>by rw[y,L]at U;cases U)];show U
theorem BL:aC ["self","task","page","many","table","pages","wanted"] ["self","task","page","many"] (aw Af):=L2.bD
theorem B6 {f:Addr}{fd:J0}{c:CA}(F:cQ K "map" "Rooms.map" Af f fd) (T:sW K mg c) (TT:Tb.Txt K mg c.T) (GR:Df P w K mg base aW 1 "room_of" eE) (GM:Df P w K mg base aW 2 "pages_to_map" Rm.pz) (GA:Df P w K mg base aW 1 "refuse_above" kY) (bY:Md P w K mg base aW 1 c.T "pages" (Tb.eV c.T)) (GH:Md P w K mg base aW 2 c.C "held" (jx c)) (GL:Md P w K mg base aW 3 c.T "lay" (Tb.rQ K c.T)):bh P w K mg base aW 4 f fd ["self","task","page","many"] (uF c):=by
 let#[aB,mB,sB]:=T.bl;have rB:RelV (.ref aB) (.ref aB):=rfl;show F.ok BL (λvs H Q E h=>?_) (λb8 A outer s H vs Q E U h=>?_)
 .let#[M,a,s',W,cv,t,p,m,x,rfl,_]:=h;rfl
 .let#[M,a,s',W,cv,t,p,m,x,rfl,R,ri,a7,lw,J,ab,a4,b0,q]:=h;let#[dx,ho]:=R.ob;have TX:=R.tb _ (Tb.ax J);let#[bi,ht]:=TX.at_.ob;have b1:¬ m<1:=λz=>ab (.inl z);have b2:¬ p<0:=λz=>ab (.inr (.inl z));have b3:¬ 64<p+m:=λz=>ab (.inr (.inr z));have pl:=vF ab;show#[_,(ag (aK (i:=4) BL.nd rfl (J6 rfl) (pc GR U ay (aa (aL (pv 0) rfl) (aa (pv 1) ai))))
   (ag (aK (i:=5) BL.nd rfl (J6 rfl) (pc GM U ay (aa (wc (pv 4) TT.cl bY U ay) (aa (pv 2) (aa (pv 3) ai)))))
   (ag (aP (pc GA U ay (aa (aA bu (wc (pv 0) T.cl GH U ay) (aN bF (by rfl) T.len boot_len (aa (pv 5) ai))) (aa (aL (pv 0) rfl) ai))))
   (aj (cN Kh rfl (ff (pv 5)) (aY (i:=6) BL.nd rfl (J6 rfl)) (aj (aP (pm (pv 4) TT.cl GL U ay (aa (pv 6) (aa (cA (by rfl) mB rB) ai)))))))))),?_]
  show#[0,a.rp,c.C,dx,_,0,ho,T.cl,T.nR,fY _ _ _,0,a.rd,W,t,x,rfl,R.hd,J,?_];show#[0,x.p,bi,0,ht,Tb.aX _ ao,x.p,x.fs,x.tb,rfl,TX.at_,λH1 l1 ns s1 b9 bc pm ca=>?_];show#[0,0,l1,ns,p,m,rfl,bc,ab,λz h1 h2=>absurd (a4 z h1) ((TX.mem pm z).mp h2),λH2 O s2 a6 bn=>?_];have S2:=s1.trans s2;have R2:=R.same S2;let#[b6,bG]:=R2.ob;show#[0,a.rp,b6,0,bG,gK _ _ _ ao ao ao,M,a,s',W,rfl,R2,lw,λH3 s3=>?_];have a0:=s3 _ _ bn;have R3:=R2.same s3;let#[bz,bb]:=R3.ob;show#[0,O,0,.inl (bB.of a0),_,0,rfl,0,a.rp,c.C,bz,_,0,bb,T.cl,T.nT,FH _ _ _,_,0,3]
  .rw[DD,pl];omega
  have S3:=S2.trans s3;have b5:¬ M O:=λz=>R.mt _ z (s1.free a6);have be:¬ a.own W O:=λz=>b5 (R.dr O z);show#[0,O,rfl,#[_,bB.of a0],?_];show eh (K:=K) (a:=O) (xs:=(Rm.aM p m).map V.int) (λi σ H4=>Fl λ(v6:Option V) (M4:Addr->Prop) (y:TD)=>HA (σ=[some (.ref a.rp),some (.int t),some (.int p),some (.int m),some (.ref y.p),some (.ref O),v6]) (az c H4 M4 a s' (Tb.aU W t y)) (Pg.RI s' (ents (Tb.aU W t y))) ((ents (Tb.aU W t y)).length=(ents W).length+i) (Cv s' (Tb.aU W t y) (gM cv t ((Rm.aM p m).take i))) ((∀q,Tb.look y.t q=if q∈(Rm.aM p m).take i then some none else Tb.look x.t q)) (Step H3 M (a.own W) H4 M4 (a.own (Tb.aU W t y))))
   #[_,M,x,rfl,by rw[cJ R.nd J];show R3,by rw[cJ R.nd J];show ri,by rw[cJ R.nd J];rfl,by rw[cJ R.nd J,N9,x9];show a7,λq=>by simp,by rw[cJ R.nd J];show R3.refl] (λi σ H4 _ z0=>by let#[_,_,_,_,_,_,_,_,_,st]:=z0;show bB.of (st.off _ _ a0 be)) ?_ ?_
  .rintro i u σ H4 hu ⟨v6,M4,y,rfl,R4,a3,a2,as,ac,a1⟩;rw[J3]at hu;let#[G,hp,rfl]:=Option.map_eq_some_iff.mp hu;have a5:=J7 hp;let#[hi,b7]:=List.getElem?_eq_some_iff.mp hp;have bm:¬ G∈(Rm.aM p m).take i:=λz=>by
    let#[j,hj,e]:=Lh z;rw[Ms]at e;rw[Kg]at hj;show mE (nY p m) j i (J4 ae) hp ae e
   have aT:=ix (y:=y) J;have T4:=R4.tb _ (Tb.ax aT);let#[b4,bv]:=T4.at_.ob;have ba:Tb.look y.t G=none:=(by rw[ac,Qh bm];show a4 G a5);let#[r1,r2,_]:=Rm.xB ab G a5;show#[0,y.p,b4,0,bv,Tb.aX _ ao,0,y.p,y.fs,aB,y.tb,G,[.str "blank"],rfl,T4.at_,r1,r2,.inr sB,rfl,λH5 am T5 l5 o5 n5=>?_];have bI:dn c.T H5 #[y.p,y.fs,am,(G,none)::y.t]:=#[T5,List.nodup_cons.mpr #[Tb.cf ba,T4.nd],λj=>by
    rw[l5 j,Tb.aO];by_cases z:j=G
    .rw[Qi z,Qi z.symm];rfl
    .rw[Qh z,Qh (JZ z)];show T4.lk j]
   have R5:=R4.vH (y:=#[y.p,y.fs,am,(G,none)::y.t]) aT rfl bI o5 n5;have S5:=a1.trans (R4.qN (y:=#[y.p,y.fs,am,(G,none)::y.t]) aT o5 n5);have pe:(ents (Tb.aU W t #[y.p,y.fs,am,(G,none)::y.t])).Perm (none::ents (Tb.aU W t y)):=(hU R.nd J).trans ((hU (y:=y) R.nd J).symm.cons none);rw[set_set]at R5 S5;have bx:(ents (Tb.aU W t y)).length<(s'.ow true).length+(s'.ow false).length:=by
    rw[a2];unfold bN at b0;omega
   show#[2,#[y.p,y.fs,am,(G,none)::y.t],rfl,R5,(a3.lay bx).perm pe.symm,by rw[pe.length_eq,Kf,a2];omega,3,S5]
   .intro Y bd ap q e N;rw[Tb.bM Y J]at ap;rw[Li,hp];by_cases z:Y=t
    .rw[Qi z]at ap;cases ap;have N:Tb.look ((G,none)::y.t) q=some e:=N;rw[Tb.aO]at N;by_cases L:G=q
     .rw[Qi L]at N;cases N;change gM cv t _ Y q=_;unfold gM;rw[Qi #[z,by rw[<-L];simp]]
     .rw[Qh L]at N;rw[show(some G).toList=[G]from rfl,rX (λh=>L h.2.symm)];show as Y y (by rw[z];show aT) q e N
    .rw[Qh z]at ap;rw[show(some G).toList=[G]from rfl,rX (λh=>z h.1)];show as Y bd (by rw[Tb.bM Y J,Qh z];show ap) q e N
   .intro j;change Tb.look ((G,none)::y.t) j=_;rw[Tb.aO,ac j,Li,hp];by_cases z:G=j
    .rw[Qi z,Qi (by rw[<-z];simp)]
    .rw[Qh z];by_cases L:j∈(Rm.aM p m).take i
     .rw[Qi L,Qi (K9 _ L)]
     .rw[Qh L,Qh (by simp[JZ z,L])]
  .rintro σ H4 ⟨v6,M4,y,rfl,R4,a3,a2,as,ac,a1⟩;rw[DD,Lk]at as ac;show q H4 M4 y R4 a3 as ac ((R.ig S3).trans a1)
end
end St
namespace Rm
theorem gF {ad n:Int}{G:List Int}(h:¬ cR ad n G):(av ad n).length<=64/\∀q∈av ad n,q∈G:=by
 unfold av;by_cases e:n=0
 .rw[Qi e];show#[Kl _,λ_ h=>nomatch h]
 .rw[Qh e];have J:0<n:=by
   have:¬ n<0:=λz=>h (.inl z);omega
  have h1:¬ cB (jN ad) (iI ad n):=λz=>h (.inr #[J,.inl z]);have h2:∀q∈aM (jN ad) (iI ad n),q∈G:=L0 λz=>h (.inr #[J,.inr z]);show#[?_,h2];unfold aM;rw[DD,KL];have N:¬ jN ad<0:=λz=>h1 (.inr (.inl z));have L:¬ 64<jN ad+iI ad n:=λz=>h1 (.inr (.inr z));omega
theorem wk {ad n:Int}{J L:List Int}(h:∀q,q∈J->q∈L) (G:cR ad n L):cR ad n J:=by
 rcases G with G|⟨h1,h2⟩
 .show .inl G
 .show .inr #[h1,h2.imp id λz y=>z λq N=>h q (y q N)]
end Rm
namespace St
open PySem L2
noncomputable def bO (f:Int->List Int) (ps:List Int):List Int:=(ps.map f).flatten
theorem fg {f:Int->List Int}{ps:List Int}{i:Nat}{q:Int}(h:ps[i]?=some q):bO f (ps.take (i+1))=bO f (ps.take i)++f q:=by
 unfold bO;rw[Li,h,Ke,List.flatten_append];simp
theorem xH.len {s:Pg.PS}{e:Pg.Ent}{cs:List Int}(G:Pg.Good s) (h:Pg.xH s e cs):cs.length=8:=by
 cases e with
 |none=>rw[show cs=replicate 8 0 from h];simp
 |some k=>let#[c,h]:=h;show(G.vw h).2
inductive qc (c:CA) (vs:List V) (H:Hp) (Q:VK) (e3:XK):Prop
 |mk (M:Addr->Prop) (a:RA) (s:Pg.PS) (W:dW) (cv:Int->Int->List Int) (t ad:Int) (n:Nat) (x:TD) (_:vs=[.ref a.rp,.int t,.int ad,.int n]) (_:az c H M a s W) (_:Pg.RI s (ents W)) (_:Cv s W cv) (_:Tb.look W t=some x) (_:n<=600) (_:0<=ad) (_:ad<=1000) (_:¬ Rm.cR ad n (x.t.map (·.1))) (_:∀(H':Hp) (M':Addr->Prop) (s':Pg.PS) (l:Addr),az c H' M' a s' W->Pg.RI s' (ents W)->Cv s' W cv->Step H M (a.own W) H' M' (a.own W)->(∀b,(s'.ow b).length=(s.ow b).length)->H l=none->H' l=some (.lst ((((bO (cv t) (Rm.av ad n)).drop (ad%8).toNat).take n).map V.int))->Q (.ref l) H'):qc c vs H Q e3
section
variable {P:J2}{w:Kd}{K:PySem.W.Frag}{mg:Str->Option Value}{base:Heap}
variable {c:CA}{H H':Hp}{M M' B:Addr->Prop}{a:RA}{s s':Pg.PS}{W:dW}{t:Int}{x y:TD}
theorem nameQ {i:Nat}{v:V}{σ:L2.St}{H:Hp}{Q:L2.St->Hp->Prop}(h:Q (σ.set i (some v)) H):r6 i v σ H Q:=h
theorem az.Jy (R:az c H M a s W) {l:Addr}{xs ys:List V}(G:H l=some (.lst xs)) (L:M l) (J:¬ a.own W l):az c (upd H l (.lst ys)) M a s W :=
 R.CG (B:=(· = l)) (Off.wr rfl) (λb z=>by rw[z];show#[L,J]) (λb z=>.inl #[xs,by rw[z];show G]) (λb z=>.inl z) (λb z _=>z) (λb z e=>by
  by_cases q:b=l
  .rw[q,af]at e;cases e
  .rw[ah q]at e;show R.mt b z e)
theorem az.GQ (R:az c H M a s W) {l:Addr}{o:HO}(G:H l=none):az c (upd H l o) (λb=>M b\/b=l) a s W :=
 R.CG (B:=λ_=>False) (λb u e _=>cO G b u e id) (λb z=>z.elim) (λb z=>z.elim) (λb z=>z.elim .inl λz=>.inr (by rw[z];show G)) (λb z _=>.inl z) (λb z e=>by
  by_cases q:b=l
  .rw[q,af]at e;cases e
  .rw[ah q]at e;show z.elim (λz=>R.mt b z e) q)
theorem dn.keys (T:dn c.T H x) (q:Int):q∈x.t.map (·.1)↔Tb.look x.t q≠none:=by
 constructor
 .intro h e;show Tb.cf e h
 .intro h;cases e:Tb.look x.t q with
  |none=>show absurd e h
  |some v=>show List.mem_map.mpr #[_,Tb.ax e,rfl]
theorem zf:aC ["self","task","address","many","table","whole","page","entry"] ["self","task","address","many"] (aw vf):=L2.bD
theorem zi {f:Addr}{fd:J0}{c:CA}(F:cQ K "peek" "Rooms.peek" vf f fd) (T:sW K mg c) (TT:Tb.Txt K mg c.T) (TP:pY K mg c.P) (GR:Df P w K mg base aW 1 "room_of" eE) (GO:Df P w K mg base aW 2 "pages_of_cells" Rm.iz) (ch:Df P w K mg base aW 1 "run_within" Rm.mf) (b6:Md P w K mg base aW 1 c.T "pages" (Tb.eV c.T)) (GG:Md P w K mg base aW 3 c.T "get" (Tb.oj c.T)) (b9:Md P w K mg base aW 7 c.P "fetch" (kX c.P c.S)) (bv:Md P w K mg base aW 5 c.C "cells_of" (iA c)):bh P w K mg base aW 8 f fd ["self","task","address","many"] (qc c):=by
 let#[aB,mB,sB]:=T.bl;have rB:RelV (.ref aB) (.ref aB):=rfl;show F.ok zf (λvs H Q E h=>?_) (λcC A outer s H vs Q E O h=>?_)
 .let#[M,a,s',W,cv,t,ad,n,x,rfl,_]:=h;rfl
 .let#[M,a,s',W,cv,t,ad,n,x,rfl,R,ri,bz,hx,n6,cq,cx,hb,q]:=h;have hs:sizeLine=16777216:=J5;let#[dx,ho]:=R.ob;have TX:=R.tb _ (Tb.ax hx);let#[c1,c2]:=Rm.gF hb;show#[_,(ag (aK (i:=4) zf.nd rfl (J6 rfl) (pc GR O ay (aa (aL (pv 0) rfl) (aa (pv 1) ai))))
   (ag (aK (i:=5) zf.nd rfl (J6 rfl) (cn ai))
   (ag (cN Kh rfl (ff (pc GO O ay (aa (wc (pv 4) TT.cl b6 O ay) (aa (pv 2) (aa (pv 3) ai))))) (aY (i:=6) zf.nd rfl (J6 rfl)) (ag (aK (i:=7) zf.nd rfl (J6 rfl) (pm (pv 4) TT.cl GG O ay (aa (pv 6) ai)))
   (ag (aS (aE (uq O.iP) (pv 7) (cA (by rfl) mB rB) (aJ _)) (aj (aP (pm (aL (pv 0) rfl) TP.cl b9 O ay (aa (a8 a9 (pv 7) ak (λ_ _=>rfl)) ai)))) aG)
   (aj (aP (gR KY NG NH nN (pv 5) (aa (pm (pv 0) T.cl bv O ay (aa (pv 7) ai)) ai)))))))
   (aj (aF (pc ch O ay (aa (pv 5) (aa (pv 2) (aa (pv 3) ai))))))))),?_]
  show#[0,a.rp,c.C,dx,_,0,ho,T.cl,T.nR,fY _ _ _,0,a.rd,W,t,x,rfl,R.hd,hx,?_];show#[ar,λG ab=>?_];have R1:=R.GQ (o:=.lst []) ab;have s1:bf H (upd H G (.lst [])):=Tb.au ab;have a2:upd H G (.lst []) G=some (.lst []):=af;generalize upd H G (.lst [])=H1 at *;have a4:¬ a.own W G:=λz=>R.mt _ (R.dr _ z) ab;have bc:=R1.tb _ (Tb.ax hx);let#[ca,ht]:=bc.at_.ob;show#[0,x.p,ca,0,ht,Tb.aX _ ao,x.p,x.fs,x.tb,rfl,bc.at_,λH2 l2 ns s2 cm bI pm cp=>?_];have bi:∀{z},z∈x.t.map (·.1)->z∈ns:=λ{z} h=>(TX.mem pm z).mpr ((TX.keys z).mp h);show#[0,0,l2,ns,ad,n,rfl,bI,λh=>hb (Rm.wk (λz hz=>bi hz) h),λH3 l3 s3 b0 a7=>?_];have S3:=s2.trans s3;have R3:=R1.same S3;have bx:=S3 _ _ a2;have a0:H1 l3=none:=s2.free b0;have b5:¬ a.own W l3:=λz=>R1.mt _ (R1.dr _ z) a0;have b4:l3≠G:=λz=>(by rw[z,a2]at a0;cases a0);show#[l3,rfl,#[_,bB.of a7],?_];show eh (K:=K) (a:=l3) (xs:=(Rm.av ad n).map V.int) (λi σ H4=>Fl λ(v6 v7:Option V) (s4:Pg.PS)=>HK (σ=[some (.ref a.rp),some (.int t),some (.int ad),some (.int n),some (.ref x.p),some (.ref G),v6,v7]) (az c H4 (λb=>M b\/b=G) a s4 W) (Pg.RI s4 (ents W)) (Cv s4 W cv) (H4 G=some (.lst ((bO (cv t) ((Rm.av ad n).take i)).map V.int))) ((bO (cv t) ((Rm.av ad n).take i)).length=8*i) (Off (λb=>a.own W b\/b=G) H3 H4) (∀b,(s4.ow b).length=(s'.ow b).length))
   #[2,s',rfl,R3,ri,bz,bx,rfl,λ_ _ e _=>e,λ_=>rfl] (λi σ H4 _ z0=>by let#[_,_,_,_,_,_,_,_,_,U,_]:=z0;show bB.of (U _ _ a7 λz=>z.elim b5 b4)) ?_ ?_
  .rintro i u σ H4 hu ⟨v6,v7,s4,rfl,R4,N,as,am,bn,U,ap⟩;rw[J3]at hu;let#[p,hp,rfl]:=Option.map_eq_some_iff.mp hu;have ci:=J7 hp;let#[hi,cr]:=List.getElem?_eq_some_iff.mp hp;have T4:=R4.tb _ (Tb.ax hx);let#[b1,ce]:=T4.at_.ob;obtain⟨e,he⟩:∃e,Tb.look x.t p=some e:=by
    cases z:Tb.look x.t p with
    |none=>show absurd z ((TX.keys p).mp (c2 p ci))
    |some e=>show#[e,rfl]
   show#[0,x.p,b1,0,ce,Tb.aX _ ao,0,x.p,x.fs,x.tb,p,rfl,T4.at_,λH5 v Y hv=>?_];rw[T4.lk,he]at hv;let#[tt,rfl,ac]:=hv;have L:=R4.same Y;have a5:=Y _ _ am;show nameQ ?_;dsimp only;show share (λσ H6=>∃J:Pg.PS,HK (σ=[some (.ref a.rp),some (.int t),some (.int ad),some (.int n),some (.ref x.p),some (.ref G),some (.int p),some (.ref tt)]) (az c H6 (λb=>M b\/b=G) a J W) (Pg.RI J (ents W)) (Cv J W cv) (H6 tt=some (.tup (wU e))) (H6 G=some (.lst ((bO (cv t) ((Rm.av ad n).take i)).map V.int))) (Off (λb=>a.own W b\/b=G) H3 H6) (∀b,(J.ow b).length=(s'.ow b).length)) (λu' bb=>?A) ?B
   case A =>
    show#[0,tt,aB,_,0,rfl,cg.of ac,ja.sq (.inr sB),?_];cases e with
    |none =>
     show#[1,0,bC ?_];show bb _ _ #[s4,rfl,L,N,as,ac,a5,λb o e z=>Y _ _ (U b o e z),ap]
    |some k =>
     show#[1,0,dZ ?_];let#[b3,bY]:=L.ob;let#[aT,b2]:=L.pg.ob;let#[cs,cc,hv]:=N.is k (mZ hx he);show#[0,a.rp,c.C,b3,_,0,bY,T.cl,T.nP,oQ _ _ _,a.A.pg,aT,0,b2,cL _ _ ao ao ao ao ao,0,tt,_,(1),0,rfl,cg.of ac,5,a.A,s4,k,cs,cc,rfl,L.Hu N,hv,λH6 J fe G6 O6=>?_];have FF:=Pg.ou N.good fe;show bb _ _ #[J,rfl,L.kh G6 O6 FF.kept.ln,N.C6 fe,as.keep (Pg.vm N.good fe),O6 _ _ ac (L.pg.jL _ _ ac),O6 _ _ a5 (λz=>a4 (.inl z)),λb o e z=>O6 _ _ (Y _ _ (U b o e z)) (λy=>z (.inl (.inl y))),λb=>(FF.kept.ln b).trans (ap b)]
   case B =>
    rintro σ H6 ⟨J,rfl,R6,a1,ba,b8,a6,o6,b7⟩;let#[aT,bm]:=R6.ob;have be:=ba t x hx p e he;have c8:=xH.len a1.good be;show#[0,.inl #[5,bB.of a6],0,a.rp,aT,0,bm,gK _ _ _ ao ao ao,0,_,a,J,W,tt,e,cv t p,rfl,R6,a1.good,b8,be,λH7 l7 s7 f7 h7=>?_];have R7:=R6.same s7;have bd:=s7 _ _ a6;show#[G,l7,_,0,rfl,bd,h7,by rw[DD,DD];omega,?_];rw[<-Ke, <-fg hp];show#[2,J,rfl,R7.Jy bd (.inr rfl) a4,a1,ba,af,by rw[fg hp,J9];omega,λb o e z=>by rw[ah (λy=>z (.inr y))];show s7 _ _ (o6 b o e z),b7]
  .rintro σ H4 ⟨v6,v7,s4,rfl,R4,N,as,am,bn,U,ap⟩;rw[DD,Lk]at am;show#[0,0,0,G,_,ad,n,rfl,am,λH5 l5 Y a3 bG=>?_];have L:=R4.same Y;have oA:Off (a.own W) H H5:=λb o e z=>Y _ _ (U _ _ (S3 _ _ (s1 _ _ e)) λy=>y.elim z λy=>by rw[y,ab]at e;cases e);show q H5 _ s4 l5 L N as #[oA,λb z _=>.inl z,λb z=>z.elim .inl λz=>.inr (by rw[z];show ab),λb z=>.inl z,R.mt,R.dr] ap ?_ bG;cases z:H l5 with
   |none=>rfl
   |some o =>
    exfalso;by_cases w:a.own W l5
    .show R4.mt _ (R4.dr _ w) a3
    .have:=U _ _ (S3 _ _ (s1 _ _ z)) λy=>y.elim w λy=>(by rw[y,ab]at z;cases z);rw[a3]at this;cases this
end
end St
namespace Rm
theorem m9 {ad:Int}{cs ws:List Int}{J:List Int}(h:¬ cR ad cs.length J) (G:ws.length=8*(av ad cs.length).length):(dP ws (ad%8).toNat cs).length=8*(av ad cs.length).length:=by
 unfold dP;rw[J9,J9,Kg,Lr];by_cases e:((cs.length:Nat):Int)=0
 .have:av ad cs.length=[]:=(by unfold av;rw[Qi e]);rw[this]at G ⊢;have U:ws.length=0:=G;have L:cs.length=0:=ae;rw[U,L];simp
 .have O:(av ad cs.length).length=(iI ad cs.length).toNat:=by
   unfold av;rw[Qh e];unfold aM;rw[DD,KL]
  have N:0<((cs.length:Nat):Int):=ae;have h1:¬ cB (jN ad) (iI ad cs.length):=λz=>h (.inr #[N,.inl z]);have h2:¬ iI ad cs.length<1:=λz=>h1 (.inl z);rw[O]at G ⊢;unfold iI at *;omega +splitNatSub
theorem DA {k:Nat}{ws:List Int}(h:ws.length=8*k):∀J∈fV k ws,J.length=8:=by
 intro J G;unfold fV at G;let#[i,hi,rfl]:=List.mem_map.mp G;have:=List.mem_range.mp hi;rw[Kg,Lr,h];lia
end Rm
namespace St
open PySem L2
noncomputable def fQ (cv:Int->Int->List Int) (t:Int) (l:List (Int×List Int)):Int->Int->List Int:=λt' q=>if t'=t then(Tb.look l q).getD (cv t' q)else cv t' q
theorem tQ {cv:Int->Int->List Int}{t:Int}:fQ cv t []=cv:=by
 funext t' q;unfold fQ;by_cases z:t'=t
 .rw[Qi z];rfl
 .rw[Qh z]
theorem sO {cv:Int->Int->List Int}{t t' q:Int}{l:List (Int×List Int)}{p:Int}{r:List Int}:fQ cv t ((p,r)::l) t' q=if t'=t/\q=p then r else fQ cv t l t' q:=by
 unfold fQ;by_cases z:t'=t
 .rw[Qi z,Qi z,Tb.aO];by_cases G:p=q
  .rw[Qi G,Qi #[z,G.symm]];rfl
  .rw[Qh G,Qh (λh=>G h.2.symm)]
 .rw[Qh z,Qh z,Qh (λh=>z h.1)]
noncomputable def eO (f:Int->List Int) (ad:Int) (cs:List Int):List (List Int):=Rm.fV (Rm.av ad cs.length).length (Rm.dP (bO f (Rm.av ad cs.length)) (ad%8).toNat cs)
inductive pj (K:PySem.W.Frag) (c:CA) (vs:List V) (H:Hp) (Q:VK) (e3:XK):Prop
 |mk (M:Addr->Prop) (a:RA) (s:Pg.PS) (W:dW) (cv:Int->Int->List Int) (t ad:Int) (ca:Addr) (cs:List Int) (x:TD) (_:vs=[.ref a.rp,.int t,.int ad,.ref ca]) (_:az c H M a s W) (_:Pg.RI s (ents W)) (_:Cv s W cv) (_:Tb.look W t=some x) (_:bB K H ca (cs.map V.int)) (_:cs.length<=500) (_:0<=ad) (_:ad<=1000) (_:¬ Rm.cR ad cs.length (x.t.map (·.1))) (_:∀(H':Hp) (M':Addr->Prop) (s':Pg.PS) (y:TD),az c H' M' a s' (Tb.aU W t y)->Pg.RI s' (ents (Tb.aU W t y))->Cv s' (Tb.aU W t y) (fQ cv t (((Rm.av ad cs.length).zip (eO (cv t) ad cs)).reverse))->(∀q,¬ q∈Rm.av ad cs.length->Tb.look y.t q=Tb.look x.t q)->(∀q∈Rm.av ad cs.length,∃k,Tb.look y.t q=some (some k))->Step H M (a.own W) H' M' (a.own (Tb.aU W t y))->(∀b,(s'.ow b).length=(s.ow b).length)->Q .non H'):pj K c vs H Q e3
theorem jC (ad n:Int):(Rm.av ad n).Nodup:=by
 unfold Rm.av;by_cases e:n=0
 .rw[Qi e];show Lz
 .rw[Qh e];show nY _ _
theorem kJ {α G:Type}{F:α->G->Prop}:∀{xs:List α}{ys:List G}{i:Nat}{x:α},Paired F xs ys->xs[i]?=some x->∃y,ys[i]?=some y/\F x y
 |_,_,_,_,.nil,e=>by simp at e
 |_,_,0,_,.cons r _,e=>by simp at e;subst e;show#[0,r]
 |_,_,i+1,x,.cons _ t,e=>by
  let#[u,h1,h2]:=kJ (i:=i) (x:=x) t (by simpa using e);show#[u,by simpa using h1,h2]
section
variable {P:J2}{w:Kd}{K:PySem.W.Frag}{mg:Str->Option Value}{base:Heap}
theorem t4:aC ["self","task","address","cells","table","pages","whole","page","changed"] ["self","task","address","cells"] (aw uL):=L2.bD
theorem yS {f:Addr}{fd:J0}{c:CA}(F:cQ K "poke" "Rooms.poke" uL f fd) (T:sW K mg c) (TT:Tb.Txt K mg c.T) (GR:Df P w K mg base aW 1 "room_of" eE) (GO:Df P w K mg base aW 2 "pages_of_cells" Rm.iz) (ei:Df P w K mg base aW 1 "pages_with" (Rm.uZ K)) (dd:Md P w K mg base aW 1 c.T "pages" (Tb.eV c.T)) (GG:Md P w K mg base aW 3 c.T "get" (Tb.oj c.T)) (GL:Md P w K mg base aW 3 c.T "lay" (Tb.rQ K c.T)) (dm:Md P w K mg base aW 5 c.C "cells_of" (iA c)) (d4:Md P w K mg base aW 9 c.C "sheet_with" (gZ c)):bh P w K mg base aW 10 f fd ["self","task","address","cells"] (pj K c):=by
 show F.ok t4 (λvs H Q E h=>?_) (λeo A outer s H vs Q E O h=>?_)
 .let#[M,a,s',W,cv,t,ad,ca,cs,x,rfl,_]:=h;rfl
 .let#[M,a,s',W,cv,t,ad,ca,cs,x,rfl,R,ri,b6,U,b8,n6,ev,en,hb,q]:=h;have hs:sizeLine=16777216:=J5;let#[dx,ho]:=R.ob;have TX:=R.tb _ (Tb.ax U);let#[d5,ht]:=TX.at_.ob;let#[c1,c2]:=Rm.gF hb;show#[_,(ag (aK (i:=4) t4.nd rfl (J6 rfl) (pc GR O ay (aa (aL (pv 0) rfl) (aa (pv 1) ai))))
   (ag (aK (i:=5) t4.nd rfl (J6 rfl) (pc GO O ay (aa (wc (pv 4) TT.cl dd O ay) (aa (pv 2) (aa (aN bF (by rfl) T.len boot_len (aa (pv 3) ai)) ai)))))
   (ag (aK (i:=6) t4.nd rfl (J6 rfl) (cn ai))
   (ag (cN Kh rfl (ff (pv 5)) (aY (i:=7) t4.nd rfl (J6 rfl)) (aj (aP (gR KY NG NH nN (pv 6) (aa (pm (pv 0) T.cl dm O ay (aa (pm (pv 4) TT.cl GG O ay (aa (pv 7) ai)) ai)) ai)))))
   (aj (cN Kh rfl (Dn (by rfl) T.zip (aa (pv 5) (aa (pc ei O ay (aa (pv 6) (aa (pv 2) (aa (pv 3) ai)))) ai))) (dH rfl (bp (aY (i:=7) t4.nd rfl (J6 rfl)) (bp (aY (i:=8) t4.nd rfl (J6 rfl)) cZ))) (aj (aP (pm (pv 4) TT.cl GL O ay (aa (pv 7) (aa (dh (aa aI (aa (pm (pv 0) T.cl d4 O ay (aa (pm (pv 4) TT.cl GG O ay (aa (pv 7) ai)) (aa (pv 8) ai))) ai))) ai))))))))))),?_]
  show#[0,a.rp,c.C,dx,_,0,ho,T.cl,T.nR,fY _ _ _,0,a.rd,W,t,x,rfl,R.hd,U,?_];show#[0,x.p,d5,0,ht,Tb.aX _ ao,x.p,x.fs,x.tb,rfl,TX.at_,λH1 l1 ns s1 em d2 pm et=>?_];have bi:∀{z},z∈x.t.map (·.1)->z∈ns:=λ{z} h=>(TX.mem pm z).mpr ((TX.keys z).mp h);show#[0,0,ca,0,.inl (Rm.eB b8 (s1 _)),l1,ns,ad,cs.length,by rw[DD];rfl,d2,λh=>hb (Rm.wk (λz hz=>bi hz) h),λH2 l2 s2 dL bm=>?_];generalize eP:Rm.av ad cs.length=ps at *;have c3:ps.Nodup:=(by rw[<-eP];show jC _ _);have S2:=s1.trans s2;have R2:=R.same S2;show#[ar,λG a5=>?_];have R3:=R2.GQ (o:=.lst []) a5;have s3:bf H2 (upd H2 G (.lst [])):=Tb.au a5;have dM:upd H2 G (.lst []) G=some (.lst []):=af;generalize upd H2 G (.lst [])=H3 at *;have a7:H G=none:=S2.free a5;have ea:¬ a.own W G:=λz=>R.mt _ (R.dr _ z) a7;have ba:=s3 _ _ bm;have c9:H l2=none:=s1.free dL;have cS:¬ a.own W l2:=λz=>R.mt _ (R.dr _ z) c9;have bI:l2≠G:=λz=>(by rw[z,a5]at bm;cases bm);have cq:∀p∈ps,∃e,Tb.look x.t p=some e:=λp a2=>by
   cases z:Tb.look x.t p with
   |none=>show absurd z ((TX.keys p).mp (c2 p a2))
   |some e=>show#[e,rfl]
  show#[0,l2,rfl,#[_,bB.of ba],?_];show eh (K:=K) (a:=l2) (xs:=ps.map V.int) (λi σ H4=>∃v7:Option V,EG (σ=[some (.ref a.rp),some (.int t),some (.int ad),some (.ref ca),some (.ref x.p),some (.ref l2),some (.ref G),v7,none]) (az c H4 (λb=>M b\/b=G) a s' W) (H4 G=some (.lst ((bO (cv t) (ps.take i)).map V.int))) ((bO (cv t) (ps.take i)).length=8*i) (Off (· = G) H3 H4))
   #[0,R3,dM,rfl,λ_ _ e _=>e] (λi σ H4 _ z0=>by let#[_,_,_,_,_,o4]:=z0;show bB.of (o4 _ _ ba bI)) ?_ ?_
  .rintro i u σ H4 hu ⟨v7,rfl,R4,a0,a6,o4⟩;rw[J3]at hu;let#[p,L,rfl]:=Option.map_eq_some_iff.mp hu;have a2:=J7 L;let#[hi,cC]:=List.getElem?_eq_some_iff.mp L;have T4:=R4.tb _ (Tb.ax U);let#[ej,d8]:=T4.at_.ob;let#[c0,ef]:=R4.ob;let#[e,he]:=cq p a2;have cr:=b6 t x U p e he;have c8:=xH.len ri.good cr;show#[0,.inl #[5,bB.of a0],0,a.rp,c0,0,ef,gK _ _ _ ao ao ao,0,x.p,ej,0,d8,Tb.aX _ ao,0,x.p,x.fs,x.tb,p,rfl,T4.at_,λH5 v s5 hv=>?_];rw[T4.lk,he]at hv;let#[tt,rfl,bd]:=hv;show#[_,a,s',W,tt,e,cv t p,rfl,R4.same s5,ri.good,bd,cr,λH7 l7 s7 f7 h7=>?_];have S7:=s5.trans s7;have R7:=R4.same S7;have ci:=S7 _ _ a0;show#[G,l7,_,0,rfl,ci,h7,by rw[DD,DD];lia,?_];rw[<-Ke, <-fg L];show#[0,R7.Jy ci (.inr rfl) ea,af,by rw[fg L,J9];lia,λb o e z=>by rw[ah z];show S7 _ _ (o4 b o e z)]
  .rintro σ H4 ⟨v7,rfl,R4,a0,a6,o4⟩;rw[DD,Lk]at a0 a6;have da:bB K H4 ca (cs.map V.int):=Rm.eB b8 λo e=>o4 _ _ (s3 _ _ (S2 _ _ e)) (λz=>by rw[z,a7]at e;cases e);have dO:=o4 _ _ ba bI;have bc:=Rm.m9 hb (ws:=bO (cv t) ps) (by rw[eP];show a6);rw[eP]at bc;show#[0,0,0,0,G,ca,_,cs,ad,ps.length,rfl,a0,da,by rw[a6];lia,ae,c1,bc,λH5 l5 rs s5 dI b9 a3 d1 eq=>?_];have R5:=R4.same s5;have cc:=s5 _ _ dO;have b5:rs.length=ps.length:=by
    rw[a3.length];unfold Rm.fV;rw[DD,KL]
   have h8:=Rm.DA bc;generalize eC:Rm.fV ps.length (Rm.dP (bO (cv t) ps) (ad%8).toNat cs)=ch at a3 h8;have d3:ch.length=ps.length:=(by rw[<-a3.length,b5]);have cT:eO (cv t) ad cs=ch:=(by unfold eO;rw[eP];show eC);have eb:Step H M (a.own W) H5 (λb=>M b\/b=G) (a.own W):=#[λb o e z=>s5 _ _ (o4 _ _ (s3 _ _ (S2 _ _ e)) (λy=>by rw[y,a7]at e;cases e)),λb z _=>.inl z,λb z=>z.elim .inl λz=>.inr (by rw[z];show a7),λb z=>.inl z,R.mt,R.dr];have bG:∀r∈rs,¬ (M r\/r=G):=λr O z=>R4.mt r z (d1 r O);have ek:∀{l},H4 l=none->¬ a.own W l:=λh z=>R4.mt _ (R4.dr _ z) h;show#[l2,l5,rfl,#[_,bB.of cc],#[_,bB.of b9],?_];show BH (K:=K) (a:=l2) (b:=l5) (xs:=ps.map V.int) (ys:=rs.map V.ref) (λi σ H6=>AJ λ(v7 v8:Option V) (M6:Addr->Prop) (s6:Pg.PS) (y:TD)=>HK (σ=[some (.ref a.rp),some (.int t),some (.int ad),some (.ref ca),some (.ref y.p),some (.ref l2),some (.ref G),v7,v8]) (az c H6 M6 a s6 (Tb.aU W t y)) (Pg.RI s6 (ents (Tb.aU W t y))) (Cv s6 (Tb.aU W t y) (fQ cv t (((ps.zip ch).take i).reverse))) ((∀q,¬ q∈ps.take i->Tb.look y.t q=Tb.look x.t q)) ((∀q∈ps.take i,∃k,Tb.look y.t q=some (some k))) (Step H5 (λb=>M b\/b=G) (a.own W) H6 M6 (a.own (Tb.aU W t y))) (∀b,(s6.ow b).length=(s'.ow b).length))
    #[2,_,s',x,rfl,by rw[cJ R.nd U];show R5,by rw[cJ R.nd U];show ri,by rw[cJ R.nd U,N9];change Cv s' W (fQ cv t []);rw[tQ];show b6,λ_ _=>rfl,λq hq=>by simp at hq,by rw[cJ R.nd U];show R5.refl,λ_=>rfl] (by rw[DD,DD,b5]) (λi σ H6 _ z0=>by
     let#[_,_,_,_,_,_,_,_,_,_,_,st,_]:=z0;show#[bB.of (st.off _ _ cc cS),bB.of (st.off _ _ b9 (ek dI))]) ?_ ?_
   .rintro i u v σ H6 z hu hv hz ⟨v7,v8,M6,s6,y,rfl,R6,be,ap,aT,a4,aB,bb⟩;rw[J3]at hu hv;let#[p,L,rfl]:=Option.map_eq_some_iff.mp hu;let#[r,b7,rfl]:=Option.map_eq_some_iff.mp hv;have bv:r∈rs:=J7 b7;have a2:=J7 L;let#[hi,cC]:=List.getElem?_eq_some_iff.mp L;let#[ab,ce,cp]:=kJ a3 b7;have c7:=h8 ab (J7 ce);have c5:¬ p∈ps.take i:=λz=>by
     let#[j,J,e]:=Lh z;rw[Ms]at e;rw[Kg]at J;show mE c3 j i (J4 ae) L ae e
    have el:=aB.off _ _ cp (λw=>bG r bv (R5.dr _ w));have dp:¬ M6 r:=λw=>(aB.mn r w).elim (bG r bv) λw=>(by rw[cp]at w;cases w);have sT:=Tb.au (X:=.tup [.int p,.ref r]) hz;show#[z,[.int p,.ref r],rfl,cg.of af,rfl,.int p,[.ref r],rfl,.ref r,[],1,?_];have R7:=R6.same sT;have S7:=aB.trans (R6.ig sT);have dl:=sT _ _ el;generalize upd H6 z (.tup [.int p,.ref r])=H7 at *;have am:=ix (y:=y) U;have T7:=R7.tb _ (Tb.ax am);let#[cm,bz]:=T7.at_.ob;let#[cP,df]:=R7.ob;let#[e,b3]:=cq p a2;have he:Tb.look y.t p=some e:=(aT p c5).trans b3;show#[0,y.p,cm,0,bz,Tb.aX _ ao,0,0,a.rp,cP,0,df,gK _ _ _ ao ao ao,0,y.p,cm,0,bz,Tb.aX _ ao,0,y.p,y.fs,y.tb,p,rfl,T7.at_,λH8 v s8 hv=>?_];rw[T7.lk,he]at hv;let#[tt,rfl,bd]:=hv;have R8:=R7.same s8;have S8:=S7.trans (R7.ig s8);have pe:(ents (Tb.aU W t y)).Perm (e::(tu (Tb.bg y.t p)++ents (Tb.bg (Tb.aU W t y) t))):=(j5 R7.nd am).trans ((sP T7.nd he).append_right _);show#[0,M6,a,s6,Tb.aU W t y,tt,r,e,_,ab,rfl,R8,be.perm pe,bd,s8 _ _ dl,dp,c7,λH9 s9 k R9 dV bx c4 dz db=>?_];show#[by change 2<=sizeLine;decide,λu fu=>?_];have sU:=Tb.au (X:=.tup [.str "sheet",.int k]) fu;have bn:=R9.same sU;have d7:=(S8.trans dz).trans (R9.ig sU);have ee:upd H9 u (.tup [.str "sheet",.int k]) u=some (.tup [.str "sheet",.int k]):=af;have ec:=bn.tb _ (Tb.ax am);let#[g1,g2]:=TX.pg (q:=p) (by rw[b3];simp);show#[y.p,y.fs,u,y.tb,p,[.str "sheet",.int k],rfl,ec.at_,g1,g2,.inl ee,rfl,λd9 a1 d6 dj b0 b4=>?_];have TI:dn c.T d9 #[y.p,y.fs,a1,(p,some k)::Tb.bg y.t p]:=#[d6,Tb.Dm T7.nd,λj=>by
     rw[dj j,Tb.jh];by_cases w:j=p
     .rw[Qi w,Qi w];rfl
     .rw[Qh w,Qh w];show T7.lk j]
    have cx:=bn.vH (y:=#[y.p,y.fs,a1,(p,some k)::Tb.bg y.t p]) am rfl TI b0 b4;have b2:=d7.trans (bn.qN (y:=#[y.p,y.fs,a1,(p,some k)::Tb.bg y.t p]) am b0 b4);have b1:=z9 (y:=#[y.p,y.fs,a1,(p,some k)::Tb.bg y.t p]) (e:=some k) (q:=p) R7.nd am rfl;rw[set_set]at cx b2 b1;have dT:(ps.zip ch)[i]?=some (p,ab):=by
     rw[List.getElem?_zip_eq_some];show#[L,ce]
    show#[2,_,s9,#[y.p,y.fs,a1,(p,some k)::Tb.bg y.t p],rfl,cx,dV.perm b1.symm,3,?_,b2,λb=>(db b).trans (bb b)]
    .intro ac bl as q N Y;rw[Li,dT,show(some (p,ab)).toList=[(p,ab)]from rfl,Mt,show([(p,ab)]:List (Int×List Int)).reverse=[(p,ab)]from rfl,List.singleton_append,sO];rw[Tb.bM ac U]at as;have bY:∀{N},N∈tu (Tb.bg y.t p)\/N∈ents (Tb.bg (Tb.aU W t y) t)->N∈tu (Tb.bg y.t p)++ents (Tb.bg (Tb.aU W t y) t):=λh=>List.mem_append.mpr h;by_cases w:ac=t
     .rw[Qi w]at as;cases as;have Y:Tb.look ((p,some k)::Tb.bg y.t p) q=some N:=Y;rw[Tb.jh]at Y;by_cases w2:q=p
      .rw[Qi w2]at Y;cases Y;rw[Qi #[w,w2]];show c4
      .rw[Qh w2]at Y;rw[Qh (λh=>w2 h.2)];show bx N (bY (.inl ?_)) _ (ap ac y (by rw[w];show am) q N Y);show List.mem_map.mpr #[(q,N),Tb.mY (Tb.ax Y) w2,rfl]
     .rw[Qh w]at as;rw[Qh (λh=>w h.1)];have h2:Tb.look (Tb.aU W t y) ac=some bl:=(by rw[Tb.bM ac U,Qh w];show as);show bx N (bY (.inr ?_)) _ (ap ac bl h2 q N Y);show List.mem_flatMap.mpr #[(ac,bl),Tb.mY (Tb.ax h2) w,List.mem_map.mpr #[(q,N),Tb.ax Y,rfl]]
    .intro j J;rw[Li,L]at J;have w:j≠p:=λw=>J (by rw[w];simp);change Tb.look ((p,some k)::Tb.bg y.t p) j=_;rw[Tb.jh,Qh w];show aT j λh=>J (K9 _ h)
    .intro j J;change ∃k',Tb.look ((p,some k)::Tb.bg y.t p) j=some (some k');rw[Tb.jh];by_cases w:j=p
     .rw[Qi w];show#[k,rfl]
     .rw[Qh w];rw[Li,L]at J;rcases List.mem_append.mp J with J|J
      .show a4 j J
      .show absurd (by simpa using J) w
   .rintro σ H6 ⟨v7,v8,M6,s6,y,rfl,R6,be,ap,aT,a4,aB,bb⟩;rw[DD,Lk]at aT a4;rw[DD,KP (by rw[List.length_zip,d3];lia), <-cT]at ap;show q H6 M6 s6 y R6 be ap aT a4 (eb.trans aB) bb
end
noncomputable def mV (cv:Int->Int->List Int) (t o:Int):Int->Int->List Int:=λt' q=>if t'=o then cv t q else cv t' q
inductive qq (c:CA) (vs:List V) (H:Hp) (Q:VK) (e3:XK):Prop
 |mk (M:Addr->Prop) (a:RA) (s:Pg.PS) (W:dW) (cv:Int->Int->List Int) (t o:Int) (x:TD) (_:vs=[.ref a.rp,.int t,.int o]) (_:az c H M a s W) (_:Pg.RI s (ents W)) (_:Cv s W cv) (_:W.length<=1000) (_:Tb.look W t=some x) (_:Tb.look W o=none) (_:(ents W).length+x.t.length<=bN s) (_:∀(H':Hp) (M':Addr->Prop) (s':Pg.PS) (y:TD),(∀q,Tb.look y.t q=Tb.look x.t q)->az c H' M' a s' (W++[(o,y)])->Pg.RI s' (ents (W++[(o,y)]))->Cv s' (W++[(o,y)]) (mV cv t o)->Step H M (a.own W) H' M' (a.own (W++[(o,y)]))->(∀b,(s'.ow b).length=(s.ow b).length)->Q .non H'):qq c vs H Q e3
theorem rq (W:dW) (o:Int) (y:TD):ents (W++[(o,y)])=ents W++tu y.t:=by
 unfold ents;rw[List.flatMap_append];simp
section
variable {P:J2}{w:Kd}{K:PySem.W.Frag}{mg:Str->Option Value}{base:Heap}
theorem xS:aC ["self","task","other","table","pages","copied","page","entry"] ["self","task","other"] (aw uc):=L2.bD
theorem zz {f fI:Addr}{fd dI:J0}{c:CA}(F:cQ K "copy" "Rooms.copy" uc f fd) (T:sW K mg c) (TT:Tb.Txt K mg c.T) (TP:pY K mg c.P) (MK:Mk K c.T fI) (b9:mg "Table" = some (.ref c.T)) (GR:Df P w K mg base aW 1 "room_of" eE) (GS:Df P w K mg base aW 1 "refuse_second_room" jw) (GA:Df P w K mg base aW 1 "refuse_above" kY) (GI:bh P w K mg base aW 1 fI dI ["self"] (Tb.gX c.T)) (bI:Binds K dI ["self"] []) (cx:Md P w K mg base aW 1 c.T "pages" (Tb.eV c.T)) (GH:Md P w K mg base aW 2 c.C "held" (jx c)) (GG:Md P w K mg base aW 3 c.T "get" (Tb.oj c.T)) (GL:Md P w K mg base aW 3 c.T "lay" (Tb.rQ K c.T)) (cm:Md P w K mg base aW 4 c.P "share" (oZ c.P c.S)):bh P w K mg base aW 5 f fd ["self","task","other"] (qq c):=by
 let#[aB,mB,sB]:=T.bl;have rB:RelV (.ref aB) (.ref aB):=rfl;show F.ok xS (λvs H Q E h=>?_) (λdz A outer s H vs Q E L h=>?_)
 .let#[M,a,s',W,cv,t,o,x,rfl,_]:=h;rfl
 .let#[M,a,s',W,cv,t,o,x,rfl,R,ri,cP,lw,hx,a5,da,q]:=h;have hs:sizeLine=16777216:=J5;let#[dx,ho]:=R.ob;have TX:=R.tb _ (Tb.ax hx);let#[c3,ht]:=TX.at_.ob;show#[_,(ag (aK (i:=3) xS.nd rfl (J6 rfl) (pc GR L ay (aa (aL (pv 0) rfl) (aa (pv 1) ai))))
   (ag (aP (pc GS L ay (aa (aL (pv 0) rfl) (aa (pv 2) ai))))
   (ag (aK (i:=4) xS.nd rfl (J6 rfl) (wc (pv 3) TT.cl cx L ay))
   (ag (aP (pc GA L ay (aa (aA bu (wc (pv 0) T.cl GH L ay) (aN bF (by rfl) T.len boot_len (aa (pv 4) ai))) (aa (aL (pv 0) rfl) ai))))
   (ag (aK (i:=5) xS.nd rfl (J6 rfl) (sk MK GI (L.mono ar) (by rfl) b9 bI .nil ay))
   (ag (cN Kh rfl (ff (pv 4)) (aY (i:=6) xS.nd rfl (J6 rfl)) (ag (aK (i:=7) xS.nd rfl (J6 rfl) (pm (pv 3) TT.cl GG L ay (aa (pv 6) ai)))
   (ag (aP (pm (pv 5) TT.cl GL L ay (aa (pv 6) (aa (pv 7) ai))))
   (aj (aS (aE (uq L.iP) (pv 7) (cA (by rfl) mB rB) (aJ _)) (aj (aP (pm (aL (pv 0) rfl) TP.cl cm L ay (aa (a8 a9 (pv 7) ak (λ_ _=>rfl)) ai)))) aG)))))
   (aj (jK (aZ L) (aL (pv 0) rfl) (pv 2) (pv 5) rfl)))))))),?_]
  show#[0,a.rp,c.C,dx,_,0,ho,T.cl,T.nR,fY _ _ _,0,a.rd,W,t,x,rfl,R.hd,hx,?_];show#[0,a.rp,c.C,dx,_,0,ho,T.cl,T.nR,fY _ _ _,0,a.rd,W,o,rfl,R.hd,a5,?_];show#[0,x.p,c3,0,ht,Tb.aX _ ao,x.p,x.fs,x.tb,rfl,TX.at_,λH1 U ns s1 b6 c1 pm dM=>?_];have R1:=R.same s1;have ca:ns.length=x.t.length:=TX.len pm;let#[cr,b7]:=R1.ob;show#[0,a.rp,cr,0,b7,gK _ _ _ ao ao ao,M,a,s',W,rfl,R1,lw,λH2 s2=>?_];have R2:=R1.same s2;have bd:=s2 _ _ c1;let#[dl,c8]:=R2.ob;show#[0,U,0,.inl (bB.of bd),_,0,rfl,0,a.rp,c.C,dl,_,0,c8,T.cl,T.nT,FH _ _ _,_,0,by rw[DD,ca];omega,?_];have S2:=s1.trans s2;show λp dj np b4 dL=>#[p,dj,rfl,af,λfs H3 b2 T3 off=>#[4]];have s3:bf H2 H3:=λb u e=>off b u (by rw[ah (aq e np),ah (aq e b4)];show e) (aq e np);have a6:H2 fs=none:=by
   cases e:H2 fs with
   |none=>rfl
   |some u=>rw[ah (aq e np),ah (aq e b4),e]at b2;cases b2
  have bb:H fs=none:=S2.free a6;have c4:H p=none:=S2.free np;have R3:=R2.CG (H':=H3) (B:=λ_=>False) (M':=λb=>M b\/b=fs) (λb o e _=>s3 b o e) (λb z=>z.elim) (λb z=>z.elim) (λb z=>z.elim .inl λz=>.inr (by rw[z];show a6)) (λb z _=>.inl z) (λb z e=>z.elim (λz=>(R2.same s3).mt b z e) λz=>by rw[z,T3.hf]at e;cases e);have bi:=s3 _ _ bd;have c2:¬ a.own W U:=λz=>R.mt _ (R.dr _ z) b6;have cT:Step H M (a.own W) H3 (λb=>M b\/b=fs) (a.own W):=#[λb o e _=>s3 _ _ (S2 _ _ e),λb z _=>.inl z,λb z=>z.elim .inl λz=>.inr (by rw[z];show bb),λb z=>.inl z,R.mt,R.dr];have dd:∀b,(TD.mk p fs [] []).eK b->b=fs:=λb z=>by
   rcases z with z|⟨_,hx,_⟩
   .show z
   .cases hx
  have df:ns.Nodup:=pm.nodup_iff.mpr (Tb.jB TX.at_);show#[0,U,rfl,#[_,bB.of bi],?_];show eh (K:=K) (a:=U) (xs:=ns.map V.int) (λi σ H4=>AJ λ(v6 v7:Option V) (M4:Addr->Prop) (s4:Pg.PS) (y:TD)=>GZ (σ=[some (.ref a.rp),some (.int t),some (.int o),some (.ref x.p),some (.ref U),some (.ref y.p),v6,v7]) (az c H4 M4 a s4 W) (dn c.T H4 y) ((∀b,y.eK b->M4 b/\¬ a.own W b/\H b=none/\b≠U)) (¬ a.A.own y.p) ((∀q,Tb.look y.t q=if q∈ns.take i then Tb.look x.t q else none)) (Pg.RI s4 (tu y.t++ents W)) (y.t.length=i) (Cv s4 W cv) ((∀q e,Tb.look y.t q=some e->Pg.xH s4 e (cv t q))) (Step H M (a.own W) H4 M4 (a.own W)) (H4 U=some (.lst (ns.map V.int))) (∀b,(s4.ow b).length=(s'.ow b).length))
   #[2,_,s',#[p,fs,[],[]],rfl,R3,#[T3,Lz,λq=>rfl],λb z=>?_,λz=>R.mt _ (R.ok.own _ z) c4,λq=>by simp[Tb.ie],ri,rfl,cP,λq e h=>(by cases h),cT,bi,λ_=>rfl] (λi σ H4 _ z0=>by let#[_,_,_,_,_,_,_,_,_,_,_,_,_,_,_,_,h,_]:=z0;show bB.of h) ?_ ?_
  .rw[dd b z];show#[.inr rfl,λw=>R.mt _ (R.dr _ w) bb,bb,λw=>by rw[w,bd]at a6;cases a6]
  .rintro i u σ H4 hu ⟨v6,v7,M4,s4,y,rfl,O,T4,N,aT,a0,ac,a4,as,a3,am,a7,ap⟩;rw[J3]at hu;let#[G,hp,rfl]:=Option.map_eq_some_iff.mp hu;have dm:=J7 hp;let#[hi,dp]:=List.getElem?_eq_some_iff.mp hp;have ci:¬ G∈ns.take i:=λz=>by
    let#[j,hj,e]:=Lh z;rw[Ms]at e;rw[Kg]at hj;show mE df j i (J4 ae) hp ae e
   obtain⟨e,he⟩:∃e,Tb.look x.t G=some e:=by
    cases z:Tb.look x.t G with
    |none=>show absurd z ((TX.mem pm G).mp dm)
    |some e=>show#[e,rfl]
   have c0:Tb.look y.t G=none:=(by rw[a0,Qh ci]);have X4:=O.tb _ (Tb.ax hx);let#[db,c5]:=X4.at_.ob;show#[0,x.p,db,0,c5,Tb.aX _ ao,0,x.p,x.fs,x.tb,G,rfl,X4.at_,λH5 v s5 Y=>?_];rw[X4.lk,he]at Y;let#[tt,rfl,ba]:=Y;have R5:=O.same s5;have T5:dn c.T H5 y:=#[T4.at_.same s5,T4.nd,T4.lk];let#[ce,c9]:=T5.at_.ob;let#[g1,g2]:=TX.pg (q:=G) (by rw[he];simp);have b8:Tb.lT (wU e)=true:=(by cases e<;>rfl);show#[0,y.p,ce,0,c9,Tb.aX _ ao,0,0,y.p,y.fs,tt,y.tb,G,wU e,rfl,T5.at_,g1,g2,.inl ba,b8,λH6 ab T6 l6 o6 n6=>?_];have cC:¬ y.eK tt:=λz=>by
    let#[_,h]:=T5.at_.dK z;rw[ba]at h;cases h
   have bn:=o6 _ _ ba cC;have bc:dn c.T H6 #[y.p,y.fs,ab,(G,e)::y.t]:=#[T6,List.nodup_cons.mpr #[Tb.cf c0,T4.nd],λj=>by
    rw[l6 j,Tb.aO];by_cases z:j=G
    .rw[Qi z,Qi z.symm];rfl
    .rw[Qh z,Qh (JZ z)];show T4.lk j]
   have bY:∀{b},H5 b=none->¬ a.own W b/\H b=none:=λ{b} h=>by
    have no:¬ a.own W b:=λz=>R5.mt _ (R5.dr _ z) h;show#[no,((am.trans (O.ig s5)).gone h).resolve_left no]
   have R6:=R5.CG (H':=H6) (B:=y.eK) (M':=λb=>(M4 b/\¬ y.eK b)\/(TD.mk y.p y.fs ab ((G,e)::y.t)).eK b) o6 (λb z=>#[(N b z).1,(N b z).2.1]) (λb z=>.inr (T5.at_.dK z)) (λb z=>z.elim (λz=>.inl z.1) λz=>(n6 b z).elim (λz=>.inl (N b z).1) .inr) (λb z w=>.inl #[z,w]) (λb z w=>by
    rcases z with z|z
    .cases e2:H5 b with
     |none=>show R5.mt b z.1 e2
     |some u=>rw[o6 b u e2 z.2]at w;cases w
    .let#[_,h]:=bc.at_.dK z;rw[w]at h;cases h)
   have a2:∀b,(TD.mk y.p y.fs ab ((G,e)::y.t)).eK b->((M4 b/\¬ y.eK b)\/(TD.mk y.p y.fs ab ((G,e)::y.t)).eK b)/\¬ a.own W b/\H b=none/\b≠U:=λb z=>by
    rcases n6 b z with w|w
    .show#[.inr z,(N b w).2]
    .show#[.inr z,(bY w).1,(bY w).2,λy=>by rw[y,s5 _ _ a7]at w;cases w]
   have be:=am.trans (O.ig s5);have bm:Step H M (a.own W) H6 (λb=>(M4 b/\¬ y.eK b)\/(TD.mk y.p y.fs ab ((G,e)::y.t)).eK b) (a.own W):=#[λb o e z=>o6 _ _ (be.off b o e z) (λw=>by rw[(N b w).2.2.1]at e;cases e),λb z w=>.inl #[be.mm b z w,λy=>R.mt b z (N b y).2.2.1],λb z=>z.elim (λz=>be.mn b z.1) λz=>.inr (a2 b z).2.2.1,λb z=>.inl z,R.mt,R.dr];have bG:=o6 _ _ (s5 _ _ a7) λz=>(N _ z).2.2.2 rfl;have bv:∀j,Tb.look ((G,e)::y.t) j=if j∈ns.take (i+1)then Tb.look x.t j else none:=λj=>by
    rw[Tb.aO,a0 j,Li,hp];by_cases z:G=j
    .rw[Qi z, <-z,Qi (by simp),he]
    .rw[Qh z];by_cases z2:j∈ns.take i
     .rw[Qi z2,Qi (K9 _ z2)]
     .rw[Qh z2,Qh (by simp[JZ z,z2])]
   have b1:(tu y.t++ents W).length<(s4.ow true).length+(s4.ow false).length:=by
    have e1:(tu y.t).length=i:=(by unfold tu;rw[DD];show a4);rw[J9,e1,ap,ap];unfold bN at da;omega
   have b3:=as t x hx G e he;show#[0,tt,aB,_,0,rfl,cg.of bn,ja.sq (.inr sB),?_];cases e with
   |none =>
    show#[1,0,bC ?_];show#[2,_,s4,#[y.p,y.fs,ab,(G,none)::y.t],rfl,R6,bc,a2,aT,bv,ac.lay b1,by rw[Kf,a4],as,λj J h'=>?_,bm,bG,ap];have h':Tb.look ((G,none)::y.t) j=some J:=h';rw[Tb.aO]at h';by_cases z:G=j
    .rw[Qi z]at h';cases h';rw[<-z];show b3
    .rw[Qh z]at h';show a3 j J h'
   |some k =>
    show#[1,0,dZ ?_];let#[cp,cq]:=R6.ob;let#[b5,cS]:=R6.pg.ob;let#[cs,cc,Y]:=ac.is k (Kn _ (mZ hx he));let#[b0,n0,hk,_,_]:=id Y;show#[0,a.rp,c.C,cp,_,0,cq,T.cl,T.nP,oQ _ _ _,a.A.pg,b5,0,cS,cL _ _ ao ao ao ao ao,0,tt,_,(1),0,rfl,cg.of bn,5,a.A,s4,k,b0,n0,cs,cc,rfl,R6.Hu ac,hk,Y,λH7 G7 O7=>?_];have sm:=λJ=>Pg.uE (es:=[J]) ac.good hk Y J (List.mem_singleton.mpr rfl);have bx:∀b,((Pg.cz s4 b0 n0 (cc+1)).ow b).length=(s4.ow b).length:=λb=>Pg.dy b;show#[2,2,#[y.p,y.fs,ab,(G,some k)::y.t],rfl,R6.kh G7 O7 bx,bc.off O7 aT (λb z w=>(a2 b z).2.1 (.inl w)) R6.pg.jL,a2,aT,bv,ac.share hk Y b1,by rw[Kf,a4],as.keep λJ _=>sm J,λj J h'=>?_,bm.trans (R6.FA G7 O7),O7 _ _ bG (λz=>c2 (.inl z)),λb=>(bx b).trans (ap b)];have h':Tb.look ((G,some k)::y.t) j=some J:=h';rw[Tb.aO]at h';by_cases z:G=j
    .rw[Qi z]at h';cases h';rw[<-z];show sm _ _ b3
    .rw[Qh z]at h';show sm _ _ (a3 j J h')
  .rintro σ H4 ⟨v6,v7,M4,s4,y,rfl,O,T4,N,aT,a0,ac,a4,as,a3,am,a7,ap⟩;rw[DD,Lk]at a0;have hy:∀j,Tb.look y.t j=Tb.look x.t j:=λj=>by
    rw[a0 j];by_cases z:j∈ns
    .rw[Qi z]
    .rw[Qh z];cases w:Tb.look x.t j with
     |none=>rfl
     |some e=>show absurd ((TX.mem pm j).mpr (by rw[w];simp)) z
   let#[ch,c7]:=O.ob;show#[0,0,a.rp,c.C,ch,_,0,c7,T.cl,T.nR,fY _ _ _,0,a.rd,0,gf.k (k:=Sum.inl o) O.hd (by rw[Tb.cE];omega),?_];rw[show(V.ref y.p)=fR y from rfl,Tb.cF a5];have R5:=O.Ap a5 T4 (λb z=>#[(N b z).1,(N b z).2.1]) aT;show q _ M4 s4 y hy R5 (by rw[rq];show ac.perm LY) ?_ #[?_,am.mm,am.mn,λb z=>?_,R.mt,R.dr] ap
   .intro t' x' h' j J bz;rw[Tb.bE t' a5]at h';unfold mV;by_cases z:t'=o
    .rw[Qi z]at h' ⊢;cases h';show a3 j J bz
    .rw[Qh z]at h' ⊢;show as t' x' h' j J bz
   .intro b u e z;rw[ah (λw=>z (.inr (.inl w)))];show am.off b u e z
   .rcases z with z|z|⟨x',a1,z⟩
    .show .inl (.inl z)
    .show .inl (.inr (.inl z))
    .rcases List.mem_append.mp a1 with a1|a1
     .show .inl (.inr (.inr #[x',a1,z]))
     .rw[List.mem_singleton.mp a1]at z;show .inr (N b z).2.2.1
end
noncomputable abbrev vi:Ky:=inClass (top 14) 0
noncomputable abbrev um:Ky:=inClass (top 33) 0
noncomputable def s0 (nf ns:Nat):Pg.PS:=#[λb=>replicate (if b=true then nf else ns) 0,λb=>replicate (if b=true then nf else ns) none,λ_=>none,(0),[]]
theorem Gi {nf ns:Nat}(h:0<nf):Pg.RI (s0 nf ns) []:=by
 have J:∀(b:Bool) (n:Nat) (c:Int),((s0 nf ns).ow b)[n]?=some c->c=0:=λb n c e=>by
  have e:(replicate (if b=true then nf else ns) (0:Int))[n]?=some c:=e;show(List.mem_replicate.mp (J7 e)).2
 have G:∀n:Nat,(replicate n (0:Int)).sum=0:=λn=>by
  induction n with
  |zero=>rfl
  |succ n L=>rw[LA,LQ,L];rfl
 show#[#[(λk p e=>by cases e),(λk b n e=>by cases e),(λk j p e=>by cases e),λb n c e=>.inl (J b n c e),λb=>?_,Lz,λk=>#[(λz=>by cases z),(λ⟨n,e⟩=>by cases e)]],Int.le_refl _,λe=>?_,(λk z=>by cases z),λk cs c z=>?_,?_,Kl _]
 .change(replicate _ _).length=(replicate _ _).length;rw[KN,KN]
 .have:(replicate nf (0:Int)).length=0:=(by rw[show replicate nf (0:Int)=[]from e];rfl);rw[KN]at this;omega
 .let#[b,n,e,_]:=z;cases e
 .change(replicate nf (0:Int)).sum+(replicate ns (0:Int)).sum=0;rw[G,G];rfl
noncomputable def PA.nine (A:PA):List Addr:=[A.pg,A.fp,A.fo,A.fc,A.sp,A.so,A.sc,A.pd,A.il]
inductive pW (C CS:Addr) (vs:List V) (H:Hp) (Q:VK) (e3:XK):Prop
 |mk (p dx:Addr) (nf ns:Nat) (_:vs=[.ref p,.int nf,.int ns]) (_:nf<=60) (_:ns<=60) (_:H p=some (.ins C dx [])) (_:∀(H':Hp) (A:PA),A.pg=p->A.nine.Nodup->(∀b∈A.nine,b=p\/H b=none)->(∀M,bK C CS H' M A (s0 nf ns))->Off (· = p) H H'->Q .non H'):pW C CS vs H Q e3
inductive qx (c:CA) (vs:List V) (H:Hp) (Q:VK) (e3:XK):Prop
 |mk (p dx:Addr) (nf ns:Nat) (_:vs=[.ref p,.int nf,.int ns]) (_:nf<=60) (_:ns<=60) (_:0<nf) (_:H p=some (.ins c.C dx [])) (_:∀(H':Hp) (M:Addr->Prop) (a:RA),a.rp=p->az c H' M a (s0 nf ns) []->(∀b,M b->H b=none)->Off (· = p) H H'->Q .non H'):qx c vs H Q e3
theorem cy {H:Hp}{a b:Addr}{o:HO}(h:upd H a o b=none):b≠a/\H b=none:=by
 by_cases z:b=a
 .rw[z,af]at h;cases h
 .rw[ah z]at h;show#[z,h]
theorem ip {C p ow co:Addr}{B:Addr->Prop}{os:List Int}{pg:List (Option (List Int))}{H H':Hp}(S:∀M,aR C H M p ow co os pg) (o:Off B H H') (J:¬ B p) (G:¬ B ow) (L:¬ B co):∀M,aR C H' M p ow co os pg:=λM =>
 ((S λb=>M b\/B b).off o (λb z=>.inr z) J G L).less λb z=>.inl z
theorem hX {C CS p dx q ow co:Addr}{fs:List (Str×V)}{os:List Int}{pg:List (Option (List Int))}{H:Hp}(G:H p=some (.ins C dx fs)) (S:∀M,aR CS H M q ow co os pg):∀b,b=p\/b=q\/b=ow\/b=co->H b≠none:=by
 intro b z e;have S:=S λ_=>False;let#[L,h2]:=S.ob;let#[_,J,_]:=S.hc;rcases z with z|z|z|z<;>rw[z]at e
 .rw[G]at e;cases e
 .rw[h2]at e;cases e
 .rw[S.hw]at e;cases e
 .rw[J]at e;cases e
theorem my {C CS:Addr}{H:Hp}{M:Addr->Prop}{A:PA}{s:Pg.PS}(G:bK C CS H M A s):∀b∈A.nine,H b≠none:=by
 intro b z e;unfold PA.nine at z;simp only[Ku,Kb,or_false]at z;let#[dx,h1]:=G.ob;let#[_,O]:=G.fr.ob;let#[_,J]:=G.sl.ob;let#[_,U,_]:=G.fr.hc;let#[_,N,_]:=G.sl.hc;let#[l,L,_]:=G.pd;rcases z with z|z|z|z|z|z|z|z|z<;>rw[z]at e
 .rw[h1]at e;cases e
 .rw[O]at e;cases e
 .rw[G.fr.hw]at e;cases e
 .rw[U]at e;cases e
 .rw[J]at e;cases e
 .rw[G.sl.hw]at e;cases e
 .rw[N]at e;cases e
 .rw[L]at e;cases e
 .rw[G.il]at e;cases e
section
variable {P:J2}{w:Kd}{K:PySem.W.Frag}{mg:Str->Option Value}{base:Heap}
theorem Jh:aC ["self","frames","slots"] ["self","frames","slots"] (aw vi):=L2.bD
theorem yx {f C CS bn:Addr}{fd bY:J0}(F:cQ K "__init__" "Paging.__init__" vi f fd) (T:pY K mg C) (MS:Mk K CS bn) (bi:mg "Store" = some (.ref CS))
  (bm:bh P w K mg base aW 1 bn bY ["self","many"] (gX CS)) (bG:Binds K bY ["self","many"] []):bh P w K mg base aW 3 f fd ["self","frames","slots"] (pW C CS):=by
 show F.ok Jh (λvs H Q E h=>?_) (λcq A outer s H vs Q E hr h=>?_)
 .let#[p,dx,nf,ns,rfl,_]:=h;rfl
 .let#[p,dx,nf,ns,rfl,n1,n2,hp,k]:=h;show#[_,(ag (fC (pv 0) (lC MS bm (hr.mono ar) (by rfl) bi bG .nil ay (aa (pv 1) ai)) rfl)
   (ag (fC (pv 0) (lC MS bm (hr.mono ar) (by rfl) bi bG .nil ay (aa (pv 2) ai)) rfl)
   (ag (fC (pv 0) dg rfl)
   (ag (fC (pv 0) ak rfl)
   (aj (fC (pv 0) (cn ai) rfl)))))),?_]
  show#[0,λfp b8 a6 bd cc=>#[fp,b8,nf,rfl,n1,af,λU Y H1 ac ab cm S1 o1=>#[4]]];have m1:bf H H1:=λb u e=>o1 b u (by rw[ah (aq e a6),ah (aq e bd)];show e) (aq e a6);let#[q1,ac]:=cy ac;let#[q2,ab]:=cy ab;have ac:=(cy ac).2;have ab:=(cy ab).2;have ch:=m1 _ _ hp;have aB:fp≠p:=JZ (aq hp a6);have am:U≠p:=JZ (aq hp ac);have ap:Y≠p:=JZ (aq hp ab);clear o1 bd cc;show#[0,p,C,dx,[],rfl,ch,T.cl,T.nF,ar,?_];have o2:Off (· = p) H1 (upd H1 p (.ins C dx (bo "frames" (.ref fp) []))):=Off.wr rfl;have b6:upd H1 p (.ins C dx (bo "frames" (.ref fp) [])) p=some (.ins C dx (bo "frames" (.ref fp) [])):=af;generalize upd H1 p (.ins C dx (bo "frames" (.ref fp) []))=H2 at *;have S2:=ip S1 o2 aB am ap;have O2:Off (· = p) H H2:=λb o e z=>o2 b o (m1 b o e) z;show#[0,λsp ce bc bl ca=>#[sp,ce,ns,rfl,n2,af,λso sc H3 a0 as cp S3 o3=>#[4]]];have m3:bf H2 H3:=λb u e=>o3 b u (by rw[ah (aq e bc),ah (aq e bl)];show e) (aq e bc);let#[q3,a0]:=cy a0;let#[q4,as]:=cy as;have a0:=(cy a0).2;have as:=(cy as).2;clear o3 bl ca;have aT:∀b,b=p\/b=fp\/b=U\/b=Y->H2 b≠none:=hX b6 S2;have b7:=ip (B:=λ_=>False) S2 (λb o e _=>m3 b o e) id id id;have ci:=m3 _ _ b6;show#[0,p,C,dx,0,ci,T.cl,T.nS,by change 1<1000;decide,?_];have a7:∀{b},H2 b=none->b≠p/\b≠fp/\b≠U/\b≠Y/\H b=none:=λ{b} h=>#[λz=>aT b (.inl z) h,λz=>aT b (.inr (.inl z)) h,λz=>aT b (.inr (.inr (.inl z))) h,λz=>aT b (.inr (.inr (.inr z))) h,by
   cases e:H b with
   |none=>rfl
   |some u=>rw[O2 b u e λz=>aT b (.inl z) h]at h;cases h]
  let#[a1,a2,a3,a4,a5]:=a7 bc;let#[b1,b2,b3,b4,b5]:=a7 a0;let#[c1,c2,c3,c4,c5]:=a7 as;have o4:Off (· = p) H3 (upd H3 p (.ins C dx (bo "slots" (.ref sp) (bo "frames" (.ref fp) [])))):=Off.wr rfl;have bb:upd H3 p (.ins C dx (bo "slots" (.ref sp) (bo "frames" (.ref fp) []))) p=some (.ins C dx (bo "slots" (.ref sp) (bo "frames" (.ref fp) []))):=af;generalize upd H3 p (.ins C dx (bo "slots" (.ref sp) (bo "frames" (.ref fp) [])))=H4 at *;have bv:=ip b7 o4 aB am ap;have bz:=ip S3 o4 a1 b1 c1;have O4:Off (· = p) H H4:=λb o e z=>o4 b o (m3 b o (O2 b o e z)) z;have b9:∀{b},H4 b=none->b≠p/\b≠fp/\b≠U/\b≠Y/\b≠sp/\b≠so/\b≠sc/\H b=none:=λ{b} h=>by
   have O:=hX bb bv;have x2:=hX bb bz;show#[λz=>O b (.inl z) h,λz=>O b (.inr (.inl z)) h,λz=>O b (.inr (.inr (.inl z))) h,λz=>O b (.inr (.inr (.inr z))) h,λz=>x2 b (.inr (.inl z)) h,λz=>x2 b (.inr (.inr (.inl z))) h,λz=>x2 b (.inr (.inr (.inr z))) h,?_];cases e:H b with
   |none=>rfl
   |some u=>rw[O4 b u e λz=>O b (.inl z) h]at h;cases h
  intro J bI;let#[d1,d2,d3,d4,d5,d6,d7,d8]:=b9 bI;show#[0,p,C,dx,0,by rw[ah (JZ d1)];show bb,T.cl,T.nP,by change 2<1000;decide,?_];show#[0,p,C,dx,0,af,T.cl,T.nL,by change 3<1000;decide,?_];have o7:Off (· = p) H4 (upd (upd (upd H4 J (.dK [])) p (.ins C dx (bo "places" (.ref J) (bo "slots" (.ref sp) (bo "frames" (.ref fp) []))))) p (.ins C dx (bo "last_sheet" (.int 0) (bo "places" (.ref J) (bo "slots" (.ref sp) (bo "frames" (.ref fp) [])))))):=λb o e z=>by
   rw[ah z,ah z,ah (aq e bI)];show e
  have ba:upd (upd (upd H4 J (.dK [])) p (.ins C dx (bo "places" (.ref J) (bo "slots" (.ref sp) (bo "frames" (.ref fp) []))))) p (.ins C dx (bo "last_sheet" (.int 0) (bo "places" (.ref J) (bo "slots" (.ref sp) (bo "frames" (.ref fp) []))))) p=some (.ins C dx (bo "last_sheet" (.int 0) (bo "places" (.ref J) (bo "slots" (.ref sp) (bo "frames" (.ref fp) []))))):=af;have bx:upd (upd (upd H4 J (.dK [])) p (.ins C dx (bo "places" (.ref J) (bo "slots" (.ref sp) (bo "frames" (.ref fp) []))))) p (.ins C dx (bo "last_sheet" (.int 0) (bo "places" (.ref J) (bo "slots" (.ref sp) (bo "frames" (.ref fp) []))))) J=some (.dK []):=(by rw[ah d1,ah d1,af]);generalize upd (upd (upd H4 J (.dK [])) p (.ins C dx (bo "places" (.ref J) (bo "slots" (.ref sp) (bo "frames" (.ref fp) []))))) p (.ins C dx (bo "last_sheet" (.int 0) (bo "places" (.ref J) (bo "slots" (.ref sp) (bo "frames" (.ref fp) [])))))=H7 at *;have b0:=ip bv o7 aB am ap;have be:=ip bz o7 a1 b1 c1;have O7:Off (· = p) H H7:=λb o e z=>o7 b o (O4 b o e z) z;show#[ar,λG N=>?_];have O:=hX ba b0;have x2:=hX ba be;have i1:G≠p:=λz=>O G (.inl z) N;have i2:G≠fp:=λz=>O G (.inr (.inl z)) N;have i3:G≠U:=λz=>O G (.inr (.inr (.inl z))) N;have i4:G≠Y:=λz=>O G (.inr (.inr (.inr z))) N;have i5:G≠sp:=λz=>x2 G (.inr (.inl z)) N;have i6:G≠so:=λz=>x2 G (.inr (.inr (.inl z))) N;have i7:G≠sc:=λz=>x2 G (.inr (.inr (.inr z))) N;have i8:G≠J:=λz=>(by rw[z,bx]at N;cases N);have i9:H G=none:=by
   cases e:H G with
   |none=>rfl
   |some u=>rw[O7 G u e i1]at N;cases N
  show#[0,p,C,dx,0,by rw[ah (JZ i1)];show ba,T.cl,T.nI,by change 4<1000;decide,?_];have o9:Off (· = p) H7 (upd (upd H7 G (.lst [])) p (.ins C dx (cK #[p,fp,U,Y,sp,so,sc,J,G] 0))):=λb o e z=>by
   rw[ah z,ah (aq e N)];show e
  show k _ #[p,fp,U,Y,sp,so,sc,J,G] rfl ?_ ?_ (λM=>#[#[dx,af],ip b0 o9 aB am ap M,ip be o9 a1 b1 c1 M,3,[],?_,Lz,(λx hx=>by cases hx),λ_=>rfl,Kl _]) (λb o e z=>o9 b o (O7 b o e z) z)
  .unfold PA.nine;simp only[List.nodup_cons,Ku,Kb,or_false,not_or,not_false_eq_true,Lz,and_true];show#[#[λh=>aB h.symm,λh=>am h.symm,λh=>ap h.symm,λh=>a1 h.symm,λh=>b1 h.symm,λh=>c1 h.symm,λh=>d1 h.symm,λh=>i1 h.symm],#[λh=>q1 h.symm,λh=>q2 h.symm,λh=>a2 h.symm,λh=>b2 h.symm,λh=>c2 h.symm,λh=>d2 h.symm,λh=>i2 h.symm],#[λh=>(JZ cm) h.symm,λh=>a3 h.symm,λh=>b3 h.symm,λh=>c3 h.symm,λh=>d3 h.symm,λh=>i3 h.symm],#[λh=>a4 h.symm,λh=>b4 h.symm,λh=>c4 h.symm,λh=>d4 h.symm,λh=>i4 h.symm],#[λh=>q3 h.symm,λh=>q4 h.symm,λh=>d5 h.symm,λh=>i5 h.symm],#[λh=>(JZ cp) h.symm,λh=>d6 h.symm,λh=>i6 h.symm],#[λh=>d7 h.symm,λh=>i7 h.symm],λh=>i8 h.symm]
  .intro b L;unfold PA.nine at L;simp only[Ku,Kb,or_false]at L;rcases L with L|L|L|L|L|L|L|L|L<;>rw[L]
   .show .inl rfl
   .show .inr a6
   .show .inr ac
   .show .inr ab
   .show .inr a5
   .show .inr b5
   .show .inr c5
   .show .inr d8
   .show .inr i9
  .change upd (upd H7 G (.lst [])) p _ G=_;rw[ah i1,af];rfl
  .intro b;change(replicate _ _).length<=60;rw[KN];cases b
   .show n2
   .show n1
  .change upd (upd H7 G (.lst [])) p _ J=_;rw[ah d1,ah (JZ i8)];show bx
theorem IW:aC ["self","frames","slots"] ["self","frames","slots"] (aw um):=L2.bD
theorem zC {f am:Addr}{fd ap:J0}{c:CA}(F:cQ K "__init__" "Rooms.__init__" um f fd) (T:sW K mg c) (MP:Mk K c.P am) (a7:mg "Paging" = some (.ref c.P))
  (a6:bh P w K mg base aW 3 am ap ["self","frames","slots"] (pW c.P c.S)) (bc:Binds K ap ["self","frames","slots"] []):bh P w K mg base aW 5 f fd ["self","frames","slots"] (qx c):=by
 show F.ok IW (λvs H Q E h=>?_) (λbe A outer s H vs Q E hr h=>?_)
 .let#[p,dx,nf,ns,rfl,_]:=h;rfl
 .let#[p,dx,nf,ns,rfl,n1,n2,n3,hp,k]:=h;show#[_,(ag (fC (pv 0) (lC MP a6 (hr.mono ar) (by rfl) a7 bc .nil ay (aa (pv 1) (aa (pv 2) ai))) rfl)
   (ag (fC (pv 0) (aA bu (pv 1) (pv 2)) rfl)
   (aj (fC (pv 0) dg rfl)))),?_]
  show#[0,0,λpg a1 ab ba bd=>#[pg,a1,nf,ns,rfl,n1,n2,af,λH1 G eA bb as GA o1=>#[4]]];have m1:bf H H1:=λb u e=>o1 b u (by rw[ah (aq e ab),ah (aq e ba)];show e) (aq e ab);have fr:∀b∈G.nine,H b=none:=λb O=>by
   rcases as b O with h|h
   .rw[h];show ab
   .show(cy (cy h).2).2
  have aT:=m1 _ _ hp;clear o1 as;show#[0,p,c.C,dx,[],rfl,aT,T.cl,T.nP,ar,?_];show#[0,0,_,0,4];show#[0,p,c.C,dx,0,af,T.cl,T.nT,by change 1<1000;decide,?_];rw[<-eA];have N:Off (· = p) H1 (upd (upd H1 p (.ins c.C dx (bo "paging" (.ref G.pg) []))) p (.ins c.C dx (bo "total" (.int ((nf:Int)+ns)) (bo "paging" (.ref G.pg) [])))):=λb o e z=>(by rw[ah z,ah z];show e);have a0:upd (upd H1 p (.ins c.C dx (bo "paging" (.ref G.pg) []))) p (.ins c.C dx (bo "total" (.int ((nf:Int)+ns)) (bo "paging" (.ref G.pg) []))) p=some (.ins c.C dx (bo "total" (.int ((nf:Int)+ns)) (bo "paging" (.ref G.pg) []))):=af;generalize upd (upd H1 p (.ins c.C dx (bo "paging" (.ref G.pg) []))) p (.ins c.C dx (bo "total" (.int ((nf:Int)+ns)) (bo "paging" (.ref G.pg) [])))=H3 at *;intro rd L;have U:rd≠p:=JZ (aq a0 L);show#[0,p,c.C,dx,0,by rw[ah (JZ U)];show a0,T.cl,T.nR,by change 2<1000;decide,?_];have o5:Off (· = p) H1 (upd (upd H3 rd (.dK [])) p (.ins c.C dx (eQ G.pg ((nf:Int)+ns) rd))):=λb o e z=>(by rw[ah z,ah (aq (N b o e z) L)];show N b o e z);have Y:∀b∈G.nine,b≠p:=λb O z=>(by rw[z]at O;have:=fr p O;rw[hp]at this;cases this);have ac:∀b,G.own b->b∈G.nine:=λb h=>by
   unfold PA.own at h;unfold PA.nine;simp only[Ku,Kb,or_false]at h ⊢;rcases h with h|h|h|h|h|h|h<;>simp[h]
  have n9:∀i {b},G.nine[i]?=some b->b≠p:=λi b h=>Y b (J7 h);have G5:∀M,bK c.P c.S (upd (upd H3 rd (.dK [])) p (.ins c.C dx (eQ G.pg ((nf:Int)+ns) rd))) M G (s0 nf ns):=λM=>(GA λb=>M b\/b=p).move o5 (λb z=>.inr z) (λb z=>.inl (.inl z)) (λb z=>Y b (ac b z)) (n9 1 rfl) (n9 4 rfl) (λb xs e z=>by rw[z,aT]at e;cases e);have a2:upd (upd H3 rd (.dK [])) p (.ins c.C dx (eQ G.pg ((nf:Int)+ns) rd)) p=some (.ins c.C dx (eQ G.pg ((nf:Int)+ns) rd)):=af;have aB:upd (upd H3 rd (.dK [])) p (.ins c.C dx (eQ G.pg ((nf:Int)+ns) rd)) rd=some (.dK []):=(by rw[ah U,af]);have AO:¬ rd∈G.nine:=λz=>by
   have a3:=my (GA λ_=>False) rd z;cases e:H1 rd with
   |none=>show a3 e
   |some u=>rw[N _ _ e U]at L;cases L
  have a4:H rd=none:=by
   cases e:H rd with
   |none=>rfl
   |some u=>rw[N _ _ (m1 _ _ e) U]at L;cases L
  have a5:Off (· = p) H (upd (upd H3 rd (.dK [])) p (.ins c.C dx (eQ G.pg ((nf:Int)+ns) rd))):=λb o e z=>o5 b o (m1 b o e) z;show k _ (λb=>b∈G.nine\/b=rd) #[G,p,rd] rfl #[#[dx,?_],G5 _,#[bb,λx J=>.inl J],λb z=>?_,aB,Lz,(λx J=>by cases J),(λx J=>by cases J),(λx J=>by cases J),(λx J=>by cases J),.inr rfl,λz=>AO (ac _ z),λz=>Y _ (ac _ z) rfl] (λb z=>z.elim (fr b) λz=>by rw[z];show a4) a5
  .have e:bN (s0 nf ns)=(nf:Int)+ns:=by
    unfold bN;rw[show((s0 nf ns).ow true).length=nf from KN,show((s0 nf ns).ow false).length=ns from KN];omega
   rw[e];show a2
  .rcases z with z|z
   .show my (G5 λ_=>False) b z
   .intro w;rw[z]at w;show absurd (aB.symm.trans w) (by simp)
end
end St
namespace HT
open PySem PySem.Spec PyProof.Rows
section
variable {prog:J2}{w:Kd}{A:Kk}{E:Value->BY->Prop}{s:BY}
theorem jl {t sl:Addr}{items:Array Value}{J L:Value}{lo hi:Option Int}{Q:Value->BY->Prop}(G:IsTup s.heap t items) (hs:s.heap.IsSliceOf sl J L .none) (pl:NM J lo) (O:NM L hi)
  (N:c6 items.size 0 lo=0/\c6 items.size items.size hi=items.size) (h:Q (.ref t) s):wpAny (model prog w) A (MD (.ref t) (.ref sl)) Q E s:=by
 let#[os,ab,ac,am]:=id hs;have U:s.TypeIs (.ref sl) "slice" := #[os,ab,ac];unfold MD
 try with_reducible show K5 ?_
 first|show By (DO ?_)|skip
 show By (OH G.typeIs ar ?_);show By (Mg (name:=Str.ofString "__getitem__") G.typeIs KI
  (Lq KI G.typeIs entry_tuple_getitem ?_ (Om _ _)))
 change wpAny _ _ (Builtin.Tuple.tupleItemsOf (.ref t)>>=_) _ _ s;show By (tupleItemsOf_ G ?_);show By (MW U ?_);rw[Qi ar];show By (fZ hs pl O ?_);have Y:(((c6 items.size 0 lo:Nat):Int)==0&&(1:Int)==1&&(c6 items.size items.size hi-c6 items.size 0 lo)==items.size)=true:=by
  rw[N.1,N.2];simp
 change wpAny _ _ (if (((c6 items.size 0 lo:Nat):Int)==0&&(1:Int)==1&&(c6 items.size items.size hi-c6 items.size 0 lo)==items.size)=true then _ else _) _ _ s;rw[Qi Y];unfold Builtin.Tuple.tupleIsExact;show By (By (MW G.typeIs (DO ?_)));rw[Qi ar];show By (LJ ?_);show DO #[0,DO h]
end
end HT
namespace L2
open PySem PySem.Spec PyProof.Rows
inductive C1 (K:PySem.W.Frag) (x:V) (lo:Option Int) (hi:Option Int) (H:Hp) (Q:VK):Prop
 |mk (a:_) (xs:_) (_:x=.ref a) (_:cg K H a xs) (_:((HT.c6 xs.length 0 lo=0/\HT.c6 xs.length xs.length hi=xs.length)->Q (.ref a) H)) (_:(¬ (HT.c6 xs.length 0 lo=0/\HT.c6 xs.length xs.length hi=xs.length)->∀p,H p=none->Q (.ref p) (upd H p (.tup (fA xs lo hi))))):C1 K x lo hi H Q
theorem k6 {X:Cx}:Gu X (C1 X.K):=by
 intro pins s σ H x v U vu lo hi sl Q I G hs pl L h;let#[a,xs,rfl,N,q1,O]:=h;by_cases c:HT.c6 xs.length 0 lo=0/\HT.c6 xs.length xs.length hi=xs.length
 .cases G;let#[its,r,J,hz]:=I.tuple N;have Y:its.toArray.size=xs.length:=(by rw[IF];show r.length.symm);show#["tuple",_,KI.lookup,J.typeIs,?_];show HT.jl J hs pl L (by rw[Y];show c) #[.ref a,H,I,rfl,q1 c]
 .show EX pins s σ H (.ref a) v U vu lo hi sl Q I G hs pl L #[a,xs,rfl,N,c,O c]
theorem jZ {a:Addr}{o:Obj}{kvs:List (Key×V)}{g:TG}{tb:TS}{D:Ends}{σ:St}{H:Hp}(Pv:Nat->St->Hp->Prop) (h0:Pv 0 σ H) (U:∀i σ H,i<=kvs.length->Pv i σ H->H a=some (.cu o (.dK kvs)))
  (hs:∀i k v σ H T,kvs[i]?=some (k,v)->H T=none->Pv i σ H->g (.ref T) σ (upd H T (.tup [kV k,v])) λJ H2=>tb { D with nx:=Pv (i+1),ct:=Pv (i+1),bk:=D.nx } J H2) (hd:∀σ H,Pv kvs.length σ H->D.nx σ H) :
  ∃W:Nat->Nat->St->Hp->Prop,(∃m,W 0 m σ H)/\∀i m σ H,W i m σ H ->
   ((E5 a o kvs).stop i H/\D.nx σ H)\/((E5 a o kvs).go i H/\∃N:St->Hp->Prop,(∀G H',N G H'->∃L,L<m/\W (i+1) L G H')/\∀x H',(E5 a o kvs).BU i H x H'->g x σ H' λJ H2=>tb { D with nx:=N,ct:=N,bk:=D.nx } J H2):=by
 show#[λi m σ H=>m=kvs.length-i/\i<=kvs.length/\Pv i σ H,#[kvs.length,by simp,Kl _,h0],?_];rintro i m σ H ⟨rfl,hi,p⟩;have q:=U i σ H hi p;by_cases O:i<kvs.length
 .show .inr #[#[q,O],Pv (i+1),λG H' p'=>#[kvs.length-(i+1),ae,rfl,O,p'],?_];rintro v H' ⟨T,k,x,rfl,hT,Y,rfl⟩;show hs i k x σ H T Y hT p
 .have e:i=kvs.length:=ae;subst e;show .inl #[#[q,J1 _],hd σ H p]
theorem tZ {a:Addr}{o:Obj}{kvs:List (Key×V)}{caps:List (Str×Nat)}{te:TE}{σ:St}{H:Hp}{G:List V->Hp->Prop}(Pv:Nat->List V->Hp->Prop) (U:Pv 0 [] H)
  (N:∀i zs H,i<=kvs.length->Pv i zs H->H a=some (.cu o (.dK kvs)))
  (hs:∀i k v zs H,kvs[i]?=some (k,v)->Pv i zs H->te (fU caps σ (some v)) H (λz H3=>zs.length<sizeLine/\Pv (i+1) (zs++[z]) H3))
  (hd:∀zs H,Pv kvs.length zs H->G zs H):∃W:Nat->Nat->List V->Hp->Prop,(∃m,W 0 m [] H)/\ic caps nA te σ (Hs a o kvs) G W:=by
 show#[λi m zs H=>m=kvs.length-i/\i<=kvs.length/\Pv i zs H,#[kvs.length,by simp,Kl _,U],?_];rintro i m zs H ⟨rfl,hi,p⟩;have L:=N i zs H hi p;by_cases J:i<kvs.length
 .show .inr #[#[L,J],Pv (i+1),λab H' Y=>#[kvs.length-(i+1),ae,rfl,J,Y],?_];rintro v H' ⟨rfl,k,O⟩;unfold nA;dsimp only;rw[Qi rfl];show hs i k v zs H' O p
 .have e:i=kvs.length:=ae;subst e;show .inl #[#[L,J1 _],hd zs H p]
section
variable {X:Cx}
theorem uQ:di X (.type "dict") (λxs H Q=>∃(d:Addr) (kvs:List (Key×V)),xs=[.ref d]/\H d=some (.dK kvs)/\∀a,H a=none->Q (.ref a) (upd H a (.dK kvs))):=by
 intro pins s σ H xs us Q I r h;let#[d,kvs,rfl,hd,q]:=h;let#[u,rfl,J]:=vals1 r;obtain rfl:u=Value.ref d:=J;let#[Y,U,vs,G,N]:=gI I.bG hd;have hl:=G.length;show kt_call_dict (knd:=br X.prog X.w) U N ae λh' O L=>?_;show#[.ref s.heap.objs.size,_,I.laid (t':=s.toks) (h':=h') (λb o e=>?_) (J1 _) (lW Y ?_ G O),rfl,q _ I.fresh]
 .show(L.2 b (Km (Heap.lt_size e))).trans (Heap.get?_push_of_some _ e)
 .show beq_false_of_ne (OB I.big)
theorem range_any (bs:List Bool):((List.range bs.length).any λi=>(bs[i]?).getD true)=bs.any id:=by
 rw[LO,List.any_eq_true,List.any_eq_true];constructor
 .rintro⟨i,hi,e⟩;have G:=List.mem_range.mp hi;rw[J4 G,OO]at e;show#[_,La G,e]
 .rintro⟨b,L,e⟩;let#[i,hi,J]:=Lh L;show#[i,List.mem_range.mpr hi,?_];rw[J4 hi,OO,J];show e
theorem D9:Kq "any" = some (.builtin "any"):=ao
theorem xV (hc:X.calm=true):di X (.builtin "any") (λxs H Q=>∃(l:Addr) (bs:List Bool),xs=[.ref l]/\bB X.K H l (bs.map V.bl)/\Q (.bl (bs.any id)) H):=by
 intro pins s σ H xs us Q I r h;let#[l,bs,rfl,O,q]:=h;let#[u,rfl,ru]:=vals1 r;obtain rfl:u=Value.ref l:=ru;let#[its,rv,p,_]:=I.list O;have ei:=qv rv;subst ei;have L:=p.isList;have ab:l<s.heap.objs.size:=let ⟨_,e,_⟩:=L;Heap.lt_size e;show call_any_walk (Ml L ?_);show#[s.heap.objs.size,[s.heap.objs.size,l],[s.heap.objs.size],(bs.map Value.bool).toArray.size,2,λi=>(bs[i]?).getD true,rfl,Pw (A:=X.A.in1) (I.ok.hd hc) _ l (Km ab) (bs.map Value.bool).toArray,
  #[#[_,Heap.get?_push_size _ rfl,1],L.push _],λi v s' Q' E' Y N=>?_,λh' tk U=>?_]
 .have ac:(bs.map Value.bool).toArray[i]?=some v:=Y;have G:(bs.map Value.bool)[i]?=some v:=(by simpa using ac);rw[J3]at G;cases J:bs[i]? with
  |none=>rw[J]at G;cases G
  |some b =>
   rw[J]at G;have e2:Value.bool b=v:=Option.some.inj G;subst e2;simp only[J,OO]at N;show Lf N
 .have e:((List.range (bs.map Value.bool).toArray.size).any λi=>(bs[i]?).getD true)=bs.any id:=by
   rw[IF,DD];show range_any bs
  rw[e];show#[.bl _,H,I.kept (PB U),rfl,q]
noncomputable def FI:yh:=λo i v H Q=>∃a H',o=.ref a/\gf H a i v H'/\Q H'
theorem set_dict (J:X.A.units+1<Me):Bl X FI:=by
 intro pins s σ H o i v ov U u Q I G L N h;let#[a,H',rfl,g,q]:=h;obtain rfl:ov=Value.ref a:=G;show nU J I g L N λs' O=>#[H',O,q]
end
end L2
namespace Lw
open PySem L2 St
noncomputable abbrev u5:Ky:=top 35
noncomputable abbrev qF:Ky:=top 36
noncomputable abbrev tV:Ky:=top 37
noncomputable abbrev m4:Ky:=top 38
noncomputable abbrev uz:Ky:=top 39
noncomputable abbrev vC:Ky:=top 40
noncomputable abbrev mU:Ky:=top 41
noncomputable abbrev Dq:Ky:=top 42
noncomputable abbrev AE:Ky:=top 43
noncomputable abbrev qR:Ky:=top 44
noncomputable abbrev tX:Ky:=top 46
noncomputable abbrev yy:Ky:=top 47
noncomputable abbrev uh:Ky:=top 48
structure mH (mg:Str->Option Value):Prop where
 range:mg "range" = none
 enumerate:mg "enumerate" = none
 sum:mg "sum" = none
 int:mg "int" = none
 AN:mg "isinstance" = none
 min:mg "min" = none
 max:mg "max" = none
 list:mg "list" = none
 len:mg "len" = none
 dict:mg "dict" = none
 bool:mg "bool" = none
 tuple:mg "tuple" = none
 sorted:mg "sorted" = none
 all:mg "all" = none
 any:mg "any" = none
inductive oY (vs:List V) (H:Hp) (Q:VK) (e3:XK):Prop
 |mk (c k:Int) (_:vs=[.int c,.int k]) (_:∀v:Int,Q (.int v) H):oY vs H Q e3
inductive mz (K:PySem.W.Frag) (vs:List V) (H:Hp) (Q:VK) (e3:XK):Prop
 |mk (a:Addr) (ns:List Int) (k:Nat) (_:vs=[.ref a,.int k]) (_:bB K H a (ns.map V.int)) (_:ns.length<=100) (_:k<=100) (_:∀(v:Int) (H':Hp),bf H H'->Q (.int v) H'):mz K vs H Q e3
inductive qo (vs:List V) (H:Hp) (Q:VK) (e3:XK):Prop
 |mk (i:Int) (_:vs=[.int i]) (_:Q (.bl true) H):qo vs H Q e3
inductive kq (vs:List V) (H:Hp) (Q:VK) (e3:XK):Prop
 |mk (m:Int) (n:Nat) (_:vs=[.int m,.int n]) (_:n<=100) (_:∀(cs:List Int) (H':Hp) (l:Addr),cs.length=n->bf H H'->H l=none->H' l=some (.lst (cs.map V.int))->Q (.ref l) H'):kq vs H Q e3
noncomputable def rG (m:Int):List Int:=[2,3,4,2+m/4%9]
noncomputable def sX (m:Int):List Int:=[m/40%5,m/40%30,60]
noncomputable def nX (m:Int):Nat:=((rG m).getD (m%4).toNat 0).toNat
noncomputable def qV (m:Int):Nat:=((sX m).getD (m/7%3).toNat 0).toNat
theorem at_of {xs:List Int}{i n:Int}(L:0<=i) (h1:i<n) (J:n=xs.length):yE (xs.map V.int) i=some (.int (xs.getD i.toNat 0))/\xs.getD i.toNat 0∈xs:=by
 obtain⟨j,rfl⟩:∃j:Nat,i=j:=#[i.toNat,ae];have G:j<xs.length:=ae;have e:xs.getD (NJ (j:Int)) 0=xs[j]:=(by simp[G]);rw[e];show#[jI (by rw[J3,J4 G];rfl),La G]
theorem zN (m:Int):yE ((rG m).map V.int) (m%4)=some (.int (nX m))/\2<=nX m/\nX m<=40:=by
 let#[h1,h2]:=at_of (xs:=rG m) (i:=m%4) (n:=4) ae ae rfl;have G:2<=(rG m).getD (m%4).toNat 0/\(rG m).getD (m%4).toNat 0<=40:=by
  unfold rG at h2 ⊢;simp only[Ku,Kb,or_false]at h2;rcases h2 with h|h|h|h<;>rw[h]<;>omega
 have e:((nX m:Nat):Int)=(rG m).getD (m%4).toNat 0:=(by unfold nX;omega);rw[e];show#[h1,by unfold nX;omega,by unfold nX;omega]
theorem zE (m:Int):yE ((sX m).map V.int) (m/7%3)=some (.int (qV m))/\qV m<=60:=by
 let#[h1,h2]:=at_of (xs:=sX m) (i:=m/7%3) (n:=3) ae ae rfl;have G:0<=(sX m).getD (m/7%3).toNat 0/\(sX m).getD (m/7%3).toNat 0<=60:=by
  unfold sX at h2 ⊢;simp only[Ku,Kb,or_false]at h2;rcases h2 with h|h|h<;>rw[h]<;>omega
 have e:((qV m:Nat):Int)=(sX m).getD (m/7%3).toNat 0:=(by unfold qV;omega);rw[e];show#[h1,by unfold qV;omega]
inductive pO (vs:List V) (H:Hp) (Q:VK) (e3:XK):Prop
 |mk (m:Int) (_:vs=[.int m]) (_:∀(H':Hp) (t:Addr),bf H H'->H t=none->H' t=some (.tup [.int (nX m),.int (qV m)])->Q (.ref t) H'):pO vs H Q e3
theorem II (x y:Int):zh (x%2305843009213693951) y:=by
 have:=Ll x (show(2305843009213693951:Int)≠0 by decide);have:=K8 x (show(0:Int)<2305843009213693951 by decide);show .inl #[ae,ae]
theorem Gq (x y:Int):zh (x%2305843009213693907) y:=by
 have:=Ll x (show(2305843009213693907:Int)≠0 by decide);have:=K8 x (show(0:Int)<2305843009213693907 by decide);show .inl #[ae,ae]
section
variable {P:J2}{w:Kd}{K:PySem.W.Frag}{mg:Str->Option Value}{base:Heap}
theorem Hv:aC ["_law_cell","_law_k","_law_once","_law_twice"] ["_law_cell","_law_k"] (aw u5):=L2.bD
theorem Ah {f:Addr}{fd:J0}(F:cQ K "_law_mixed" "_law_mixed" u5 f fd):bh P w K mg base aW 1 f fd ["_law_cell","_law_k"] oY:=by
 show F.ok Hv (λvs H Q E h=>?_) (λG A outer s H vs Q E J h=>?_)
 .let#[c,j,rfl,_]:=h;rfl
 .let#[c,j,rfl,k]:=h;show#[_,(ag (aK (i:=2) Hv.nd rfl (J6 rfl) (aA bJ (aA d0 (aA bu (aA bu (aA bJ (pv 0) ak) (aA d0 ak (pv 1))) ak) ak) ak))
   (ag (aK (i:=2) Hv.nd rfl (J6 rfl) (aA bJ (aA d0 (pv 2) (pv 2)) ak))
   (ag (aK (i:=3) Hv.nd rfl (J6 rfl) (aA bJ (aA d0 (aA bu (aA bu (pv 2) (aA d0 ak (pv 1))) ak) ak) ak))
   (aj (aF (aA bu (aA d0 (aA bJ (aA d0 (pv 3) (pv 3)) ak) ak) (pv 2))))))),?_]
  show#[0,_,0,rfl,(by change(0:Int)<2305843009213693951;decide),0,_,0,rfl,.inl #[ar,ar],_,0,5,0,5,0,rfl,.inr #[ar,ar],_,0,rfl,(by change(0:Int)<2305843009213693951;decide),?_];show#[0,0,_,0,rfl,II _ _,_,0,rfl,(by change(0:Int)<2305843009213693921;decide),?_];show#[0,0,_,0,rfl,.inl #[ar,ar],_,0,5,0,5,0,rfl,.inr #[ar,ar],_,0,rfl,(by change(0:Int)<2305843009213693907;decide),?_];show#[0,0,_,0,rfl,Gq _ _,_,0,rfl,(by change(0:Int)<2305843009213693951;decide),_,0,rfl,.inr #[ar,ar],0,_,0,rfl,k _]
theorem Gv:aC ["_law_script","_law_k","_law_cell"] ["_law_script","_law_k"] (aw qF):=L2.bD
theorem w6 {f:Addr}{fd:J0}(F:cQ K "_law_number" "_law_number" qF f fd) (T:mH mg) (GM:Df P w K mg base aW 1 "_law_mixed" oY):bh P w K mg base aW 2 f fd ["_law_script","_law_k"] (mz K):=by
 show F.ok Gv (λvs H Q E h=>?_) (λap A outer s H vs Q E hr h=>?_)
 .let#[a,ns,j,rfl,_]:=h;rfl
 .let#[a,ns,j,rfl,L,hn,hj,k]:=h;have hs:sizeLine=16777216:=J5;show#[_,(ag (aK (i:=2) Gv.nd rfl (J6 rfl) (a8 cG (aA tS (de gz (pv 0) (cX (pv 1)) (cX (aA bu (pv 1) ak))) (cn (aa (aA bu (aA d0 (pv 1) (pv 1)) ak) ai))) ak (λ_ _=>rfl)))
   (ag (aS (aE bU (aA bJ (aN (lM rfl) (by rfl) T.sum vj (aa (de gz (pv 0) fE (cX ak)) ai)) ak) ak (aJ _)) (aj (aF (aA bJ (pv 2) (aA tE ak ak)))) aG)
   (aj (aF (pc GM hr ay (aa (pv 2) (aa (pv 1) ai))))))),?_]
  show gx λ_ jt=>?_;have ec:fA (ns.map V.int) (some (j:Int)) (some ((j:Int)+1))=((ns.drop j).take 1).map V.int:=Rm.qD (n:=1);show#[0,0,0,0,_,0,rfl,0,a,0,L,λp hp=>?_];change Gz _ _ (upd H p (.lst (fA (ns.map V.int) (some (j:Int)) (some ((j:Int)+1))))) _;rw[ec];have s1:=Tb.au (X:=.lst (((ns.drop j).take 1).map V.int)) hp;have h1:upd H p (.lst (((ns.drop j).take 1).map V.int)) p=some (.lst (((ns.drop j).take 1).map V.int)):=af;generalize upd H p (.lst (((ns.drop j).take 1).map V.int))=H1 at *;show#[0,0,_,0,rfl,.inl #[ae,ae],_,0,rfl,(by change 1<=sizeLine;decide),λp2 ab=>?_];have s2:=Tb.au (X:=.lst [V.int ((j:Int)*j+3)]) ab;show#[p,p2,_,0,rfl,s2 _ _ h1,af,?_,λG ac=>?_]
  .rw[DD,Kg];change min 1 _+1<=sizeLine;omega
  have s3:=Tb.au (X:=.lst (((ns.drop j).take 1).map V.int++[V.int ((j:Int)*j+3)])) ac;have e3:((ns.drop j).take 1).map V.int++[V.int ((j:Int)*j+3)]=((ns.drop j).take 1++[(j:Int)*j+3]).map V.int:=(by rw[Ke];rfl);have J:=s1.trans (s2.trans s3);let#[O,_]:=at_of (xs:=(ns.drop j).take 1++[(j:Int)*j+3]) (i:=0) (n:=((ns.drop j).take 1++[(j:Int)*j+3]).length) (Int.le_refl _) (by rw[J9,KZ];omega) rfl;rw[<-e3]at O;show#[G,_,(0),0,rfl,bB.of af,O,jt _ _ ?_];generalize ((ns.drop j).take 1++[(j:Int)*j+3]).getD (NJ 0) 0=cl;have U:=Rm.eB L (J _);change m7 _ _ _ _ (upd (upd H1 p2 (.lst [V.int ((j:Int)*j+3)])) G (.lst (((ns.drop j).take 1).map V.int++[V.int ((j:Int)*j+3)])));generalize upd (upd H1 p2 (.lst [V.int ((j:Int)*j+3)])) G (.lst (((ns.drop j).take 1).map V.int++[V.int ((j:Int)*j+3)]))=H3 at *;have N:fA (ns.map V.int) none (some (1:Int))=(ns.take 1).map V.int:=Rm.ur (s:=1);show#[0,0,a,0,U,λY am=>?_];have s4:=Tb.au (X:=.lst ((ns.take 1).map V.int)) am;show#[Y,ns.take 1,rfl,bB.of (by rw[<-N];show af),_,0,rfl,(by change(0:Int)<2;decide),rfl,0,?_];rw[show fA (ns.map V.int) none (some (1:Int))=(ns.take 1).map V.int from N];show iH (λ_=>?_) (λ_=>?_)
  .show#[0,_,0,rfl,#[ar,ar,ar],_,0,rfl,(by change(0:Int)<10^40;decide),k _ _ (J.trans s4)]
  .show#[0,0,cl,j,rfl,λv=>k v _ (J.trans s4)]
theorem Iv:aC ["_law_found"] ["_law_found"] (aw tV):=L2.bD
theorem z8 {f:Addr}{fd:J0}(F:cQ K "_law_whole" "_law_whole" tV f fd) (T:mH mg):bh P w K mg base aW 1 f fd ["_law_found"] qo:=by
 show F.ok Iv (λvs H Q E h=>?_) (λG A outer s H vs Q E J h=>?_)
 .let#[i,rfl,_]:=h;rfl
 .let#[i,rfl,k]:=h;show#[_,(aj (aF (Dk (aN dG (by rfl) T.AN bW (aa (pv 0) (aa (eS (v:=.ty "int") (by rfl) T.int iS rfl) ai))) (y0 (Es (aN dG (by rfl) T.AN bW (aa (pv 0) (aa (eS (v:=.ty "bool") (by rfl) T.bool Bi rfl) ai)))))))),?_];show#[0,.int i,"int",_,true,rfl,.int i,EK _,true,rfl,dZ #[0,.int i,"bool",_,false,rfl,.int i,EJ _,false,rfl,k]]
theorem Bu:aC ["_law_m","_law_many","_law_cells_here","_law_k"] ["_law_m","_law_many"] (aw m4):=L2.bD
theorem tL {f:Addr}{fd:J0}(F:cQ K "_law_cells" "_law_cells" m4 f fd) (T:mH mg):bh P w K mg base aW 1 f fd ["_law_m","_law_many"] kq:=by
 show F.ok Bu (λvs H Q E h=>?_) (λab A outer s H vs Q E hr h=>?_)
 .let#[m,n,rfl,_]:=h;rfl
 .let#[m,n,rfl,hn,k]:=h;have hs:sizeLine=16777216:=J5;show#[_,(ag (aK (i:=2) Bu.nd rfl (J6 rfl) (cn ai))
   (ag (cN Kh rfl (nQ (by rfl) T.range (aa (pv 1) ai)) (aY (i:=3) Bu.nd rfl (J6 rfl)) (ag (aP (gR KY PySem.F.slot_list_append PySem.F.type_list_append kA (pv 2) (aa (aA bJ (aA bu (pv 0) (aA d0 (aA d0 ak (pv 3)) (aA bJ (aA bH (pv 0) ak) ak))) ak) ai)))
   (aj (aS (aE bU (aA bJ (pv 3) ak) ak (aJ _)) (aj (aK (i:=0) Bu.nd rfl (J6 rfl) (aA bH (pv 0) ak))) aG))))
   (aj (aF (pv 2))))),?_]
  show#[ar,λl J=>?_];have s0:=Tb.au (X:=.lst []) J;show#[0,0,ae,ae,?_];show iy (lo:=0) (n:=(n:Int).toNat) (λi σ H2=>Fl λ(G:Int) (L:Option V) (cs:List Int)=>EZ (σ=[some (.int G),some (.int n),some (.ref l),L]) (cs.length=i) (H2 l=some (.lst (cs.map V.int))) (bf H H2)) #[m,_,[],1,af,s0] ?_ ?_
  .rintro i σ H2 hi ⟨G,L,cs,rfl,O,h2,s2⟩;show#[0,.inl #[5,bB.of h2],0,0,_,0,rfl,.inl #[ar,ar],0,_,0,rfl,#[ar,ar],_,0,rfl,(by change(0:Int)<7;decide),_,0,rfl,.inr #[3],_,0,5,0,rfl,(by change(0:Int)<256;decide),l,_,0,rfl,h2,by rw[DD];omega,?_]
   .have:=Ll (G/256) (show(7:Int)≠0 by decide);omega
   .have:=K8 (G/256) (show(0:Int)<7 by decide);omega
   have s3:=Rm.Bs s2 J (X:=.lst ((cs++[(G+37*(0+(i:Int))*(G/256%7))%256]).map V.int));have Y:cs.map V.int++[V.int ((G+37*(0+(i:Int))*(G/256%7))%256)]=(cs++[(G+37*(0+(i:Int))*(G/256%7))%256]).map V.int:=(by rw[Ke];rfl);show#[0,_,0,rfl,(by change(0:Int)<8;decide),rfl,0,?_];have U:(cs++[(G+37*(0+(i:Int))*(G/256%7))%256]).length=i+1:=(by rw[J9,O];rfl);rw[<-Y]at s3;have N:upd H2 l (.lst (cs.map V.int++[V.int ((G+37*(0+(i:Int))*(G/256%7))%256)])) l=some (.lst ((cs++[(G+37*(0+(i:Int))*(G/256%7))%256]).map V.int)):=(by rw[<-Y];show af);show iH (λ_=>#[0,_,0,rfl,#[ar,ar],2,0,U,N,s3]) (λ_=>#[2,0,U,N,s3])
  .rintro σ H2 ⟨G,L,cs,rfl,O,h2,s2⟩;show#[0,k cs H2 l ae s2 J h2]
theorem HQ:aC ["_law_m"] ["_law_m"] (aw tX):=L2.bD
theorem y6 {f:Addr}{fd:J0}(F:cQ K "_law_sizes" "_law_sizes" tX f fd):bh P w K mg base aW 1 f fd ["_law_m"] pO:=by
 show F.ok HQ (λvs H Q E h=>?_) (λac A outer s H vs Q E hr h=>?_)
 .let#[m,rfl,_]:=h;rfl
 .let#[m,rfl,k]:=h;show#[_,(aj (aF (dh (aa (a8 cG (cn (aa ak (aa ak (aa ak (aa (aA bu ak (aA bJ (aA bH (pv 0) ak) ak)) ai))))) (aA bJ (pv 0) ak) (λ_ _=>rfl)) (aa (a8 cG (cn (aa (aA bJ (aA bH (pv 0) ak) ak) (aa (aA bJ (aA bH (pv 0) ak) ak) (aa ak ai)))) (aA bJ (aA bH (pv 0) ak) ak) (λ_ _=>rfl)) ai))))),?_];let#[N,_]:=zN m;let#[L,_]:=zE m;show#[0,_,0,rfl,#[ar,ar],_,0,rfl,(by change(0:Int)<9;decide),_,0,rfl,(by change 4<=sizeLine;decide),λU Y=>#[0,_,0,rfl,(by change(0:Int)<4;decide),U,2,.int (nX m),1,bB.of af,N,?_]];have s0:=Tb.au (X:=.lst ((rG m).map V.int)) Y;show#[0,_,0,rfl,#[ar,ar],_,0,rfl,(by change(0:Int)<5;decide),0,_,0,rfl,#[ar,ar],_,0,rfl,(by change(0:Int)<30;decide),(by change 3<=sizeLine;decide),λO ab=>#[0,_,0,rfl,#[ar,ar],_,0,rfl,(by change(0:Int)<3;decide),O,2,.int (qV m),1,bB.of af,L,(by change 2<=sizeLine;decide),λt G=>?_]];have J:=Tb.au (X:=.lst ((sX m).map V.int)) ab;have s2:=Tb.au (X:=.tup [.int (nX m),.int (qV m)]) G;show k _ t (s0.trans (J.trans s2)) (s0.free (J.free G)) af
end
structure MT where
 ra:Addr
 sa:Addr
 pl:List (Int×Addr×Int)
noncomputable abbrev Zs:=List (Int×MT)
noncomputable def dY (z:MT):V:=.ref z.ra
noncomputable def qW (z:MT):V:=.ref z.sa
noncomputable def eD (x:Addr×Int):V:=.ref x.1
noncomputable def nj (x:Addr×Int):V:=.int x.2
noncomputable def nr (G ls:Addr) (bN pk:Int):List (Key×V):=[(Sum.inr "rooms",.ref G),(Sum.inr "stands",.ref ls),(Sum.inr "total",.int bN),(Sum.inr "pokes",.int pk)]
structure MA where
 md:Addr
 lr:Addr
 ls:Addr
structure cD (H:Hp) (m:MA) (bN pk:Int) (Z:Zs):Prop where
 hm:H m.md=some (.dK (nr m.lr m.ls bN pk))
 hr:H m.lr=some (.dK (Tb.dk dY Z))
 hs:H m.ls=some (.dK (Tb.dk qW Z))
 rm:∀x∈Z,H x.2.ra=some (.dK (Tb.dk eD x.2.pl))
 st:∀x∈Z,H x.2.sa=some (.dK (Tb.dk nj x.2.pl))
 cl:∀x∈Z,∀y∈x.2.pl,∃ns:List Int,H y.2.1=some (.lst (ns.map V.int))/\ns.length=8
 nd:(Z.map (·.1)).Nodup
 np:∀x∈Z,(x.2.pl.map (·.1)).Nodup
 rg:∀x∈Z,∀y∈x.2.pl,0<=y.1/\y.1<64
 da:∀x∈Z,∀y∈Z,x.1≠y.1->x.2.ra≠y.2.ra/\x.2.sa≠y.2.sa
 rs:∀x∈Z,∀y∈Z,x.2.ra≠y.2.sa
 d3:∀x∈Z,x.2.ra≠m.md/\x.2.ra≠m.lr/\x.2.ra≠m.ls/\x.2.sa≠m.md/\x.2.sa≠m.lr/\x.2.sa≠m.ls
 n3:m.md≠m.lr/\m.md≠m.ls/\m.lr≠m.ls
noncomputable def cM (m:MA) (Z:Zs):Addr->Prop:=λb=>b=m.md\/b=m.lr\/b=m.ls\/∃x∈Z,b=x.2.ra\/b=x.2.sa\/∃y∈x.2.pl,b=y.2.1
theorem ks_ne {a b:Str}(h:a≠b):¬ V.str a=V.str b:=λe=>h (by injection e)
theorem vg (G ls:Addr) (bN pk:Int):dF (nr G ls bN pk) (Sum.inr "rooms")=some (.ref G):=er rfl
theorem Jo:¬ ((Sum.inr ("rooms" : Str):Key)=Sum.inr ("stands" : Str)):=ao
theorem Jr:¬ ((Sum.inr ("rooms" : Str):Key)=Sum.inr ("total" : Str)):=ao
theorem Im:¬ ((Sum.inr ("rooms" : Str):Key)=Sum.inr ("pokes" : Str)):=ao
theorem JC:¬ ((Sum.inr ("stands" : Str):Key)=Sum.inr ("total" : Str)):=ao
theorem IP:¬ ((Sum.inr ("stands" : Str):Key)=Sum.inr ("pokes" : Str)):=ao
theorem Io:¬ ((Sum.inr ("total" : Str):Key)=Sum.inr ("pokes" : Str)):=ao
theorem I0 (G ls:Addr) (bN pk:Int):dF (nr G ls bN pk) (Sum.inr "stands")=some (.ref ls):=by
 unfold nr;rw[ck Jo,er rfl]
theorem EO (G ls:Addr) (bN pk:Int):dF (nr G ls bN pk) (Sum.inr "total")=some (.int bN):=by
 unfold nr;rw[ck Jr,ck JC,er rfl]
theorem Hf (G ls:Addr) (bN pk:Int):dF (nr G ls bN pk) (Sum.inr "pokes")=some (.int pk):=by
 unfold nr;rw[ck Im,ck IP,ck Io,er rfl]
theorem xW (G ls:Addr) (bN pk:Int):j4 [] (nr G ls bN pk)=nr G ls bN pk:=by
 have s2:putK ([(Sum.inr "rooms",V.ref G)]:List (Key×V)) (Sum.inr "stands") (V.ref ls)=([(Sum.inr "rooms",V.ref G),(Sum.inr "stands",V.ref ls)]:List (Key×V)):=jV _ (ck Jo);have s3:putK ([(Sum.inr "rooms",V.ref G),(Sum.inr "stands",V.ref ls)]:List (Key×V)) (Sum.inr "total") (V.int bN)=([(Sum.inr "rooms",V.ref G),(Sum.inr "stands",V.ref ls),(Sum.inr "total",V.int bN)]:List (Key×V)):=jV _ ((ck Jr).trans (ck JC));have s4:putK ([(Sum.inr "rooms",V.ref G),(Sum.inr "stands",V.ref ls),(Sum.inr "total",V.int bN)]:List (Key×V)) (Sum.inr "pokes") (V.int pk)=([(Sum.inr "rooms",V.ref G),(Sum.inr "stands",V.ref ls),(Sum.inr "total",V.int bN),(Sum.inr "pokes",V.int pk)]:List (Key×V)):=jV _ ((ck Im).trans ((ck IP).trans (ck Io)));change putK (putK (putK ([(Sum.inr "rooms",V.ref G)]:List (Key×V)) (Sum.inr "stands") (V.ref ls)) (Sum.inr "total") (V.int bN)) (Sum.inr "pokes") (V.int pk)=_;rw[s2,s3,s4];rfl
theorem yK (G ls:Addr) (bN pk:Int):(nr G ls bN pk).map (λJ=>(kV J.1,J.2))=[(.str "rooms",.ref G),(.str "stands",.ref ls),(.str "total",.int bN),(.str "pokes",.int pk)]:=rfl
section
variable {H H':Hp}{m:MA}{bN pk:Int}{Z:Zs}
theorem cD.g {k:Str}{v:V}(M:cD H m bN pk Z) (h:dF (nr m.lr m.ls bN pk) (Sum.inr k)=some v):du H m.md (.str k) (some v):=by
 have q:=du.k (k:=Sum.inr k) M.hm;rw[h]at q;show q
theorem cD.off {B:Addr->Prop}(M:cD H m bN pk Z) (o:Off B H H') (h:∀b,cM m Z b->¬ B b):cD H' m bN pk Z:=by
 show#[o _ _ M.hm (h _ (.inl rfl)),o _ _ M.hr (h _ (.inr (.inl rfl))),o _ _ M.hs (h _ (.inr (.inr (.inl rfl)))),λx G=>o _ _ (M.rm x G) (h _ (.inr (.inr (.inr #[x,G,.inl rfl])))),λx G=>o _ _ (M.st x G) (h _ (.inr (.inr (.inr #[x,G,.inr (.inl rfl)])))),λx G y J=>?_,M.nd,M.np,M.rg,M.da,M.rs,M.d3,M.n3];let#[ns,h1,h2]:=M.cl x G y J;show#[ns,o _ _ h1 (h _ (.inr (.inr (.inr #[x,G,.inr (.inr #[y,J,rfl])])))),h2]
theorem cD.same (M:cD H m bN pk Z) (s:bf H H'):cD H' m bN pk Z:=M.off (B:=λ_=>False) (λb o e _=>s b o e) λ_ _=>id
end
noncomputable def tD (Z:Zs):Int:=(Z.map λx=>(x.2.pl.length:Int)).sum
inductive pF (vs:List V) (H:Hp) (Q:VK) (e3:XK):Prop
 |mk (bN:Int) (_:vs=[.int bN]) (_:∀(H':Hp) (m:MA),bf H H'->H m.md=none->H m.lr=none->H m.ls=none->cD H' m bN 0 []->Q (.ref m.md) H'):pF vs H Q e3
inductive jG (vs:List V) (H:Hp) (Q:VK) (e3:XK):Prop
 |mk (m:MA) (bN pk:Int) (Z:Zs) (_:vs=[.ref m.md]) (_:cD H m bN pk Z) (_:Z.length<=1000) (_:∀H',bf H H'->Q (.int (tD Z)) H'):jG vs H Q e3
noncomputable def wG (pl:List (Int×Addr×Int)) (ad:Int) (n:Nat):Prop:=ad+n<=512/\∀i:Nat,i<n->Tb.look pl ((ad+i)/8)≠none
inductive ku (vs:List V) (H:Hp) (Q:VK) (e3:XK):Prop
 |mk (ra:Addr) (pl:List (Int×Addr×Int)) (ad:Int) (n:Nat) (_:vs=[.ref ra,.int ad,.int n]) (_:H ra=some (.dK (Tb.dk eD pl))) (_:0<=ad) (_:ad<=1000) (_:1<=n) (_:n<=100) (_:∀(b:Bool) (H':Hp),bf H H'->(b=true->wG pl ad n)->Q (.bl b) H'):ku vs H Q e3
section
variable {P:J2}{w:Kd}{K:PySem.W.Frag}{mg:Str->Option Value}{base:Heap}
theorem Ji:aC ["_law_total"] ["_law_total"] (aw uz):=L2.bD
theorem zG {f:Addr}{fd:J0}(F:cQ K "_law_model" "_law_model" uz f fd):bh P w K mg base aW 1 f fd ["_law_total"] pF:=by
 show F.ok Ji (λvs H Q E h=>?_) (λap A outer s H vs Q E hr h=>?_)
 .let#[bN,rfl,_]:=h;rfl
 .let#[bN,rfl,k]:=h;show#[_,(aj (aF (B5 (keys:=[some _,some _,some _,some _]) (values:=[_,_,_,_]) (jF aI dg (jF aI dg (jF aI (pv 0) (jF aI ak BB)))) rfl rfl (List.cons_ne_nil _ _) (Nat.le_of_ble_eq_true rfl)))),?_];show λN ac J Y ls L=>#[0,?_];have U:J≠N:=λe=>(by rw[e,af]at Y;cases Y);have am:H J=none:=(by rw[ah U]at Y;show Y);have n2:ls≠J:=λe=>(by rw[e,af]at L;cases L);rw[ah n2]at L;have O:ls≠N:=λe=>(by rw[e,af]at L;cases L);have ab:H ls=none:=(by rw[ah O]at L;show L);show#[by rw[ah (JZ O),ah (JZ U),af],nr J ls bN 0,(yK J ls bN 0).symm,by change 4<=15;decide,?_];rw[xW];show k _ #[N,J,ls] (λb o e=>?_) ac am ab #[af,3,(λx G=>by cases G),(λx G=>by cases G),(λx G=>by cases G),Lz,(λx G=>by cases G),(λx G=>by cases G),(λx G=>by cases G),(λx G=>by cases G),(λx G=>by cases G),#[JZ U,JZ O,JZ n2]]
  .have a1:b≠N:=aq e ac;rw[ah a1,ah (aq e ab),ah (aq e am),ah a1];show e
  .change upd _ N _ J=_;rw[ah U,ah (JZ n2),af];rfl
  .change upd _ N _ ls=_;rw[ah O,af];rfl
theorem IB:aC ["_law_model_here"] ["_law_model_here"] (aw vC):=L2.bD
theorem zQ {f:Addr}{fd:J0}(F:cQ K "_law_held" "_law_held" vC f fd) (T:mH mg):bh P w K mg base aW 1 f fd ["_law_model_here"] jG:=by
 show F.ok IB (λvs H Q E h=>?_) (λab A outer s H vs Q E hr h=>?_)
 .let#[m,bN,pk,Z,rfl,_]:=h;rfl
 .let#[m,bN,pk,Z,rfl,M,lz,k]:=h;have hs:sizeLine=16777216:=J5;show#[_,(aj (aF (aN (lM rfl) (by rfl) T.sum vj (aa (vJ (fJ (cl:=[]) (caps:=[]) #[rfl,ao,ao,rfl,by kernel_rfl,by intro p O;simp at O,by kernel_rfl,by intro p O;simp at O,ao] rfl (Cp (bj (aZ hr) (pv 0) aI (λ_ _=>rfl))) (λ_ _ _ _=>eY) (λ_ _ _ _=>(aN kB (by rfl) T.len boot_len (aa (pv 0) ai))))) ai)))),?_];have U:∀(o:Obj) u',H m.lr≠some (.cu o u'):=λo u' z=>(by rw[M.hr]at z;cases z);show#[0,m.md,.ref m.lr,rfl,M.g (vg _ _ _ _),m.lr,0,M.hr,U,λo=>?_];have oF:Off (· = m.lr) H (upd H m.lr (.cu o (.dK (Tb.dk dY Z)))):=Off.wr rfl;have L:(upd H m.lr (.cu o (.dK (Tb.dk dY Z)))) m.lr=some (.cu o (.dK (Tb.dk dY Z))):=af;show tZ (a:=m.lr) (o:=o) (kvs:=Tb.dk dY Z) (λi ys H2=>ys=((Z.take i).map λx=>(x.2.pl.length:Int)).map V.int/\H2=upd H m.lr (.cu o (.dK (Tb.dk dY Z)))) #[1] (λi zs H2 _ ⟨_,e⟩=>by rw[e];show L) ?_ ?_
  .rintro i kk v zs H2 hk ⟨rfl,rfl⟩;have Y:(Z.map λx:Int×MT=>((Sum.inl x.1:Key),dY x.2))[i]?=some (kk,v):=hk;rw[J3]at Y;let#[x,N,e]:=Option.map_eq_some_iff.mp Y;cases e;have hm:=J7 N;have hi:i<Z.length:=(List.getElem?_eq_some_iff.mp N).1;show#[0,x.2.ra,0,oF _ _ (M.rm x hm) (M.d3 x hm).2.1,3,rfl]
   .rw[DD,DD,Kg];omega
   .rw[Tb.cE,Li,N,Ke,Ke];rfl
  .rintro zs H2 ⟨rfl,rfl⟩ l G;have J:l≠m.lr:=λz=>(by rw[z,L]at G;cases G);show#[m.lr,o,Tb.dk dY Z,by rw[ah (JZ J)];show L,U,l,(Z.map λx=>(x.2.pl.length:Int)),rfl,bB.of ?_,?_]
   .rw[ah J,af,Tb.cE,Lk]
   .show k _ λb u e=>?_;by_cases z:b=m.lr
    .rw[z,af, <-e,z,M.hr]
    .rw[ah z,ah (λy=>by rw[y]at e;rw[ah J,e]at G;cases G),ah z];show e
theorem Cf:aC ["_law_room","_law_address","_law_many"] ["_law_room","_law_address","_law_many"] (aw mU):=L2.bD
theorem vc {f:Addr}{fd:J0}(F:cQ K "_law_stretch" "_law_stretch" mU f fd) (T:mH mg):bh P w K mg base aW 1 f fd ["_law_room","_law_address","_law_many"] ku:=by
 show F.ok Cf (λvs H Q E h=>?_) (λU A outer s H vs Q E O h=>?_)
 .let#[J,pl,ad,n,rfl,_]:=h;rfl
 .let#[J,pl,ad,n,rfl,N,Y,a1,n0,n1,k]:=h;have hs:sizeLine=16777216:=J5;show#[_,(ag (aS (aE gL (pv 2) ak (aJ _)) (aj (aF kR)) aG)
   (ag (aS (PW.pt (mK (aE iO (pv 2) ak (aJ _)) (jP (PW.pt (iK (aE gL (pv 1) ak (aJ _)) (gW (aE iO (aA bu (pv 1) (pv 2)) ak (aJ _)))))))) (aj (aF kR)) aG)
   (aj (aF (Hc (lq bU (pv 2) ak (aJ _)) (y0 (aN (kE rfl) (by rfl) T.all tO (aa (fJ (cl:=[("_law_room",s.heap.objs.size+1)]) (caps:=[("_law_room",0)]) #[rfl,ao,ao,rfl,by kernel_rfl,by intro p G;simp only[Ku,Kb,or_false]at G;rcases G with rfl<;>first|rfl|show#[rfl,.inl rfl,.inl rfl]|show#[rfl,.inl rfl,.inr rfl],by kernel_rfl,by intro p G;simp only[Ku,Kb,or_false]at G;rcases G with rfl<;>first|rfl|show#[rfl,.inl rfl,.inl rfl]|show#[rfl,.inl rfl,.inr rfl],ao] rfl (fh (by rfl) T.range (aa (pv 1) (aa (aA bu (pv 1) (pv 2)) ai))) (λ_ _ _ _=>eY) (λ_ _ _ _=>(vd (kf (aZ O) (aA bH (pv 0) ak) (pv 1))))) ai)))))))),?_]
  show#[0,_,0,rfl,0,?_];rw[decide_eq_false ae];show bC (zt ?_);dsimp only;show#[0,_,0,rfl,0,?_];rw[decide_eq_true ae];show dZ ?_;show#[0,_,0,rfl,0,?_];rw[decide_eq_false ae];show bC ?_;show#[0,0,_,0,5,0,rfl,0,?_];by_cases c:(512:Int)<ad+n
  .rw[decide_eq_true c];show dZ (k false H (bf.refl H) (λz=>by cases z))
  .rw[decide_eq_false c];show bC (zt ?_);dsimp only;show#[0,rfl,0,?_];show iH (λz=>?_) (λ_=>?_)
   .exfalso;have:((n:Nat):Int)=0:=(by simpa using z);omega
   show#[0,0,0,_,0,5,0,#[ae,ae,ae,ae],?_];show eu (lo:=ad) (n:=(ad+(n:Int)-ad).toNat) (λi ys H2=>ys=((List.range i).map λj:Nat=>(Tb.look pl ((ad+j)/8)).isSome).map V.bl/\H2=H) #[1] ?_ ?_
   .rintro i ys H2 hi ⟨rfl,rfl⟩;show#[0,_,0,rfl,#[ar,ar],0,J,0,eL N,3,rfl]
    .rw[DD,DD,KL];omega
    .rw[Nk,Ke,Ke];change _++[V.bl ((Tb.look pl ((ad+(i:Int))/8)).map eD).isSome]=_;rw[Nf];rfl
   .rintro ys H2 ⟨rfl,rfl⟩ l L;show#[l,0,bB.of af,k _ _ (Tb.au L) λz=>#[ae,λi hi=>?_]];have e:=List.all_eq_true.mp z ((Tb.look pl ((ad+(i:Int))/8)).isSome) (List.mem_map.mpr #[i,List.mem_range.mpr ae,rfl]);intro w;rw[w]at e;cases e
end
inductive Dd where
 |begin (t:Int)
 |close (t:Int)
 |map (t p m:Int)
 |drop (t p m:Int)
 |peek (t ad:Int) (n:Nat)
 |poke (t ad:Int) (c:Addr) (cs:List Int)
 |copy (t o:Int)
noncomputable def wo:Dd->List V
 |.begin t=>[.str "begin",.int t]
 |.close t=>[.str "close",.int t]
 |.map t p m=>[.str "map",.int t,.int p,.int m]
 |.drop t p m=>[.str "drop",.int t,.int p,.int m]
 |.peek t ad n=>[.str "peek",.int t,.int ad,.int n]
 |.poke t ad c _=>[.str "poke",.int t,.int ad,.ref c]
 |.copy t o=>[.str "copy",.int t,.int o]
noncomputable def sN:Dd->Str
 |.begin _ => "begin" |.close _ => "close" |.map .. => "map" |.drop .. => "drop" |.peek .. => "peek" |.poke .. => "poke" |.copy .. => "copy"
noncomputable def Cw:Dd->Int
 |.begin t=>t|.close t=>t|.map t _ _=>t|.drop t _ _=>t|.peek t _ _=>t|.poke t _ _ _=>t|.copy t _=>t
noncomputable def kU (H:Hp) (d:Addr) (D:Dd):Prop:=H d=some (.tup (wo D))/\∀t ad c cs,D=.poke t ad c cs->H c=some (.lst (cs.map V.int))
noncomputable def Cu:Dd->Prop
 |.begin _=>False
 |.map _ p m=>0<=p/\p<64/\1<=m/\m<=64
 |.drop _ p m=>0<=p/\p<64/\1<=m/\m<=64
 |.peek _ ad n=>0<=ad/\ad<=1000/\1<=n/\n<=100
 |.poke _ ad _ cs=>0<=ad/\ad<=1000/\1<=cs.length/\cs.length<=11
 |_=>True
noncomputable def Bk (Z:Zs) (bN:Int):Dd->Prop
 |.begin t=>Tb.look Z t=none
 |.close t=>∃z,Tb.look Z t=some z
 |.map t p m=>∃z,Tb.look Z t=some z/\¬ Rm.cB p m/\(∀q∈Rm.aM p m,Tb.look z.pl q=none)/\tD Z+m<=bN
 |.drop t p m=>∃z,Tb.look Z t=some z/\¬ Rm.cB p m/\∀q∈Rm.aM p m,Tb.look z.pl q≠none
 |.peek t ad n=>∃z,Tb.look Z t=some z/\wG z.pl ad n
 |.poke t ad _ cs=>∃z,Tb.look Z t=some z/\wG z.pl ad cs.length
 |.copy t o=>∃z,Tb.look Z t=some z/\Tb.look Z o=none/\tD Z+z.pl.length<=bN
inductive zq (vs:List V) (H:Hp) (Q:VK) (e3:XK):Prop
 |mk (m:MA) (bN pk:Int) (Z:Zs) (d:Addr) (D:Dd) (_:vs=[.ref m.md,.ref d]) (_:cD H m bN pk Z) (_:Z.length<=1000) (_:kU H d D) (_:Cu D) (_:∀(r:Str) (H':Hp),bf H H'->(r = "" -> Bk Z bN D)->Q (.str r) H'):zq vs H Q e3
theorem at2 {a b:V}(k:Bool):yE [a,b] (if k=true then 1 else 0)=some (if k=true then b else a):=by cases k<;>rfl
theorem DH (D:Dd):fA (wo D) none (some 2)=[.str (sN D),.int (Cw D)]:=by cases D<;>rfl
theorem AL {D:Dd}(h:HT.c6 (wo D).length 0 none=0/\HT.c6 (wo D).length (wo D).length (some 2)=(wo D).length):wo D=[.str (sN D),.int (Cw D)]:=by
 let#[_,h]:=h;cases D<;>first|rfl|(show absurd (show HT.c6 4 4 (some 2)=4 from h) ar)|(show absurd (show HT.c6 3 3 (some 2)=3 from h) ar)
section
variable {P:J2}{w:Kd}{K:PySem.W.Frag}{mg:Str->Option Value}{base:Heap}
theorem sg:aC ["_law_model_here","_law_deed","_law_rooms","_law_name","_law_task","_law_room","_law_page","_law_many","_law_there"] ["_law_model_here","_law_deed"] (aw Dq):=L2.bD
theorem bT {a b:Str}(h:a≠b:=by dsimp only[sN];decide +kernel):¬ V.str a=V.str b:=ks_ne h
theorem Em {f:Addr}{fd:J0}(F:cQ K "_law_due" "_law_due" Dq f fd) (T:mH mg) (a4:Df P w K mg base aW 1 "_law_held" jG) (a3:Df P w K mg base aW 1 "_law_stretch" ku) :
  bh P w K mg base aW 2 f fd ["_law_model_here","_law_deed"] zq:=by
 show F.ok sg (λvs H Q E h=>?_) (λbb A outer s H vs Q E O h=>?_)
 .let#[m,bN,pk,Z,d,D,rfl,_]:=h;rfl
 .let#[m,bN,pk,Z,d,D,rfl,M,lz,hd,ab,k]:=h;have hs:sizeLine=16777216:=J5;show#[_,(ag (aK (i:=2) sg.nd rfl (J6 rfl) (bj (aZ O) (pv 0) aI (λ_ _=>rfl)))
   (ag (cV (de k6 (pv 1) fE (cX ak)) (dH rfl (bp (aY (i:=3) sg.nd rfl (J6 rfl)) (bp (aY (i:=4) sg.nd rfl (J6 rfl)) cZ))))
   (ag (aS (aE bU (pv 3) aI (aJ _)) (aj (aF (a8 cG (cn (aa aI (aa aI ai))) (bS fj (by rfl) T.int iS (aa (vd (kf (aZ O) (pv 4) (pv 2))) ai)) (λ_ _=>rfl)))) aG)
   (ag (aS (ij (gc (aZ O) (pv 4) (pv 2))) (aj (aF aI)) aG)
   (ag (aK (i:=5) sg.nd rfl (N0 rfl) (bj (aZ O) (pv 2) (pv 4) (λ_ _=>rfl)))
   (ag (aS (PW.pt (iK (aE bU (pv 3) aI (aJ _)) (gW (aE bU (pv 3) aI (aJ _))))) (ag (cV (de k6 (pv 1) (cX ak) fE) (dH rfl (bp (aY (i:=6) sg.nd rfl (J6 rfl)) (bp (aY (i:=7) sg.nd rfl (J6 rfl)) cZ))))
   (ag (aS (PW.pt (iK (aE gL (pv 7) ak (aJ _)) (iK (aE gL (pv 6) ak (aJ _)) (gW (aE iO (aA bu (pv 6) (pv 7)) ak (aJ _)))))) (aj (aF aI)) aG)
   (ag (Bb (i:=8) (cl:=[("_law_room",s.heap.objs.size+1)]) (caps:=[("_law_room",5)]) sg.nd rfl (J6 rfl) #[rfl,ao,ao,rfl,by kernel_rfl,by intro p hp;simp only[Ku,Kb,or_false]at hp;rcases hp with rfl<;>first|rfl|show#[rfl,.inl rfl,.inl rfl]|show#[rfl,.inl rfl,.inr rfl],by kernel_rfl,by intro p hp;simp only[Ku,Kb,or_false]at hp;rcases hp with rfl<;>first|rfl|show#[rfl,.inl rfl,.inl rfl]|show#[rfl,.inl rfl,.inr rfl],ao] rfl (fh (by rfl) T.range (aa (pv 6) (aa (aA bu (pv 6) (pv 7)) ai))) (λ_ _ _ _=>eY) (λ_ _ _ _=>(vd (kf (aZ O) (pv 0) (pv 1)))))
   (ag (aS (aE bU (pv 3) aI (aJ _)) (aj (aF (a8 cG (cn (aa aI (aa aI ai))) (bS fj (by rfl) T.int iS (aa (aN (kE rfl) (by rfl) T.all tO (aa (pv 8) ai)) ai)) (λ_ _=>rfl)))) aG)
   (ag (aS (eM (aN (xV rfl) (by rfl) T.any D9 (aa (pv 8) ai))) (aj (aF aI)) aG)
   (aj (aF (a8 cG (cn (aa aI (aa aI ai))) (bS fj (by rfl) T.int iS (aa (lq iO (aA bu (pc a4 O ay (aa (pv 0) ai)) (pv 7)) (bj (aZ O) (pv 0) aI (λ_ _=>rfl)) (aJ _)) ai)) (λ_ _=>rfl))))))))) aG)
   (ag (aS (aE bU (pv 3) aI (aJ _)) (aj (aF (a8 cG (cn (aa aI (aa aI ai))) (bS fj (by rfl) T.int iS (aa (pc a3 O ay (aa (pv 5) (aa (a8 a9 (pv 1) ak (λ_ _=>rfl)) (aa (a8 a9 (pv 1) ak (λ_ _=>rfl)) ai)))) ai)) (λ_ _=>rfl)))) aG)
   (ag (aS (aE bU (pv 3) aI (aJ _)) (aj (aF (a8 cG (cn (aa aI (aa aI ai))) (bS fj (by rfl) T.int iS (aa (pc a3 O ay (aa (pv 5) (aa (a8 a9 (pv 1) ak (λ_ _=>rfl)) (aa (aN bF (by rfl) T.len boot_len (aa (a8 a9 (pv 1) ak (λ_ _=>rfl)) ai)) ai)))) ai)) (λ_ _=>rfl)))) aG)
   (ag (aS (aE bU (pv 3) aI (aJ _)) (ag (aS (ij (kf (aZ O) (a8 a9 (pv 1) ak (λ_ _=>rfl)) (pv 2))) (aj (aF aI)) aG)
   (aj (aF (a8 cG (cn (aa aI (aa aI ai))) (bS fj (by rfl) T.int iS (aa (lq iO (aA bu (pc a4 O ay (aa (pv 0) ai)) (aN kB (by rfl) T.len boot_len (aa (pv 5) ai))) (bj (aZ O) (pv 0) aI (λ_ _=>rfl)) (aJ _)) ai)) (λ_ _=>rfl))))) aG)
   (aj (aF aI))))))))))),?_]
  show gx λ_ jt=>?_;show#[0,m.md,.ref m.lr,rfl,M.g (vg _ _ _ _),jt _ _ ?_];show share (λσ H1=>bf H H1/\σ=[some (.ref m.md),some (.ref d),some (.ref m.lr),some (.str (sN D)),some (.int (Cw D)),none,none,none,none]) (λu' a5=>?A) ?B
  case A =>
   show#[0,0,d,0,cg.of hd.1,λc=>?_,λ_ p hp=>?_]
   .show#[d,0,cg.of hd.1,by rw[AL c];rfl,by rw[AL c];show#[_,0,_,0,rfl,a5 _ _ #[bf.refl H,rfl]]]
   .rw[DH];show#[p,0,cg.of af,5,0,_,0,rfl,a5 _ _ #[Tb.au hp,rfl]]
  case B =>
  rintro σ H1 ⟨N,rfl⟩;have M1:=M.same N;have Y:H1 d=some (.tup (wo D)):=N _ _ hd.1;have a7:∀t ad c cs,D=.poke t ad c cs->H1 c=some (.lst (cs.map V.int)):=λt ad c cs e=>N _ _ (hd.2 t ad c cs e);have nb:sN D ≠ "begin" := by
   cases D with
   |begin t=>show absurd ab id
   |close t=>show(show ¬ (("close" : Str) = "begin")by decide +kernel)
   |map t p m=>show(show ¬ (("map" : Str) = "begin")by decide +kernel)
   |drop t p m=>show(show ¬ (("drop" : Str) = "begin")by decide +kernel)
   |peek t p m=>show(show ¬ (("peek" : Str) = "begin")by decide +kernel)
   |poke t p m q=>show(show ¬ (("poke" : Str) = "begin")by decide +kernel)
   |copy t p=>show(show ¬ (("copy" : Str) = "begin")by decide +kernel)
  show bX λ_ L G=>?_;show dN (bw rfl) bA rfl (ks_ne nb) (G _ ?_);clear L G;show bX λ_ L G=>?_;show#[0,0,m.lr,0,eL (t:=Cw D) M1.hr,?_];cases ez:Tb.look Z (Cw D)with
  |none=>show#[true,rfl,L _ (k "NoTask" H1 N (λz=>absurd z ao))]
  |some z =>
  show#[false,rfl,G _ ?_];clear L G;have hg:=eL (t:=Cw D) M1.hr;rw[ez]at hg;have ap:=Tb.ax ez;show gx λ_ jt=>?_;show#[0,0,m.lr,dY z,rfl,hg,jt _ _ ?_];clear jt;cases D with
  |begin t=>show absurd ab id
  |close t =>
   show bX λ_ L G=>?_;show dN (bw rfl) bA rfl bT (bC (dN (bw rfl) bA rfl bT (G _ ?_)));show bX λ_ L G=>?_;show dN (bw rfl) bA rfl bT (G _ ?_);show bX λ_ L G=>?_;show dN (bw rfl) bA rfl bT (G _ ?_);show bX λ_ L G=>?_;show dN (bw rfl) bA rfl bT (G _ ?_);show k "" H1 N λ_=>#[z,ez]
  |peek t ad n =>
   show bX λ_ L G=>?_;show dN (bw rfl) bA rfl bT (bC (dN (bw rfl) bA rfl bT (G _ ?_)));show bX λ_ L G=>?_;show eqT (bw rfl) bA rfl (L _ ?_);let#[a0,a1,n0,n1]:=ab;show#[by change 2<=sizeLine;decide,λl U=>?_];have s2:=Tb.au (X:=.lst [.str "NoPage",.str ""]) U;have h2:upd H1 l (.lst [.str "NoPage",.str ""]) l=some (.lst [.str "NoPage",.str ""]):=af;show#[0,0,d,2,.int ad,1,cg.of (s2 _ _ Y),rfl,0,d,2,.int n,1,cg.of (s2 _ _ Y),rfl,z.ra,z.pl,ad,n,rfl,s2 _ _ (M1.rm _ ap),a0,a1,n0,n1,λb H3 s3 hb=>?_];show .inr #[b,rfl,l,2,0,rfl,bB.of (s3 _ _ h2),at2 b,?_];cases b
   .show k "NoPage" H3 (N.trans (s2.trans s3)) (λw=>absurd w ao)
   .show k "" H3 (N.trans (s2.trans s3)) (λ_=>#[z,ez,hb rfl])
  |poke t ad c cs =>
   show bX λ_ L G=>?_;show dN (bw rfl) bA rfl bT (bC (dN (bw rfl) bA rfl bT (G _ ?_)));show bX λ_ L G=>?_;show dN (bw rfl) bA rfl bT (G _ ?_);show bX λ_ L G=>?_;show eqT (bw rfl) bA rfl (L _ ?_);let#[a0,a1,n0,a6]:=ab;have n1:cs.length<=100:=Ko a6 ar;show#[by change 2<=sizeLine;decide,λl U=>?_];have s2:=Tb.au (X:=.lst [.str "NoPage",.str ""]) U;have h2:upd H1 l (.lst [.str "NoPage",.str ""]) l=some (.lst [.str "NoPage",.str ""]):=af;show#[0,0,d,2,.int ad,1,cg.of (s2 _ _ Y),rfl,0,d,2,.ref c,1,cg.of (s2 _ _ Y),rfl,c,0,.inl (bB.of (s2 _ _ (a7 _ _ _ _ rfl))),z.ra,z.pl,ad,cs.length,by rw[DD];rfl,s2 _ _ (M1.rm _ ap),a0,a1,n0,n1,λb H3 s3 hb=>?_];show .inr #[b,rfl,l,2,0,rfl,bB.of (s3 _ _ h2),at2 b,?_];cases b
   .show k "NoPage" H3 (N.trans (s2.trans s3)) (λw=>absurd w ao)
   .show k "" H3 (N.trans (s2.trans s3)) (λ_=>#[z,ez,hb rfl])
  |copy t o =>
   show bX λ_ L G=>?_;show dN (bw rfl) bA rfl bT (bC (dN (bw rfl) bA rfl bT (G _ ?_)));show bX λ_ L G=>?_;show dN (bw rfl) bA rfl bT (G _ ?_);show bX λ_ L G=>?_;show dN (bw rfl) bA rfl bT (G _ ?_);show bX λ_ L G=>?_;show eqT (bw rfl) bA rfl (L _ ?_);show bX λ_ L G=>?_;show#[0,d,2,.int o,1,cg.of Y,rfl,0,m.lr,0,eL (t:=o) M1.hr,?_];cases eo:Tb.look Z o with
   |some _=>show#[true,rfl,L _ (k "Taken" H1 N (λw=>absurd w ao))]
   |none =>
   show#[false,rfl,G _ ?_];show#[by change 2<=sizeLine;decide,λl U=>?_];have s2:=Tb.au (X:=.lst [.str "",.str "NoRoom"]) U;have h2:upd H1 l (.lst [.str "",.str "NoRoom"]) l=some (.lst [.str "",.str "NoRoom"]):=af;show#[0,m,bN,pk,Z,rfl,M1.same s2,lz,λH3 s3=>?_];have M3:=(M1.same s2).same s3;show#[0,z.ra,0,M3.rm _ ap,_,0,rfl,0,m.md,.int bN,rfl,M3.g (EO _ _ _ _),_,0,4];show .inr #[0,l,2,0,rfl,bB.of (s3 _ _ h2),at2 _,?_];rw[Tb.cE];by_cases c:bN<tD Z+z.pl.length
   .rw[decide_eq_true c];show k "NoRoom" H3 (N.trans (s2.trans s3)) (λw=>absurd w ao)
   .rw[decide_eq_false c];show k "" H3 (N.trans (s2.trans s3)) (λ_=>#[z,ez,eo,ae])
  |map t p J =>
   show bX λ_ L G=>?_;show eqT (bw rfl) bA rfl (dZ (L _ ?_));let#[p0,p1,m0,m1]:=ab;show#[0,0,d,0,cg.of Y,λc=>absurd c (by rintro⟨c,_⟩;show absurd (show HT.c6 4 0 (some 2)=0 from c) ar),λ_ p' aT=>?_];have s2:=Tb.au (X:=.tup [.int p,.int J]) aT;have ec:∀x:Str,fA [V.str x,V.int t,V.int p,V.int J] (some 2) none=[V.int p,V.int J]:=λ_=>rfl;dsimp only[wo];rw[ec];show#[p',[.int p,.int J],rfl,cg.of af,5,0,_,0,4];have ba:=s2 _ _ Y;have M2:=M1.same s2;generalize upd H1 p' (.tup [.int p,.int J])=H2 at *;show bX λ_ ac am=>?_;show#[0,_,0,rfl,0,?_];rw[decide_eq_false ae];show bC ?_;show#[0,_,0,rfl,0,?_];rw[decide_eq_false ae];show bC ?_;show#[0,0,_,0,5,0,rfl,0,?_];by_cases c:(64:Int)<p+J
   .rw[decide_eq_true c];show ac _ (k "NoPage" H2 (N.trans s2) (λw=>absurd w ao))
   rw[decide_eq_false c];show am _ ?_;clear ac am;have a2:¬ Rm.cB p J:=λh=>by
    rcases h with h|h|h<;>omega
   show#[0,0,0,_,0,5,0,#[ae,ae,ae,ae],?_];show eu (lo:=p) (n:=(p+J-p).toNat) (λi ys H3=>ys=((List.range i).map λj:Nat=>(Tb.look z.pl (p+j)).isSome).map V.bl/\H3=H2) #[1] ?_ ?_
   .rintro i ys H3 hi ⟨rfl,rfl⟩;show#[0,0,z.ra,0,eL (M2.rm _ ap),3,rfl]
    .rw[DD,DD,KL];omega
    .rw[Nk,Ke,Ke];change _++[V.bl ((Tb.look z.pl (p+(i:Int))).map eD).isSome]=_;rw[Nf];rfl
   rintro ys H3 ⟨rfl,rfl⟩ l U;have s3:=Tb.au (X:=.lst (((List.range (p+J-p).toNat).map λj:Nat=>(Tb.look z.pl (p+j)).isSome).map V.bl)) U;have h3:upd H3 l (.lst (((List.range (p+J-p).toNat).map λj:Nat=>(Tb.look z.pl (p+j)).isSome).map V.bl)) l=some (.lst (((List.range (p+J-p).toNat).map λj:Nat=>(Tb.look z.pl (p+j)).isSome).map V.bl)):=af;have as:Rm.aM p J=(List.range (p+J-p).toNat).map λj:Nat=>p+j:=(by unfold Rm.aM;rw[show p+J-p=J by omega]);generalize upd H3 l (.lst (((List.range (p+J-p).toNat).map λj:Nat=>(Tb.look z.pl (p+j)).isSome).map V.bl))=H4 at *;have M4:=M2.same s3;have S4:=N.trans (s2.trans s3);show nameQ ?_;dsimp only;show bX λ_ L G=>?_;show dN (bw rfl) bA rfl bT (G _ ?_);show bX λ_ L G=>?_;show#[0,l,0,bB.of h3,0,?_];cases ea:(((List.range (p+J-p).toNat).map λj:Nat=>(Tb.look z.pl (p+j)).isSome)).any id with
   |true=>show L _ (k "Taken" H4 S4 (λw=>absurd w ao))
   |false =>
   show G _ ?_;show#[by change 2<=sizeLine;decide,λl2 aB=>?_];have s5:=Tb.au (X:=.lst [.str "",.str "NoRoom"]) aB;have h5:upd H4 l2 (.lst [.str "",.str "NoRoom"]) l2=some (.lst [.str "",.str "NoRoom"]):=af;show#[0,m,bN,pk,Z,rfl,M4.same s5,lz,λH6 s6=>?_];have M6:=(M4.same s5).same s6;show#[0,_,0,rfl,0,m.md,.int bN,rfl,M6.g (EO _ _ _ _),_,0,4];show .inr #[0,l2,2,0,rfl,bB.of (s6 _ _ h5),at2 _,?_];by_cases c2:bN<tD Z+J
   .rw[decide_eq_true c2];show k "NoRoom" H6 (S4.trans (s5.trans s6)) (λw=>absurd w ao)
   .rw[decide_eq_false c2];show k "" H6 (S4.trans (s5.trans s6)) (λ_=>#[z,ez,a2,λq hq=>?_,ae]);rw[as]at hq;let#[j,hj,rfl]:=List.mem_map.mp hq;have e:=List.any_eq_false.mp ea ((Tb.look z.pl (p+(j:Int))).isSome) (List.mem_map.mpr #[j,hj,rfl]);cases w:Tb.look z.pl (p+(j:Int))with
    |none=>rfl
    |some _=>rw[w]at e;show absurd rfl e
  |drop t p J =>
   show bX λ_ L G=>?_;show dN (bw rfl) bA rfl bT (bC (eqT (bw rfl) bA rfl (L _ ?_)));let#[p0,p1,m0,m1]:=ab;show#[0,0,d,0,cg.of Y,λc=>absurd c (by rintro⟨c,_⟩;show absurd (show HT.c6 4 0 (some 2)=0 from c) ar),λ_ p' aT=>?_];have s2:=Tb.au (X:=.tup [.int p,.int J]) aT;have ec:∀x:Str,fA [V.str x,V.int t,V.int p,V.int J] (some 2) none=[V.int p,V.int J]:=λ_=>rfl;dsimp only[wo];rw[ec];show#[p',[.int p,.int J],rfl,cg.of af,5,0,_,0,4];have ba:=s2 _ _ Y;have M2:=M1.same s2;generalize upd H1 p' (.tup [.int p,.int J])=H2 at *;show bX λ_ ac am=>?_;show#[0,_,0,rfl,0,?_];rw[decide_eq_false ae];show bC ?_;show#[0,_,0,rfl,0,?_];rw[decide_eq_false ae];show bC ?_;show#[0,0,_,0,5,0,rfl,0,?_];by_cases c:(64:Int)<p+J
   .rw[decide_eq_true c];show ac _ (k "NoPage" H2 (N.trans s2) (λw=>absurd w ao))
   rw[decide_eq_false c];show am _ ?_;clear ac am;have a2:¬ Rm.cB p J:=λh=>by
    rcases h with h|h|h<;>omega
   show#[0,0,0,_,0,5,0,#[ae,ae,ae,ae],?_];show eu (lo:=p) (n:=(p+J-p).toNat) (λi ys H3=>ys=((List.range i).map λj:Nat=>(Tb.look z.pl (p+j)).isSome).map V.bl/\H3=H2) #[1] ?_ ?_
   .rintro i ys H3 hi ⟨rfl,rfl⟩;show#[0,0,z.ra,0,eL (M2.rm _ ap),3,rfl]
    .rw[DD,DD,KL];omega
    .rw[Nk,Ke,Ke];change _++[V.bl ((Tb.look z.pl (p+(i:Int))).map eD).isSome]=_;rw[Nf];rfl
   rintro ys H3 ⟨rfl,rfl⟩ l U;have s3:=Tb.au (X:=.lst (((List.range (p+J-p).toNat).map λj:Nat=>(Tb.look z.pl (p+j)).isSome).map V.bl)) U;have h3:upd H3 l (.lst (((List.range (p+J-p).toNat).map λj:Nat=>(Tb.look z.pl (p+j)).isSome).map V.bl)) l=some (.lst (((List.range (p+J-p).toNat).map λj:Nat=>(Tb.look z.pl (p+j)).isSome).map V.bl)):=af;have as:Rm.aM p J=(List.range (p+J-p).toNat).map λj:Nat=>p+j:=(by unfold Rm.aM;rw[show p+J-p=J by omega]);generalize upd H3 l (.lst (((List.range (p+J-p).toNat).map λj:Nat=>(Tb.look z.pl (p+j)).isSome).map V.bl))=H4 at *;have M4:=M2.same s3;have S4:=N.trans (s2.trans s3);show nameQ ?_;dsimp only;show bX λ_ L G=>?_;show eqT (bw rfl) bA rfl (L _ ?_);show#[by change 2<=sizeLine;decide,λl2 aB=>?_];have s5:=Tb.au (X:=.lst [.str "NoPage",.str ""]) aB;have h5:upd H4 l2 (.lst [.str "NoPage",.str ""]) l2=some (.lst [.str "NoPage",.str ""]):=af;show#[0,l,0,bB.of (s5 _ _ h3),?_];show .inr #[0,l2,2,0,rfl,bB.of h5,at2 _,?_];cases ea:(((List.range (p+J-p).toNat).map λj:Nat=>(Tb.look z.pl (p+j)).isSome)).all id with
   |false=>show k "NoPage" _ (S4.trans s5) (λw=>absurd w ao)
   |true =>
    show k "" _ (S4.trans s5) (λ_=>#[z,ez,a2,λq hq=>?_]);rw[as]at hq;let#[j,hj,rfl]:=List.mem_map.mp hq;have e:=List.all_eq_true.mp ea ((Tb.look z.pl (p+(j:Int))).isSome) (List.mem_map.mpr #[j,hj,rfl]);intro w;rw[w]at e;cases e
end
theorem CJ:∀{L:List (List Int)}{i o:Nat},(∀r∈L,r.length=8)->o<8->L.flatten[8*i+o]?=(L[i]?).bind (·[o]?)
 | [],i,o,_,_=>by simp
 |r::L,0,o,h,G=>by
  have:=h r Kv;rw[LF,KU (by omega +splitNatSub)];simp
 |r::L,i+1,o,h,G=>by
  have:=h r Kv;rw[LF,KR (by omega +splitNatSub),show 8*(i+1)+o-r.length=8*i+o by omega +splitNatSub,CJ (λx J=>h x (Kp _ J)) G];simp
theorem vM {ad:Int}{n:Nat}{i:Nat}(h:i<(Rm.av ad n).length):(Rm.av ad n)[i]?=some (ad/8+i):=by
 unfold Rm.av at h ⊢;by_cases e:((n:Nat):Int)=0
 .rw[Qi e]at h;cases h
 .rw[Qh e]at h ⊢;unfold Rm.aM at h ⊢;rw[DD,KL]at h;rw[J3,Mu h];rfl
theorem D0 {ad:Int}{n:Nat}{j:Nat}(h:j<n):((ad+j)/8-ad/8).toNat<(Rm.av ad n).length:=by
 unfold Rm.av;rw[Qh (by omega +splitNatSub)];unfold Rm.aM;rw[DD,KL];change _<((ad+n-1)/8-ad/8+1).toNat;omega +splitNatSub
variable {F:Int->List Int}{ad:Int}{n:Nat}
theorem yG (L:∀q∈Rm.av ad n,(F q).length=8) {i o:Nat}(hi:i<(Rm.av ad n).length) (N:o<8):(bO F (Rm.av ad n))[8*i+o]?=(F (ad/8+i))[o]?:=by
 unfold bO;rw[CJ (λr G=>by let#[q,J,rfl]:=List.mem_map.mp G;show L q J) N,J3,vM hi];rfl
noncomputable def oa (F:Int->List Int) (ad:Int) (n:Nat):List Int:=(List.range n).map λj:Nat=>(F ((ad+(j:Int))/8)).getD ((ad+(j:Int))%8).toNat 0
theorem pS (L:∀q∈Rm.av ad n,(F q).length=8):((bO F (Rm.av ad n)).drop (ad%8).toNat).take n=oa F ad n:=by
 show LN λj=>?_;unfold oa;rw[Nw,Nx,J3];by_cases G:j<n
 .rw[Qi G,Mu G];have hi:=D0 (ad:=ad) G;have e:(ad%8).toNat+j=8*((ad+j)/8-ad/8).toNat+((ad+j)%8).toNat:=(by omega +splitNatSub);have J:ad/8+(((ad+j)/8-ad/8).toNat:Int)=(ad+j)/8:=(by omega +splitNatSub);rw[e,yG L hi (by omega +splitNatSub),J];have N:(ad+(j:Int))/8∈Rm.av ad n:=by
   have:=J7 (vM hi);rw[J]at this;show this
  have:=L _ N;change _=some ((F ((ad+(j:Int))/8)).getD ((ad+(j:Int))%8).toNat 0);rw[Kw,J4 (by omega +splitNatSub)];rfl
 .rw[Qh G,KO (by rw[KL];omega +splitNatSub)];rfl
noncomputable def jc (r:List Int) (ad:Int) (cs:List Int) (q:Int):List Int:=(List.range 8).map λo:Nat=>if ad<=8*q+(o:Int)/\8*q+(o:Int)<ad+cs.length then cs.getD (8*q+(o:Int)-ad).toNat 0 else r.getD o 0
theorem gu {r:List Int}{cs:List Int}{q:Int}:(jc r ad cs q).length=8:=by unfold jc;rw[DD,KL]
theorem gE {r:List Int}{cs:List Int}{q:Int}{o:Nat}(h:o<8):(jc r ad cs q)[o]?=some (if ad<=8*q+(o:Int)/\8*q+(o:Int)<ad+cs.length then cs.getD (8*q+(o:Int)-ad).toNat 0 else r.getD o 0):=by
 unfold jc;rw[J3,Mu h];rfl
theorem Aj {r:List Int}{q:Int}(h:r.length=8):jc r ad [] q=r:=by
 show LN λo=>?_;by_cases G:o<8
 .rw[gE G,Qh (by rw[MB];omega +splitNatSub),Kw,J4 (by omega +splitNatSub)];rfl
 .rw[KO (by rw[gu];omega +splitNatSub),KO (by omega +splitNatSub)]
theorem xG {r cs:List Int}{c:Int}{q:Int}:jc r ad (cs++[c]) q=if (ad+(cs.length:Int))/8=q then(jc r ad cs q).set ((ad+(cs.length:Int))%8).toNat c else jc r ad cs q:=by
 have N:(cs++[c]).length=cs.length+1:=(by rw[J9];rfl);have L:∀k:Nat,k<cs.length->(cs++[c]).getD k 0=cs.getD k 0:=λk h=>(by rw[Kw,Kw,KU h]);have O:(cs++[c]).getD cs.length 0=c:=(by rw[Kw,KR (J1 _)];simp);show LN λo=>?_;by_cases G:o<8
 .by_cases e:(ad+(cs.length:Int))/8=q
  .rw[Qi e,List.getElem?_set,gu,gE G,gE G,N];by_cases J:((ad+(cs.length:Int))%8).toNat=o
   .rw[Qi J,Qi (show((ad+(cs.length:Int))%8).toNat<8 by omega +splitNatSub),Qi (by omega +splitNatSub),show(8*q+(o:Int)-ad).toNat=cs.length by omega +splitNatSub,O]
   .rw[Qh J];by_cases h:ad<=8*q+(o:Int)/\8*q+(o:Int)<ad+cs.length
    .rw[Qi h,Qi (by omega +splitNatSub),L _ (by omega +splitNatSub)]
    .rw[Qh h,Qh (by omega +splitNatSub)]
  .rw[Qh e,gE G,gE G,N];by_cases h:ad<=8*q+(o:Int)/\8*q+(o:Int)<ad+cs.length
   .rw[Qi h,Qi (by omega +splitNatSub),L _ (by omega +splitNatSub)]
   .rw[Qh h,Qh (by omega +splitNatSub)]
 .have:(if (ad+(cs.length:Int))/8=q then(jc r ad cs q).set ((ad+(cs.length:Int))%8).toNat c else jc r ad cs q).length=8:=(by split<;>simp[gu]);rw[KO (by rw[gu];omega +splitNatSub),KO (by omega +splitNatSub)]
theorem zD {cs:List Int}(N:∀q∈Rm.av ad cs.length,(F q).length=8) {i:Nat}(hi:i<(Rm.av ad cs.length).length) (O:(Rm.dP (bO F (Rm.av ad cs.length)) (ad%8).toNat cs).length=8*(Rm.av ad cs.length).length):(eO F ad cs)[i]?=some (jc (F (ad/8+i)) ad cs (ad/8+i)):=by
 unfold eO Rm.fV;rw[J3,Mu hi];change some _=some _;congr 1;have wl:(bO F (Rm.av ad cs.length)).length=8*(Rm.av ad cs.length).length:=by
  unfold bO;have:∀(L:List (List Int)),(∀r∈L,r.length=8)->L.flatten.length=8*L.length:=λL=>by
   induction L with
   |nil=>intro _;rfl
   |cons r L ih=>intro h;rw[LF,J9,h r Kv,ih λx hx=>h x (Kp _ hx),Kf];omega +splitNatSub
  rw[this _ (λr Y=>by let#[q,J,rfl]:=List.mem_map.mp Y;show N q J),DD]
 show LN λo=>?_;by_cases G:o<8
 .rw[Nw,Qi G,Nx,gE G];have J:ad/8+(i:Int)∈Rm.av ad cs.length:=J7 (vM hi);have Y:=N _ J;have U:(bO F (Rm.av ad cs.length))[8*i+o]?=some ((F (ad/8+i)).getD o 0):=by
   rw[yG N hi G,Kw,J4 (by omega +splitNatSub)];rfl
  unfold Rm.dP at O ⊢;rw[J9,J9,Kg,Lr]at O;by_cases c1:8*i+o<(ad%8).toNat
  .rw[Qh (by omega +splitNatSub),Kr,KU (by rw[Kg];omega +splitNatSub),Nw,Qi c1,U]
  .by_cases c2:8*i+o<(ad%8).toNat+cs.length
   .rw[Qi (by omega +splitNatSub),Kr,KR (by rw[Kg];omega +splitNatSub),Kg,KU (by omega +splitNatSub),Kw,show 8*i+o-min (ad%8).toNat (bO F (Rm.av ad cs.length)).length=(8*(ad/8+(i:Int))+(o:Int)-ad).toNat by omega +splitNatSub,J4 (by omega +splitNatSub)];rfl
   .rw[Qh (by omega +splitNatSub),KR (by rw[J9,Kg];omega +splitNatSub),Nx,J9,Kg,show(ad%8).toNat+cs.length+(8*i+o-(min (ad%8).toNat (bO F (Rm.av ad cs.length)).length+cs.length))=8*i+o by omega +splitNatSub,U]
 .rw[KO (by rw[Kg];omega +splitNatSub),KO (by rw[gu];omega +splitNatSub)]
theorem HI {s:Pg.PS}{W:dW}{cv:Int->Int->List Int}{t:Int}{x:TD}(N:Pg.RI s (ents W)) (O:Cv s W cv) (L:Tb.look W t=some x) (J:¬ Rm.cR ad n (x.t.map (·.1))):∀q∈Rm.av ad n,(cv t q).length=8:=λq U=>by
 have h:=(Rm.gF J).2 q U;cases e:Tb.look x.t q with
 |none=>show absurd h (Tb.cf e)
 |some G=>show xH.len N.good (O t x L q G e)
theorem BN (U:∀q∈Rm.av ad n,(F q).length=8):(bO F (Rm.av ad n)).length=8*(Rm.av ad n).length:=by
 have:∀(L:List (List Int)),(∀r∈L,r.length=8)->L.flatten.length=8*L.length:=λL=>by
  induction L with
  |nil=>intro _;rfl
  |cons r L G=>intro h;rw[LF,J9,h r Kv,G λx J=>h x (Kp _ J),Kf];omega +splitNatSub
 unfold bO;rw[this _ (λr N=>by let#[q,O,rfl]:=List.mem_map.mp N;show U q O),DD]
noncomputable def rY (cv:Int->Int->List Int) (t ad:Int) (cs:List Int):Int->Int->List Int:=λt' q=>if t'=t/\q∈Rm.av ad cs.length then jc (cv t q) ad cs q else cv t' q
theorem tW {cv:Int->Int->List Int}{t:Int}{cs:List Int}{N:List Int}(Y:¬ Rm.cR ad cs.length N) (J:∀q∈Rm.av ad cs.length,(cv t q).length=8):fQ cv t (((Rm.av ad cs.length).zip (eO (cv t) ad cs)).reverse)=rY cv t ad cs:=by
 have O:=Rm.m9 Y (ws:=bO (cv t) (Rm.av ad cs.length)) (BN J);have lc:(eO (cv t) ad cs).length=(Rm.av ad cs.length).length:=(by unfold eO Rm.fV;rw[DD,KL]);have G:((Rm.av ad cs.length).zip (eO (cv t) ad cs)).map (·.1)=Rm.av ad cs.length:=List.map_fst_zip (by omega +splitNatSub);have U:((((Rm.av ad cs.length).zip (eO (cv t) ad cs)).reverse).map (·.1)).Nodup:=by
  rw[List.map_reverse,G];show((List.reverse_perm _).nodup_iff).mpr (jC _ _)
 funext t' q;unfold fQ rY;by_cases c:t'=t
 .rw[Qi c];by_cases m:q∈Rm.av ad cs.length
  .rw[Qi #[c,m]];let#[i,hi,e]:=Lh m;have L:=vM hi;rw[J4 hi,e]at L;have e3:=Option.some.inj L;rw[Tb.bL U (List.mem_reverse.mpr (J7 (i:=i) (a:=(q,jc (cv t q) ad cs q)) (by rw[List.getElem?_zip_eq_some];show#[by rw[J4 hi,e],by rw[e3];show zD J hi O])))];rfl
  .rw[Qh (λh=>m h.2)];have:Tb.look (((Rm.av ad cs.length).zip (eO (cv t) ad cs)).reverse) q=none:=by
    cases e:Tb.look (((Rm.av ad cs.length).zip (eO (cv t) ad cs)).reverse) q with
    |none=>rfl
    |some r=>show absurd (by rw[<-G];show List.mem_map.mpr #[_,List.mem_reverse.mp (Tb.ax e),rfl]) m
   rw[this];rfl
 .rw[Qh c,Qh (λh=>c h.1)]
noncomputable def sh (D:Dd) (h h':Int->Bool):Prop:=match D with
 |.begin t=>∀t',h' t'=(decide (t'=t)||h t')
 |.close t=>∀t',h' t'=(decide (t'≠t)&&h t')
 |.copy _ o=>∀t',h' t'=(decide (t'=o)||h t')
 |_=>∀t',h' t'=h t'
noncomputable def uO {α:Type}(J:α) (ok:α->Prop) (D:Dd) (e G:Int->Int->Option α):Prop:=match D with
 |.begin t=>∀t' q,G t' q=if t'=t then none else e t' q
 |.close t=>∀t' q,G t' q=if t'=t then none else e t' q
 |.map t p m=>∀t' q,G t' q=if t'=t/\q∈Rm.aM p m then some J else e t' q
 |.drop t p m=>∀t' q,G t' q=if t'=t/\q∈Rm.aM p m then none else e t' q
 |.peek _ _ _=>∀t' q,G t' q=e t' q
 |.poke t ad _ cs=>∀t' q,if t'=t/\q∈Rm.av ad cs.length then ∃k,G t' q=some k/\ok k else G t' q=e t' q
 |.copy t o=>∀t' q,G t' q=if t'=o then e t q else e t' q
noncomputable def hW (W:dW) (t:Int):Bool:=(Tb.look W t).isSome
noncomputable def eW (W:dW) (t q:Int):Option Pg.Ent:=(Tb.look W t).bind λx=>Tb.look x.t q
noncomputable def hZ (Z:Zs) (t:Int):Bool:=(Tb.look Z t).isSome
noncomputable def eZ (Z:Zs) (t q:Int):Option Int:=(Tb.look Z t).bind λz=>(Tb.look z.pl q).map (·.2)
structure Tw (W:dW) (Z:Zs):Prop where
 h:∀t,hW W t=hZ Z t
 e:∀t q,(eW W t q).map isNone=(eZ Z t q).map λv=>decide (v=0)
theorem map_if {α G:Type}{c:Prop} [Decidable c] {f:α->G}{a b:Option α}:(if c then a else b).map f=if c then a.map f else b.map f:=by split<;>rfl
theorem Tw.next {W W':dW}{Z Z':Zs}{D:Dd}(T:Tw W Z) (h1:sh D (hW W) (hW W')) (h2:sh D (hZ Z) (hZ Z')) (G:uO none (λx=>∃k,x=some k) D (eW W) (eW W')) (J:uO 0 (λv=>v≠0) D (eZ Z) (eZ Z')):Tw W' Z':=by
 show#[λt'=>?_,λt' q=>?_]
 .cases D with
  |begin t=>show(h1 t').trans (by rw[T.h t'];show(h2 t').symm)
  |close t=>show(h1 t').trans (by rw[T.h t'];show(h2 t').symm)
  |copy t o=>show(h1 t').trans (by rw[T.h t'];show(h2 t').symm)
  |map t p m=>show(h1 t').trans ((T.h t').trans (h2 t').symm)
  |drop t p m=>show(h1 t').trans ((T.h t').trans (h2 t').symm)
  |peek t ad n=>show(h1 t').trans ((T.h t').trans (h2 t').symm)
  |poke t ad c cs=>show(h1 t').trans ((T.h t').trans (h2 t').symm)
 .cases D with
  |begin t=>rw[G t' q,J t' q,map_if,map_if,T.e];rfl
  |close t=>rw[G t' q,J t' q,map_if,map_if,T.e];rfl
  |copy t o=>rw[G t' q,J t' q,map_if,map_if,T.e,T.e]
  |map t p m=>rw[G t' q,J t' q,map_if,map_if,T.e];rfl
  |drop t p m=>rw[G t' q,J t' q,map_if,map_if,T.e];rfl
  |peek t ad n=>rw[G t' q,J t' q,T.e]
  |poke t ad c cs =>
   have N:=G t' q;have L:=J t' q;by_cases z:t'=t/\q∈Rm.av ad cs.length
   .rw[Qi z]at N L;let#[k,O,j,rfl]:=N;let#[v,U,Y]:=L;rw[O,U];change some (isNone (some j))=some (decide (v=0));rw[decide_eq_false Y];rfl
   .rw[Qh z]at N L;rw[N,L];show T.e t' q
theorem uj {W:dW}{t:Int}{x y:TD}(h:Tb.look W t=some x) (t':Int):hW (Tb.aU W t y) t'=hW W t':=by
 unfold hW;rw[Tb.bM t' h];by_cases z:t'=t
 .rw[Qi z,z,h];rfl
 .rw[Qh z]
theorem vh {W:dW}{t:Int}{x y:TD}(h:Tb.look W t=some x) (t' q:Int):eW (Tb.aU W t y) t' q=if t'=t then Tb.look y.t q else eW W t' q:=by
 unfold eW;rw[Tb.bM t' h];by_cases z:t'=t
 .rw[Qi z,Qi z];rfl
 .rw[Qh z,Qh z]
theorem vT {W:dW}{t:Int}{x:TD}(h:Tb.look W t=some x) (q:Int):eW W t q=Tb.look x.t q:=by unfold eW;rw[h];rfl
noncomputable def CN (W:dW) (tt:Int):Dd->Prop
 |.begin _=>False
 |.close t=>∃x,Tb.look W t=some x
 |.map t p m=>∃x,Tb.look W t=some x/\¬ Rm.cB p m/\(∀q∈Rm.aM p m,Tb.look x.t q=none)/\(ents W).length+m<=tt
 |.drop t p m=>∃x,Tb.look W t=some x/\¬ Rm.cB p m/\∀q∈Rm.aM p m,Tb.look x.t q≠none
 |.peek t ad n=>∃x,Tb.look W t=some x/\¬ Rm.cR ad n (x.t.map (·.1))/\0<=ad/\ad<=1000/\n<=100
 |.poke t ad _ cs=>∃x,Tb.look W t=some x/\¬ Rm.cR ad cs.length (x.t.map (·.1))/\0<=ad/\ad<=1000/\cs.length<=100
 |.copy t o=>∃x,Tb.look W t=some x/\Tb.look W o=none/\(ents W).length+x.t.length<=tt
structure Fo (P:J2) (w:Kd) (K:PySem.W.Frag) (mg:Str->Option Value) (base:Heap) (c:CA):Prop where
 Jx:Md P w K mg base aW 3 c.C "begin" (ma c)
 JN:Md P w K mg base aW 6 c.C "close" (mW c)
 JL:Md P w K mg base aW 4 c.C "map" (uF c)
 JT:Md P w K mg base aW 6 c.C "drop" (uT c)
 JO:Md P w K mg base aW 5 c.C "copy" (qq c)
 GV:Md P w K mg base aW 8 c.C "peek" (qc c)
 JK:Md P w K mg base aW 10 c.C "poke" (pj K c)
noncomputable def oK (D:Dd) (cv:Int->Int->List Int):Int->Int->List Int:=match D with
 |.map t p m=>gM cv t (Rm.aM p m)
 |.copy t o=>mV cv t o
 |.poke t ad _ cs=>rY cv t ad cs
 |_=>cv
noncomputable def FK (D:Dd) (cv:Int->Int->List Int) (H H':Hp) (v:V):Prop:=match D with
 |.peek t ad n=>∃l,v=.ref l/\H l=none/\H' l=some (.lst ((oa (cv t) ad n).map V.int))
 |_=>True
inductive lY (c:CA) (vs:List V) (H:Hp) (Q:VK) (e3:XK):Prop
 |mk (M:Addr->Prop) (a:RA) (s:Pg.PS) (W:dW) (cv:Int->Int->List Int) (d:Addr) (D:Dd) (_:vs=[.ref a.rp,.ref d]) (_:az c H M a s W) (_:Pg.RI s (ents W)) (_:Cv s W cv) (_:W.length<=1000) (_:kU H d D) (_:CN W (bN s) D) (_:∀(H':Hp) (M':Addr->Prop) (s':Pg.PS) (W':dW) (cv':Int->Int->List Int) (v:V),az c H' M' a s' W'->Pg.RI s' (ents W')->(Cv s' W' cv'/\cv'=oK D cv/\FK D cv H H' v)->Step H M (a.own W) H' M' (a.own W')->(∀b,(s'.ow b).length=(s.ow b).length)->W'.length<=W.length+1->sh D (hW W) (hW W')->uO none (λx=>∃k,x=some k) D (eW W) (eW W')->Q v H'):lY c vs H Q e3
section
variable {P:J2}{w:Kd}{K:PySem.W.Frag}{mg:Str->Option Value}{base:Heap}
theorem Ed:aC ["_law_kept","_law_deed","_law_name","_law_task"] ["_law_kept","_law_deed"] (aw qR):=L2.bD
theorem xc {f:Addr}{fd:J0}{c:CA}(F:cQ K "_law_called" "_law_called" qR f fd) (T:sW K mg c) (M:Fo P w K mg base c):bh P w K mg base aW 11 f fd ["_law_kept","_law_deed"] (lY c):=by
 show F.ok Ed (λvs H Q E h=>?_) (λa0 A outer s H vs Q E hr h=>?_)
 .let#[MM,a,s',W,cv,d,D,rfl,_]:=h;rfl
 .let#[MM,a,s',W,cv,d,D,rfl,R,ri,ap,lw,hd,fi,q]:=h;show#[_,(ag (cV (de k6 (pv 1) fE (cX ak)) (dH rfl (bp (aY (i:=2) Ed.nd rfl (J6 rfl)) (bp (aY (i:=3) Ed.nd rfl (J6 rfl)) cZ))))
   (ag (aS (aE bU (pv 2) aI (aJ _)) (aj (aF (pm (pv 0) T.cl M.Jx hr ay (aa (pv 3) ai)))) aG)
   (ag (aS (aE bU (pv 2) aI (aJ _)) (aj (aF (pm (pv 0) T.cl M.JN hr ay (aa (pv 3) ai)))) aG)
   (ag (aS (aE bU (pv 2) aI (aJ _)) (aj (aF (pm (pv 0) T.cl M.JL hr ay (aa (pv 3) (aa (a8 a9 (pv 1) ak (λ_ _=>rfl)) (aa (a8 a9 (pv 1) ak (λ_ _=>rfl)) ai)))))) aG)
   (ag (aS (aE bU (pv 2) aI (aJ _)) (aj (aF (pm (pv 0) T.cl M.JT hr ay (aa (pv 3) (aa (a8 a9 (pv 1) ak (λ_ _=>rfl)) (aa (a8 a9 (pv 1) ak (λ_ _=>rfl)) ai)))))) aG)
   (ag (aS (aE bU (pv 2) aI (aJ _)) (aj (aF (pm (pv 0) T.cl M.JO hr ay (aa (pv 3) (aa (a8 a9 (pv 1) ak (λ_ _=>rfl)) ai))))) aG)
   (ag (aS (aE bU (pv 2) aI (aJ _)) (aj (aF (pm (pv 0) T.cl M.GV hr ay (aa (pv 3) (aa (a8 a9 (pv 1) ak (λ_ _=>rfl)) (aa (a8 a9 (pv 1) ak (λ_ _=>rfl)) ai)))))) aG)
   (aj (aF (pm (pv 0) T.cl M.JK hr ay (aa (pv 3) (aa (a8 a9 (pv 1) ak (λ_ _=>rfl)) (aa (a8 a9 (pv 1) ak (λ_ _=>rfl)) ai))))))))))))),?_]
  show share (λσ H1=>bf H H1/\σ=[some (.ref a.rp),some (.ref d),some (.str (sN D)),some (.int (Cw D))]) (λu' as=>?A) ?B
  case A =>
   show#[0,0,d,0,cg.of hd.1,λc=>?_,λ_ p hp=>?_]
   .show#[d,0,cg.of hd.1,by rw[AL c];rfl,by rw[AL c];show#[_,0,_,0,rfl,as _ _ #[bf.refl H,rfl]]]
   .rw[DH];show#[p,0,cg.of af,5,0,_,0,rfl,as _ _ #[Tb.au hp,rfl]]
  case B =>
  rintro σ H1 ⟨s1,rfl⟩;have R1:=R.same s1;have S1:=R.ig s1;have am:H1 d=some (.tup (wo D)):=s1 _ _ hd.1;let#[dx,ho]:=R1.ob;have no:∀mm:Str,¬ mm = "rooms" -> ¬ mm = "total" -> ¬ mm = "paging" -> (eQ a.A.pg (bN s') a.rd).lookup mm=none:=λmm=>gK _ _ _;have l0:∀{t y},(Tb.aU W t y).length<=W.length+1:=λ{t y}=>(by rw[Tb.gy];omega);cases D with
  |begin t=>show absurd fi id
  |close t =>
   let#[x,L]:=fi;show bX λ_ J G=>?_;show dN (bw rfl) bA rfl bT (G _ ?_);show bX λ_ J G=>?_;show eqT (bw rfl) bA rfl (J _ ?_);show#[0,a.rp,dx,0,ho,no "close" ao ao ao,0,MM,a,s',W,cv,t,x,rfl,R1,ri,ap,L,λH2 M2 s2 R2 U ab Y ac=>q H2 M2 s2 _ cv _ R2 U #[ab,rfl,trivial] (S1.trans Y) ac (Ko (List.length_filter_le _ _) (MV _)) ?_ ?_]
   .intro t';unfold hW;rw[Tb.cj];by_cases z:t'=t
    .rw[Qi z,decide_eq_false (λy=>y z)];rfl
    .rw[Qh z,decide_eq_true z];rfl
   .intro t' q;unfold eW;rw[Tb.cj];by_cases z:t'=t
    .rw[Qi z,Qi z];rfl
    .rw[Qh z,Qh z]
  |map t p m =>
   let#[x,L,N,f2,f3]:=fi;show bX λ_ J G=>?_;show dN (bw rfl) bA rfl bT (G _ ?_);show bX λ_ J G=>?_;show dN (bw rfl) bA rfl bT (G _ ?_);show bX λ_ J G=>?_;show eqT (bw rfl) bA rfl (J _ ?_);show#[0,a.rp,dx,0,ho,no "map" ao ao ao,0,0,d,2,.int p,1,cg.of am,rfl,0,d,2,.int m,1,cg.of am,rfl,MM,a,s',W,cv,t,p,m,x,rfl,R1,ri,ap,lw,L,N,f2,f3,λH2 M2 y R2 U ab hy Y=>q H2 M2 s' _ _ _ R2 U #[ab,rfl,trivial] (S1.trans Y) (λ_=>rfl) l0 (uj L) λt' j=>?_];rw[vh L];by_cases z:t'=t
   .rw[Qi z,hy j];by_cases O:j∈Rm.aM p m
    .rw[Qi O,Qi #[z,O]]
    .rw[Qh O,Qh (λh=>O h.2),z,vT L]
   .rw[Qh z,Qh (λh=>z h.1)]
  |drop t p m =>
   let#[x,L,N,f2]:=fi;show bX λ_ J G=>?_;show dN (bw rfl) bA rfl bT (G _ ?_);show bX λ_ J G=>?_;show dN (bw rfl) bA rfl bT (G _ ?_);show bX λ_ J G=>?_;show dN (bw rfl) bA rfl bT (G _ ?_);show bX λ_ J G=>?_;show eqT (bw rfl) bA rfl (J _ ?_);show#[0,a.rp,dx,0,ho,no "drop" ao ao ao,0,0,d,2,.int p,1,cg.of am,rfl,0,d,2,.int m,1,cg.of am,rfl,MM,a,s',W,cv,t,p,m,x,rfl,R1,ri,ap,L,N,f2,λH2 M2 s2 y R2 U ab hy Y ac=>q H2 M2 s2 _ _ _ R2 U #[ab,rfl,trivial] (S1.trans Y) ac l0 (uj L) λt' j=>?_];rw[vh L];by_cases z:t'=t
   .rw[Qi z,hy j];by_cases O:j∈Rm.aM p m
    .rw[Qi O,Qi #[z,O]]
    .rw[Qh O,Qh (λh=>O h.2),z,vT L]
   .rw[Qh z,Qh (λh=>z h.1)]
  |copy t o =>
   let#[x,L,N,f2]:=fi;show bX λ_ J G=>?_;show dN (bw rfl) bA rfl bT (G _ ?_);show bX λ_ J G=>?_;show dN (bw rfl) bA rfl bT (G _ ?_);show bX λ_ J G=>?_;show dN (bw rfl) bA rfl bT (G _ ?_);show bX λ_ J G=>?_;show dN (bw rfl) bA rfl bT (G _ ?_);show bX λ_ J G=>?_;show eqT (bw rfl) bA rfl (J _ ?_);show#[0,a.rp,dx,0,ho,no "copy" ao ao ao,0,0,d,2,.int o,1,cg.of am,rfl,MM,a,s',W,cv,t,o,x,rfl,R1,ri,ap,lw,L,N,f2,λH2 M2 s2 y hy R2 U ab Y ac=>q H2 M2 s2 _ _ _ R2 U #[ab,rfl,trivial] (S1.trans Y) ac (by rw[J9];show J1 _) ?_ ?_]
   .intro t';unfold hW;rw[Tb.bE t' N];by_cases z:t'=o
    .rw[Qi z,decide_eq_true z];rfl
    .rw[Qh z,decide_eq_false z];rfl
   .intro t' j;unfold eW;rw[Tb.bE t' N];by_cases z:t'=o
    .rw[Qi z,Qi z,L];show hy j
    .rw[Qh z,Qh z]
  |peek t ad n =>
   let#[x,L,N,f2,f3,f4]:=fi;show bX λ_ J G=>?_;show dN (bw rfl) bA rfl bT (G _ ?_);show bX λ_ J G=>?_;show dN (bw rfl) bA rfl bT (G _ ?_);show bX λ_ J G=>?_;show dN (bw rfl) bA rfl bT (G _ ?_);show bX λ_ J G=>?_;show dN (bw rfl) bA rfl bT (G _ ?_);show bX λ_ J G=>?_;show dN (bw rfl) bA rfl bT (G _ ?_);show bX λ_ J G=>?_;show eqT (bw rfl) bA rfl (J _ ?_);show#[0,a.rp,dx,0,ho,no "peek" ao ao ao,0,0,d,2,.int ad,1,cg.of am,rfl,0,d,2,.int n,1,cg.of am,rfl,MM,a,s',W,cv,t,ad,n,x,rfl,R1,ri,ap,L,ae,f2,f3,N,λH2 M2 s2 l R2 U ab Y ac fl hl=>q H2 M2 s2 _ _ _ R2 U #[ab,rfl,l,rfl,s1.free fl,by rw[<-pS (HI ri ap L N)];show hl] (S1.trans Y) ac (MV _) (λ_=>rfl) λ_ _=>rfl]
  |poke t ad cc cs =>
   let#[x,L,N,f2,f3,f4]:=fi;show bX λ_ J G=>?_;show dN (bw rfl) bA rfl bT (G _ ?_);show bX λ_ J G=>?_;show dN (bw rfl) bA rfl bT (G _ ?_);show bX λ_ J G=>?_;show dN (bw rfl) bA rfl bT (G _ ?_);show bX λ_ J G=>?_;show dN (bw rfl) bA rfl bT (G _ ?_);show bX λ_ J G=>?_;show dN (bw rfl) bA rfl bT (G _ ?_);show bX λ_ J G=>?_;show dN (bw rfl) bA rfl bT (G _ ?_);show#[0,a.rp,dx,0,ho,no "poke" ao ao ao,0,0,d,2,.int ad,1,cg.of am,rfl,0,d,2,.ref cc,1,cg.of am,rfl,MM,a,s',W,cv,t,ad,cc,cs,x,rfl,R1,ri,ap,L,bB.of (s1 _ _ (hd.2 _ _ _ _ rfl)),ae,f2,f3,N,λH2 M2 s2 y R2 U ab aB aT Y ac=>q H2 M2 s2 _ _ _ R2 U #[ab,tW N (HI ri ap L N),trivial] (S1.trans Y) ac l0 (uj L) λt' j=>?_];rw[vh L];by_cases z:t'=t
   .by_cases O:j∈Rm.av ad cs.length
    .rw[Qi #[z,O],Qi z];let#[k,hk]:=aT j O;show#[some k,hk,k,rfl]
    .rw[Qh (λh=>O h.2),Qi z,aB j O,z,vT L]
   .rw[Qh (λh=>z h.1),Qh z]
end
theorem dQ {α:Type}{f:α->V}{H:Hp}{a:Addr}{l:List (Int×α)}{t:Int}{x:α}(h:H a=some (.dK (Tb.dk f l))) (G:Tb.look l t=some x):du H a (.int t) (some (f x)):=by
 have q:=eL (t:=t) h;rw[G]at q;show q
section
variable {H H':Hp}{m:MA}{bN pk:Int}{Z:Zs}{t:Int}{z:MT}
theorem cD.alive (M:cD H m bN pk Z):∀b,cM m Z b->(∃xs,H b=some (.lst xs))\/∃kvs,H b=some (.dK kvs):=by
 intro b h;rcases h with h|h|h|⟨x,G,h|h|⟨y,J,h⟩⟩<;>rw[h]
 .show .inr #[_,M.hm]
 .show .inr #[_,M.hr]
 .show .inr #[_,M.hs]
 .show .inr #[_,M.rm x G]
 .show .inr #[_,M.st x G]
 .let#[ns,h1,_]:=M.cl x G y J;show .inl #[_,h1]
theorem cD.add (M:cD H m bN pk Z) (hn:Tb.look Z t=none) (o:Off (λb=>b=m.lr\/b=m.ls) H H') (hr:H' m.lr=some (.dK (Tb.dk dY (Z++[(t,z)])))) (hs:H' m.ls=some (.dK (Tb.dk qW (Z++[(t,z)])))) (h1:H' z.ra=some (.dK (Tb.dk eD z.pl))) (h2:H' z.sa=some (.dK (Tb.dk nj z.pl)))
  (h3:∀y∈z.pl,∃ns:List Int,H' y.2.1=some (.lst (ns.map V.int))/\ns.length=8) (np:(z.pl.map (·.1)).Nodup) (hg:∀y∈z.pl,0<=y.1/\y.1<64) (N:H z.ra=none) (L:H z.sa=none) (f3:z.ra≠z.sa):cD H' m bN pk (Z++[(t,z)]):=by
 have nl:∀{b xs},H b=some (.lst xs)->¬ (b=m.lr\/b=m.ls):=λe w=>by
  rcases w with w|w
  .rw[w,M.hr]at e;cases e
  .rw[w,M.hs]at e;cases e
 have O:∀x∈Z,z.ra≠x.2.ra/\z.sa≠x.2.sa/\z.ra≠x.2.sa/\z.sa≠x.2.ra:=λx G=>#[(λe=>by rw[e,M.rm x G]at N;cases N),(λe=>by rw[e,M.st x G]at L;cases L),(λe=>by rw[e,M.st x G]at N;cases N),(λe=>by rw[e,M.rm x G]at L;cases L)];show#[o _ _ M.hm (gb M.n3.1 M.n3.2.1),hr,hs,λx G=>?_,λx G=>?_,λx G y J=>?_,?_,λx G=>?_,λx G=>?_,λx G y J Y=>?_,λx G y J=>?_,λx G=>?_,M.n3]
 .rcases List.mem_append.mp G with G|G
  .show o _ _ (M.rm x G) (gb (M.d3 x G).2.1 (M.d3 x G).2.2.1)
  .rw[List.mem_singleton.mp G];show h1
 .rcases List.mem_append.mp G with G|G
  .show o _ _ (M.st x G) (gb (M.d3 x G).2.2.2.2.1 (M.d3 x G).2.2.2.2.2)
  .rw[List.mem_singleton.mp G];show h2
 .rcases List.mem_append.mp G with G|G
  .let#[ns,U,e2]:=M.cl x G y J;show#[ns,o _ _ U (nl U),e2]
  .rw[List.mem_singleton.mp G]at J;show h3 y J
 .rw[Ke];show fG M.nd (Tb.cf hn)
 .rcases List.mem_append.mp G with G|G
  .show M.np x G
  .rw[List.mem_singleton.mp G];show np
 .rcases List.mem_append.mp G with G|G
  .show M.rg x G
  .rw[List.mem_singleton.mp G];show hg
 .rcases List.mem_append.mp G with G|G<;>rcases List.mem_append.mp J with J|J
  .show M.da x G y J Y
  .rw[List.mem_singleton.mp J];show#[JZ (O x G).1,JZ (O x G).2.1]
  .rw[List.mem_singleton.mp G];show#[(O y J).1,(O y J).2.1]
  .show absurd (by rw[List.mem_singleton.mp G,List.mem_singleton.mp J]) Y
 .rcases List.mem_append.mp G with G|G<;>rcases List.mem_append.mp J with J|J
  .show M.rs x G y J
  .rw[List.mem_singleton.mp J];show JZ (O x G).2.2.2
  .rw[List.mem_singleton.mp G];show(O y J).2.2.1
  .rw[List.mem_singleton.mp G,List.mem_singleton.mp J];show f3
 .rcases List.mem_append.mp G with G|G
  .show M.d3 x G
  .rw[List.mem_singleton.mp G];show#[(λe=>by rw[e,M.hm]at N;cases N),(λe=>by rw[e,M.hr]at N;cases N),(λe=>by rw[e,M.hs]at N;cases N),(λe=>by rw[e,M.hm]at L;cases L),(λe=>by rw[e,M.hr]at L;cases L),(λe=>by rw[e,M.hs]at L;cases L)]
theorem cD.del (M:cD H m bN pk Z) (o:Off (λb=>b=m.lr\/b=m.ls) H H') (O:H' m.lr=some (.dK (Tb.dk dY (Tb.bg Z t)))) (hs:H' m.ls=some (.dK (Tb.dk qW (Tb.bg Z t)))):cD H' m bN pk (Tb.bg Z t):=by
 have U:∀{b xs},H b=some (.lst xs)->¬ (b=m.lr\/b=m.ls):=λe w=>by
  rcases w with w|w
  .rw[w,M.hr]at e;cases e
  .rw[w,M.hs]at e;cases e
 have sub:∀{x},x∈Tb.bg Z t->x∈Z:=λh=>(Tb.bZ h).1;show#[o _ _ M.hm (gb M.n3.1 M.n3.2.1),O,hs,λx G=>?_,λx G=>?_,λx G y J=>?_,Tb.m5 M.nd,λx G=>M.np x (sub G),λx G=>M.rg x (sub G),λx G y J=>M.da x (sub G) y (sub J),λx G y J=>M.rs x (sub G) y (sub J),λx G=>M.d3 x (sub G),M.n3]
 .have G:=sub G;show o _ _ (M.rm x G) (gb (M.d3 x G).2.1 (M.d3 x G).2.2.1)
 .have G:=sub G;show o _ _ (M.st x G) (gb (M.d3 x G).2.2.2.2.1 (M.d3 x G).2.2.2.2.2)
 .let#[ns,L,N]:=M.cl x (sub G) y J;show#[ns,o _ _ L (U L),N]
theorem cD.DG (M:cD H m bN pk Z) (hz:Tb.look Z t=some z) {pk':Int}{pl:List (Int×Addr×Int)}(o:Off (λb=>b=m.md\/b=z.ra\/b=z.sa) H H') (hm:H' m.md=some (.dK (nr m.lr m.ls bN pk'))) (h1:H' z.ra=some (.dK (Tb.dk eD pl))) (h2:H' z.sa=some (.dK (Tb.dk nj pl)))
  (h3:∀y∈pl,∃ns:List Int,H' y.2.1=some (.lst (ns.map V.int))/\ns.length=8) (np:(pl.map (·.1)).Nodup) (hg:∀y∈pl,0<=y.1/\y.1<64):cD H' m bN pk' (Tb.aU Z t #[z.ra,z.sa,pl]):=by
 have J:=Tb.ax hz;have nl:∀{b xs},H b=some (.lst xs)->¬ (b=m.md\/b=z.ra\/b=z.sa):=λe w=>by
  rcases w with w|w|w
  .rw[w,M.hm]at e;cases e
  .rw[w,M.rm _ J]at e;cases e
  .rw[w,M.st _ J]at e;cases e
 have U:∀{b},b≠m.md->b≠z.ra->b≠z.sa->¬ (b=m.md\/b=z.ra\/b=z.sa):=λa b c w=>w.elim a λw=>w.elim b c;have O:=M.d3 _ J;show#[hm,3,λx G=>?_,λx G=>?_,λx G y L=>?_,by rw[Tb.fB];show M.nd,λx G=>?_,λx G=>?_,λx G y L N=>?_,λx G y L=>?_,λx G=>?_,M.n3]
 .rw[Tb.qt (f:=dY) (a:=(#[z.ra,z.sa,pl]:MT)) (b:=z) M.nd hz rfl];show o _ _ M.hr (U (JZ M.n3.1) (JZ O.2.1) (JZ O.2.2.2.2.1))
 .rw[Tb.qt (f:=qW) (a:=(#[z.ra,z.sa,pl]:MT)) (b:=z) M.nd hz rfl];show o _ _ M.hs (U (JZ M.n3.2.1) (JZ O.2.2.1) (JZ O.2.2.2.2.2))
 .rcases Tb.mem_set G with rfl|⟨G,N⟩
  .show h1
  .show o _ _ (M.rm x G) (U (M.d3 x G).1 (M.da x G _ J N).1 (M.rs x G _ J))
 .rcases Tb.mem_set G with rfl|⟨G,N⟩
  .show h2
  .show o _ _ (M.st x G) (U (M.d3 x G).2.2.2.1 (JZ (M.rs _ J x G)) (M.da x G _ J N).2)
 .rcases Tb.mem_set G with rfl|⟨G,N⟩
  .show h3 y L
  .let#[ns,e1,e2]:=M.cl x G y L;show#[ns,o _ _ e1 (nl e1),e2]
 .rcases Tb.mem_set G with rfl|⟨G,N⟩
  .show np
  .show M.np x G
 .rcases Tb.mem_set G with rfl|⟨G,N⟩
  .show hg
  .show M.rg x G
 .rcases Tb.mem_set G with rfl|⟨G,Y⟩<;>rcases Tb.mem_set L with rfl|⟨L,n2⟩
  .show absurd rfl N
  .show M.da (t,z) J y L (JZ n2)
  .show M.da x G (t,z) J Y
  .show M.da x G y L N
 .rcases Tb.mem_set G with rfl|⟨G,Y⟩<;>rcases Tb.mem_set L with rfl|⟨L,n2⟩
  .show M.rs (t,z) J (t,z) J
  .show M.rs (t,z) J y L
  .show M.rs x G (t,z) J
  .show M.rs x G y L
 .rcases Tb.mem_set G with rfl|⟨G,Y⟩
  .show O
  .show M.d3 x G
theorem cD.Dp (M:cD H m bN pk Z) {l:Addr}{xs:List V}(N:H l=some (.lst xs)) {ns':List Int}(U:ns'.length=8):cD (upd H l (.lst (ns'.map V.int))) m bN pk Z:=by
 have o:Off (· = l) H (upd H l (.lst (ns'.map V.int))):=Off.wr rfl;have J:∀{b kvs},H b=some (.dK kvs)->¬ b=l:=λe w=>(by rw[w,N]at e;cases e);show#[o _ _ M.hm (J M.hm),o _ _ M.hr (J M.hr),o _ _ M.hs (J M.hs),λx G=>o _ _ (M.rm x G) (J (M.rm x G)),λx G=>o _ _ (M.st x G) (J (M.st x G)),λx G y Y=>?_,M.nd,M.np,M.rg,M.da,M.rs,M.d3,M.n3];by_cases w:y.2.1=l
 .show#[ns',by rw[w,af],U]
 .let#[ns,O,L]:=M.cl x G y Y;show#[ns,o _ _ O w,L]
end
section
variable {Z:Zs}{t:Int}{z y:MT}
theorem vv (h:Tb.look Z t=some z) (t':Int):hZ (Tb.aU Z t y) t'=hZ Z t':=by
 unfold hZ;rw[Tb.bM t' h];by_cases c:t'=t
 .rw[Qi c,c,h];rfl
 .rw[Qh c]
theorem vz (h:Tb.look Z t=some z) (t' q:Int):eZ (Tb.aU Z t y) t' q=if t'=t then(Tb.look y.pl q).map (·.2)else eZ Z t' q:=by
 unfold eZ;rw[Tb.bM t' h];by_cases c:t'=t
 .rw[Qi c,Qi c];rfl
 .rw[Qh c,Qh c]
theorem wM (h:Tb.look Z t=some z) (q:Int):eZ Z t q=(Tb.look z.pl q).map (·.2):=by unfold eZ;rw[h];rfl
end
theorem IQ {t u:TS}{D:Ends}{σ:L2.St}{H:Hp}(h:t { D with nx:=u D } σ H):m7 t u D σ H:=h
theorem zW {α:Type}{W:List (Int×α)}{t:Int}{x y:α}:Tb.aU (Tb.aU W t x) t y=Tb.aU W t y:=by
 unfold Tb.aU;rw[Lc];show Lx λz _=>?_;change(if (if z.1=t then(t,x)else z).1=t then(t,y)else(if z.1=t then(t,x)else z))=if z.1=t then(t,y)else z
 by_cases c:z.1=t
 .rw[Qi c,Qi rfl,Qi c]
 .simp only[Qh c]
theorem za {α:Type}{W:List (Int×α)}{t:Int}{x y:α}(h:Tb.look W t=some x):Tb.look (Tb.aU W t y) t=some y:=by rw[Tb.bM t h,Qi rfl]
theorem yb {Z:Zs}{t:Int}{z:MT}(J:(Z.map (·.1)).Nodup) (h:Tb.look Z t=some z):Tb.aU Z t #[z.ra,z.sa,z.pl]=Z:=by
 unfold Tb.aU
 conv=>rhs;rw[<-List.map_id Z]
 show Lx λy G=>?_;change(if y.1=t then(t,(#[z.ra,z.sa,z.pl]:MT))else y)=y;by_cases c:y.1=t
 .have:=Tb.bL J G;rw[c,h]at this;rw[Qi c,Option.some.inj this, <-c]
 .rw[Qh c]
theorem cD.len {H:Hp}{m:MA}{bN pk:Int}{Z:Zs}(M:cD H m bN pk Z) {x:Int×MT}(G:x∈Z):x.2.pl.length<=64:=by
 have:=Tb.AM 64 0 (x.2.pl.map (·.1)) (M.np x G) λq L=>by
  let#[y,J,rfl]:=List.mem_map.mp L;have:=M.rg x G y J;omega
 rwa [DD]at this
theorem mj {m:MA}{Z:Zs}{t:Int}{z:MT}{pl:List (Int×Addr×Int)}{H:Hp}(O:Tb.look Z t=some z) (h:∀y∈pl,(∃G∈z.pl,y.2.1=G.2.1)\/H y.2.1=none):∀b,cM m (Tb.aU Z t #[z.ra,z.sa,pl]) b->cM m Z b\/H b=none:=by
 intro b w;have J:=Tb.ax O;rcases w with w|w|w|⟨x,L,w⟩
 .show .inl (.inl w)
 .show .inl (.inr (.inl w))
 .show .inl (.inr (.inr (.inl w)))
 .rcases Tb.mem_set L with rfl|⟨L,_⟩
  .rcases w with w|w|⟨y,N,w⟩
   .show .inl (.inr (.inr (.inr #[_,J,.inl w])))
   .show .inl (.inr (.inr (.inr #[_,J,.inr (.inl w)])))
   .rcases h y N with⟨G,h1,h2⟩|h
    .show .inl (.inr (.inr (.inr #[_,J,.inr (.inr #[G,h1,w.trans h2])])))
    .rw[w];show .inr h
  .show .inl (.inr (.inr (.inr #[x,L,w])))
theorem eg {ad q:Int}{n:Nat}:q∈Rm.av ad n↔∃j:Nat,j<n/\(ad+j)/8=q:=by
 unfold Rm.av;by_cases e:((n:Nat):Int)=0
 .rw[Qi e];show#[(λh=>nomatch h),(λ⟨j,h,_⟩=>by omega)]
 .rw[Qh e];unfold Rm.aM Rm.jN Rm.iI;rw[PZ];constructor
  .rintro⟨k,G,rfl⟩;have G:=List.mem_range.mp G;show#[(8*(ad/8+k)-ad).toNat,ae,ae]
  .rintro⟨j,J,rfl⟩;show#[((ad+j)/8-ad/8).toNat,List.mem_range.mpr ae,ae]
theorem Cs (G ls:Addr) (bN pk pk':Int):putK (nr G ls bN pk) (Sum.inr "pokes") (.int pk')=nr G ls bN pk':=by
 unfold putK nr;rw[Qi (by simp)];simp only[Lm,OX,Qh Im,Qh IP,Qh Io,if_true,decide_eq_true_eq]
theorem oz {pl G:List (Int×Addr×Int)}(h:(G.map λy=>(y.1,y.2.1))=pl.map λy=>(y.1,y.2.1)) (q:Int):Tb.look G q=none↔Tb.look pl q=none:=by
 have L:G.map (·.1)=pl.map (·.1):=by
  have:=congrArg (List.map (·.1)) h;rw[Lc,Lc]at this;show this
 have J:∀{l:List (Int×Addr×Int)},Tb.look l q=none↔¬ q∈l.map (·.1):=λ{l}=>#[Tb.cf,λh=>by
  cases e:Tb.look l q with
  |none=>rfl
  |some a=>show absurd (List.mem_map.mpr #[_,Tb.ax e,rfl]) h]
 rw[J,J,L]
theorem j0 {α G:Type}(g:α->G) (k:Int):∀l:List (Int×α),Tb.look (l.map λx=>(x.1,g x.2)) k=(Tb.look l k).map g
 | []=>rfl
 |x::l=>by
  rw[Lm,Tb.aO,Tb.aO,j0 g k l];by_cases e:x.1=k
  .rw[Qi e,Qi e];rfl
  .rw[Qh e,Qh e]
theorem lg {α:Type}(f:α->V) (l:List (Int×α)) (o:Int) (a:α):Tb.dk f (l++[(o,a)])=Tb.dk f l++[(Sum.inl o,f a)]:=by
 unfold Tb.dk;rw[Ke];rfl
theorem Hg {pl G:List (Int×Addr×Int)}(h:(G.map λy=>(y.1,y.2.2))=pl.map λy=>(y.1,y.2.2)):Tb.dk nj G=Tb.dk nj pl:=by
 have e:∀l:List (Int×Addr×Int),Tb.dk nj l=(l.map λy=>(y.1,y.2.2)).map λp=>((Sum.inl p.1:Key),V.int p.2):=λl=>by
  unfold Tb.dk;rw[Lc];rfl
 rw[e,e,h]
noncomputable def sQ (m:MA) (H:Hp) (Z:Zs) (H':Hp) (Z':Zs):Prop:=Off (cM m Z) H H'/\∀b,cM m Z' b->cM m Z b\/H b=none
noncomputable def eA (Z:Zs) (t q:Int):Option Addr:=(Tb.look Z t).bind λz=>(Tb.look z.pl q).map (·.1)
structure Ct (H:Hp) (Z:Zs) (cv:Int->Int->List Int):Prop where
 at_:∀t q a,eA Z t q=some a->H a=some (.lst ((cv t q).map V.int))
 inj:∀t q t' q' a,eA Z t q=some a->eA Z t' q'=some a->t=t'/\q=q'
section
variable {H H':Hp}{Z Z':Zs}{cv cv':Int->Int->List Int}{t:Int}{z z':MT}
theorem qE (h:Tb.look Z t=none) (t' q:Int):eA (Z++[(t,z)]) t' q=if t'=t then(Tb.look z.pl q).map (·.1)else eA Z t' q:=by
 unfold eA;rw[Tb.bE t' h];split<;>rfl
theorem Dt (t' q:Int):eA (Tb.bg Z t) t' q=if t'=t then none else eA Z t' q:=by
 unfold eA;rw[Tb.cj];split<;>rfl
theorem j7 (h:Tb.look Z t=some z) (t' q:Int):eA (Tb.aU Z t z') t' q=if t'=t then(Tb.look z'.pl q).map (·.1)else eA Z t' q:=by
 unfold eA;rw[Tb.bM t' h];split<;>rfl
theorem rF (h:Tb.look Z t=some z) (q:Int):eA Z t q=(Tb.look z.pl q).map (·.1):=by unfold eA;rw[h];rfl
theorem Ct.keep (C:Ct H Z cv) (k:∀a xs,H a=some (.lst xs)->H' a=some (.lst xs)) (e:∀t q a,eA Z' t q=some a->eA Z t q=some a):Ct H' Z' cv :=
 #[λt q a h=>k _ _ (C.at_ t q a (e _ _ _ h)),λt q t' G a h h'=>C.inj _ _ _ _ _ (e _ _ _ h) (e _ _ _ h')]
theorem Ct.congr (C:Ct H Z cv) (e:∀t q a,eA Z t q=some a->cv t q=cv' t q):Ct H Z cv':=#[λt q a h=>by rw[<-e t q a h];show C.at_ t q a h,C.inj]
theorem Ct.new {J:Int}{l:Addr}{r:List Int}(C:Ct H Z cv) (t:Int) (e:∀t' q,eA Z' t' q=if t'=t/\q=J then some l else eA Z t' q) (U:H' l=some (.lst (r.map V.int))) (f:H l=none) (k:∀a xs,H a=some (.lst xs)->H' a=some (.lst xs)):Ct H' Z' (λt' q=>if t'=t/\q=J then r else cv t' q):=by
 have N:∀{t' q},eA Z t' q=some l->False:=λh=>(by have:=C.at_ _ _ _ h;rw[f]at this;cases this);show#[λt' q a h=>?_,λt' q O L a h h2=>?_]
 .rw[e]at h;by_cases c:t'=t/\q=J
  .rw[Qi c]at h ⊢;cases h;show U
  .rw[Qh c]at h;rw[Qh c];show k _ _ (C.at_ _ _ _ h)
 .rw[e]at h h2;by_cases c:t'=t/\q=J
  .rw[Qi c]at h;cases h;by_cases G:O=t/\L=J
   .show#[c.1.trans G.1.symm,c.2.trans G.2.symm]
   .rw[Qh G]at h2;show(N h2).elim
  .rw[Qh c]at h;by_cases G:O=t/\L=J
   .rw[Qi G]at h2;cases h2;show(N h).elim
   .rw[Qh G]at h2;show C.inj _ _ _ _ _ h h2
theorem Ct.cell {G:Int}{l:Addr}{r:List Int}(C:Ct H Z cv) (J:eA Z t G=some l):Ct (upd H l (.lst (r.map V.int))) Z (λt' q=>if t'=t/\q=G then r else cv t' q):=by
 show#[λt' q a h=>?_,C.inj];by_cases c:t'=t/\q=G
 .rw[c.1,c.2,J]at h;cases h;rw[Qi c];show af
 .rw[Qh c,ah (λz=>c (by rw[z]at h;show C.inj _ _ _ _ _ h J))];show C.at_ _ _ _ h
theorem Ct.IS {o:Int}{d1 d2:Addr}{pl:List (Int×Addr×Int)}(C:Ct H Z cv) (U:Tb.look Z o=none) (h:∀u∈pl,H' u.2.1=some (.lst ((cv t u.1).map V.int))/\H u.2.1=none) (nd:(pl.map (·.2.1)).Nodup) (k:∀a xs,H a=some (.lst xs)->H' a=some (.lst xs)):Ct H' (Z++[(o,#[d1,d2,pl])]) (mV cv t o):=by
 have pg:∀{q a},(Tb.look pl q).map (·.1)=some a->∃u∈pl,u.1=q/\u.2.1=a:=λ{q a} e=>by
  let#[u,h1,h2]:=Option.map_eq_some_iff.mp e;show#[(q,u),Tb.ax h1,rfl,h2]
 have Y:∀{t' q a},eA Z t' q=some a->∀u∈pl,u.2.1=a->False:=λh1 u L e=>by
  have:=C.at_ _ _ _ h1;rw[<-e,(h u L).2]at this;cases this
 show#[λt' q a e=>?_,λt' q t2 q2 a e G=>?_]
 .rw[qE U]at e;unfold mV;by_cases c:t'=o
  .rw[Qi c]at e;let#[u,L,rfl,rfl]:=pg e;rw[Qi c];show(h u L).1
  .rw[Qh c]at e;rw[Qh c];show k _ _ (C.at_ _ _ _ e)
 .rw[qE U]at e G;by_cases c:t'=o
  .rw[Qi c]at e;let#[u,L,rfl,rfl]:=pg e;by_cases J:t2=o
   .rw[Qi J]at G;let#[N,O,rfl,g]:=pg G;show#[c.trans J.symm,?_];let#[i,hi,e3]:=Lh L;let#[j,hj,e4]:=Lh O;have:i=j:=by
     show Decidable.byContradiction λn=>mE nd i j (a:=u.2.1) (b:=N.2.1) ?_ ?_ n g.symm
     .rw[J3,J4 hi,e3];rfl
     .rw[J3,J4 hj,e4];rfl
    subst this;rw[<-e3, <-e4]
   .rw[Qh J]at G;show(Y G u L rfl).elim
  .rw[Qh c]at e;by_cases J:t2=o
   .rw[Qi J]at G;let#[N,O,_,g]:=pg G;show(Y e N O g).elim
   .rw[Qh J]at G;show C.inj _ _ _ _ _ e G
end
noncomputable def AW (cv:Int->Int->List Int) (t p:Int) (i:Nat):Int->Int->List Int:=λt' q=>if t'=t/\p<=q/\q<p+(i:Int)then replicate 8 0 else cv t' q
theorem zJ {cv:Int->Int->List Int}{t p:Int}:AW cv t p 0=cv:=by
 funext t' q;unfold AW;rw[Qh ae]
theorem yT {cv:Int->Int->List Int}{t p:Int}{i:Nat}:AW cv t p (i+1)=λt' q=>if t'=t/\q=p+(i:Int)then replicate 8 0 else AW cv t p i t' q:=by
 funext t' q;unfold AW;by_cases c:t'=t/\q=p+(i:Int)
 .rw[Qi c,Qi ae]
 .rw[Qh c];by_cases G:t'=t/\p<=q/\q<p+(i:Int)
  .rw[Qi G,Qi ae]
  .rw[Qh G,Qh ae]
theorem BZ {cv:Int->Int->List Int}{t p G:Int}:AW cv t p (p+G-p).toNat=gM cv t (Rm.aM p G):=by
 funext t' q;unfold AW gM Rm.aM;have:(q∈(List.range G.toNat).map λk:Nat=>p+(k:Int))↔(p<=q/\q<p+((p+G-p).toNat:Int)):=by
  rw[PZ];constructor
  .rintro⟨j,J,rfl⟩;have:=List.mem_range.mp J;omega
  .intro h;show#[(q-p).toNat,List.mem_range.mpr ae,ae]
 by_cases c:t'=t/\p<=q/\q<p+((p+G-p).toNat:Int)
 .rw[Qi c,Qi #[c.1,this.mpr c.2]]
 .rw[Qh c,Qh (λh=>c #[h.1,this.mp h.2])]
theorem xE {r cs:List Int}{ad q:Int}(h:r.length=8) (n:¬ q∈Rm.av ad cs.length):jc r ad cs q=r:=by
 show LN λo=>?_;by_cases G:o<8
 .rw[gE G,Qh (λc=>n (eg.mpr #[(8*q+(o:Int)-ad).toNat,ae,ae])),Kw,J4 ae];rfl
 .rw[KO (by rw[gu];omega),KO ae]
theorem jn:∀{xs ys:List Int},xs.map V.int=ys.map V.int->xs=ys
 | [],[],_=>rfl
 | [],_::_,h=>by cases h
 |_::_,[],h=>by cases h
 |x::xs,y::ys,h=>by
  injection h with h1 h2;injection h1 with h1;rw[h1,jn h2]
theorem Ct.BE {H:Hp}{m:MA}{bN pk:Int}{Z:Zs}{cv:Int->Int->List Int}{t q:Int}{a:Addr}(C:Ct H Z cv) (M:cD H m bN pk Z) (h:eA Z t q=some a):(cv t q).length=8:=by
 let#[z,h1,h2]:=Option.bind_eq_some_iff.mp h;let#[y,N,L]:=Option.map_eq_some_iff.mp h2;let#[ns,J,G]:=M.cl _ (Tb.ax h1) _ (Tb.ax N);have:=C.at_ t q a h;rw[<-L,J]at this;rw[<-jn (HO.lst.inj (Option.some.inj this))];show G
noncomputable def CO (cv:Int->Int->List Int) (t ad:Int) (cs:List Int):Int->Int->List Int:=λt' q=>if t'=t then jc (cv t q) ad cs q else cv t' q
inductive qf (vs:List V) (H:Hp) (Q:VK) (e3:XK):Prop
 |mk (m:MA) (bN pk:Int) (Z:Zs) (d:Addr) (D:Dd) (_:vs=[.ref m.md,.ref d]) (_:cD H m bN pk Z) (_:0<=pk) (_:Z.length<=1000) (_:kU H d D) (_:Bk Z bN D) (_:(∀t ad c cs,D=.poke t ad c cs->¬ cM m Z c/\0<=ad/\ad<=1000/\cs.length<=100)) (_:(∀t ad n,D=.peek t ad n->0<=ad/\ad<=1000/\n<=100)) (_:∀(H':Hp) (pk':Int) (Z':Zs) (v:V),cD H' m bN pk' Z'->(0<=pk'/\∀cv,Ct H Z cv->Ct H' Z' (oK D cv)/\FK D cv H H' v)->sQ m H Z H' Z'->Z'.length<=Z.length+1->sh D (hZ Z) (hZ Z')->uO 0 (λv=>v≠0) D (eZ Z) (eZ Z')->Q v H'):qf vs H Q e3
section
variable {P:J2}{w:Kd}{K:PySem.W.Frag}{mg:Str->Option Value}{base:Heap}
theorem kS:aC ["_law_model_here","_law_deed","_law_rooms","_law_stands","_law_name","_law_task","_law_page","_law_cells_here","_law_k","_law_cell","_law_at"] ["_law_model_here","_law_deed"] (aw AE):=L2.bD
theorem Ck {f:Addr}{fd:J0}(F:cQ K "_law_done" "_law_done" AE f fd) (T:mH mg):bh P w K mg base aW 1 f fd ["_law_model_here","_law_deed"] qf:=by
 show F.ok kS (λvs H Q E h=>?_) (λfn A outer s H vs Q E hr h=>?_)
 .let#[m,bN,pk,Z,d,D,rfl,_]:=h;rfl
 .let#[m,bN,pk,Z,d,D,rfl,M,p0,lz,hd,fi,ei,dO,k]:=h;have hs:sizeLine=16777216:=J5;show#[_,(ag (cV (dh (aa (bj (aZ hr) (pv 0) aI (λ_ _=>rfl)) (aa (bj (aZ hr) (pv 0) aI (λ_ _=>rfl)) ai))) (dH rfl (bp (aY (i:=2) kS.nd rfl (N0 rfl)) (bp (aY (i:=3) kS.nd rfl (J6 rfl)) cZ))))
   (ag (cV (de k6 (pv 1) fE (cX ak)) (dH rfl (bp (aY (i:=4) kS.nd rfl (J6 rfl)) (bp (aY (i:=5) kS.nd rfl (N0 rfl)) cZ))))
   (ag (aS (aE bU (pv 4) aI (aJ _)) (aj (cV (dh (aa dg (aa dg ai))) (dH rfl (bp (ed (pv 2) (pv 5) (set_dict (aZ hr))) (bp (ed (pv 3) (pv 5) (set_dict (aZ hr))) cZ))))) (aj (aS (aE bU (pv 4) aI (aJ _)) (ag (aP (eI (pv 2) (pv 5) #[1,1]))
   (aj (aP (eI (pv 3) (pv 5) #[1,1])))) (aj (aS (aE bU (pv 4) aI (aJ _)) (aj (cN Kh rfl (fh (by rfl) T.range (aa (a8 a9 (pv 1) ak (λ_ _=>rfl)) (aa (aA bu (a8 a9 (pv 1) ak (λ_ _=>rfl)) (a8 a9 (pv 1) ak (λ_ _=>rfl))) ai))) (aY (i:=6) kS.nd rfl (J6 rfl)) (aj (cV (dh (aa (aA mN (cn (aa ak ai)) ak) (aa ak ai))) (dH rfl (bp (ed (bj (aZ hr) (pv 2) (pv 5) (λ_ _=>rfl)) (pv 6) (set_dict (aZ hr))) (bp (ed (bj (aZ hr) (pv 3) (pv 5) (λ_ _=>rfl)) (pv 6) (set_dict (aZ hr))) cZ))))))) (aj (aS (aE bU (pv 4) aI (aJ _)) (aj (cN Kh rfl (fh (by rfl) T.range (aa (a8 a9 (pv 1) ak (λ_ _=>rfl)) (aa (aA bu (a8 a9 (pv 1) ak (λ_ _=>rfl)) (a8 a9 (pv 1) ak (λ_ _=>rfl))) ai))) (aY (i:=6) kS.nd rfl (J6 rfl)) (ag (aP (eI (bj (aZ hr) (pv 2) (pv 5) (λ_ _=>rfl)) (pv 6) #[1,1]))
   (aj (aP (eI (bj (aZ hr) (pv 3) (pv 5) (λ_ _=>rfl)) (pv 6) #[1,1])))))) (aj (aS (aE bU (pv 4) aI (aJ _)) (ag (cV (bS uQ (by rfl) T.dict qg (aa (bj (aZ hr) (pv 3) (pv 5) (λ_ _=>rfl)) ai)) (ed (pv 3) (a8 a9 (pv 1) ak (λ_ _=>rfl)) (set_dict (aZ hr))))
   (ag (cV dg (ed (pv 2) (a8 a9 (pv 1) ak (λ_ _=>rfl)) (set_dict (aZ hr))))
   (aj (jD (cN Kh rfl (lS (bj (aZ hr) (pv 2) (pv 5) (λ_ _=>rfl))) (dH rfl (bp (aY (i:=6) kS.nd rfl (J6 rfl)) (bp (aY (i:=7) kS.nd rfl (J6 rfl)) cZ))) (aj (cV (bS dJ (by rfl) T.list eR (aa (pv 7) ai)) (ed (bj (aZ hr) (pv 2) (a8 a9 (pv 1) ak (λ_ _=>rfl)) (λ_ _=>rfl)) (pv 6) (set_dict (aZ hr)))))))))) (aj (aS (aE bU (pv 4) aI (aJ _)) (aj (aF (fJ (cl:=[("_law_task",s.heap.objs.size+2),("_law_rooms",s.heap.objs.size+1)]) (caps:=[("_law_rooms",2),("_law_task",5)]) #[rfl,ao,ao,rfl,by kernel_rfl,by intro p hp;simp only[Ku,Kb,or_false]at hp;rcases hp with rfl|rfl<;>first|rfl|show#[rfl,.inl rfl,.inl rfl]|show#[rfl,.inl rfl,.inr rfl],by kernel_rfl,by intro p hp;simp only[Ku,Kb,or_false]at hp;rcases hp with rfl|rfl<;>first|rfl|show#[rfl,.inl rfl,.inl rfl]|show#[rfl,.inl rfl,.inr rfl],ao] rfl (fh (by rfl) T.range (aa (a8 a9 (pv 1) ak (λ_ _=>rfl)) (aa (aA bu (a8 a9 (pv 1) ak (λ_ _=>rfl)) (a8 a9 (pv 1) ak (λ_ _=>rfl))) ai))) (λ_ _ _ _=>eY) (λ_ _ _ _=>(a8 (show Hm _ (Cg K)from cG) (bj (aZ hr) (bj (aZ hr) (pv 1) (pv 2) (λ_ _=>rfl)) (aA bH (pv 0) ak) (λ_ _=>rfl)) (aA bJ (pv 0) ak) (λ_ _=>rfl)))))) (aj (cN Kh rfl (BC (by rfl) T.enumerate (aa (a8 a9 (pv 1) ak (λ_ _=>rfl)) ai)) (dH rfl (bp (aY (i:=8) kS.nd rfl (J6 rfl)) (bp (aY (i:=9) kS.nd rfl (J6 rfl)) cZ))) (ag (aK (i:=10) kS.nd rfl (J6 rfl) (aA bu (a8 a9 (pv 1) ak (λ_ _=>rfl)) (pv 8)))
   (ag (cV (pv 9) (ed (bj (aZ hr) (bj (aZ hr) (pv 2) (pv 5) (λ_ _=>rfl)) (aA bH (pv 10) ak) (λ_ _=>rfl)) (aA bJ (pv 10) ak) set_list))
   (aj (aS (PW.pt (iK (aE bU (pv 8) ak (aJ _)) (gW (aE bU (aA bJ (pv 10) ak) ak (aJ _))))) (ag (cV (aA bu (bj (aZ hr) (pv 0) aI (λ_ _=>rfl)) ak) (ed (pv 0) aI (set_dict (aZ hr))))
   (aj (cV (bj (aZ hr) (pv 0) aI (λ_ _=>rfl)) (ed (bj (aZ hr) (pv 3) (pv 5) (λ_ _=>rfl)) (aA bH (pv 10) ak) (set_dict (aZ hr)))))) aG)))))))))))))))))
   (aj (aF vD))))),?_]
  show share (λσ H1=>bf H H1/\σ=[some (.ref m.md),some (.ref d),some (.ref m.lr),some (.ref m.ls),none,none,none,none,none,none,none]) (λu' aT=>?A) ?B
  case A =>
   show#[0,m.md,.ref m.lr,rfl,M.g (vg _ _ _ _),0,m.md,.ref m.ls,rfl,M.g (I0 _ _ _ _),by change 2<=sizeLine;decide,λtp bv=>?_];show#[tp,0,cg.of af,5,0,_,0,rfl,aT _ _ #[Tb.au bv,rfl]]
  case B =>
  rintro σ H0 ⟨s0,rfl⟩;have dM:H0 d=some (.tup (wo D)):=s0 _ _ hd.1;show share (λσ H1=>bf H H1/\σ=[some (.ref m.md),some (.ref d),some (.ref m.lr),some (.ref m.ls),some (.str (sN D)),some (.int (Cw D)),none,none,none,none,none]) (λu' aT=>?A2) ?B2
  case A2 =>
   show#[0,0,d,0,cg.of dM,λc=>?_,λ_ p hp=>?_]
   .show#[d,0,cg.of dM,by rw[AL c];rfl,by rw[AL c];show#[_,0,_,0,rfl,aT _ _ #[s0,rfl]]]
   .rw[DH];show#[p,0,cg.of af,5,0,_,0,rfl,aT _ _ #[s0.trans (Tb.au hp),rfl]]
  case B2 =>
  rintro σ H1 ⟨s1,rfl⟩;have M1:=M.same s1;have as:H1 d=some (.tup (wo D)):=s1 _ _ hd.1;show share (λσ H2=>ym λ(pk':Int) (Z':Zs)=>xM (cD H2 m bN pk' Z') (0<=pk'/\∀cv,Ct H Z cv->Ct H2 Z' (oK D cv)/\FK D cv H H2 .non) (sQ m H Z H2 Z') (Z'.length<=Z.length+1) (sh D (hZ Z) (hZ Z')) (uO 0 (λv=>v≠0) D (eZ Z) (eZ Z'))) (λu' aT=>?A3) ?B3
  case B3 =>
   rintro σ H2 ⟨pk',Z',a1,a2,a3,a4,a5,a6⟩;show k H2 pk' Z' .non a1 a2 a3 a4 a5 a6
  case A3 =>
  show IQ ?_;dsimp only;have zo:∀{b},H b=none->H1 b=none->True:=λ_ _=>trivial;cases D with
  |begin t =>
   show dX λ_ _ N G=>?_;show eqT (bw rfl) bA rfl (dZ (N _ _ _ ?_));clear N G;have fi:Tb.look Z t=none:=fi;intro L h1 O h2;have bi:O≠L:=λe=>(by rw[e,af]at h2;cases h2);have d8:H1 O=none:=(by rw[ah bi]at h2;show h2);have sA:=(Tb.au (X:=.dK []) h1).trans (Tb.au (X:=.dK []) h2);have e1:upd (upd H1 L (.dK [])) O (.dK []) L=some (.dK []):=(by rw[ah (JZ bi),af]);have e2:upd (upd H1 L (.dK [])) O (.dK []) O=some (.dK []):=af;generalize upd (upd H1 L (.dK [])) O (.dK [])=H2 at *;show#[by change 2<=sizeLine;decide,λtp bv=>?_];have sB:=Tb.au (X:=.tup [.ref L,.ref O]) bv;show#[tp,0,cg.of af,5,0,?_];have M3:=(M1.same sA).same sB;have e1:=sB _ _ e1;have e2:=sB _ _ e2;have S3:=s1.trans (sA.trans sB);generalize upd H2 tp (.tup [.ref L,.ref O])=H3 at *;show#[0,0,m.lr,0,gf.k (k:=Sum.inl t) M3.hr (by rw[Tb.cE];omega),?_];rw[show(V.ref L)=dY #[L,O,[]]from rfl,Tb.cF (f:=dY) fi];show#[_,0,0,0,m.ls,0,gf.k (k:=Sum.inl t) (by rw[ah (JZ M3.n3.2.2)];show M3.hs) (by rw[Tb.cE];omega),4];rw[show(V.ref O)=qW #[L,O,[]]from rfl,Tb.cF (f:=qW) fi];have oC:Off (λb=>b=m.lr\/b=m.ls) H3 (upd (upd H3 m.lr (.dK (Tb.dk dY (Z++[(t,#[L,O,[]])])))) m.ls (.dK (Tb.dk qW (Z++[(t,#[L,O,[]])])))):=λb o e w=>(by rw[ah (λy=>w (.inr y)),ah (λy=>w (.inl y))];show e);have b6:∀{b},H b=none->b≠m.lr/\b≠m.ls:=λh=>#[(λe=>by rw[e,M.hr]at h;cases h),(λe=>by rw[e,M.hs]at h;cases h)];have f1:H L=none:=s1.free h1;have f2:H O=none:=s1.free d8;have M4:cD (upd (upd H3 m.lr (.dK (Tb.dk dY (Z++[(t,#[L,O,[]])])))) m.ls (.dK (Tb.dk qW (Z++[(t,#[L,O,[]])])))) m bN pk (Z++[(t,#[L,O,[]])]):=
    M.add fi (λb o e w=>oC b o (S3 b o e) w) (by rw[ah M.n3.2.2,af]) af (oC _ _ e1 λw=>w.elim (b6 f1).1 (b6 f1).2) (oC _ _ e2 λw=>w.elim (b6 f2).1 (b6 f2).2) (λy J=>by cases J) Lz (λy J=>by cases J) f1 f2 (JZ bi)
   show aT _ _ #[pk,_,M4,#[p0,λcv C=>#[C.keep (λa xs e=>oC a _ (S3 a _ e) (λw=>by rcases w with w|w;rw[w,M.hr]at e;cases e;rw[w,M.hs]at e;cases e)) (λt' q a h=>by rw[qE fi]at h;by_cases c:t'=t;rw[Qi c]at h;cases h;rw[Qh c]at h;show h),trivial]],#[λb o e w=>oC b o (S3 b o e) λy=>w (y.elim (λy=>.inr (.inl y)) λy=>.inr (.inr (.inl y))),λb w=>?_],by rw[J9];show J1 _,λt'=>?_,λt' q=>?_]
   .rcases w with w|w|w|⟨x,hx,w⟩
    .show .inl (.inl w)
    .show .inl (.inr (.inl w))
    .show .inl (.inr (.inr (.inl w)))
    .rcases List.mem_append.mp hx with hx|hx
     .show .inl (.inr (.inr (.inr #[x,hx,w])))
     .rw[List.mem_singleton.mp hx]at w;rcases w with w|w|⟨y,J,_⟩
      .rw[w];show .inr f1
      .rw[w];show .inr f2
      .cases J
   .unfold hZ;rw[Tb.bE t' fi];by_cases c:t'=t
    .rw[Qi c,decide_eq_true c];rfl
    .rw[Qh c,decide_eq_false c];rfl
   .unfold eZ;rw[Tb.bE t' fi];by_cases c:t'=t
    .rw[Qi c,Qi c];rfl
    .rw[Qh c,Qh c]
  |close t =>
   show dX λ_ _ N G=>?_;show dN (bw rfl) bA rfl bT (bC (G _ _ _ ?_));clear N G;show dX λ_ _ N G=>?_;show eqT (bw rfl) bA rfl (dZ (N _ _ _ ?_));clear N G;let#[z,U]:=fi;show#[0,m.lr,rfl,.inl #[_,.inl M1.hr],0,_,Sum.inl t,dY z,M1.hr,rfl,by rw[Tb.cI,U];rfl,?_];rw[Tb.eF];show#[0,m.ls,rfl,.inl #[_,.inl (by rw[ah (JZ M1.n3.2.2)];show M1.hs)],0,_,Sum.inl t,qW z,by rw[ah (JZ M1.n3.2.2)];show M1.hs,rfl,by rw[Tb.cI,U];rfl,?_];rw[Tb.eF];have oC:Off (λb=>b=m.lr\/b=m.ls) H1 (upd (upd H1 m.lr (.dK (Tb.dk dY (Tb.bg Z t)))) m.ls (.dK (Tb.dk qW (Tb.bg Z t)))):=λb o e w=>(by rw[ah (λy=>w (.inr y)),ah (λy=>w (.inl y))];show e);have M4:=M1.del (t:=t) oC (by rw[ah M.n3.2.2,af]) af;show aT _ _ #[pk,_,M4,#[p0,λcv C=>#[C.keep (λa xs e=>oC a _ (s1 a _ e) (λw=>by rcases w with w|w;rw[w,M.hr]at e;cases e;rw[w,M.hs]at e;cases e)) (λt' q a h=>by rw[Dt]at h;by_cases c:t'=t;rw[Qi c]at h;cases h;rw[Qh c]at h;show h),trivial]],#[λb o e w=>oC b o (s1 b o e) λy=>w (y.elim (λy=>.inr (.inl y)) λy=>.inr (.inr (.inl y))),λb w=>.inl ?_],Ko (List.length_filter_le _ _) (MV _),λt'=>?_,λt' q=>?_]
   .rcases w with w|w|w|⟨x,hx,w⟩
    .show .inl w
    .show .inr (.inl w)
    .show .inr (.inr (.inl w))
    .show .inr (.inr (.inr #[x,(Tb.bZ hx).1,w]))
   .unfold hZ;rw[Tb.cj];by_cases c:t'=t
    .rw[Qi c,decide_eq_false (λy=>y c)];rfl
    .rw[Qh c,decide_eq_true c];rfl
   .unfold eZ;rw[Tb.cj];by_cases c:t'=t
    .rw[Qi c,Qi c];rfl
    .rw[Qh c,Qh c]
  |map t p mm =>
   show dX λ_ _ N G=>?_;show dN (bw rfl) bA rfl bT (bC (G _ _ _ ?_));clear N G;show dX λ_ _ N G=>?_;show dN (bw rfl) bA rfl bT (bC (G _ _ _ ?_));clear N G;show dX λ_ _ N G=>?_;show eqT (bw rfl) bA rfl (dZ (N _ _ _ ?_));clear N G;let#[z,U,bd,ee,_]:=fi;have ac:=Tb.ax U;have b1:¬ mm<1:=λw=>bd (.inl w);have b2:¬ p<0:=λw=>bd (.inr (.inl w));have b3:¬ 64<p+mm:=λw=>bd (.inr (.inr w));show#[0,d,2,.int p,1,cg.of as,rfl,0,d,2,.int p,1,cg.of as,rfl,0,d,2,.int mm,1,cg.of as,5,0,5,0,#[ae,ae,ae,ae],?_];show iy (lo:=p) (n:=(p+mm-p).toNat) (λi σ H2=>ym λ(v6:Option V) (pl:List (Int×Addr×Int))=>xM (σ=[some (.ref m.md),some (.ref d),some (.ref m.lr),some (.ref m.ls),some (.str "map"),some (.int t),v6,none,none,none,none]) (cD H2 m bN pk (Tb.aU Z t #[z.ra,z.sa,pl])) ((∀q,(Tb.look pl q).map (·.2)=if p<=q/\q<p+(i:Int)then some 0 else(Tb.look z.pl q).map (·.2))) ((∀y∈pl,y∈z.pl\/H y.2.1=none)) (Off (cM m Z) H H2) ((∀b,H2 b=none->H b=none)/\∀cv,Ct H Z cv->Ct H2 (Tb.aU Z t #[z.ra,z.sa,pl]) (AW cv t p i))) #[_,z.pl,rfl,by rw[yb M.nd U];show M1,λq=>by rw[Qh ae],λy J=>.inl J,λb o e _=>s1 b o e,λb e=>s1.free e,λcv C=>by rw[zJ,yb M.nd U];show C.keep (λa xs e=>s1 _ _ e) λ_ _ _ h=>h] ?_ ?_
   .rintro i σ H2 hi ⟨v6,pl,rfl,M2,ap,be,o2,bY,Y⟩;have aB:=za (y:=(#[z.ra,z.sa,pl]:MT)) U;have ab:=Tb.ax aB;have cx:p+(i:Int)∈Rm.aM p mm:=by
     unfold Rm.aM;show List.mem_map.mpr #[i,List.mem_range.mpr ae,rfl]
    have bm:Tb.look pl (p+(i:Int))=none:=by
     have:=ap (p+(i:Int));rw[Qh ae,ee _ cx]at this;show Option.map_eq_none_iff.mp this
    have b9:=M2.len ab;show#[ar,λl1 dm=>?_];show#[l1,(8),0,rfl,af,ae,ae,by rw[KZ];omega,λl2 bI=>?_];have sA:=(Tb.au (X:=.lst [V.int 0]) dm).trans (Tb.au (X:=.lst ((replicate (8:Int).toNat [V.int 0]).flatten)) bI);have f2:H2 l2=none:=(Tb.au (X:=.lst [V.int 0]) dm).free bI;have e2:upd (upd H2 l1 (.lst [V.int 0])) l2 (.lst ((replicate (8:Int).toNat [V.int 0]).flatten)) l2=some (.lst ((replicate 8 (0:Int)).map V.int)):=af;generalize upd (upd H2 l1 (.lst [V.int 0])) l2 (.lst ((replicate (8:Int).toNat [V.int 0]).flatten))=H3 at *;show#[by change 2<=sizeLine;decide,λtp bv=>?_];have sB:=Tb.au (X:=.tup [.ref l2,.int 0]) bv;show#[tp,0,cg.of af,5,0,?_];have M4:=(M2.same sA).same sB;have S4:=sA.trans sB;have e4:=sB _ _ e2;generalize upd H3 tp (.tup [.ref l2,.int 0])=H4 at *;show#[0,0,m.lr,0,dQ M4.hr aB,0,z.ra,0,gf.k (k:=Sum.inl (p+(i:Int))) (M4.rm _ ab) (by rw[Tb.cE];have:pl.length<=64:=b9;change pl.length<_;omega),?_];have e5:putK (Tb.dk eD pl) (Sum.inl (p+(i:Int))) (.ref l2)=Tb.dk eD (pl++[(p+(i:Int),(l2,0))]):=Tb.cF (f:=eD) (a:=(l2,0)) bm;have e6:putK (Tb.dk nj pl) (Sum.inl (p+(i:Int))) (.int 0)=Tb.dk nj (pl++[(p+(i:Int),(l2,0))]):=Tb.cF (f:=nj) (a:=(l2,0)) bm;have dz:=M.d3 _ ac;have bb:=M.rs _ ac _ ac;change y8 _ _ _ _ (upd H4 z.ra (.dK (putK (Tb.dk eD pl) (Sum.inl (p+(i:Int))) (.ref l2)))) _;rw[e5];have o5:Off (· = z.ra) H4 (upd H4 z.ra (.dK (Tb.dk eD (pl++[(p+(i:Int),(l2,0))])))):=Off.wr rfl;show#[_,0,0,0,m.ls,0,dQ (o5 _ _ M4.hs (JZ dz.2.2.1)) aB,0,z.sa,0,gf.k (k:=Sum.inl (p+(i:Int))) (o5 _ _ (M4.st _ ab) (JZ bb)) (by rw[Tb.cE];have:pl.length<=64:=b9;change pl.length<_;omega),4];have o6:Off (λb=>b=m.md\/b=z.ra\/b=z.sa) H4 (upd (upd H4 z.ra (.dK (Tb.dk eD (pl++[(p+(i:Int),(l2,0))])))) z.sa (.dK (putK (Tb.dk nj pl) (Sum.inl (p+(i:Int))) (.int 0)))):=λb o e w=>(by rw[ah (λy=>w (.inr (.inr y))),ah (λy=>w (.inr (.inl y)))];show e);have M7:=M4.DG (pk':=pk) (pl:=pl++[(p+(i:Int),(l2,0))]) aB o6 (by rw[ah (JZ dz.2.2.2.1),ah (JZ dz.1)];show M4.hm) (by change upd _ z.sa _ z.ra=_;rw[ah bb,af]) (by change upd _ z.sa _ z.sa=_;rw[af,e6]) (λy J=>by
      rcases List.mem_append.mp J with J|J
      .let#[ns,c1,Y]:=M4.cl _ ab y J;show#[ns,o6 _ _ c1 (λw=>by
        rcases w with w|w|w
        .rw[w,M4.hm]at c1;cases c1
        .rw[w,M4.rm _ ab]at c1;cases c1
        .rw[w,M4.st _ ab]at c1;cases c1),Y]
      .rw[List.mem_singleton.mp J];show#[replicate 8 0,o6 _ _ e4 (λw=>by
        have w:l2=m.md\/l2=z.ra\/l2=z.sa:=w;rcases w with w|w|w
        .rw[w,M4.hm]at e4;cases e4
        .rw[w,M4.rm _ ab]at e4;cases e4
        .rw[w,M4.st _ ab]at e4;cases e4),by simp]) (by rw[Ke];show fG (M2.np _ ab) (Tb.cf bm)) (λy J=>by
      rcases List.mem_append.mp J with J|J
      .show M2.rg _ ab y J
      .rw[List.mem_singleton.mp J];change 0<=p+(i:Int)/\p+(i:Int)<64;omega)
    rw[zW]at M7;show#[_,pl++[(p+(i:Int),(l2,0))],rfl,M7,λq=>?_,λy J=>?_,λb o e w=>o6 b o (S4 b o (o2 b o e w)) λy=>w ?_,λb e=>bY b (S4.free (cy (cy e).2).2),λcv C=>?_]
    .rw[Tb.bE q bm];by_cases c:q=p+(i:Int)
     .rw[Qi c,Qi (by rw[c];omega)];rfl
     .rw[Qh c,ap q];by_cases Y:p<=q/\q<p+(i:Int)
      .rw[Qi Y,Qi ae]
      .rw[Qh Y,Qh ae]
    .rcases List.mem_append.mp J with J|J
     .show be y J
     .rw[List.mem_singleton.mp J];show .inr (bY l2 f2)
    .rcases y with y|y|y
     .show .inl y
     .show .inr (.inr (.inr #[_,ac,.inl y]))
     .show .inr (.inr (.inr #[_,ac,.inr (.inl y)]))
    .rw[yT];show(Y cv C).new t (λt' q=>?_) (o6 _ _ e4 (λw=>by
      rcases w with w|w|w
      .rw[w,M4.hm]at e4;cases e4
      .rw[w,M4.rm _ ab]at e4;cases e4
      .rw[w,M4.st _ ab]at e4;cases e4)) f2 (λa xs e=>by
      have e:=S4 _ _ e;show o6 a _ e (λw=>?_);rcases w with w|w|w
      .rw[w,M4.hm]at e;cases e
      .rw[w,M4.rm _ ab]at e;cases e
      .rw[w,M4.st _ ab]at e;cases e)
     rw[j7 U,j7 U];by_cases c:t'=t
     .rw[Qi c,Qi c];change(Tb.look (pl++[(p+(i:Int),(l2,0))]) q).map (·.1)=_;rw[Tb.bE q bm];by_cases c3:q=p+(i:Int)
      .rw[Qi c3,Qi #[c,c3]];rfl
      .rw[Qh c3,Qh (λh=>c3 h.2)]
     .rw[Qh c,Qh c,Qh (λh=>c h.1)]
   .rintro σ H2 ⟨v6,pl,rfl,M2,ap,be,o2,bY,Y⟩;show aT _ _ #[pk,_,M2,#[p0,λcv C=>#[by rw[show oK (.map t p mm) cv=AW cv t p (p+mm-p).toNat from BZ.symm];show Y cv C,trivial]],#[o2,mj U λy J=>(be y J).imp (λh=>#[y,h,rfl]) id],by rw[Tb.gy];omega,vv U,λt' q=>?_];rw[vz U];have bn:q∈Rm.aM p mm↔(p<=q/\q<p+((p+mm-p).toNat:Int)):=by
     unfold Rm.aM;rw[PZ];constructor
     .rintro⟨j,hj,rfl⟩;have:=List.mem_range.mp hj;omega
     .intro h;show#[(q-p).toNat,List.mem_range.mpr ae,ae]
    by_cases c:t'=t
    .rw[Qi c,ap q];by_cases Y:q∈Rm.aM p mm
     .rw[Qi (bn.mp Y),Qi #[c,Y]]
     .rw[Qh (λh=>Y (bn.mpr h)),Qh (λh=>Y h.2),c,wM U]
    .rw[Qh c,Qh (λh=>c h.1)]
  |drop t p mm =>
   show dX λ_ _ N G=>?_;show dN (bw rfl) bA rfl bT (bC (G _ _ _ ?_));clear N G;show dX λ_ _ N G=>?_;show dN (bw rfl) bA rfl bT (bC (G _ _ _ ?_));clear N G;show dX λ_ _ N G=>?_;show dN (bw rfl) bA rfl bT (bC (G _ _ _ ?_));clear N G;show dX λ_ _ N G=>?_;show eqT (bw rfl) bA rfl (dZ (N _ _ _ ?_));clear N G;let#[z,U,bd,ec]:=fi;have ac:=Tb.ax U;have b1:¬ mm<1:=λw=>bd (.inl w);have b2:¬ p<0:=λw=>bd (.inr (.inl w));have b3:¬ 64<p+mm:=λw=>bd (.inr (.inr w));show#[0,d,2,.int p,1,cg.of as,rfl,0,d,2,.int p,1,cg.of as,rfl,0,d,2,.int mm,1,cg.of as,5,0,5,0,#[ae,ae,ae,ae],?_];show iy (lo:=p) (n:=(p+mm-p).toNat) (λi σ H2=>ym λ(v6:Option V) (pl:List (Int×Addr×Int))=>xM (σ=[some (.ref m.md),some (.ref d),some (.ref m.lr),some (.ref m.ls),some (.str "drop"),some (.int t),v6,none,none,none,none]) (cD H2 m bN pk (Tb.aU Z t #[z.ra,z.sa,pl])) ((∀q,(Tb.look pl q).map (·.2)=if p<=q/\q<p+(i:Int)then none else(Tb.look z.pl q).map (·.2))) ((∀y∈pl,y∈z.pl\/H y.2.1=none)) (Off (cM m Z) H H2) (∀cv,Ct H Z cv->Ct H2 (Tb.aU Z t #[z.ra,z.sa,pl]) cv)) #[_,z.pl,rfl,by rw[yb M.nd U];show M1,λq=>by rw[Qh ae],λy J=>.inl J,λb o e _=>s1 b o e,λcv C=>by rw[yb M.nd U];show C.keep (λa xs e=>s1 _ _ e) λ_ _ _ h=>h] ?_ ?_
   .rintro i σ H2 hi ⟨v6,pl,rfl,M2,ap,be,o2,Y⟩;have aB:=za (y:=(#[z.ra,z.sa,pl]:MT)) U;have ab:=Tb.ax aB;have cx:p+(i:Int)∈Rm.aM p mm:=by
     unfold Rm.aM;show List.mem_map.mpr #[i,List.mem_range.mpr ae,rfl]
    obtain⟨y,J⟩:∃y,Tb.look pl (p+(i:Int))=some y:=by
     have h1:=ap (p+(i:Int));rw[Qh ae]at h1;cases e:Tb.look pl (p+(i:Int))with
     |some y=>show#[y,rfl]
     |none =>
      rw[e]at h1;show absurd (Option.map_eq_none_iff.mp h1.symm) (ec _ cx)
    have dz:=M.d3 _ ac;have bb:=M.rs _ ac _ ac;show#[0,0,m.lr,0,dQ M2.hr aB,z.ra,rfl,.inl #[_,.inl (M2.rm _ ab)],0,_,Sum.inl (p+(i:Int)),eD y,M2.rm _ ab,rfl,by rw[Tb.cI,J];rfl,?_];rw[Tb.eF];have o5:Off (· = z.ra) H2 (upd H2 z.ra (.dK (Tb.dk eD (Tb.bg pl (p+(i:Int)))))):=Off.wr rfl;have h5:=o5 _ _ (M2.st _ ab) (JZ bb);show#[0,0,m.ls,0,dQ (o5 _ _ M2.hs (JZ dz.2.2.1)) aB,z.sa,rfl,.inl #[_,.inl h5],0,_,Sum.inl (p+(i:Int)),nj y,h5,rfl,by rw[Tb.cI,J];rfl,?_];rw[Tb.eF];have o6:Off (λb=>b=m.md\/b=z.ra\/b=z.sa) H2 (upd (upd H2 z.ra (.dK (Tb.dk eD (Tb.bg pl (p+(i:Int)))))) z.sa (.dK (Tb.dk nj (Tb.bg pl (p+(i:Int)))))):=λb o e w=>(by rw[ah (λy=>w (.inr (.inr y))),ah (λy=>w (.inr (.inl y)))];show e);have M7:=M2.DG (pk':=pk) (pl:=Tb.bg pl (p+(i:Int))) aB o6 (by rw[ah (JZ dz.2.2.2.1),ah (JZ dz.1)];show M2.hm) (by change upd _ z.sa _ z.ra=_;rw[ah bb,af]) (by change upd _ z.sa _ z.sa=_;rw[af]) (λy J=>by
      let#[ns,c1,Y]:=M2.cl _ ab y (Tb.bZ J).1;show#[ns,o6 _ _ c1 (λw=>by
        rcases w with w|w|w
        .rw[w,M2.hm]at c1;cases c1
        .rw[w,M2.rm _ ab]at c1;cases c1
        .rw[w,M2.st _ ab]at c1;cases c1),Y]) (Tb.m5 (M2.np _ ab)) (λy J=>M2.rg _ ab y (Tb.bZ J).1)
    rw[zW]at M7;show#[_,Tb.bg pl (p+(i:Int)),rfl,M7,λq=>?_,λy J=>be y (Tb.bZ J).1,λb o e w=>o6 b o (o2 b o e w) λy=>w ?_,λcv C=>(Y cv C).keep (λa xs e=>?_) λt' q' a h=>?_]
    .rw[Tb.cj];by_cases c:q=p+(i:Int)
     .rw[Qi c,Qi (by rw[c];omega)];rfl
     .rw[Qh c,ap q];by_cases Y:p<=q/\q<p+(i:Int)
      .rw[Qi Y,Qi ae]
      .rw[Qh Y,Qh ae]
    .rcases y with y|y|y
     .show .inl y
     .show .inr (.inr (.inr #[_,ac,.inl y]))
     .show .inr (.inr (.inr #[_,ac,.inr (.inl y)]))
    .show o6 a _ e (λw=>?_);rcases w with w|w|w
     .rw[w,M2.hm]at e;cases e
     .rw[w,M2.rm _ ab]at e;cases e
     .rw[w,M2.st _ ab]at e;cases e
    .rw[j7 U]at h ⊢;by_cases c:t'=t
     .rw[Qi c]at h ⊢;have h:(Tb.look (Tb.bg pl (p+(i:Int))) q').map (·.1)=some a:=h;rw[Tb.cj]at h;by_cases c3:q'=p+(i:Int)
      .rw[Qi c3]at h;cases h
      .rw[Qh c3]at h;show h
     .rw[Qh c]at h ⊢;show h
   .rintro σ H2 ⟨v6,pl,rfl,M2,ap,be,o2,bY⟩;show aT _ _ #[pk,_,M2,#[p0,λcv C=>#[bY cv C,trivial]],#[o2,mj U λy J=>(be y J).imp (λh=>#[y,h,rfl]) id],by rw[Tb.gy];omega,vv U,λt' q=>?_];rw[vz U];have bn:q∈Rm.aM p mm↔(p<=q/\q<p+((p+mm-p).toNat:Int)):=by
     unfold Rm.aM;rw[PZ];constructor
     .rintro⟨j,hj,rfl⟩;have:=List.mem_range.mp hj;omega
     .intro h;show#[(q-p).toNat,List.mem_range.mpr ae,ae]
    by_cases c:t'=t
    .rw[Qi c,ap q];by_cases Y:q∈Rm.aM p mm
     .rw[Qi (bn.mp Y),Qi #[c,Y]]
     .rw[Qh (λh=>Y (bn.mpr h)),Qh (λh=>Y h.2),c,wM U]
    .rw[Qh c,Qh (λh=>c h.1)]
  |copy t o =>
   show dX λ_ _ N G=>?_;show dN (bw rfl) bA rfl bT (bC (G _ _ _ ?_));clear N G;show dX λ_ _ N G=>?_;show dN (bw rfl) bA rfl bT (bC (G _ _ _ ?_));clear N G;show dX λ_ _ N G=>?_;show dN (bw rfl) bA rfl bT (bC (G _ _ _ ?_));clear N G;show dX λ_ _ N G=>?_;show dN (bw rfl) bA rfl bT (bC (G _ _ _ ?_));clear N G;show dX λ_ _ N G=>?_;show eqT (bw rfl) bA rfl (dZ (N _ _ _ ?_));clear N G;let#[z,U,eo,_]:=fi;have ac:=Tb.ax U;have dz:=M.d3 _ ac;have bb:=M.rs _ ac _ ac;have eq:t≠o:=λe=>(by rw[e,eo]at U;cases U);show#[0,0,m.ls,0,dQ M1.hs U,z.sa,0,M1.st _ ac,λO h2=>?_];have f2:H O=none:=s1.free h2;have sA:=Tb.au (X:=.dK (Tb.dk nj z.pl)) h2;have e2:upd H1 O (.dK (Tb.dk nj z.pl)) O=some (.dK (Tb.dk nj z.pl)):=af;have M2:=M1.same sA;have S2:=s1.trans sA;have d7:=sA _ _ as;generalize upd H1 O (.dK (Tb.dk nj z.pl))=H2 at *;show#[0,0,d,2,.int o,1,cg.of d7,rfl,m.ls,0,gf.k (k:=Sum.inl o) M2.hs (by rw[Tb.cE];omega),?_];rw[show(V.ref O)=qW #[O,O,[]]from rfl,Tb.cF (f:=qW) eo,lg];change m7 _ _ _ _ (upd H2 m.ls (.dK (Tb.dk qW Z++[(Sum.inl o,V.ref O)])));have o3:Off (· = m.ls) H2 (upd H2 m.ls (.dK (Tb.dk qW Z++[(Sum.inl o,V.ref O)]))):=Off.wr rfl;have dL:upd H2 m.ls (.dK (Tb.dk qW Z++[(Sum.inl o,V.ref O)])) m.ls=some (.dK (Tb.dk qW Z++[(Sum.inl o,V.ref O)])):=af;generalize upd H2 m.ls (.dK (Tb.dk qW Z++[(Sum.inl o,V.ref O)]))=H3 at *;have df:O≠m.ls:=λe=>(by rw[e,M.hs]at f2;cases f2);have eH:O≠m.lr:=λe=>(by rw[e,M.hr]at f2;cases f2);have eC:∀{b kvs},H b=some (.dK kvs)->b≠m.ls->H3 b=some (.dK kvs):=λe n=>o3 _ _ (S2 _ _ e) n;have fa:∀{b xs},H b=some (.tup xs)->H3 b=some (.tup xs):=λe=>o3 _ _ (S2 _ _ e) (λw=>by rw[w,M.hs]at e;cases e);have fk:∀{b xs},H b=some (.lst xs)->H3 b=some (.lst xs):=λe=>o3 _ _ (S2 _ _ e) (λw=>by rw[w,M.hs]at e;cases e);intro L h1;have f1:H L=none:=by
    cases e:H L with
    |none=>rfl
    |some u =>
     by_cases w:L=m.ls
     .rw[w,dL]at h1;cases h1
     .rw[o3 _ _ (S2 _ _ e) w]at h1;cases h1
   have bi:L≠O:=λe=>(by rw[e,o3 _ _ e2 df]at h1;cases h1);have b8:L≠m.lr:=λe=>(by rw[e,M.hr]at f1;cases f1);have c5:L≠m.ls:=λe=>(by rw[e,M.hs]at f1;cases f1);have fc:upd H3 L (.dK []) m.lr=some (.dK (Tb.dk dY Z)):=(by rw[ah (JZ b8)];show eC M.hr M.n3.2.2);show#[0,0,d,2,.int o,1,cg.of (Tb.au h1 _ _ (fa hd.1)),rfl,m.lr,0,gf.k (k:=Sum.inl o) fc (by rw[Tb.cE];omega),?_];rw[show(V.ref L)=dY #[L,O,[]]from rfl,Tb.cF (f:=dY) eo];have o5:Off (λb=>b=m.lr\/b=m.ls) H (upd (upd H3 L (.dK [])) m.lr (.dK (Tb.dk dY (Z++[(o,#[L,O,[]])])))):=λb u e w=>by
    rw[ah (λy=>w (.inl y)),ah (aq e f1)];show o3 _ _ (S2 _ _ e) λy=>w (.inr y)
   have dl:upd (upd H3 L (.dK [])) m.lr (.dK (Tb.dk dY (Z++[(o,#[L,O,[]])]))) m.lr=some (.dK (Tb.dk dY (Z++[(o,#[L,O,[]])]))):=af;have eN:upd (upd H3 L (.dK [])) m.lr (.dK (Tb.dk dY (Z++[(o,#[L,O,[]])]))) m.ls=some (.dK (Tb.dk qW Z++[(Sum.inl o,V.ref O)])):=(by rw[ah (JZ M.n3.2.2),ah (JZ c5)];show dL);have ek:upd (upd H3 L (.dK [])) m.lr (.dK (Tb.dk dY (Z++[(o,#[L,O,[]])]))) L=some (.dK []):=(by rw[ah b8,af]);have dT:upd (upd H3 L (.dK [])) m.lr (.dK (Tb.dk dY (Z++[(o,#[L,O,[]])]))) O=some (.dK (Tb.dk nj z.pl)):=(by rw[ah eH,ah (JZ bi)];show o3 _ _ e2 df);generalize upd (upd H3 L (.dK [])) m.lr (.dK (Tb.dk dY (Z++[(o,#[L,O,[]])])))=H5 at *;have bG:∀{b},b≠m.lr->b≠m.ls->¬ (b=m.lr\/b=m.ls):=λa b w=>w.elim a b;have hn:∀(ob:Obj) u',H z.ra≠some (.cu ob u'):=λob u' w=>(by rw[M.rm _ ac]at w;cases w);have d5:Tb.look (Z++[(o,(#[L,O,[]]:MT))]) t=some z:=(by rw[Tb.bE t eo,Qh eq];show U);have ey:Tb.look (Z++[(o,(#[L,O,[]]:MT))]) o=some #[L,O,[]]:=(by rw[Tb.bE o eo,Qi rfl]);have eb:=o5 _ _ (M.rm _ ac) (bG dz.2.1 dz.2.2.1);show#[0,0,m.lr,0,dQ dl d5,z.ra,0,eb,hn,λob=>?_];have b4:L≠z.ra:=λe=>(by rw[e,M.rm _ ac]at f1;cases f1);have cS:O≠z.ra:=λe=>(by rw[e,M.rm _ ac]at f2;cases f2);have oF:Off (· = z.ra) H5 (upd H5 z.ra (.cu ob (.dK (Tb.dk eD z.pl)))):=Off.wr rfl;have hF:upd H5 z.ra (.cu ob (.dK (Tb.dk eD z.pl))) z.ra=some (.cu ob (.dK (Tb.dk eD z.pl))):=af;have b5:=oF _ _ ek b4;have el:=oF _ _ dT cS;have b0:=oF _ _ dl (JZ dz.2.1);have c4:=oF _ _ eN (JZ dz.2.2.1);have ch:=oF _ _ (o5 _ _ hd.1 (bG (λw=>by have:=hd.1;rw[w,M.hr]at this;cases this) (λw=>by have:=hd.1;rw[w,M.hs]at this;cases this))) (λw=>by have:=hd.1;rw[w,M.rm _ ac]at this;cases this);have c9:∀{b},upd H5 z.ra (.cu ob (.dK (Tb.dk eD z.pl))) b=none->H b=none:=λ{b} e=>by
    cases e2:H b with
    |none=>rfl
    |some u =>
     exfalso;by_cases w1:b=z.ra
     .rw[w1,hF]at e;cases e
     .by_cases w2:b=m.lr
      .rw[w2,b0]at e;cases e
      .by_cases w3:b=m.ls
       .rw[w3,c4]at e;cases e
       .rw[oF _ _ (o5 _ _ e2 (bG w2 w3)) w1]at e;cases e
   have ea:∀y∈z.pl,∃ns:List Int,upd H5 z.ra (.cu ob (.dK (Tb.dk eD z.pl))) y.2.1=some (.lst (ns.map V.int))/\ns.length=8:=λy J=>by
    let#[ns,c1,Y]:=M.cl _ ac y J;show#[ns,oF _ _ (o5 _ _ c1 (bG (λw=>by rw[w,M.hr]at c1;cases c1) (λw=>by rw[w,M.hs]at c1;cases c1))) (λw=>by rw[w,M.rm _ ac]at c1;cases c1),Y]
   have OF:∀b u,H b=some u->b≠m.lr->b≠m.ls->b≠z.ra->upd H5 z.ra (.cu ob (.dK (Tb.dk eD z.pl))) b=some u:=λb u e a1 a2 a3=>oF _ _ (o5 _ _ e (bG a1 a2)) a3;generalize upd H5 z.ra (.cu ob (.dK (Tb.dk eD z.pl)))=HF at *;have bz:(z.pl.map (·.1)).Nodup:=M.np _ ac;show jZ (a:=z.ra) (o:=ob) (kvs:=Tb.dk eD z.pl) (λi σ H6=>Fl λ(v6 v7:Option V) (pl:List (Int×Addr×Int))=>EG (σ=[some (.ref m.md),some (.ref d),some (.ref m.lr),some (.ref m.ls),some (.str "copy"),some (.int t),v6,v7,none,none,none]) (H6 L=some (.dK (Tb.dk eD pl))) ((pl.map λy=>(y.1,y.2.2))=((z.pl.take i).map λy=>(y.1,y.2.2))) ((∀y∈pl,(∃ns:List Int,H6 y.2.1=some (.lst (ns.map V.int))/\ns.length=8)/\HF y.2.1=none)) (Off (· = L) HF H6/\(pl.map (·.2.1)).Nodup/\∀cv,Ct H Z cv->∀u∈pl,H6 u.2.1=some (.lst ((cv t u.1).map V.int))))
    #[2,[],rfl,b5,rfl,(λy J=>by cases J),λ_ _ e _=>e,Lz,λcv C u hu=>by cases hu] (λi σ H6 _ z0=>by let#[_,_,_,_,_,_,_,o6]:=z0;show o6.1 _ _ hF (JZ b4)) ?_ ?_
   .rintro i kk v σ H6 T' hk hT ⟨v6,v7,pl,rfl,cp,ba,bl,o6,cC,cr⟩;have da:(z.pl.map λx:Int×Addr×Int=>((Sum.inl x.1:Key),eD x.2))[i]?=some (kk,v):=hk;rw[J3]at da;let#[y,J,e]:=Option.map_eq_some_iff.mp da;cases e;have dj:=J7 J;let#[hi,fl]:=List.getElem?_eq_some_iff.mp J;have b9:z.pl.length<=64:=M.len ac;have fo:pl.length=i:=by
     have:=congrArg List.length ba;rw[DD,DD,Kg]at this;omega
    have fe:Tb.look pl y.1=none:=by
     cases e:Tb.look pl y.1 with
     |none=>rfl
     |some u =>
      exfalso;have h1:(y.1,u.2)∈pl.map λy=>(y.1,y.2.2):=List.mem_map.mpr #[_,Tb.ax e,rfl];rw[ba]at h1;let#[y',h2,h3]:=List.mem_map.mp h1;let#[j,hj,e3]:=Lh h2;rw[Ms]at e3;rw[Kg]at hj;show mE bz j i (a:=y'.1) (b:=y.1) ?_ ?_ ae (Nt h3).1
      .rw[J3,J4 ae,e3];rfl
      .rw[J3,J];rfl
    let#[ns,c1,Y]:=ea y dj;have ew:y.2.1≠L:=λw=>(by rw[w,b5]at c1;cases c1);have sT:=Tb.au (X:=.tup [kV (Sum.inl y.1),eD y.2]) hT;show#[T',[.int y.1,.ref y.2.1],rfl,cg.of af,5,0,_,0,4];have c7:=sT _ _ (o6 _ _ c1 ew);have b7:=sT _ _ cp;have em:=sT _ _ (o6 _ _ b0 (JZ b8));have e0:=sT _ _ (o6 _ _ ch (λw=>by rw[w,b5]at ch;cases ch));have O7:Off (· = L) HF (upd H6 T' (.tup [kV (Sum.inl y.1),eD y.2])):=λb u e w=>sT _ _ (o6 _ _ e w);have C7:∀u∈pl,(∃ns:List Int,upd H6 T' (.tup [kV (Sum.inl y.1),eD y.2]) u.2.1=some (.lst (ns.map V.int))/\ns.length=8)/\HF u.2.1=none:=λu hu=>by
     let#[#[a7,a1,a2],a3]:=bl u hu;show#[#[a7,sT _ _ a1,a2],a3]
    have dV:∀cv,Ct H Z cv->(∀u∈pl,upd H6 T' (.tup [kV (Sum.inl y.1),eD y.2]) u.2.1=some (.lst ((cv t u.1).map V.int)))/\ns.map V.int=(cv t y.1).map V.int:=λcv C=>by
     show#[λu hu=>sT _ _ (cr cv C u hu),?_];have e:=C.at_ t y.1 y.2.1 (by rw[rF U,Tb.bL bz dj];rfl);have e2:=OF _ _ e (λw=>by rw[w,M.hr]at e;cases e) (λw=>by rw[w,M.hs]at e;cases e) (λw=>by rw[w,M.rm _ ac]at e;cases e);show HO.lst.inj (Option.some.inj (c1.symm.trans e2))
    generalize upd H6 T' (.tup [kV (Sum.inl y.1),eD y.2])=H7 at *;show#[0,y.2.1,0,.inl (bB.of c7),λl hl=>?_];have sL:=Tb.au (X:=.lst (ns.map V.int)) hl;have ci:HF l=none:=by
     cases e:HF l with
     |none=>rfl
     |some u =>
      by_cases w:l=L
      .rw[w,b7]at hl;cases hl
      .rw[O7 _ _ e w]at hl;cases hl
    have dd:l≠L:=λw=>(by rw[w,b5]at ci;cases ci);show#[0,0,d,2,.int o,1,cg.of (sL _ _ e0),rfl,m.lr,0,dQ (sL _ _ em) ey,0,L,0,gf.k (k:=Sum.inl y.1) (sL _ _ b7) (by rw[Tb.cE];omega),?_];have e8:putK (Tb.dk eD pl) (Sum.inl y.1) (.ref l)=Tb.dk eD (pl++[(y.1,(l,y.2.2))]):=Tb.cF (f:=eD) (a:=(l,y.2.2)) fe;show#[2,pl++[(y.1,(l,y.2.2))],rfl,by rw[<-e8];show af,?_,λu hu=>?_,λb u e w=>by rw[ah w];show sL _ _ (O7 _ _ e w),?_,λcv C u hu=>?_]
    .rw[Ke,ba,Li,J,Ke];rfl
    .rcases List.mem_append.mp hu with hu|hu
     .let#[#[a7,a1,a2],a3]:=C7 u hu;show#[#[a7,by rw[ah (λw=>by rw[w,b7]at a1;cases a1)];show sL _ _ a1,a2],a3]
     .rw[List.mem_singleton.mp hu];show#[#[ns,by change upd _ L _ l=_;rw[ah dd,af],Y],ci]
    .rw[Ke];show fG cC (λm'=>?_);let#[u,hu,e]:=List.mem_map.mp m';let#[#[a7,a1,_],_]:=C7 u hu;rw[e,hl]at a1;cases a1
    .let#[g1,g2]:=dV cv C;rcases List.mem_append.mp hu with hu|hu
     .have a1:=g1 u hu;rw[ah (λw=>by rw[w,b7]at a1;cases a1)];show sL _ _ a1
     .rw[List.mem_singleton.mp hu];change upd _ L _ l=_;rw[ah dd,af];show congrArg (λx=>some (HO.lst x)) g2
   .rintro σ H6 ⟨v6,v7,pl,rfl,cp,ba,bl,o6,cC,cr⟩;rw[Tb.cE,Lk]at ba;show#[z.ra,ob,_,o6 _ _ hF (JZ b4),hn,?_];have o7:Off (λb=>b=m.lr\/b=m.ls) H (upd H6 z.ra (.dK (Tb.dk eD z.pl))):=λb u e w=>by
     by_cases w1:b=z.ra
     .rw[w1,af, <-e,w1,M.rm _ ac]
     .rw[ah w1];show o6 _ _ (OF b u e (λy=>w (.inl y)) (λy=>w (.inr y)) w1) (aq e f1)
    have db:(pl.map (·.1))=z.pl.map (·.1):=by
     have:=congrArg (List.map (·.1)) ba;rw[Lc,Lc]at this;show this
    have M8:cD (upd H6 z.ra (.dK (Tb.dk eD z.pl))) m bN pk (Z++[(o,#[L,O,pl])]):=M.add (z:=#[L,O,pl]) eo o7
     (by rw[ah (JZ dz.2.1),lg];rw[lg]at b0;show o6 _ _ b0 (JZ b8))
     (by rw[ah (JZ dz.2.2.1),lg];show o6 _ _ c4 (JZ c5))
     (by change upd H6 z.ra _ L=_;rw[ah b4];show cp)
     (by change upd H6 z.ra _ O=_;rw[ah cS,o6 _ _ el (JZ bi),Hg ba])
     (λy J=>by
      let#[#[a7,a1,a2],a3]:=bl y J;show#[a7,by rw[ah (λw=>by rw[w,hF]at a3;cases a3)];show a1,a2])
     (by rw[db];show bz)
     (λy J=>by
      have h1:y.1∈pl.map (·.1):=List.mem_map.mpr #[y,J,rfl];rw[db]at h1;let#[y',h2,h3]:=List.mem_map.mp h1;rw[<-h3];show M.rg _ ac y' h2) f1 f2 bi
    show aT _ _ #[pk,_,M8,#[p0,λcv C=>#[C.IS eo (λu hu=>#[by rw[ah (λw=>by have:=(bl u hu).2;rw[w,hF]at this;cases this)];show cr cv C u hu,c9 (bl u hu).2]) cC (λa xs e=>o7 a _ e (λw=>by rcases w with w|w;rw[w,M.hr]at e;cases e;rw[w,M.hs]at e;cases e)),trivial]],#[λb u e w=>o7 b u e λy=>w (y.elim (λy=>.inr (.inl y)) λy=>.inr (.inr (.inl y))),λb w=>?_],by rw[J9];show J1 _,λt'=>?_,λt' q=>?_]
    .rcases w with w|w|w|⟨x,hx,w⟩
     .show .inl (.inl w)
     .show .inl (.inr (.inl w))
     .show .inl (.inr (.inr (.inl w)))
     .rcases List.mem_append.mp hx with hx|hx
      .show .inl (.inr (.inr (.inr #[x,hx,w])))
      .rw[List.mem_singleton.mp hx]at w;rcases w with w|w|⟨y,J,w⟩
       .rw[w];show .inr f1
       .rw[w];show .inr f2
       .rw[w];show .inr (c9 (bl y J).2)
    .unfold hZ;rw[Tb.bE t' eo];by_cases c:t'=o
     .rw[Qi c,decide_eq_true c];rfl
     .rw[Qh c,decide_eq_false c];rfl
    .unfold eZ;rw[Tb.bE t' eo];by_cases c:t'=o
     .rw[Qi c,Qi c,U];change(Tb.look pl q).map (·.2)=(Tb.look z.pl q).map (·.2);have h1:=j0 (λx:Addr×Int=>x.2) q pl;have h2:=j0 (λx:Addr×Int=>x.2) q z.pl;rw[<-h1, <-h2];change Tb.look (pl.map λy=>(y.1,y.2.2)) q=Tb.look (z.pl.map λy=>(y.1,y.2.2)) q;rw[ba]
     .rw[Qh c,Qh c]
  |peek t ad n =>
   show dX λ_ _ N G=>?_;show dN (bw rfl) bA rfl bT (bC (G _ _ _ ?_));clear N G;show dX λ_ _ N G=>?_;show dN (bw rfl) bA rfl bT (bC (G _ _ _ ?_));clear N G;show dX λ_ _ N G=>?_;show dN (bw rfl) bA rfl bT (bC (G _ _ _ ?_));clear N G;show dX λ_ _ N G=>?_;show dN (bw rfl) bA rfl bT (bC (G _ _ _ ?_));clear N G;show dX λ_ _ N G=>?_;show dN (bw rfl) bA rfl bT (bC (G _ _ _ ?_));clear N G;show dX λ_ _ N G=>?_;show eqT (bw rfl) bA rfl (dZ (N _ _ _ ?_));clear N G;let#[z,U,ev,ca]:=fi;let#[a0,a1,n1]:=dO _ _ _ rfl;have ac:=Tb.ax U;show#[0,d,2,.int ad,1,cg.of as,rfl,0,d,2,.int ad,1,cg.of as,rfl,0,d,2,.int n,1,cg.of as,5,0,5,0,#[ae,ae,ae,ae],?_];show eu (lo:=ad) (n:=(ad+(n:Int)-ad).toNat) (λi ys H2=>ys.length=i/\(∀cv,Ct H Z cv->ys=((List.range i).map λj:Nat=>(cv t ((ad+(j:Int))/8)).getD ((ad+(j:Int))%8).toNat 0).map V.int)/\H2=H1) #[rfl,λ_ _=>rfl,rfl] ?_ ?_
   .rintro i ys H2 hi ⟨hl,hc,rfl⟩;obtain⟨y,J⟩:∃y,Tb.look z.pl ((ad+(i:Int))/8)=some y:=by
     cases e:Tb.look z.pl ((ad+(i:Int))/8)with
     |some y=>show#[y,rfl]
     |none=>show absurd e (ca i ae)
    let#[ns,c1,Y]:=M1.cl _ ac _ (Tb.ax J);let#[b1,_]:=at_of (xs:=ns) (i:=(ad+(i:Int))%8) (n:=8) ae ae ae;show#[0,0,m.lr,dY z,rfl,dQ M1.hr U,0,_,0,rfl,#[ar,ar],z.ra,eD y,rfl,dQ (M1.rm _ ac) J,0,_,0,rfl,(by change(0:Int)<8;decide),y.1,2,0,rfl,bB.of c1,b1,ae,by rw[J9,hl];rfl,λcv C=>by
     have e:=C.at_ t _ y.1 (by rw[rF U,J];rfl);rw[Nk,Ke,Ke,hc cv C];have:=jn (HO.lst.inj (Option.some.inj (c1.symm.trans (s1 _ _ e))));rw[this];rfl,rfl]
   .rintro ys H2 ⟨hl,hc,rfl⟩ l bI;have s2:=Tb.au (X:=.lst ys) bI;show k _ pk Z (.ref l) (M1.same s2) #[p0,λcv C=>#[C.keep (λa xs e=>s2 _ _ (s1 _ _ e)) (λ_ _ _ h=>h),l,rfl,s1.free bI,by rw[af,hc cv C,show(ad+(n:Int)-ad).toNat=n by omega];rfl]] #[λb o e _=>s2 _ _ (s1 _ _ e),λb w=>.inl w] (MV _) (λ_=>rfl) λ_ _=>rfl
  |poke t ad c cs =>
   show dX λ_ _ N G=>?_;show dN (bw rfl) bA rfl bT (bC (G _ _ _ ?_));clear N G;show dX λ_ _ N G=>?_;show dN (bw rfl) bA rfl bT (bC (G _ _ _ ?_));clear N G;show dX λ_ _ N G=>?_;show dN (bw rfl) bA rfl bT (bC (G _ _ _ ?_));clear N G;show dX λ_ _ N G=>?_;show dN (bw rfl) bA rfl bT (bC (G _ _ _ ?_));clear N G;show dX λ_ _ N G=>?_;show dN (bw rfl) bA rfl bT (bC (G _ _ _ ?_));clear N G;show dX λ_ _ N G=>?_;show dN (bw rfl) bA rfl bT (bC (G _ _ _ ?_));clear N G;let#[z,U,ev,ca]:=fi;let#[d4,a0,a1,n1]:=ei _ _ _ _ rfl;have ac:=Tb.ax U;have dp:=s1 _ _ (hd.2 _ _ _ _ rfl);have dz:=M.d3 _ ac;have bb:=M.rs _ ac _ ac;have bz:¬ cM m Z d:=λw=>by
    rcases M1.alive d w with⟨_,e⟩|⟨_,e⟩
    .rw[as]at e;cases e
    .rw[as]at e;cases e
   show#[0,d,2,.ref c,1,cg.of as,rfl,c,rfl,#[_,bB.of dp],?_];show zO (K:=K) (a:=c) (xs:=cs.map V.int) (λi σ H2=>AJ λ(v8 v9 cP:Option V) (am:Int) (pl:List (Int×Addr×Int))=>HA (σ=[some (.ref m.md),some (.ref d),some (.ref m.lr),some (.ref m.ls),some (.str "poke"),some (.int t),none,none,v8,v9,cP]) (cD H2 m bN am (Tb.aU Z t #[z.ra,z.sa,pl])) (0<=am) ((pl.map λy=>(y.1,y.2.1))=(z.pl.map λy=>(y.1,y.2.1))) ((∀q,(∃j:Nat,j<i/\(ad+j)/8=q)->∃v,(Tb.look pl q).map (·.2)=some v/\v≠0)) ((∀q,(¬ ∃j:Nat,j<i/\(ad+j)/8=q)->(Tb.look pl q).map (·.2)=(Tb.look z.pl q).map (·.2))) (Off (cM m Z) H1 H2/\∀cv,Ct H Z cv->Ct H2 (Tb.aU Z t #[z.ra,z.sa,pl]) (CO cv t ad (cs.take i))))
    #[2,_,pk,z.pl,rfl,by rw[yb M.nd U];show M1,p0,rfl,λq ⟨j,h,_⟩=>ae,λ_ _=>rfl,λ_ _ e _=>e,λcv C=>by
     rw[yb M.nd U];show(C.keep (λa xs e=>s1 _ _ e) (λ_ _ _ h=>h)).congr λt' q a h=>?_;unfold CO;by_cases cc:t'=t
     .rw[Qi cc,N9,cc,Aj (C.BE M (by rw[<-cc];show h))]
     .rw[Qh cc]] (λi σ H2 _ z0=>by let#[_,_,_,_,_,_,_,_,_,_,_,o2]:=z0;show bB.of (o2.1 _ _ dp d4)) ?_ ?_
   .rintro i x σ H2 T' hx hT ⟨v8,v9,cP,am,pl,rfl,M2,p2,bc,ap,bx,o2,Y⟩;have hi:i<cs.length:=(by simpa using(List.getElem?_eq_some_iff.mp hx).1);rw[J3]at hx;let#[cell,ef,rfl]:=Option.map_eq_some_iff.mp hx;have aB:=za (y:=(#[z.ra,z.sa,pl]:MT)) U;have ab:=Tb.ax aB;have sT:=Tb.au (X:=.tup [.int i,.int cell]) hT;have M3:=M2.same sT;show#[T',[.int i,.int cell],rfl,cg.of af,5,0,_,0,4];have ej:=sT _ _ (o2 _ _ as bz);have c3:∀cv,Ct H Z cv->Ct (upd H2 T' (.tup [.int i,.int cell])) (Tb.aU Z t #[z.ra,z.sa,pl]) (CO cv t ad (cs.take i)):=λcv C=>(Y cv C).keep (λa xs e=>sT _ _ e) λ_ _ _ h=>h;have O3:Off (cM m Z) H1 (upd H2 T' (.tup [.int i,.int cell])):=λb o e w=>sT _ _ (o2 _ _ e w);generalize upd H2 T' (.tup [.int i,.int cell])=H3 at *;show#[0,d,2,.int ad,1,cg.of ej,rfl,0,_,0,4];obtain⟨y,J⟩:∃y,Tb.look pl ((ad+(i:Int))/8)=some y:=by
     cases e:Tb.look pl ((ad+(i:Int))/8)with
     |some y=>show#[y,rfl]
     |none=>show absurd ((oz bc _).mp e) (ca i hi)
    let#[ns,c1,Y]:=M3.cl _ ab _ (Tb.ax J);have c1:H3 y.1=some (.lst (ns.map V.int)):=c1;have hj:vS (ns.map V.int).length ((ad+(i:Int))%8)=some ((ad+(i:Int))%8).toNat:=by
     unfold vS;rw[DD,Qi ae,Qi ae]
    show#[0,0,0,m.lr,0,dQ M3.hr aB,0,_,0,rfl,#[ar,ar],z.ra,0,dQ (M3.rm _ ab) J,0,_,0,rfl,(by change(0:Int)<8;decide),y.1,2,0,rfl,c1,hj,?_];rw[<-PY];have M4:=M3.Dp c1 (ns':=ns.set ((ad+(i:Int))%8).toNat cell) (by rw[KG];show Y);obtain⟨y',d6,eP⟩:∃y'∈z.pl,y'.2.1=y.1:=by
     have h1:((ad+(i:Int))/8,y.1)∈pl.map λy=>(y.1,y.2.1):=List.mem_map.mpr #[_,Tb.ax J,rfl];rw[bc]at h1;let#[y',h2,h3]:=List.mem_map.mp h1;show#[y',h2,(Nt h3).2]
    have O4:Off (cM m Z) H1 (upd H3 y.1 (.lst ((ns.set ((ad+(i:Int))%8).toNat cell).map V.int))):=λb o e w=>by
     rw[ah (λh=>w (.inr (.inr (.inr #[_,ac,.inr (.inr #[y',d6,h.trans eP.symm])]))))];show O3 b o e w
    have dI:eA (Tb.aU Z t #[z.ra,z.sa,pl]) t ((ad+(i:Int))/8)=some y.1:=by
     rw[j7 U,Qi rfl];change(Tb.look pl ((ad+(i:Int))/8)).map (·.1)=some y.1;rw[J];rfl
    have C4:∀cv,Ct H Z cv->Ct (upd H3 y.1 (.lst ((ns.set ((ad+(i:Int))%8).toNat cell).map V.int))) (Tb.aU Z t #[z.ra,z.sa,pl]) (CO cv t ad (cs.take (i+1))):=λcv C=>by
     have D:=c3 cv C;have en:ns=CO cv t ad (cs.take i) t ((ad+(i:Int))/8):=jn (HO.lst.inj (Option.some.inj (c1.symm.trans (D.at_ _ _ _ dI))));have et:cs.take (i+1)=cs.take i++[cell]:=(by rw[Li,ef];rfl);have lt:(cs.take i).length=i:=(by rw[Kg];omega);show(D.cell (r:=ns.set ((ad+(i:Int))%8).toNat cell) dI).congr λt' q a _=>?_;unfold CO at en ⊢;rw[Qi rfl]at en;by_cases cc:t'=t
     .rw[Qi cc,Qi cc,et,xG,lt];by_cases cq:q=(ad+(i:Int))/8
      .rw[Qi #[cc,cq],Qi cq.symm,en,cq]
      .rw[Qh (λh=>cq h.2),Qh (JZ cq)]
     .rw[Qh (λh=>cc h.1),Qh cc,Qh cc]
    generalize upd H3 y.1 (.lst ((ns.set ((ad+(i:Int))%8).toNat cell).map V.int))=H4 at *;dsimp only;show vV λQ N G=>?_;show#[0,rfl,0,?_];have cT:∀Hx,Hx=H4->Q true Hx:=λHx ex=>by
     subst ex;show N _ ?_;show#[0,m.md,.int am,rfl,M4.g (Hf _ _ _ _),_,0,rfl,0,m.md,0,gf.k (k:=Sum.inr "pokes") M4.hm (by change 4<sizeLine;omega),?_];dsimp only;rw[Cs];have o5:Off (· = m.md) Hx (upd Hx m.md (.dK (nr m.lr m.ls bN (am+1)))):=Off.wr rfl;have g5:du (upd Hx m.md (.dK (nr m.lr m.ls bN (am+1)))) m.md (.str "pokes") (some (.int (am+1))):=by
      have q:=du.k (k:=Sum.inr "pokes") (H:=upd Hx m.md (.dK (nr m.lr m.ls bN (am+1)))) af;rw[Hf]at q;show q
     show#[0,m.md,.int (am+1),rfl,g5,0,0,m.ls,0,dQ (o5 _ _ M4.hs (JZ M.n3.2.1)) aB,0,_,0,rfl,#[ar,ar],z.sa,0,gf.k (k:=Sum.inl ((ad+(i:Int))/8)) (o5 _ _ (M4.st _ ab) dz.2.2.2.1) (by rw[Tb.cE];have:pl.length<=64:=M2.len ab;change pl.length<_;omega),?_];have e6:putK (Tb.dk nj pl) (Sum.inl ((ad+(i:Int))/8)) (.int (am+1))=Tb.dk nj (Tb.aU pl ((ad+(i:Int))/8) (y.1,am+1)):=Tb.hJ (f:=nj) (a:=(y.1,am+1)) J;have e7:Tb.dk eD (Tb.aU pl ((ad+(i:Int))/8) (y.1,am+1))=Tb.dk eD pl:=Tb.qt (f:=eD) (a:=(y.1,am+1)) (b:=y) (M2.np _ ab) J rfl;have o6:Off (λb=>b=m.md\/b=z.ra\/b=z.sa) Hx (upd (upd Hx m.md (.dK (nr m.lr m.ls bN (am+1)))) z.sa (.dK (putK (Tb.dk nj pl) (Sum.inl ((ad+(i:Int))/8)) (.int (am+1))))):=λb o e w=>(by rw[ah (λy=>w (.inr (.inr y))),ah (λy=>w (.inl y))];show e);have M7:=M4.DG (pk':=am+1) (pl:=Tb.aU pl ((ad+(i:Int))/8) (y.1,am+1)) aB o6 (by rw[ah (JZ dz.2.2.2.1),af]) (by change upd _ z.sa _ z.ra=_;rw[ah bb,ah dz.1,e7];show M4.rm _ ab) (by change upd _ z.sa _ z.sa=_;rw[af,e6]) (λu hu=>by
       have e9:∃u'∈pl,u'.2.1=u.2.1:=by
        rcases Tb.mem_set hu with rfl|⟨hu,_⟩
        .show#[_,Tb.ax J,rfl]
        .show#[u,hu,rfl]
       let#[u',h1,h2]:=e9;let#[a7,L,O]:=M4.cl _ ab u' h1;rw[<-h2];show#[a7,o6 _ _ L (λw=>by
        rcases w with w|w|w
        .rw[w,M4.hm]at L;cases L
        .rw[w,M4.rm _ ab]at L;cases L
        .rw[w,M4.st _ ab]at L;cases L),O]) (by rw[Tb.fB];show M2.np _ ab) (λu hu=>by
       rcases Tb.mem_set hu with rfl|⟨hu,_⟩
       .have h9:=M2.rg _ ab ((ad+(i:Int))/8,y) (Tb.ax J);show h9
       .show M2.rg _ ab u hu)
     rw[zW]at M7;show#[2,_,am+1,Tb.aU pl ((ad+(i:Int))/8) (y.1,am+1),rfl,M7,ae,?_,λq hq=>?_,λq hq=>?_,λb o e w=>o6 b o (O4 b o e w) λu=>w ?_,λcv C=>(C4 cv C).keep (λa xs e=>?_) λt' q a h=>?_]
     .rw[<-bc];unfold Tb.aU;rw[Lc];show Lx λu hu=>?_;change((if u.1=(ad+(i:Int))/8 then((ad+(i:Int))/8,(y.1,am+1))else u).1,(if u.1=(ad+(i:Int))/8 then((ad+(i:Int))/8,(y.1,am+1))else u).2.1)=(u.1,u.2.1);by_cases cc:u.1=(ad+(i:Int))/8
      .have h1:=Tb.bL (M2.np _ ab) hu;rw[cc,J]at h1;rw[Qi cc, <-cc,Option.some.inj h1]
      .rw[Qh cc]
     .rw[Tb.bM q J];by_cases cc:q=(ad+(i:Int))/8
      .rw[Qi cc];show#[am+1,rfl,ae]
      .rw[Qh cc];let#[j,h1,h2]:=hq;show ap q #[j,?_,h2];by_cases ce:j=i
       .subst ce;show absurd h2.symm cc
       .omega
     .rw[Tb.bM q J,Qh (λcc=>hq #[i,MU _,cc.symm])];show bx q λ⟨j,h1,h2⟩=>hq #[j,LS h1,h2]
     .rcases u with u|u|u
      .show .inl u
      .show .inr (.inr (.inr #[_,ac,.inl u]))
      .show .inr (.inr (.inr #[_,ac,.inr (.inl u)]))
     .show o6 a _ e (λw=>?_);rcases w with w|w|w
      .rw[w,M4.hm]at e;cases e
      .rw[w,M4.rm _ ab]at e;cases e
      .rw[w,M4.st _ ab]at e;cases e
     .rw[j7 U]at h ⊢;by_cases cc:t'=t
      .rw[Qi cc]at h ⊢;have h:(Tb.look (Tb.aU pl ((ad+(i:Int))/8) (y.1,am+1)) q).map (·.1)=some a:=h;change(Tb.look pl q).map (·.1)=some a;rw[Tb.bM q J]at h;by_cases cq:q=(ad+(i:Int))/8
       .rw[Qi cq]at h;rw[cq,J];show h
       .rw[Qh cq]at h;show h
      .rw[Qh cc]at h ⊢;show h
    show iH (λ_=>cT _ rfl) (λc0=>?_);show#[0,_,0,rfl,(by change(0:Int)<8;decide),rfl,0,?_];show tU (λ_=>cT _ rfl) (λc8=>G _ ?_);have c0:¬ ((i:Nat):Int)=0:=λh=>c0 (by rw[h];simp);have c8:¬ (ad+(i:Int))%8=0:=λh=>c8 (decide_eq_true (show V.int ((ad+(i:Int))%8)=V.int 0 by rw[h]));show#[2,_,am,pl,rfl,M4,p2,bc,λq ⟨j,h1,h2⟩=>?_,λq hq=>bx q λ⟨j,h1,h2⟩=>hq #[j,LS h1,h2],O4,C4];by_cases ce:j=i
    .subst ce;show ap q #[j-1,ae,ae]
    .show ap q #[j,ae,h2]
   .rintro σ H2 ⟨v8,v9,cP,am,pl,rfl,M2,p2,bc,ap,bx,o2,Y⟩;rw[DD]at ap bx Y;have d9:∀y∈pl,(∃y'∈z.pl,y.2.1=y'.2.1)\/H y.2.1=none:=λy J=>by
     have h1:(y.1,y.2.1)∈pl.map λy=>(y.1,y.2.1):=List.mem_map.mpr #[y,J,rfl];rw[bc]at h1;let#[y',h2,h3]:=List.mem_map.mp h1;show .inl #[y',h2,(Nt h3).2.symm]
    show aT _ _ #[am,_,M2,#[p2,λcv C=>#[(Y cv C).congr (λt' q a h=>by
     rw[Lk];change CO cv t ad cs t' q=rY cv t ad cs t' q;unfold CO rY;by_cases cc:t'=t
     .rw[Qi cc];by_cases cm:q∈Rm.av ad cs.length
      .rw[Qi #[cc,cm]]
      .rw[Qh (λh=>cm h.2),cc];rw[cc,j7 U,Qi rfl]at h;let#[u,hu,_]:=Option.map_eq_some_iff.mp h;have hu:Tb.look pl q=some u:=hu;cases e5:Tb.look z.pl q with
       |none=>rw[(oz bc q).mpr e5]at hu;cases hu
       |some u'=>show xE (C.BE M (a:=u'.1) (by rw[rF U,e5];rfl)) cm
     .rw[Qh cc,Qh (λh=>cc h.1)]),trivial]],#[λb o e w=>o2 b o (s1 b o e) w,mj U d9],by rw[Tb.gy];omega,vv U,λt' q=>?_]
    rw[vz U];by_cases cc:t'=t
    .by_cases Y:q∈Rm.av ad cs.length
     .rw[Qi #[cc,Y],Qi cc];show ap q (eg.mp Y)
     .rw[Qh (λh=>Y h.2),Qi cc,bx q (λh=>Y (eg.mpr h)),cc,wM U]
    .rw[Qh (λh=>cc h.1),Qh cc]
end
inductive vp (vs:List V) (H:Hp) (Q:VK) (e3:XK):Prop
 |mk (n:Int) (m:MA) (bN pk:Int) (Z:Zs) (tl:Addr) (ts:List Int) (_:vs=[.int n,.ref m.md,.ref tl]) (_:cD H m bN pk Z) (_:Z≠[]) (_:Z.length<=1000) (_:H tl=some (.lst (ts.map V.int))) (_:ts.length=5) (_:∀(H':Hp) (d:Addr) (D:Dd),bf H H'->kU H' d D->Cu D->(∀t ad c cs,D=.poke t ad c cs->H c=none)->(∀o,D=.close o->∃t,t≠o/\∃z,Tb.look Z t=some z)->Q (.ref d) H'):vp vs H Q e3
section
variable {P:J2}{w:Kd}{K:PySem.W.Frag}{mg:Str->Option Value}{base:Heap}
theorem nv:aC ["_law_m","_law_model_here","_law_tasks","_law_rooms","_law_there","_law_kind","_law_rest","_law_task","_law_pages","_law_other","_law_left","_law_at","_law_address"] ["_law_m","_law_model_here","_law_tasks"] (aw yy):=L2.bD
theorem Bz {f:Addr}{fd:J0}(F:cQ K "_law_busy" "_law_busy" yy f fd) (T:mH mg) (be:Df P w K mg base aW 1 "_law_held" jG) (bl:Df P w K mg base aW 1 "_law_cells" kq):bh P w K mg base aW 2 f fd ["_law_m","_law_model_here","_law_tasks"] vp:=by
 show F.ok nv (λvs H Q E h=>?_) (λbn A outer s H vs Q E hr h=>?_)
 .let#[n,m,bN,pk,Z,tl,ts,rfl,_]:=h;rfl
 .let#[n,m,bN,pk,Z,tl,ts,rfl,M,zn,lz,ba,l5,k]:=h;have hs:sizeLine=16777216:=J5;show#[_,(ag (aK (i:=3) nv.nd rfl (J6 rfl) (bj (aZ hr) (pv 1) aI (λ_ _=>rfl)))
   (ag (aK (i:=4) nv.nd rfl (J6 rfl) (aN (gw rfl) (by rfl) T.sorted gq (aa (pv 3) ai)))
   (ag (ET (i:=5) (j:=6) rfl nv.nd rfl rfl ar rfl rfl (aa (aA bJ (pv 0) ak) (aa (aA bH (pv 0) ak) ai)) rfl)
   (ag (aK (i:=7) nv.nd rfl (J6 rfl) (a8 cG (pv 4) (aA bJ (aA bH (pv 0) ak) (aN bF (by rfl) T.len boot_len (aa (pv 4) ai))) (λ_ _=>rfl)))
   (ag (aK (i:=8) nv.nd rfl (J6 rfl) (aN (gw rfl) (by rfl) T.sorted gq (aa (bj (aZ hr) (pv 3) (pv 7) (λ_ _=>rfl)) ai)))
   (ag (aK (i:=9) nv.nd rfl (J6 rfl) (a8 cG (pv 2) (aA bJ (pv 6) (aN bF (by rfl) T.len boot_len (aa (pv 2) ai))) (λ_ _=>rfl)))
   (ag (aS (PW.pt (iK (aE gL (pv 5) ak (aJ _)) (gW (aE (Ep hr.iP) (pv 8) (cn ai) (aJ _))))) (ag (aK (i:=10) nv.nd rfl (J6 rfl) (aA pJ (bj (aZ hr) (pv 1) aI (λ_ _=>rfl)) (pc be hr ay (aa (pv 1) ai))))
   (aj (aF (dh (aa aI (aa (pv 7) (aa (aA bJ (pv 6) ak) (aa (aA bu ak (aA bJ (aA bH (pv 6) ak) (aN (nV rfl) (by rfl) T.max Ax (aa ak (aa (aN (wZ rfl) (by rfl) T.min Eh (aa ak (aa (pv 10) ai))) ai))))) ai)))))))) aG)
   (ag (aS (PW.pt (mK (aE gL (pv 5) ak (aJ _)) (jP (ij (gc (aZ hr) (pv 9) (pv 3)))))) (aj (aF (dh (aa aI (aa (pv 7) (aa (pv 9) ai)))))) aG)
   (ag (aS (PW.pt (mK (aE bU (pv 5) ak (aJ _)) (jP (aE CU (pv 9) (pv 7) (aJ _))))) (aj (aF (dh (aa aI (aa (pv 9) ai))))) aG)
   (ag (aK (i:=11) nv.nd rfl (J6 rfl) (aA bJ (pv 6) (aN bF (by rfl) T.len boot_len (aa (pv 8) ai))))
   (ag (aS (aE bU (pv 5) ak (aJ _)) (aj (aF (dh (aa aI (aa (pv 7) (aa (a8 cG (pv 8) (pv 11) (λ_ _=>rfl)) (aa ak ai))))))) aG)
   (ag (aK (i:=12) nv.nd rfl (J6 rfl) (aA bu (aA d0 ak (a8 cG (pv 8) (pv 11) (λ_ _=>rfl))) (aA bJ (aA bH (pv 6) ak) ak)))
   (ag (aS (aE gL (pv 5) ak (aJ _)) (aj (aF (dh (aa aI (aa (pv 7) (aa (pv 12) (aa (aA bu ak (aA bJ (aA bH (pv 6) ak) ak)) ai))))))) aG)
   (aj (aF (dh (aa aI (aa (pv 7) (aa (pv 12) (aa (pc bl hr ay (aa (aA bH (pv 6) ak) (aa (aA bu ak (aA bJ (aA bH (pv 6) ak) ak)) ai))) ai)))))))))))))))))))),?_]
  have bm:(Tb.dk dY Z).map (·.1)=(Z.map (·.1)).map Sum.inl:=(by unfold Tb.dk;rw[Lc,Lc];rfl);show gx λ_ J=>?_;show#[0,m.md,.ref m.lr,rfl,M.g (vg _ _ _ _),J _ _ ?_];clear J;show gx λ_ J=>?_;show#[0,m.lr,_,Z.map (·.1),rfl,M.hr,bm,M.nd,by rw[DD];show lz,λl1 ks bb ap _=>J _ _ ?_];clear J;have s1:=Tb.au (X:=.lst (ks.map V.int)) bb;have h1:upd H l1 (.lst (ks.map V.int)) l1=some (.lst (ks.map V.int)):=af;have M1:=M.same s1;generalize upd H l1 (.lst (ks.map V.int))=H1 at *;have bG:0<ks.length:=by
   rw[ap.length_eq,DD];show List.length_pos_iff.mpr zn
  show#[0,_,0,rfl,(by change(0:Int)<16;decide),0,_,0,rfl,#[ar,ar],_,0,?_];have bI:=Ll n (show(16:Int)≠0 by decide);have bv:=K8 n (show(0:Int)<16 by decide);dsimp only;generalize n%16=kd at *;generalize n/96=G;show gx λ_ J=>?_;let#[b1,b2]:=at_of (xs:=ks) (i:=n/16%(ks.length:Int)) (n:=ks.length) (Ll _ ae) (K8 _ ae) rfl;generalize ks.getD (n/16%(ks.length:Int)).toNat 0=tk at b1 b2;show#[0,0,_,0,rfl,#[ar,ar],0,l1,0,.inl (bB.of h1),_,0,rfl,by change(0:Int)<((ks.map V.int).length:Nat);rw[DD];lia,l1,2,.int tk,1,bB.of h1,by rw[DD];show b1,J _ _ ?_];clear J;obtain⟨z,ez⟩:∃z,Tb.look Z tk=some z:=by
   have h2:=ap.mem_iff.mp b2;cases e:Tb.look Z tk with
   |some z=>show#[z,rfl]
   |none=>show absurd h2 (Tb.cf e)
  have ac:=Tb.ax ez;have a5:(Tb.dk eD z.pl).map (·.1)=(z.pl.map (·.1)).map Sum.inl:=(by unfold Tb.dk;rw[Lc,Lc];rfl);show gx λ_ J=>?_;show#[0,0,m.lr,0,dQ M1.hr ez,z.ra,_,z.pl.map (·.1),rfl,M1.rm _ ac,a5,M1.np _ ac,by rw[DD];have:z.pl.length<=64:=M1.len ac;lia,λN ps bd bc _=>J _ _ ?_];clear J;have s2:=Tb.au (X:=.lst (ps.map V.int)) bd;have h2:upd H1 N (.lst (ps.map V.int)) N=some (.lst (ps.map V.int)):=af;have M2:=M1.same s2;have S2:=s1.trans s2;generalize upd H1 N (.lst (ps.map V.int))=H2 at *;have aB:=S2 _ _ ba;show gx λ_ J=>?_;let#[b3,_]:=at_of (xs:=ts) (i:=G%5) (n:=5) ae ae ae;generalize ts.getD (G%5).toNat 0=O at b3;show#[0,0,0,tl,0,.inl (bB.of aB),_,0,rfl,by change(0:Int)<((ts.map V.int).length:Nat);rw[DD,l5];decide,tl,2,.int O,1,bB.of aB,by rw[DD,l5];show b3,J _ _ ?_];clear J;have bz:∀q∈ps,0<=q/\q<64:=λq hq=>by
   let#[y,hy,e]:=List.mem_map.mp (bc.mem_iff.mp hq);rw[<-e];show M.rg _ ac y hy
  have ab:∀{U d} (D:Dd),bf H2 U->kU U d D->Cu D->(∀t ad c cs,D=.poke t ad c cs->H c=none)->(∀o,D=.close o->∃t,t≠o/\∃z,Tb.look Z t=some z)->Q (.ref d) U:=λ{U d} D sx a1 a2 a3 a4=>k U d D (S2.trans sx) a1 a2 a3 a4;show iU (λσ H9=>bf H2 H9/\ps≠[]/\σ=[some (.int n),some (.ref m.md),some (.ref tl),some (.ref m.lr),some (.ref l1),some (.int kd),some (.int G),some (.int tk),some (.ref N),some (.int O),none,none,none]) (λ_ QQ Y L=>?A) ?B
  case A =>
   have mp:∀U,bf H2 U->QQ true U:=λU sx=>by
    have Mx:=M2.same sx;show Y _ ?_;show#[0,m.md,.int bN,rfl,Mx.g (EO _ _ _ _),0,m,bN,pk,Z,rfl,Mx,lz,λH4 s4=>?_];show#[_,0,4];have mx:∀lf:Int,0<(if (if lf<9 then lf else 9)>1 then(if lf<9 then lf else 9)else 1)/\(if (if lf<9 then lf else 9)>1 then(if lf<9 then lf else 9)else 1)<=(9:Int):=λlf=>(by split<;>split<;>lia);let#[x1,x2]:=mx (bN-tD Z);have r0:=Ll G (show(64:Int)≠0 by decide);have r1:=K8 G (show(0:Int)<64 by decide);have q0:=Ll (G/64) (show(if (if bN-tD Z<9 then bN-tD Z else 9)>1 then(if bN-tD Z<9 then bN-tD Z else 9)else 1)≠0 by omega +splitNatSub);have q1:=K8 (G/64) x1;show#[0,0,_,0,rfl,(by change(0:Int)<64;decide),0,_,0,rfl,#[ar,ar],0,_,0,_,0,_,0,rfl,x1,_,0,rfl,by change 4<=sizeLine;decide,λd hd=>?_];show ab (.map tk (G%64) (1+G/64%(if (if bN-tD Z<9 then bN-tD Z else 9)>1 then(if bN-tD Z<9 then bN-tD Z else 9)else 1))) (sx.trans (s4.trans (Tb.au hd))) #[af,λ_ _ _ _ e=>by cases e] #[r0,r1,by omega +splitNatSub,by omega +splitNatSub] (λ_ _ _ _ e=>by cases e) (λ_ e=>by cases e)
   show#[0,_,0,rfl,0,?_];by_cases c2:kd<2
   .rw[decide_eq_true c2];show dZ (mp _ (bf.refl H2))
   .rw[decide_eq_false c2];show bC ?_;show#[0,ar,λl3 a6=>?_];have s3:=Tb.au (X:=.lst []) a6;show#[N,l3,_,0,rfl,bB.of (s3 _ _ h2),bB.of af,fm _,rfl,0,?_];cases ps with
    |nil=>show mp _ s3
    |cons q r=>show L _ #[s3,(λe=>by cases e),rfl]
  case B =>
  rintro σ H3 ⟨s3,pn,rfl⟩;have M3:=M2.same s3;have bx:0<ps.length:=List.length_pos_iff.mpr pn;show iU (λσ H9=>H9=H3/\σ=[some (.int n),some (.ref m.md),some (.ref tl),some (.ref m.lr),some (.ref l1),some (.int kd),some (.int G),some (.int tk),some (.ref N),some (.int O),none,none,none]) (λ_ QQ Y L=>?A2) ?B2
  case A2 =>
   show#[0,_,0,rfl,0,?_];by_cases c2:kd<5
   .rw[decide_eq_true c2];show dZ ?_;show#[0,0,m.lr,0,eL (t:=O) M3.hr,?_];cases eo:Tb.look Z O with
    |some _=>show#[false,rfl,L _ #[1]]
    |none =>
     show#[true,rfl,Y _ ?_];show#[0,0,by change 3<=sizeLine;decide,λd hd=>ab (.copy tk O) (s3.trans (Tb.au hd)) #[af,λ_ _ _ _ e=>by cases e] trivial (λ_ _ _ _ e=>by cases e) (λ_ e=>by cases e)]
   .rw[decide_eq_false c2];show bC (L _ #[1])
  case B2 =>
  rintro σ a7 ⟨e3,rfl⟩;subst e3;show iU (λσ H9=>H9=a7/\σ=[some (.int n),some (.ref m.md),some (.ref tl),some (.ref m.lr),some (.ref l1),some (.int kd),some (.int G),some (.int tk),some (.ref N),some (.int O),none,none,none]) (λ_ QQ Y L=>?A3) ?B3
  case A3 =>
   show#[0,rfl,0,?_];show iH (λ_=>?_) (λ_=>L _ #[1]);show#[0,0,rfl,0,?_];show tU (λc3=>Y _ ?_) (λ_=>L _ #[1]);have c3:O≠tk:=λe=>(by rw[e]at c3;simp at c3);show#[0,by change 2<=sizeLine;decide,λd hd=>ab (.close O) (s3.trans (Tb.au hd)) #[af,λ_ _ _ _ e=>by cases e] trivial (λ_ _ _ _ e=>by cases e) (λo e=>by cases e;show#[tk,JZ c3,z,ez])]
  case B3 =>
  rintro σ H4 ⟨e4,rfl⟩;subst e4;have am:=s3 _ _ h2;have p0:0<=G%(ps.length:Int):=Ll _ ae;have p1:G%(ps.length:Int)<ps.length:=K8 _ ae;let#[b5,b6]:=at_of (xs:=ps) (i:=G%(ps.length:Int)) (n:=ps.length) p0 p1 rfl;generalize ps.getD (G%(ps.length:Int)).toNat 0=pq at b5 b6;let#[z0,z1]:=bz pq b6;show gx λ_ J=>?_;show#[0,0,N,0,.inl (bB.of am),_,0,rfl,by change(0:Int)<((ps.map V.int).length:Nat);rw[DD];lia,J _ _ ?_];clear J;rw[DD];show iU (λσ H9=>H9=H4/\σ=[some (.int n),some (.ref m.md),some (.ref tl),some (.ref m.lr),some (.ref l1),some (.int kd),some (.int G),some (.int tk),some (.ref N),some (.int O),none,some (.int (G%(ps.length:Int))),none]) (λ_ QQ Y L=>?A4) ?B4
  case A4 =>
   show#[0,rfl,0,?_];show tU (λ_=>Y _ ?_) (λ_=>L _ #[1]);show#[0,0,0,N,2,.int pq,1,bB.of am,b5,by change 4<=sizeLine;decide,λd hd=>ab (.drop tk pq 1) (s3.trans (Tb.au hd)) #[af,λ_ _ _ _ e=>by cases e] #[z0,z1,ar,ar] (λ_ _ _ _ e=>by cases e) (λ_ e=>by cases e)]
  case B4 =>
  rintro σ H5 ⟨e5,rfl⟩;subst e5;have a0:=Ll (G/64) (show(8:Int)≠0 by decide);have a1:=K8 (G/64) (show(0:Int)<8 by decide);have m0:=Ll (G/512) (show(11:Int)≠0 by decide);have m1:=K8 (G/512) (show(0:Int)<11 by decide);obtain⟨nn,as⟩:∃nn:Nat,(nn:Int)=1+G/512%11:=#[(1+G/512%11).toNat,ae];show gx λ_ J=>?_;show#[0,0,N,2,.int pq,1,bB.of am,b5,_,0,rfl,.inl #[ar,ar],0,_,0,rfl,#[ar,ar],_,0,rfl,(by change(0:Int)<8;decide),_,0,rfl,J _ _ ?_];clear J
  try dsimp only
  show bX λQQ Y L=>?_;show#[0,_,0,rfl,0,?_];by_cases aT:kd<10
  .rw[decide_eq_true aT];show Y _ ?_;show#[0,0,0,_,0,rfl,#[ar,ar],_,0,rfl,(by change(0:Int)<11;decide),_,0,rfl,by change 4<=sizeLine;decide,λd hd=>?_];dsimp only at *;show ab (.peek tk (8*pq+G/64%8) nn) (s3.trans (Tb.au hd)) #[?_,λ_ _ _ _ e=>by cases e] #[ae,ae,ae,ae] (λ_ _ _ _ e=>by cases e) (λ_ e=>by cases e);change upd H5 d _ d=some (.tup [.str "peek",.int tk,.int (8*pq+G/64%8),.int nn]);rw[af,as]
  .rw[decide_eq_false aT];show L _ ?_;show#[0,0,0,_,0,rfl,#[ar,ar],0,_,0,rfl,#[ar,ar],_,0,rfl,(by change(0:Int)<11;decide),_,0,rfl,G/4096,nn,by rw[as];rfl,ae,λcs H6 cl lc s6 bi h6=>?_];show#[by change 4<=sizeLine;decide,λd hd=>?_];have s7:=Tb.au (X:=.tup [V.str "poke",V.int tk,V.int (8*pq+G/64%8),V.ref cl]) hd;show ab (.poke tk (8*pq+G/64%8) cl cs) (s3.trans (s6.trans s7)) #[af,λ_ _ _ _ e=>by cases e;show s7 _ _ h6] #[ae,ae,ae,ae] (λ_ _ _ _ e=>by cases e;show S2.free (s3.free bi)) (λ_ e=>by cases e)
end
structure tm (c:CA) (H:Hp) (M:Addr->Prop) (a:RA) (m:MA) (nf ns k:Nat) (s:Pg.PS) (cv:Int->Int->List Int) (pk:Int) (W:dW) (Z:Zs):Prop where
 R:az c H M a s W
 ri:Pg.RI s (ents W)
 cv:Cv s W cv
 D:cD H m (bN s) pk Z
 p0:0<=pk
 sp:∀b,cM m Z b->M b/\¬ a.own W b
 tw:Tw W Z
 lf:(s.ow true).length=nf
 ls:(s.ow false).length=ns
 zn:Z≠[]
 lw:W.length<=k
 lz:Z.length<=k
section
variable {c:CA}{H H' H2:Hp}{M M':Addr->Prop}{a:RA}{m:MA}{nf ns k:Nat}{s s':Pg.PS}{cv:Int->Int->List Int}{pk tt:Int}{W W':dW}{Z Z':Zs}
theorem tm.same (S:tm c H M a m nf ns k s cv pk W Z) (e:bf H H'):tm c H' M a m nf ns k s cv pk W Z:=#[S.R.same e,S.ri,S.cv,S.D.same e,S.p0,S.sp,S.tw,S.lf,S.ls,S.zn,S.lw,S.lz]
theorem uK (R:az c H M a s W) (D:cD H m tt pk Z) (sp:∀b,cM m Z b->M b/\¬ a.own W b) {pk':Int}(J:cD H' m tt pk' Z') (st:sQ m H Z H' Z') :
  az c H' (λb=>(M b/\¬ cM m Z b)\/cM m Z' b) a s W/\∀b,cM m Z' b->((M b/\¬ cM m Z b)\/cM m Z' b)/\¬ a.own W b:=by
 show#[R.CG (B:=cM m Z) st.1 sp D.alive (λb z=>z.elim (λz=>.inl z.1) λz=>(st.2 b z).elim (λz=>.inl (sp b z).1) .inr) (λb z w=>.inl #[z,w]) (λb z e=>?_),λb z=>#[.inr z,?_]]
 .rcases z with z|z
  .cases G:H b with
   |none=>show R.mt b z.1 G
   |some u=>rw[st.1 b u G z.2]at e;cases e
  .rcases J.alive b z with⟨_,h⟩|⟨_,h⟩
   .rw[e]at h;cases h
   .rw[e]at h;cases h
 .rcases st.2 b z with z|z
  .show(sp b z).2
  .show λw=>R.mt b (R.dr b w) z
theorem m6 (D:cD H m tt pk Z) (sp:∀b,cM m Z b->M b/\¬ a.own W b) (st:Step H M (a.own W) H' M' (a.own W')):cD H' m tt pk Z/\∀b,cM m Z b->M' b/\¬ a.own W' b:=by
 show#[D.off st.off λb z=>(sp b z).2,λb z=>#[st.mm b (sp b z).1 (sp b z).2,λw=>?_]];rcases st.on b w with w|w
 .show(sp b z).2 w
 .rcases D.alive b z with⟨_,h⟩|⟨_,h⟩
  .rw[w]at h;cases h
  .rw[w]at h;cases h
theorem rC {α N:Type}{l:List (Int×α)}{G:List (Int×N)}(U:(l.map (·.1)).Nodup) (O:(G.map (·.1)).Nodup) (h:∀q,Tb.look l q=none↔Tb.look G q=none):(l.map (·.1)).Perm (G.map (·.1)):=by
 have J:∀{L:Type}{l:List (Int×L)}{q:Int},q∈l.map (·.1)↔¬ Tb.look l q=none:=λ{L l q}=>#[λh e=>Tb.cf e h,λh=>by
  cases e:Tb.look l q with
  |none=>show absurd e h
  |some a=>show List.mem_map.mpr #[_,Tb.ax e,rfl]]
 rw[List.perm_ext_iff_of_nodup U O];intro q;rw[J,J,h q]
theorem Tw.look (T:Tw W Z) (t:Int):Tb.look W t=none↔Tb.look Z t=none:=by
 have h:=T.h t;unfold hW hZ at h;cases J:Tb.look W t with
 |none=>cases G:Tb.look Z t with
  |none=>show#[λ_=>rfl,λ_=>rfl]
  |some z=>rw[J,G]at h;cases h
 |some x=>cases G:Tb.look Z t with
  |none=>rw[J,G]at h;cases h
  |some z=>show#[nofun,nofun]
theorem Tw.ve (T:Tw W Z) {t:Int}{x:TD}{z:MT}(L:Tb.look W t=some x) (N:Tb.look Z t=some z) (q:Int):Tb.look x.t q=none↔Tb.look z.pl q=none:=by
 have h:=T.e t q;rw[vT L,wM N]at h;cases J:Tb.look x.t q with
 |none=>cases G:Tb.look z.pl q with
  |none=>show#[λ_=>rfl,λ_=>rfl]
  |some z=>rw[J,G]at h;cases h
 |some x=>cases G:Tb.look z.pl q with
  |none=>rw[J,G]at h;cases h
  |some z=>show#[nofun,nofun]
theorem Tw.get (T:Tw W Z) {t:Int}{z:MT}(G:Tb.look Z t=some z):∃x,Tb.look W t=some x:=by
 cases e:Tb.look W t with
 |some x=>show#[x,rfl]
 |none=>rw[(T.look t).mp e]at G;cases G
theorem zr {l G:List Int}(p:l.Perm G):l.sum=G.sum:=by
 induction p with
 |nil=>rfl
 |cons x _ L=>rw[LQ,LQ,L]
 |swap x y l=>rw[LQ,LQ,LQ,LQ];lia
 |trans _ _ J N=>show J.trans N
theorem Tw.len (T:Tw W Z) (R:az c H M a s W) (D:cD H m tt pk Z) {t:Int}{x:TD}{z:MT}(G:Tb.look W t=some x) (J:Tb.look Z t=some z):x.t.length=z.pl.length:=by
 have:=(rC (R.tb _ (Tb.ax G)).nd (D.np _ (Tb.ax J)) (T.ve G J)).length_eq;rw[DD,DD]at this;show this
theorem Tw.held (T:Tw W Z) (R:az c H M a s W) (D:cD H m tt pk Z):tD Z=((ents W).length:Int):=by
 rw[<-lR];have p:=(rC R.nd D.nd T.look).symm;have q:=zr (p.map λt:Int=>(((Tb.look W t).map λx=>(x.t.length:Int)).getD 0));rw[Lc,Lc]at q;unfold tD heldW;rw[show(Z.map λx=>(x.2.pl.length:Int))=Z.map ((λt:Int=>(((Tb.look W t).map λx=>(x.t.length:Int)).getD 0))∘(·.1))from Lx λx G=>by
  have J:=Tb.bL D.nd G;let#[y,L]:=T.get J;change((x.2.pl.length:Nat):Int)=(((Tb.look W x.1).map λx=>(x.t.length:Int)).getD 0);rw[L, <-T.len R D L J];rfl]
 rw[q];show congrArg List.sum (Lx λx G=>?_);change(((Tb.look W x.1).map λx=>(x.t.length:Int)).getD 0)=(x.2.t.length:Int);rw[Tb.bL R.nd G];rfl
theorem kZ {x:TD}{z:MT}{ad:Int}{n:Nat}(O:∀q,Tb.look x.t q=none↔Tb.look z.pl q=none) (a0:0<=ad) (h:wG z.pl ad n):¬ Rm.cR ad n (x.t.map (·.1)):=by
 let#[h1,h2]:=h;rintro(w|⟨w,G⟩)
 .lia
 .rcases G with G|G
  .unfold Rm.cB Rm.jN Rm.iI at G;lia
  .show G λq Y=>?_;have U:q∈Rm.av ad n:=by
    unfold Rm.av;rw[Qh ae];show Y
   let#[j,N,e]:=eg.mp U;have J:=h2 j N;rw[e]at J;cases L:Tb.look x.t q with
   |none=>show absurd ((O q).mp L) J
   |some v=>show List.mem_map.mpr #[_,Tb.ax L,rfl]
theorem G8 (T:Tw W Z) (R:az c H M a s W) (D:cD H m tt pk Z) {Dd:Dd}(ok:Cu Dd) (f:Bk Z (bN s) Dd):CN W (bN s) Dd:=by
 have U:=T.held R D;cases Dd with
 |begin t=>show ok
 |close t=>let#[z,G]:=f;show T.get G
 |map t p mm =>
  let#[z,G,L,N,Y]:=f;let#[x,J]:=T.get G;show#[x,J,L,λq O=>(T.ve J G q).mpr (N q O),by rw[<-U];show Y]
 |drop t p mm =>
  let#[z,G,L,N]:=f;let#[x,J]:=T.get G;show#[x,J,L,λq O w=>N q O ((T.ve J G q).mp w)]
 |peek t ad n =>
  let#[z,G,L]:=f;let#[x,J]:=T.get G;show#[x,J,kZ (T.ve J G) ok.1 L,ok.1,ok.2.1,ok.2.2.2]
 |poke t ad cc cs =>
  let#[z,G,L]:=f;let#[x,J]:=T.get G;show#[x,J,kZ (T.ve J G) ok.1 L,ok.1,ok.2.1,Ko ok.2.2.2 ar]
 |copy t o =>
  let#[z,G,L,N]:=f;let#[x,J]:=T.get G;show#[x,J,(T.look o).mpr L,by rw[<-U,T.len R D J G];show N]
end
inductive qJ (c:CA) (vs:List V) (H:Hp) (Q:VK) (e3:XK):Prop
 |mk (n:Int) (_:vs=[.int n]) (_:∀(H':Hp) (t:Addr) (M:Addr->Prop) (a:RA) (m:MA) (s:Pg.PS) (cv:Int->Int->List Int) (pk:Int) (W:dW) (Z:Zs),bf H H'->tm c H' M a m (nX n) (qV n) 1 s cv pk W Z->Ct H' Z cv->(∀b,M b->H b=none)->H' t=some (.tup [.ref a.rp,.ref m.md])->Q (.ref t) H'):qJ c vs H Q e3
section
variable {P:J2}{w:Kd}{K:PySem.W.Frag}{mg:Str->Option Value}{base:Heap}
theorem AF:aC ["_law_m","_law_frames","_law_slots","_law_kept","_law_model_here"] ["_law_m"] (aw uh):=L2.bD
theorem zm {f as:Addr}{fd ap:J0}{c:CA}(F:cQ K "_law_begun" "_law_begun" uh f fd) (TR:sW K mg c) (MK:Fo P w K mg base c) (MR:Mk K c.C as) (a4:mg "Rooms" = some (.ref c.C)) (aT:Df P w K mg base aW 1 "_law_sizes" pO) (a6:bh P w K mg base aW 5 as ap ["self","frames","slots"] (qx c)) (a0:Binds K ap ["self","frames","slots"] []) (bd:Df P w K mg base aW 1 "_law_model" pF) (be:Df P w K mg base aW 1 "_law_done" qf):bh P w K mg base aW 7 f fd ["_law_m"] (qJ c):=by
 show F.ok AF (λvs H Q E h=>?_) (λbn A outer s H vs Q E L h=>?_)
 .let#[n,rfl,_]:=h;rfl
 .let#[n,rfl,k]:=h;have hs:sizeLine=16777216:=J5;let#[_,f2,bz]:=zN n;let#[_,bv]:=zE n;show#[_,(ag (cV (pc aT L ay (aa (pv 0) ai)) (dH rfl (bp (aY (i:=1) AF.nd rfl (J6 rfl)) (bp (aY (i:=2) AF.nd rfl (J6 rfl)) cZ))))
   (ag (aK (i:=3) AF.nd rfl (J6 rfl) (lC MR a6 (L.mono ar) (by rfl) a4 a0 .nil ay (aa (pv 1) (aa (pv 2) ai))))
   (ag (aK (i:=4) AF.nd rfl (J6 rfl) (pc bd L ay (aa (aA bu (pv 1) (pv 2)) ai)))
   (ag (aP (pm (pv 3) TR.cl MK.Jx L ay (aa ak ai)))
   (ag (aP (pc be L ay (aa (pv 4) (aa (dh (aa aI (aa ak ai))) ai))))
   (aj (aF (dh (aa (pv 3) (aa (pv 4) ai)))))))))),?_]
  show#[0,n,rfl,λH1 t1 s1 bx a1=>#[t1,0,cg.of a1,5,0,_,0,4]];show#[0,0,λrp dx np bl bG=>#[rp,dx,nX n,qV n,rfl,ae,by omega +splitNatSub,ae,af,λH2 M a ea R fr o2=>#[4]]];have s2:bf H1 H2:=λb u e=>o2 b u (by rw[ah (aq e np),ah (aq e bl)];show e) (aq e np);have aB:∀b,M b->H b=none:=λb z=>s1.free (cy (cy (fr b z)).2).2;clear o2 fr;rw[<-ea];have et:bN (s0 (nX n) (qV n))=((nX n:Nat):Int)+((qV n:Nat):Int):=by
   unfold bN;rw[show((s0 (nX n) (qV n)).ow true).length=nX n from KN,show((s0 (nX n) (qV n)).ow false).length=qV n from KN];lia
  show#[0,0,_,0,rfl,0,λH3 m s3 g1 g2 g3 D3=>?_];rw[<-et]at D3;have U:=s1.trans s2;have a3:∀b,cM m [] b->H3 b≠none:=λb z e=>by
   rcases D3.alive b z with⟨_,h⟩|⟨_,h⟩
   .rw[e]at h;cases h
   .rw[e]at h;cases h
  have O:∀b,cM m [] b->H2 b=none:=λb z=>by
   rcases z with z|z|z|⟨x,G,_⟩
   .rw[z];show g1
   .rw[z];show g2
   .rw[z];show g3
   .cases G
  have Y:=R.CG (H':=H3) (B:=λ_=>False) (M':=λb=>M b\/cM m [] b) (λb o e _=>s3 b o e) (λb z=>z.elim) (λb z=>z.elim) (λb z=>z.elim .inl λz=>.inr (O b z)) (λb z _=>.inl z) (λb z e=>z.elim (λz=>(R.same s3).mt b z e) λz=>a3 b z e);have a5:∀b,cM m [] b->(M b\/cM m [] b)/\¬ a.own [] b:=λb z=>#[.inr z,λw=>R.mt b (R.dr b w) (O b z)];let#[a7,ho]:=Y.ob;show#[0,a.rp,a7,0,ho,gK _ _ _ ao ao ao,_,a,_,[],(1),rfl,Y,rfl,Kl _,λH4 M4 y ey R4 ab=>?_];let#[D4,ac]:=m6 D3 a5 ab;have am:∀b,M4 b->H b=none:=λb z=>by
   rcases ab.mn b z with z|z
   .show z.elim (aB b) λz=>U.free (O b z)
   .show U.free (s3.free z)
  have S4:bf H H4:=λb u e=>ab.off b u (s3 _ _ (U _ _ e)) λw=>by
   have:=Y.dr b w;rcases this with h|h
   .rw[aB b h]at e;cases e
   .rw[U.free (O b h)]at e;cases e
  show#[0,by change 2<=sizeLine;decide,λd hd=>?_];have J:=Tb.au (X:=.tup [V.str "begin",V.int 1]) hd;show#[m,_,(0),[],d,.begin 1,rfl,D4.same J,Int.le_refl _,Kl _,#[af,λ_ _ _ _ e=>by cases e],rfl,(λ_ _ _ _ e=>by cases e),(λ_ _ _ e=>by cases e),λH6 a2 N v D6 p6 z6 l6 h6 e6=>?_];have R5:=R4.same J;let#[R6,bc]:=uK R5 (D4.same J) ac D6 z6;have ba:∀b,((M4 b/\¬ cM m [] b)\/cM m N b)->H b=none:=λb z=>by
   rcases z with z|z
   .show am b z.1
   .rcases z6.2 b z with z|z
    .show am b (ac b z).1
    .show S4.free (J.free z)
  have S6:bf H H6:=λb u e=>z6.1 b u (J _ _ (S4 _ _ e)) λw=>(by rw[am b (ac b w).1]at e;cases e);show#[0,0,by change 2<=sizeLine;decide,λtp bb=>?_];have st:=Tb.au (X:=.tup [.ref a.rp,.ref m.md]) bb;have bm:Pg.RI (s0 (nX n) (qV n)) (ents ([]++[(1,y)])):=by
   rw[rq,ey];show Gi ae
  have T0:Tw [] []:=#[λ_=>rfl,λ_ _=>rfl];have T6:Tw ([]++[(1,y)]) N:=T0.next (D:=.begin 1) (λt'=>by
    unfold hW;rw[Tb.bE t' rfl];by_cases z:t'=1
    .rw[Qi z,decide_eq_true z];rfl
    .rw[Qh z,decide_eq_false z];rfl) h6 (λt' q=>by
    unfold eW;rw[Tb.bE t' rfl];by_cases z:t'=1
    .rw[Qi z,Qi z,Mi,ey];rfl
    .rw[Qh z,Qh z]) e6
  have bi:N≠[]:=λe=>by
   have:=T6.h 1;rw[e]at this;unfold hW hZ at this;rw[Tb.bE 1 rfl,Qi rfl]at this;cases this
  show k _ tp _ a m _ (λ_ _=>[]) a2 _ N (S6.trans st) (tm.same #[R6,bm,λt x G q e he=>?_,D6,p6.1,bc,T6,KN,KN,bi,J1 _,l6] st) (by have C0:Ct (upd H4 d (.tup [V.str "begin",V.int 1])) [] (λ_ _=>[]):=#[λ_ _ _ e=>(by cases e),λ_ _ _ _ _ e=>(by cases e)];show(p6.2 _ C0).1.keep (λa xs e=>st _ _ e) λ_ _ _ h=>h) ba af;rw[Tb.bE t rfl]at G;by_cases z:t=1
  .rw[Qi z]at G;cases G;rw[ey]at he;cases he
  .rw[Qh z]at G;cases G
end
noncomputable abbrev nc:Ky:=top 45
noncomputable abbrev zX:Ky:=top 50
noncomputable abbrev ze:Ky:=top 49
inductive gk (vs:List V) (H:Hp) (Q:VK) (e3:XK):Prop
 |mk (p q:Addr) (xs:List Int) (_:vs=[.ref p,.ref q]) (_:H p=some (.lst (xs.map V.int))) (_:H q=some (.lst (xs.map V.int))) (_:xs.length<=100) (_:∀H',bf H H'->Q (.bl true) H'):gk vs H Q e3
theorem HR {c:CA}{H H':Hp}{M M' B:Addr->Prop}{a:RA}{s:Pg.PS}{W:dW}(R:az c H M a s W) (o:Off B H H') (G:∀b,B b->M b/\¬ a.own W b) (L:∀{b C dx fs},H b=some (.ins C dx fs)->¬ B b) (Y:∀b xs,H b=some (.tup xs)->¬ B b) (hM:∀b,M' b->M b\/H b=none) (N:∀b,M b->¬ B b->M' b) (mt:∀b,M' b->H' b≠none):az c H' M' a s W:=by
 let#[dx,h1]:=R.ob;let#[am,U]:=R.pg.fr.ob;let#[ac,O]:=R.pg.sl.ob;show#[#[dx,o _ _ h1 (L h1)],R.pg.move o (λb z=>(G b z).1) hM (λb z y=>(G b y).2 (.inl z)) (L U) (L O) Y,#[R.ok.ds,λb z=>N b (R.ok.mm b z) λq=>?_],mt,o _ _ R.hd (λz=>(G _ z).2 (.inr (.inl rfl))),R.nd,λx J=>?_,λx J b z=>#[N b (R.dm x J b z).1 λq=>(G b q).2 (.inr (.inr #[x,J,z])),(R.dm x J b z).2],R.np,R.dj,N _ R.CP (λz=>(G _ z).2 (.inr (.inl rfl))),R.AO,R.yn]
 .simp only[Ku,Kb,or_false]at z;rcases z with z|z|z|z|z|z|z|z|z<;>rw[z]at q
  .show(G _ q).2 (.inl (PA.eX 0 rfl))
  .show L U q
  .show(G _ q).2 (.inl (PA.eX 1 rfl))
  .show(G _ q).2 (.inl (PA.eX 2 rfl))
  .show L O q
  .show(G _ q).2 (.inl (PA.eX 3 rfl))
  .show(G _ q).2 (.inl (PA.eX 4 rfl))
  .show(G _ q).2 (.inl (PA.eX 5 rfl))
  .show(G _ q).2 (.inl (PA.eX 6 rfl))
 .let#[ab,h3]:=(R.tb x J).at_.ob;show(R.tb x J).off o (L h3) (λb z y=>(G b y).2 (.inr (.inr #[x,J,z]))) Y
theorem oM {F:Int->List Int}{q:Int}(h:(F q).length=8):oa F (8*q) 8=F q:=by
 show LN λj=>?_;unfold oa;rw[J3];by_cases G:j<8
 .rw[Mu G];change some ((F ((8*q+(j:Int))/8)).getD ((8*q+(j:Int))%8).toNat 0)=_;rw[show(8*q+(j:Int))/8=q by omega,show((8*q+(j:Int))%8).toNat=j by omega,Kw,J4 ae];rfl
 .rw[KO (by rw[KL];omega),KO ae];rfl
structure kK (c:CA) (H0:Hp) (M0:Addr->Prop) (a:RA) (s0:Pg.PS) (W:dW) (cv:Int->Int->List Int) (H:Hp) (M:Addr->Prop) (s:Pg.PS):Prop where
 R:az c H M a s W
 ri:Pg.RI s (ents W)
 cv:Cv s W cv
 st:Step H0 M0 (a.own W) H M (a.own W)
 ln:∀b,(s.ow b).length=(s0.ow b).length
section
variable {c:CA}{H0 H H':Hp}{M0 M M':Addr->Prop}{a:RA}{s0 s s':Pg.PS}{W:dW}{cv:Int->Int->List Int}
theorem kK.same (P:kK c H0 M0 a s0 W cv H M s) (h:bf H H'):kK c H0 M0 a s0 W cv H' M s:=#[P.R.same h,P.ri,P.cv,P.st.trans (P.R.ig h),P.ln]
theorem kK.next (P:kK c H0 M0 a s0 W cv H M s) (R:az c H' M' a s' W) (J:Pg.RI s' (ents W)) (h:Cv s' W cv) (st:Step H M (a.own W) H' M' (a.own W)) (G:∀b,(s'.ow b).length=(s.ow b).length):kK c H0 M0 a s0 W cv H' M' s':=#[R,J,h,P.st.trans st,λb=>(G b).trans (P.ln b)]
end
section
variable {c:CA}{H0 H H2 H3 H4:Hp}{M0 M M2 M3 M4:Addr->Prop}{a:RA}{s s0 s2 s3 s4:Pg.PS}{W:dW}{cv:Int->Int->List Int}{r:Addr}{kvs:List (Key×V)}{ob:Obj}
theorem kK.cu (P:kK c H0 M0 a s0 W cv H3 M3 s3) (J:H3 r=some (.dK kvs)) (G:M3 r/\¬ a.own W r):kK c (upd H3 r (.cu ob (.dK kvs))) M3 a s3 W cv (upd H3 r (.cu ob (.dK kvs))) M3 s3:=by
 have R:az c (upd H3 r (.cu ob (.dK kvs))) M3 a s3 W:=P.R.CG (B:=(· = r)) (Off.wr rfl) (λb z=>by rw[z];show G) (λb z=>.inr #[_,(congrArg H3 z).trans J]) (λb z=>.inl z) (λb z _=>z) (λb z e=>by
  by_cases q:b=r
  .rw[q,af]at e;cases e
  .rw[ah q]at e;show P.R.mt b z e)
 show#[R,P.ri,P.cv,R.refl,λ_=>rfl]
theorem kK.back (P:kK c H0 M0 a s0 W cv H3 M3 s3) (U:H3 r=some (.dK kvs)) (J:M3 r/\¬ a.own W r) (G:kK c (upd H3 r (.cu ob (.dK kvs))) M3 a s3 W cv H4 M4 s4):kK c H0 M0 a s0 W cv (upd H4 r (.dK kvs)) M4 s4:=by
 have h2:=G.st.off r _ af J.2;have N:Off (a.own W) H3 (upd H4 r (.dK kvs)):=λb u q n=>by
  by_cases z:b=r
  .rw[z,af, <-q,z,U]
  .rw[ah z];show G.st.off _ _ (by rw[ah z];show q) n
 have L:∀b,M4 b->upd H4 r (.dK kvs) b≠none:=λb z q=>by
  by_cases y:b=r
  .rw[y,af]at q;cases q
  .rw[ah y]at q;show G.R.mt b z q
 have O:M4 r:=G.st.mm _ J.1 J.2;have R2:az c (upd H4 r (.dK kvs)) M4 a s4 W:=HR (B:=(· = r)) G.R (Off.wr rfl) (λb z=>by rw[z];show#[O,J.2]) (λq z=>by rw[z,h2]at q;cases q) (λb xs q z=>by rw[z,h2]at q;cases q) (λb z=>.inl z) (λb z _=>z) L;show#[R2,G.ri,G.cv,P.st.trans #[N,G.st.mm,λb z=>(G.st.mn b z).imp id λq=>(cy q).2,λb z=>.inl z,P.R.mt,P.R.dr],λb=>(G.ln b).trans (P.ln b)]
theorem vb {m:MA}{nf ns G:Nat}{pk:Int}{Z:Zs}(S:tm c H M a m nf ns G s cv pk W Z) (C:Ct H Z cv) (P:kK c H M a s W cv H2 M2 s2):tm c H2 M2 a m nf ns G s2 cv pk W Z/\Ct H2 Z cv:=by
 let#[L,N]:=m6 S.D S.sp P.st;show#[#[P.R,P.ri,P.cv,?_,S.p0,N,S.tw,(P.ln true).trans S.lf,(P.ln false).trans S.ls,S.zn,S.lw,S.lz],#[λt q b h=>?_,C.inj]]
 .rw[uR P.ln];show L
 .let#[z,h1,h2]:=Option.bind_eq_some_iff.mp h;let#[y,O,J]:=Option.map_eq_some_iff.mp h2;show P.st.off _ _ (C.at_ _ _ _ h) (S.sp _ (.inr (.inr (.inr #[_,Tb.ax h1,.inr (.inr #[_,Tb.ax O,J.symm])])))).2
end
inductive tM (c:CA) (vs:List V) (H:Hp) (Q:VK) (e3:XK):Prop
 |mk (M:Addr->Prop) (a:RA) (m:MA) (nf ns kk:Nat) (s:Pg.PS) (cv:Int->Int->List Int) (pk:Int) (W:dW) (Z:Zs) (pa:Addr) (ps:List Int) (_:vs=[.ref a.rp,.ref m.md,.ref pa]) (_:tm c H M a m nf ns kk s cv pk W Z) (_:Ct H Z cv) (_:H pa=some (.lst (ps.map V.int))) (_:¬ M pa) (_:∀H' M' s',tm c H' M' a m nf ns kk s' cv pk W Z->Ct H' Z cv->Step H M (a.own W) H' M' (a.own W)->Q (.bl true) H'):tM c vs H Q e3
inductive uX (c:CA) (vs:List V) (H:Hp) (Q:VK) (e3:XK):Prop
 |mk (M:Addr->Prop) (a:RA) (m:MA) (nf ns kk:Nat) (s:Pg.PS) (cv:Int->Int->List Int) (pk:Int) (W:dW) (Z:Zs) (_:vs=[.ref a.rp,.ref m.md]) (_:tm c H M a m nf ns kk s cv pk W Z) (_:Ct H Z cv) (_:kk<=1000) (_:∀H' M' s',tm c H' M' a m nf ns kk s' cv pk W Z->Ct H' Z cv->Step H M (a.own W) H' M' (a.own W)->Q (.bl true) H'):uX c vs H Q e3
section
variable {P:J2}{w:Kd}{K:PySem.W.Frag}{mg:Str->Option Value}{base:Heap}
theorem HM:aC ["_law_found","_law_due_here"] ["_law_found","_law_due_here"] (aw nc):=L2.bD
theorem ud {f:Addr}{fd:J0}(F:cQ K "_law_numbers" "_law_numbers" nc f fd) (T:mH mg) (Y:Df P w K mg base aW 1 "_law_whole" qo) :
  bh P w K mg base aW 2 f fd ["_law_found","_law_due_here"] gk:=by
 show F.ok HM (λvs H Q E h=>?_) (λab A outer s H vs Q E N h=>?_)
 .let#[p,q,xs,rfl,_]:=h;rfl
 .let#[p,q,xs,rfl,G,hq,J,k]:=h;have hs:sizeLine=16777216:=J5;show#[_,(ag (aS (PW.pt (iK (lU (eM (aN dG (by rfl) T.AN bW (aa (pv 0) (aa (eS (v:=.ty "list") (by rfl) T.list eR rfl) ai))))) (gW (aE (EE N.iP) (pv 0) (pv 1) (aJ _))))) (aj (aF kR)) aG)
   (aj (aF (aN (kE rfl) (by rfl) T.all tO (aa (fJ (cl:=[]) (caps:=[]) #[rfl,ao,ao,rfl,by kernel_rfl,by intro p G;simp at G,by kernel_rfl,by intro p G;simp at G,ao] rfl (ff (pv 0)) (λ_ _ _ _=>eY) (λ_ _ _ _=>(pc Y N ay (aa (pv 0) ai)))) ai))))),?_]
  show#[0,.ref p,"list",_,true,rfl,.lst G,EA _,true,rfl,bC ?_];show#[0,0,p,q,_,0,rfl,bB.of G,bB.of hq,fm _,fm _,0,?_];rw[oi,decide_eq_true rfl];show bC ?_;show#[0,p,rfl,#[_,bB.of G],?_];show uv (K:=K) (a:=p) (xs:=xs.map V.int) (λi ys H2=>i<=xs.length/\ys=(replicate i true).map V.bl/\H2=H) #[Kl _,1] (λi ys H2 _ z=>by rw[z.2.2];show bB.of G) ?_ ?_
  .rintro i x ys H2 L ⟨hi,rfl,rfl⟩;rw[J3]at L;let#[n,O,rfl]:=Option.map_eq_some_iff.mp L;show#[0,n,4,(List.getElem?_eq_some_iff.mp O).1,?_,rfl]
   .rw[DD,KN];omega
   .rw[List.replicate_succ',Ke];rfl
  .rintro ys H2 ⟨_,rfl,rfl⟩ l J;show#[l,0,bB.of af,?_];rw[show(replicate (List.map V.int xs).length true).all id=true from List.all_eq_true.mpr λb U=>(List.mem_replicate.mp U).2];show k _ (Tb.au J)
theorem Bn:aC ["_law_kept","_law_model_here","_law_pages","_law_task","_law_room","_law_page"] ["_law_kept","_law_model_here","_law_pages"] (aw zX):=L2.bD
theorem AY {f:Addr}{fd:J0}{c:CA}(F:cQ K "_law_same" "_law_same" zX f fd) (TR:sW K mg c) (MK:Fo P w K mg base c) (a3:Df P w K mg base aW 2 "_law_numbers" gk) :
  bh P w K mg base aW 11 f fd ["_law_kept","_law_model_here","_law_pages"] (tM c):=by
 show F.ok Bn (λvs H Q E h=>?_) (λbi A outer s H vs Q E U h=>?_)
 .let#[M,a,m,nf,ns,kk,s',cv,pk,W,Z,L,ps,rfl,_]:=h;rfl
 .let#[M,a,m,nf,ns,kk,s',cv,pk,W,Z,L,ps,rfl,S,C,am,a2,k]:=h;have hs:sizeLine=16777216:=J5;have ab:M m.lr/\¬ a.own W m.lr:=S.sp _ (.inr (.inl rfl));have hn:∀(ob:Obj) u',H m.lr≠some (.cu ob u'):=λob u' w=>(by rw[S.D.hr]at w;cases w);show#[_,(ag (jD (cN Kh rfl (lS (bj (aZ U) (pv 1) aI (λ_ _=>rfl))) (dH rfl (bp (aY (i:=3) Bn.nd rfl (J6 rfl)) (bp (aY (i:=4) Bn.nd rfl (J6 rfl)) cZ))) (aj (cN Kh rfl (ff (pv 2)) (aY (i:=5) Bn.nd rfl (J6 rfl)) (aj (aS (PW.pt (mK (ij (kf (aZ U) (pv 5) (pv 4))) (jP (lU (eM (pc a3 U ay (aa (pm (pv 0) TR.cl MK.GV U ay (aa (pv 3) (aa (aA d0 ak (pv 5)) (aa ak ai)))) (aa (bj (aZ U) (pv 4) (pv 5) (λ_ _=>rfl)) ai)))))))) (aj (aF kR)) aG))))))
   (aj (aF kR))),?_]
  show#[0,m.md,.ref m.lr,rfl,S.D.g (vg _ _ _ _),m.lr,0,S.D.hr,hn,λob=>?_];have oF:Off (· = m.lr) H (upd H m.lr (.cu ob (.dK (Tb.dk dY Z)))):=Off.wr rfl;have hF:upd H m.lr (.cu ob (.dK (Tb.dk dY Z))) m.lr=some (.cu ob (.dK (Tb.dk dY Z))):=af;have PS:kK c H M a s' W cv H M s':=#[S.R,S.ri,S.cv,S.R.refl,λ_=>rfl];have P0:=PS.cu (ob:=ob) S.D.hr ab;have back:∀{H9 M9 s9},kK c (upd H m.lr (.cu ob (.dK (Tb.dk dY Z)))) M a s' W cv H9 M9 s9->kK c H M a s' W cv (upd H9 m.lr (.dK (Tb.dk dY Z))) M9 s9:=λP=>PS.back S.D.hr ab P;have aB:∀x∈Z,upd H m.lr (.cu ob (.dK (Tb.dk dY Z))) x.2.ra=some (.dK (Tb.dk eD x.2.pl)):=λx hx=>oF _ _ (S.D.rm x hx) (S.D.d3 x hx).2.1;have ap:upd H m.lr (.cu ob (.dK (Tb.dk dY Z))) L=some (.lst (ps.map V.int)):=oF _ _ am (λz=>by rw[z,S.D.hr]at am;cases am);have a4:∀t q J,eA Z t q=some J->upd H m.lr (.cu ob (.dK (Tb.dk dY Z))) J=some (.lst ((cv t q).map V.int)):=λt q J e=>oF _ _ (C.at_ _ _ _ e) (λz=>by have:=C.at_ _ _ _ e;rw[z,S.D.hr]at this;cases this);have zo:∀t q J,eA Z t q=some J->cM m Z J:=λt q J e=>by
   let#[z,h1,h2]:=Option.bind_eq_some_iff.mp e;let#[y,h3,h4]:=Option.map_eq_some_iff.mp h2;show .inr (.inr (.inr #[_,Tb.ax h1,.inr (.inr #[_,Tb.ax h3,h4.symm])]))
  have np:¬ a.own W L:=λz=>a2 (S.R.dr _ z);generalize bl:upd H m.lr (.cu ob (.dK (Tb.dk dY Z)))=HF at *;show jZ (a:=m.lr) (o:=ob) (kvs:=Tb.dk dY Z) (λj σ H2=>∃(v3 v4 N:Option V) (M2:Addr->Prop) (s2:Pg.PS),σ=[some (.ref a.rp),some (.ref m.md),some (.ref L),v3,v4,N]/\kK c HF M a s' W cv H2 M2 s2) #[2,_,M,s',rfl,P0] (λj σ H2 _ z0=>by let#[_,_,_,_,_,_,I2]:=z0;show I2.st.off _ _ hF ab.2) ?_ ?_
  .rintro j a6 v σ H2 T' hk a0 ⟨v3,v4,N,M2,s2,rfl,Y⟩;have aT:(Z.map λx:Int×MT=>((Sum.inl x.1:Key),dY x.2))[j]?=some (a6,v):=hk;rw[J3]at aT;let#[x,hx,e]:=Option.map_eq_some_iff.mp aT;cases e;have O:=J7 hx;have ez:Tb.look Z x.1=some x.2:=Tb.bL S.D.nd O;let#[xx,ac]:=S.tw.get ez;have a1:=S.tw.ve ac ez;show#[T',[.int x.1,.ref x.2.ra],rfl,cg.of af,5,0,_,0,4];have P3:=Y.same (Tb.au (X:=.tup [kV (Sum.inl x.1),dY x.2]) a0);generalize upd H2 T' (.tup [kV (Sum.inl x.1),dY x.2])=H3 at *;have as:¬ a.own W x.2.ra:=(S.sp _ (.inr (.inr (.inr #[x,O,.inl rfl])))).2;show#[0,L,rfl,#[_,bB.of (P3.st.off _ _ ap np)],?_];show eh (K:=K) (a:=L) (xs:=ps.map V.int) (λi σ H4=>∃(N:Option V) (M4:Addr->Prop) (s4:Pg.PS),σ=[some (.ref a.rp),some (.ref m.md),some (.ref L),some (.int x.1),some (.ref x.2.ra),N]/\kK c HF M a s' W cv H4 M4 s4) #[_,M2,s2,rfl,P3] (λi σ H4 _ z0=>by let#[_,_,_,_,G]:=z0;show bB.of (G.st.off _ _ ap np)) ?_ ?_
   .rintro i u σ H4 hu ⟨be,M4,s4,rfl,G⟩;rw[J3]at hu;let#[pg,_,rfl]:=Option.map_eq_some_iff.mp hu;have h4:=G.st.off _ _ (aB x O) as;show nameQ ?_;dsimp only;show vV λQQ ji je=>?_;show#[0,0,x.2.ra,0,eL (t:=pg) h4,?_];cases ep:Tb.look x.2.pl pg with
    |none=>show#[false,rfl,je _ #[2,0,G]]
    |some y =>
     show#[true,rfl,dZ ?_];let#[g0,g1]:=S.D.rg x O (pg,y) (Tb.ax ep);have g0:0<=pg:=g0;have g1:pg<64:=g1;have hb:=kZ (x:=xx) (z:=x.2) (ad:=8*pg) (n:=8) a1 ae #[ae,λi hi=>by rw[show(8*pg+(i:Int))/8=pg by omega,ep];show λq=>by cases q];let#[a5,bb]:=G.R.ob;have ea:eA Z x.1 pg=some y.1:=(by rw[rF ez,ep];rfl);have l8:=C.BE S.D ea;show#[0,a.rp,a5,0,bb,gK _ _ _ ao ao ao,0,0,_,0,4,M4,a,s4,W,cv,x.1,8*pg,(8),xx,rfl,G.R,G.ri,G.cv,ac,ar,ae,ae,hb,λH5 M5 s5 l R5 ba bc bd a7 fl hl=>?_]
     .show .inl #[ar,ar]
     have P5:=G.next R5 ba bc bd a7;rw[pS (HI G.ri G.cv ac hb),oM l8]at hl;have h5:=P5.st.off _ _ (aB x O) as;have c5:=P5.st.off _ _ (a4 _ _ _ ea) (S.sp _ (zo _ _ _ ea)).2;show#[0,0,x.2.ra,0,by have:=eL (t:=pg) h5;rw[ep]at this;show this,l,y.1,cv x.1 pg,rfl,hl,c5,ae,λH6 s6=>#[true,rfl,je _ #[_,M5,s5,rfl,P5.same s6]]]
   .rintro σ H4 ⟨be,M4,s4,rfl,G⟩;show#[2,_,M4,s4,rfl,G]
  .rintro σ H2 ⟨v3,v4,N,M2,s2,rfl,Y⟩;show#[m.lr,ob,_,Y.st.off _ _ hF ab.2,hn,?_];have PE:=back Y;let#[S2,C2]:=vb S C PE;show k _ M2 s2 S2 C2 PE.st
theorem BG:aC ["_law_kept","_law_model_here","_law_task","_law_room","_law_page"] ["_law_kept","_law_model_here"] (aw ze):=L2.bD
theorem Bo {f:Addr}{fd:J0}{c:CA}(F:cQ K "_law_all_right" "_law_all_right" ze f fd) (TR:sW K mg c) (MK:Fo P w K mg base c) (aB:Df P w K mg base aW 2 "_law_numbers" gk) (a2:Df P w K mg base aW 1 "_law_held" jG) (ba:Md P w K mg base aW 2 c.C "held" (jx c)) :
  bh P w K mg base aW 11 f fd ["_law_kept","_law_model_here"] (uX c):=by
 show F.ok BG (λvs H Q E h=>?_) (λbG A outer s H vs Q E hr h=>?_)
 .let#[M,a,m,nf,ns,kk,s',cv,pk,W,Z,rfl,_]:=h;rfl
 .let#[M,a,m,nf,ns,kk,s',cv,pk,W,Z,rfl,S,C,bI,k]:=h;have hs:sizeLine=16777216:=J5;have ac:M m.lr/\¬ a.own W m.lr:=S.sp _ (.inr (.inl rfl));have hn:∀(ob:Obj) u',H m.lr≠some (.cu ob u'):=λob u' w=>(by rw[S.D.hr]at w;cases w);show#[_,(ag (jD (cN Kh rfl (lS (bj (aZ hr) (pv 1) aI (λ_ _=>rfl))) (dH rfl (bp (aY (i:=2) BG.nd rfl (J6 rfl)) (bp (aY (i:=3) BG.nd rfl (J6 rfl)) cZ))) (aj (jD (cN Kh rfl (qh (pv 3)) (aY (i:=4) BG.nd rfl (J6 rfl)) (aj (aS (lU (eM (pc aB hr ay (aa (pm (pv 0) TR.cl MK.GV hr ay (aa (pv 2) (aa (aA d0 ak (pv 4)) (aa ak ai)))) (aa (bj (aZ hr) (pv 3) (pv 4) (λ_ _=>rfl)) ai))))) (aj (aF kR)) aG)))))))
   (aj (aF (lq bU (wc (pv 0) TR.cl ba hr ay) (pc a2 hr ay (aa (pv 1) ai)) (aJ _))))),?_]
  show#[0,m.md,.ref m.lr,rfl,S.D.g (vg _ _ _ _),m.lr,0,S.D.hr,hn,λob=>?_];have oF:Off (· = m.lr) H (upd H m.lr (.cu ob (.dK (Tb.dk dY Z)))):=Off.wr rfl;have hF:upd H m.lr (.cu ob (.dK (Tb.dk dY Z))) m.lr=some (.cu ob (.dK (Tb.dk dY Z))):=af;have PS:kK c H M a s' W cv H M s':=#[S.R,S.ri,S.cv,S.R.refl,λ_=>rfl];have P0:=PS.cu (ob:=ob) S.D.hr ac;have back:∀{Y M9 O},kK c (upd H m.lr (.cu ob (.dK (Tb.dk dY Z)))) M a s' W cv Y M9 O->kK c H M a s' W cv (upd Y m.lr (.dK (Tb.dk dY Z))) M9 O:=λP=>PS.back S.D.hr ac P;have bd:∀x∈Z,upd H m.lr (.cu ob (.dK (Tb.dk dY Z))) x.2.ra=some (.dK (Tb.dk eD x.2.pl)):=λx hx=>oF _ _ (S.D.rm x hx) (S.D.d3 x hx).2.1;have aT:∀t q J,eA Z t q=some J->upd H m.lr (.cu ob (.dK (Tb.dk dY Z))) J=some (.lst ((cv t q).map V.int)):=λt q J e=>oF _ _ (C.at_ _ _ _ e) (λz=>by have:=C.at_ _ _ _ e;rw[z,S.D.hr]at this;cases this);have zo:∀t q J,eA Z t q=some J->cM m Z J:=λt q J e=>by
   let#[z,h1,h2]:=Option.bind_eq_some_iff.mp e;let#[y,h3,h4]:=Option.map_eq_some_iff.mp h2;show .inr (.inr (.inr #[_,Tb.ax h1,.inr (.inr #[_,Tb.ax h3,h4.symm])]))
  generalize bz:upd H m.lr (.cu ob (.dK (Tb.dk dY Z)))=HF at *;show jZ (a:=m.lr) (o:=ob) (kvs:=Tb.dk dY Z) (λj σ H2=>∃(v2 v3 v4:Option V) (M2:Addr->Prop) (s2:Pg.PS),σ=[some (.ref a.rp),some (.ref m.md),v2,v3,v4]/\kK c HF M a s' W cv H2 M2 s2) #[2,_,M,s',rfl,P0] (λj σ H2 _ z0=>by let#[_,_,_,_,_,_,I2]:=z0;show I2.st.off _ _ hF ac.2) ?_ ?_
  .rintro j bc v σ H2 T' hk bl ⟨v2,v3,v4,M2,s2,rfl,P2⟩;have ab:(Z.map λx:Int×MT=>((Sum.inl x.1:Key),dY x.2))[j]?=some (bc,v):=hk;rw[J3]at ab;let#[x,hx,e]:=Option.map_eq_some_iff.mp ab;cases e;have N:=J7 hx;have ez:Tb.look Z x.1=some x.2:=Tb.bL S.D.nd N;let#[xx,am]:=S.tw.get ez;have a7:=S.tw.ve am ez;show#[T',[.int x.1,.ref x.2.ra],rfl,cg.of af,5,0,_,0,4];have P3:=P2.same (Tb.au (X:=.tup [kV (Sum.inl x.1),dY x.2]) bl);generalize upd H2 T' (.tup [kV (Sum.inl x.1),dY x.2])=H3 at *;have U:¬ a.own W x.2.ra:=(S.sp _ (.inr (.inr (.inr #[x,N,.inl rfl])))).2;have as:M2 x.2.ra/\¬ a.own W x.2.ra:=#[P3.st.mm _ (S.sp _ (.inr (.inr (.inr #[x,N,.inl rfl])))).1 U,U];have h3:=P3.st.off _ _ (bd x N) U;have ap:∀(ob:Obj) u',H x.2.ra≠some (.cu ob u'):=λob u' w=>(by rw[S.D.rm x N]at w;cases w);show#[0,x.2.ra,0,h3,ap,λL=>?_];have hG:upd H3 x.2.ra (.cu L (.dK (Tb.dk eD x.2.pl))) x.2.ra=some (.cu L (.dK (Tb.dk eD x.2.pl))):=af;have PG:=P3.cu (ob:=L) h3 as;have a6:∀{Y M9 O},kK c (upd H3 x.2.ra (.cu L (.dK (Tb.dk eD x.2.pl)))) M2 a s2 W cv Y M9 O->kK c HF M a s' W cv (upd Y x.2.ra (.dK (Tb.dk eD x.2.pl))) M9 O:=λP=>P3.back h3 as P;have bv:∀t q J,eA Z t q=some J->upd H3 x.2.ra (.cu L (.dK (Tb.dk eD x.2.pl))) J=some (.lst ((cv t q).map V.int)):=λt q J e=>by
    have e2:=P3.st.off _ _ (aT t q J e) (S.sp _ (zo _ _ _ e)).2;rw[ah (λz=>by rw[z,h3]at e2;cases e2)];show e2
   generalize upd H3 x.2.ra (.cu L (.dK (Tb.dk eD x.2.pl)))=HG at *;show qZ (a:=x.2.ra) (o:=L) (kvs:=Tb.dk eD x.2.pl) (λi σ H4=>∃(v4:Option V) (M4:Addr->Prop) (s4:Pg.PS),σ=[some (.ref a.rp),some (.ref m.md),some (.int x.1),some (.ref x.2.ra),v4]/\kK c HG M2 a s2 W cv H4 M4 s4) #[_,M2,s2,rfl,PG] (λi σ H4 _ z0=>by let#[_,_,_,_,G]:=z0;show G.st.off _ _ hG U) ?_ ?_
   .rintro i a1 v σ H4 hk ⟨bi,M4,s4,rfl,G⟩;have ab:(x.2.pl.map λy:Int×Addr×Int=>((Sum.inl y.1:Key),eD y.2))[i]?=some (a1,v):=hk;rw[J3]at ab;let#[#[pg,y],hy,e]:=Option.map_eq_some_iff.mp ab;cases e;have bm:=J7 hy;have ep:Tb.look x.2.pl pg=some y:=Tb.bL (S.D.np x N) bm;show nameQ ?_;dsimp only;show vV λQQ ji je=>?_;let#[g0,g1]:=S.D.rg x N (pg,y) (Tb.ax ep);have g0:0<=pg:=g0;have g1:pg<64:=g1;have hb:=kZ (x:=xx) (z:=x.2) (ad:=8*pg) (n:=8) a7 ae #[ae,λi hi=>by rw[show(8*pg+(i:Int))/8=pg by omega,ep];show λq=>by cases q];let#[bb,a4]:=G.R.ob;have ea:eA Z x.1 pg=some y.1:=(by rw[rF ez,ep];rfl);have l8:=C.BE S.D ea;show#[0,a.rp,bb,0,a4,gK _ _ _ ao ao ao,0,0,_,0,4,M4,a,s4,W,cv,x.1,8*pg,(8),xx,rfl,G.R,G.ri,G.cv,am,ar,ae,ae,hb,λH5 M5 s5 l R5 a0 a5 bx a3 fl hl=>?_]
    .show .inl #[ar,ar]
    have P5:=G.next R5 a0 a5 bx a3;rw[pS (HI G.ri G.cv am hb),oM l8]at hl;have h5:=P5.st.off _ _ hG U;have c5:=P5.st.off _ _ (bv _ _ _ ea) (S.sp _ (zo _ _ _ ea)).2;show#[0,0,x.2.ra,0,(.inl #[_,Sum.inl pg,.inr #[L,h5],rfl,by rw[Tb.cI,ep];rfl]:du _ _ _ (some (eD y))),l,y.1,cv x.1 pg,rfl,hl,c5,ae,λH6 s6=>#[true,rfl,je _ #[_,M5,s5,rfl,P5.same s6]]]
   .rintro σ H4 ⟨bi,M4,s4,rfl,G⟩;show#[x.2.ra,L,_,G.st.off _ _ hG U,ap,2,_,M4,s4,rfl,a6 G]
  .rintro σ H2 ⟨v2,v3,v4,M2,s2,rfl,P2⟩;show#[m.lr,ob,_,P2.st.off _ _ hF ac.2,hn,?_];have PE:=back P2;let#[S2,C2]:=vb S C PE;let#[bn,be]:=S2.R.ob;show#[0,a.rp,bn,0,be,gK _ _ _ ao ao ao,M2,a,s2,W,rfl,S2.R,by have:=S.lw;omega,λH8 s8=>?_];have P8:=PE.same s8;show#[0,m,_,pk,Z,rfl,(S2.same s8).D,by have:=S.lz;omega,λY O=>#[4]];have P9:=P8.same O;let#[S9,C9]:=vb S C P9;rw[S.tw.held S.R S.D,decide_eq_true rfl];show k _ M2 s2 S9 C9 P9.st
end
structure Lv (c:CA) (H0:Hp) (a:RA) (m:MA) (nf ns:Nat) (tl:Addr) (tv:HO) (k:Nat) (H:Hp) (M:Addr->Prop) (s:Pg.PS) (cv:Int->Int->List Int) (pk:Int) (W:dW) (Z:Zs):Prop where
 S:tm c H M a m nf ns k s cv pk W Z
 C:Ct H Z cv
 sm:bf H0 H
 fr:∀b,M b->H0 b=none
 ht:H tl=some tv
 nt:¬ M tl
section
variable {c:CA}{H0 H H':Hp}{M M':Addr->Prop}{a:RA}{m:MA}{nf ns k:Nat}{tl:Addr}{tv:HO}{s s':Pg.PS}{cv cv':Int->Int->List Int}{pk:Int}{W W':dW}{Z:Zs}
theorem jL (R:az c H M a s W) {b:Addr}{xs:List V}(h:H b=some (.tup xs)):¬ a.own W b:=λw=>by
 let#[dx,h1]:=R.pg.ob;let#[cs,h2,_]:=R.pg.fr.hc;let#[O,N,_]:=R.pg.sl.hc;let#[l,L,_]:=R.pg.pd;rcases w with w|w|⟨x,G,w⟩
 .unfold PA.own at w;simp only[Ku,Kb,or_false]at w;rcases w with w|w|w|w|w|w|w<;>rw[w]at h
  .rw[h1]at h;cases h
  .rw[R.pg.fr.hw]at h;cases h
  .rw[h2]at h;cases h
  .rw[R.pg.sl.hw]at h;cases h
  .rw[N]at h;cases h
  .rw[L]at h;cases h
  .rw[R.pg.il]at h;cases h
 .rw[w,R.hd]at h;cases h
 .rcases w with w|⟨y,J,w⟩
  .rw[w,(R.tb x G).at_.hf]at h;cases h
  .rw[w,(R.tb x G).at_.hd y J]at h;cases h
theorem Ct.same (C:Ct H Z cv) (h:bf H H'):Ct H' Z cv:=C.keep (λa xs e=>h _ _ e) λ_ _ _ h=>h
theorem Lv.same (L:Lv c H0 a m nf ns tl tv k H M s cv pk W Z) (h:bf H H'):Lv c H0 a m nf ns tl tv k H' M s cv pk W Z:=#[L.S.same h,L.C.same h,L.sm.trans h,L.fr,h _ _ L.ht,L.nt]
theorem tm.up (S:tm c H M a m nf ns k s cv pk W Z) {j:Nat}(h:k<=j):tm c H M a m nf ns j s cv pk W Z:=#[S.R,S.ri,S.cv,S.D,S.p0,S.sp,S.tw,S.lf,S.ls,S.zn,Ko S.lw h,Ko S.lz h]
theorem Lv.up (L:Lv c H0 a m nf ns tl tv k H M s cv pk W Z) {j:Nat}(h:k<=j):Lv c H0 a m nf ns tl tv j H M s cv pk W Z:=#[L.S.up h,L.C,L.sm,L.fr,L.ht,L.nt]
theorem Lv.step (L:Lv c H0 a m nf ns tl tv k H M s cv pk W Z) (S:tm c H' M' a m nf ns k s' cv pk W Z) (C:Ct H' Z cv) (st:Step H M (a.own W) H' M' (a.own W)):Lv c H0 a m nf ns tl tv k H' M' s' cv pk W Z:=by
 have G:bf H0 H':=λb u e=>st.off b u (L.sm _ _ e) λw=>(by rw[L.fr b (L.S.R.dr b w)]at e;cases e);show#[S,C,G,λb z=>(st.mn b z).elim (L.fr b) λz=>L.sm.free z,st.off _ _ L.ht λw=>L.nt (L.S.R.dr _ w),λz=>(st.mn _ z).elim L.nt λz=>by rw[L.ht]at z;cases z]
theorem Be {D:Dd}{N:Zs}(zn:Z≠[]) (h:sh D (hZ Z) (hZ N)) (ab:∀o,D=.close o->∃t,t≠o/\∃z,Tb.look Z t=some z):N≠[]:=λe=>by
 have J:∀t,hZ N t=false:=λt=>(by rw[e];rfl);obtain⟨G,L⟩:∃G,hZ Z G=true:=by
  cases Y:Z with
  |nil=>show absurd Y zn
  |cons x r =>
   show#[x.1,?_];unfold hZ;rw[Tb.aO,Qi rfl];rfl
 cases D with
 |begin t=>have:=h G;rw[J G,L]at this;simp at this
 |close o =>
  let#[O,n1,z1,U]:=ab o rfl;have:=h O;rw[J O,decide_eq_true n1]at this;unfold hZ at this;rw[U]at this;cases this
 |copy t o=>have:=h G;rw[J G,L]at this;simp at this
 |map t p q=>have:=h G;rw[J G,L]at this;cases this
 |drop t p q=>have:=h G;rw[J G,L]at this;cases this
 |peek t p q=>have:=h G;rw[J G,L]at this;cases this
 |poke t p q r=>have:=h G;rw[J G,L]at this;cases this
theorem Lv.EI (L:Lv c H0 a m nf ns tl tv k H M s cv pk W Z) {d:Addr}{D:Dd}(hd:kU H d D) (O:∀t ad G cs,D=.poke t ad G cs->¬ M G) {H2:Hp}{N:Zs}(J:sQ m H Z H2 N):kU H2 d D:=by
 show#[J.1 _ _ hd.1 λw=>?_,λt ad G cs e=>J.1 _ _ (hd.2 t ad G cs e) λw=>O t ad G cs e (L.S.sp _ w).1];rcases L.S.D.alive _ w with⟨_,h⟩|⟨_,h⟩
 .rw[hd.1]at h;cases h
 .rw[hd.1]at h;cases h
theorem Lv.Ig (L:Lv c H0 a m nf ns tl tv k H M s cv pk W Z) {D:Dd}(a3:∀o,D=.close o->∃t,t≠o/\∃z,Tb.look Z t=some z)
  {H2:Hp}{ab:Int}{J:Zs}{v:V}(D2:cD H2 m (bN s) ab J) (p2:0<=ab/\∀cv,Ct H Z cv->Ct H2 J (oK D cv)/\FK D cv H H2 v) (O:sQ m H Z H2 J) (l2:J.length<=Z.length+1) (h2:sh D (hZ Z) (hZ J)) (e2:uO 0 (λv=>v≠0) D (eZ Z) (eZ J))
  {H3:Hp}{M3:Addr->Prop}{s3:Pg.PS}{N:dW}{U:Int->Int->List Int}{v3:V}(R3:az c H3 M3 a s3 N) (a2:Pg.RI s3 (ents N)) (c3:Cv s3 N U/\U=oK D cv/\FK D cv H2 H3 v3) (st:Step H2 (λb=>(M b/\¬ cM m Z b)\/cM m J b) (a.own W) H3 M3 (a.own N)) (Y:∀b,(s3.ow b).length=(s.ow b).length) (lw:N.length<=W.length+1) (h3:sh D (hW W) (hW N)) (e3:uO none (λx=>∃k,x=some k) D (eW W) (eW N)) :
  Lv c H0 a m nf ns tl tv (k+1) H3 M3 s3 U ab N J:=by
 have G:=L.S;let#[a0,ac]:=uK G.R G.D G.sp D2 O;have aT:bf H0 H2:=λb u e=>O.1 b u (L.sm _ _ e) λw=>(by rw[L.fr b (G.sp b w).1]at e;cases e);have aB:∀b,((M b/\¬ cM m Z b)\/cM m J b)->H0 b=none:=λb z=>by
  rcases z with z|z
  .show L.fr b z.1
  .rcases O.2 b z with z|z
   .show L.fr b (G.sp b z).1
   .show L.sm.free z
 have am:=O.1 _ _ L.ht λw=>L.nt (G.sp _ w).1;have ap:¬ ((M tl/\¬ cM m Z tl)\/cM m J tl):=λz=>by
  rcases z with z|z
  .show L.nt z.1
  .rcases O.2 _ z with z|z
   .show L.nt (G.sp _ z).1
   .rw[L.ht]at z;cases z
 let#[a6,a5]:=m6 D2 ac st;have bb:=G.tw.next h3 h2 e3 e2;have a1:bf H0 H3:=λb u e=>st.off b u (aT _ _ e) λw=>(by rw[aB b (a0.dr b w)]at e;cases e);have a7:∀b,M3 b->H0 b=none:=λb z=>(st.mn b z).elim (aB b) λz=>aT.free z;have a4:=st.off _ _ am λw=>ap (a0.dr _ w);have ba:¬ M3 tl:=λz=>(st.mn _ z).elim ap λz=>(by rw[am]at z;cases z);have as:Ct H2 J U:=(by rw[c3.2.1];show(p2.2 cv L.C).1);show#[#[R3,a2,c3.1,?_,p2.1,a5,bb,(Y true).trans G.lf,(Y false).trans G.ls,Be G.zn h2 a3,3],?_,a1,a7,a4,ba]
 .rw[uR Y];show a6
 .have:=G.lw;omega +splitNatSub
 .have:=G.lz;omega +splitNatSub
 .show#[λt q b h=>?_,as.inj];let#[z,h5,hh]:=Option.bind_eq_some_iff.mp h;let#[y,h6,h7]:=Option.map_eq_some_iff.mp hh;show st.off _ _ (as.at_ _ _ _ h) (ac _ (.inr (.inr (.inr #[_,Tb.ax h5,.inr (.inr #[_,Tb.ax h6,h7.symm])])))).2
end
end Lw
namespace Srt
open PySem PyProof.Rows
noncomputable def m8 (e:Int×Value):Nat:=(e.1%8).toNat
noncomputable def Ej:List (List Nat):=(List.range 8).foldr (λx G=>G++(G.filter (·.length<=2)).map (x :: ·)) [[]]
noncomputable def slotAt (pl:List Nat) (i:Nat):Nat:=if i=0 then 0 else pl.getD (i-1) 0+1
noncomputable def iQ {α:Type}(l:List α) (p:Nat) (x:α):List α:=l.take p++x::l.drop p
noncomputable def tb (b:Bool) (pl:List Nat):SetTable:=#[(7),pl.toArray, ([].toArray),(0),b,(0),true]
theorem pG:∀pl∈Ej,pl.length<=3:=ao
theorem wV:∀pl∈Ej,∀i∈List.range 4,i<=pl.length->SetTable.below pl.toArray (slotAt pl i)=i:=ao
theorem AU:∀pl∈Ej,pl.length<=2->∀j∈List.range 8,j∉pl->iQ pl (SetTable.below pl.toArray j) j∈Ej:=ao
theorem yN:∀b:Bool,∀pl∈Ej,pl.length<=2->∀k∈List.range 72,k%8∉pl->(tb b pl).freeSlot (k:Int)=some (k%8,false):=ao
theorem Eo:∀k∈List.range 72,PN (k:Int)=k:=ao
theorem iM {α:Type}(l:List α) (p:Nat) (x:α):SetTable.insertAt l.toArray p x=(iQ l p x).toArray:=by
 unfold SetTable.insertAt iQ;simp[LG,KP]
theorem sH {α G:Type}(f:α->G) (l:List α) (p:Nat) (x:α):(iQ l p x).map f=iQ (l.map f) p (f x):=by
 unfold iQ;rw[Ke,Py,Lm,map_drop]
theorem oe {α:Type}(l:List α) (p:Nat) (x:α):(iQ l p x).Perm (x::l):=by
 unfold iQ;show List.perm_middle.trans (by rw[K0])
theorem BW {b:Bool}{es:List (Int×Value)}{k:Int}{x:Value}(Y:es.map m8∈Ej) (L:es.length<=2) (k0:0<=k) (k1:k<72) (N:(k%8).toNat∉es.map m8) :
  layNew (tb b (es.map m8)) es.toArray k x=((iQ es (SetTable.below (es.map m8).toArray (k%8).toNat) (k,x)).toArray,tb b ((iQ es (SetTable.below (es.map m8).toArray (k%8).toNat) (k,x)).map m8),false,false):=by
 have O:((k.toNat:Nat):Int)=k:=Ma k0;have J:k.toNat%8=(k%8).toNat:=ae;have G:=yN b _ Y (by rw[DD];show L) k.toNat (List.mem_range.mpr ae) (by rw[J];show N);rw[O,J]at G;have e9:m8 (k,x)=(k%8).toNat:=rfl;unfold layNew;rw[G];have ep:(tb b (es.map m8)).put (k%8).toNat=(tb b ((iQ es (SetTable.below (es.map m8).toArray (k%8).toNat) (k,x)).map m8),SetTable.below (es.map m8).toArray (k%8).toNat):=by
  rw[sH,e9];change(({ tb b (es.map m8)with place:=SetTable.insertAt (es.map m8).toArray _ _,dummies:=_ }:SetTable),_)=_;rw[iM];rfl
 dsimp only;rw[ep];dsimp only;rw[iM];have U:(tb b ((iQ es (SetTable.below (es.map m8).toArray (k%8).toNat) (k,x)).map m8)).fits (iQ es (SetTable.below (es.map m8).toArray (k%8).toNat) (k,x)).toArray.size=true:=by
  unfold SetTable.fits SetTable.fill tb;have:=(oe es (SetTable.below (es.map m8).toArray (k%8).toNat) (k,x)).length_eq;simp only[IF,DD,beq_self_eq_true,PD,decide_eq_true_eq];rw[this,Kf];change _+0<=7;omega
 unfold SetTable.orStandIn;rw[U];rfl
structure Ent (p:Int) (es:List (Int×Value)):Prop where
 el:∀e∈es,∃k t,e=(k,Value.int k t)/\p<=k/\k<=p+2
 nd:(es.map (·.1)).Nodup
 ps:es.map m8∈Ej
noncomputable def so (b:Bool) (es:List (Int×Value)) (ep:Nat):Obj:={ cls:=.type "set",dict:=none,data:=.set es.toArray ep (tb b (es.map m8)) }
section
variable {prog:J2}{w:Kd}{A:Kk}{X:Value->BY->Prop}{s:BY}{p k:Int}{es:List (Int×Value)}{b:Bool}{ep:Nat}{a:Addr}{t:Qe}
theorem Ent.len (E:Ent p es):es.length<=3:=by
 have:=pG _ E.ps
 rwa [DD]at this
theorem k9 (E:Ent p es):(tb b (es.map m8)).fits es.toArray.size=true:=by
 have:=E.len;unfold SetTable.fits SetTable.fill tb;simp only[IF,DD,beq_self_eq_true,PD,decide_eq_true_eq];change es.length+0<=7;omega
theorem vL (G:0<=k) (J:k<72):PN k=k:=by
 have:=Eo k.toNat (List.mem_range.mpr ae)
 rwa [Ma G]at this
theorem Ent.elems (E:Ent p es) (L:0<=p) (J:p<=69):ElemsOf (Ov prog w) es.toArray.toList:=by
 intro e G;let#[k,t,rfl,h1,h2]:=E.el e G;show#[#[k,Oq _ _ _ _,(vL ae ae).symm],rfl]
theorem Ent.add (E:Ent p es) (p0:0<=p) (p1:p<=69) (k0:p<=k) (k1:k<=p+2) (L:k∉es.map (·.1)) (x:Value) (hx:x=.int k t) :
  es.length<=2/\(k%8).toNat∉es.map m8/\Ent p (iQ es (SetTable.below (es.map m8).toArray (k%8).toNat) (k,x)):=by
 have pm:=oe es (SetTable.below (es.map m8).toArray (k%8).toNat) (k,x);have O:es.length<=2:=by
  have nd:(k::es.map (·.1)).Nodup:=List.nodup_cons.mpr #[L,E.nd];have:=List.Nodup.length_le_of_subset (l₂:=[p,p+1,p+2]) nd λy J=>by
   rcases List.mem_cons.mp J with rfl|J
   .simp only[Ku,Kb,or_false];omega
   .let#[e,G,rfl]:=List.mem_map.mp J;let#[N,t',rfl,h1,h2]:=E.el e G;simp only[Ku,Kb,or_false];omega
  simp only[Kf,DD,MB]at this;omega
 have Y:(k%8).toNat∉es.map m8:=λJ=>by
  let#[e,G,U]:=List.mem_map.mp J;let#[N,t',rfl,h1,h2]:=E.el e G;have ne:N≠k:=λz=>L (List.mem_map.mpr #[_,G,z]);have U:(N%8).toNat=(k%8).toNat:=U;omega
 show#[O,Y,λe G=>?_,3]
 .rcases List.mem_cons.mp (pm.mem_iff.mp G)with rfl|G
  .show#[k,t,by rw[hx],k0,k1]
  .show E.el e G
 .show((pm.map (·.1)).nodup_iff).mpr (List.nodup_cons.mpr #[L,E.nd])
 .rw[sH];show AU _ E.ps (by rw[DD];show O) _ (List.mem_range.mpr ae) Y
theorem Iy {Q:Bool->BY->Prop}(E:Ent p es) (Y:0<=p) (O:p<=69) (k0:p<=k) (k1:k<=p+2) (J:s.heap.get? a=some (so b es ep))
  (h:∀h' ab ac r,Ent p ab->h'.get? a=some (so b ab ac)->Heap.SameBut a s.heap h'->Q r { s with heap:=h' }) :
  wpAny (model prog w) A (setAddHashed a (.int k t) (PN k)) Q X s:=by
 have fi:=k9 (b:=b) E;have U:=E.elems (prog:=prog) (w:=w) Y O;have ln:=E.len;have hs:es.toArray.size<scanBound:=(by rw[IF];unfold scanBound;omega);unfold setAddHashed setAddHashedIn;show K5 (By (Mv J rfl fi ?_));dsimp only;rw[byScan_of (knd:=Ov prog w) (x:=.int k t) rfl hs U];simp only[↓reduceIte];unfold setAddByScan;show By ?_;show By (LJ ?_);show By (wpAny_setScan_of (knd:=Ov prog w) (k:=k) (Oq _ _ _ _) J rfl fi U ?_);cases hr:List.findIdx? (λe=>(Ov prog w).is k e.2) es.toArray.toList with
 |some j =>
  dsimp only;show DO (DO ?_);have e:s={ s with heap:=s.heap }:=(by cases s;rfl);rw[e];show h s.heap es ep _ E J (Heap.SameBut.refl a s.heap)
 |none =>
  dsimp only;have hn:k∉es.map (·.1):=λhk=>by
   let#[e,N,e1]:=List.mem_map.mp hk;let#[k',t',rfl,h1,h2]:=E.el e N;have:=List.findIdx?_eq_none_iff.mp hr _ N;rw[show k'=k from e1]at this;rw[Oq]at this;cases this
  let#[hl,hm,L]:=E.add (t:=t) Y O k0 k1 hn (.int k t) rfl;rw[vL ae ae,BW (b:=b) (x:=.int k t) E.ps hl ae ae hm];dsimp only;show By (DO ?_);generalize am:iQ es (SetTable.below (es.map m8).toArray (k%8).toNat) (k,Value.int k t)=G at L ⊢;show By (m:=hashByValue 8 (.int k t)) (DO ?_);simp only[↓reduceIte];have l1:=L.len;show By (wpAny_storeSet_of J rfl ?_ (by rw[IF,J5];omega));have hg:(s.heap.update a (Obj.putSet G.toArray (tb b (G.map m8)))).get? a=some (so b G (ep+1)):=by
   have:=Heap.get?_update_self (Obj.putSet G.toArray (tb b (G.map m8))) J (by rfl);show this
  have tf:(tb b (G.map m8)).tooFull=false:=by
   unfold SetTable.tooFull SetTable.fill tb;simp only[IF,DD];show decide_eq_false (by change ¬ (G.length+0)*5>=7*3;omega)
  rw[tf];simp only[Bool.not_false,Mp,KQ, ↓reduceIte];show DO (DO (h _ G (ep+1) _ L hg (Heap.SameBut.update s.heap a _)))
end
section
variable {prog:J2}{w:Kd}{A:Kk}{R:PR->BY->Prop}{I l S:Addr}{items:Array Value}{p:Int}{b:Bool}
theorem zd (hh:A.handled=none) (li:l≠I) (sl:S≠l) (si:S≠I) (hi:∀(i:Nat) (v:Value),items[i]?=some v->∃k t,v=.int k t/\p<=k/\k<=p+2) (p0:0<=p) (p1:p<=69) :
  ∀(n i:Nat) (s:BY) (es:List (Int×Value)) (ep:Nat),items.size-i=n->i<=items.size->s.heap.IsListIter I l i->s.heap.IsList l items->Ent p es->s.heap.get? S=some (so b es ep) ->
   (∀(h':Heap) (tk:Nat) (J:List (Int×Value)) (U:Nat),Ent p J->h'.get? S=some (so b J U)->(∀c o,c≠S->c≠I->s.heap.get? c=some o->h'.get? c=some o)->R (.ok (.ret .none)) { s with heap:=h',toks:=tk }) ->
   Mm (model prog w) A (.builtin "set.update.loop" #[[.ref S,.ref I],[]]) R s:=by
 have W:=Pw (prog:=prog) (w:=w) (A:=A.in1) hh I l li items;intro n
 induction n with
 |zero =>
  intro i s es ep e1 am I1 N L O k;obtain rfl:i=items.size:=ae;show MO F.entry_set_update_loop ?_;rw[ML F.plain_set_update_loop _];show By (W.done s _ _ #[I1,N] λh' tk G=>?_);show DO (k h' tk es ep L (G S _ (by simpa using si) O) λc o _ z q=>G c o (by simpa using z) q)
 |succ n ih =>
  intro i s es ep e1 am I1 N L O k;show MO F.entry_set_update_loop ?_;rw[ML F.plain_set_update_loop _];show By (W.item i s _ _ ae #[I1,N] λv h' tk pv st G=>?_);let#[m,t,rfl,h1,h2]:=hi i v pv;have S2:=G S _ (by simpa using si) O;change wpAny _ A.in1 (MQ [Value.int m t] (setAdd S (.int m t))>>=_) _ _ _;show By (K5 ?_);unfold setAdd;show K5 (By ((Ov prog w).pyHash (k:=m) (Oq _ _ _ _) ?_));show Iy (b:=b) (es:=es) (ep:=ep) L p0 p1 h1 h2 S2 λh2 J U r E2 S3 Y=>?_;show DO #[Ny F.plain_set_update_loop _,ih (i+1) _ J U ae ae ?_ ?_ E2 S3 λh3 ap ab ac E3 S4 k3=>?_]
  .show st.1.at λo e=>by rw[Y.2 I (λz=>si z.symm)];show e
  .show st.2.at λo e=>by rw[Y.2 l (λz=>sl z.symm)];show e
  .show k h3 ap ab ac E3 S4 λc o z1 z2 q=>k3 c o z1 z2 (by rw[Y.2 c z1];show G c o (by simpa using z2) q)
end
noncomputable def led (w:Kd):Bool := !w.params.followText "set-order"
section
variable {prog:J2}{w:Kd}{A:Kk}{E:Value->BY->Prop}{s:BY}{Q:Value->BY->Prop}
theorem Cn (a:Value) (h:Q (.ref s.heap.objs.size) { s with heap:=s.heap.push (so (led w) [] 0) }) :
  Mm (model prog w) A (.call (.builtin "set.__new__") #[[.type "set",a],[]]) (wants Q E) s:=by
 show codeAny_of_tree ?_;show By (m:=checkBuiltinCall "set.__new__" _) (wpAny_of_eq (F.newCall_set_1 a) (DO #[Ny F.plain_set_new _,MO F.entry_set_new ?_]));rw[ML F.plain_set_new _];unfold Builtin.«set.__new__» Builtin.Frozenset.newClass newSet Ot;have G:=sub_set_self;let#[J,g,d,tk,os]:=s;dsimp only
 wp_walk
 show LZ (DO ?_);dsimp only;simp only[newObj];show By (wpAny_alloc (DO (DO h)))
end
section
variable {prog:J2}{w:Kd}{A:Kk}{E:Value->BY->Prop}{s:BY}{Q:Value->BY->Prop}
theorem IX {p:Int}:Ent p []:=#[λ_ h=>(by cases h),Lz,ao]
theorem zK {l:Addr}{items:Array Value}{p:Int}(hh:A.handled=none) (Y:s.heap.IsList l items) (hi:∀(i:Nat) (v:Value),items[i]?=some v->∃k t,v=.int k t/\p<=k/\k<=p+2) (p0:0<=p) (p1:p<=69)
  (h:∀(h':Heap) (tk:Nat) (es:List (Int×Value)) (ep:Nat),Ent p es->h'.get? s.heap.objs.size=some (so (led w) es ep)->(∀b o,s.heap.get? b=some o->h'.get? b=some o)->Q (.ref s.heap.objs.size) { s with heap:=h',toks:=tk }) :
  wpAny (model prog w) A (call (.type "set") [.ref l]) Q E s:=by
 let#[c,tl,as]:=F.called_set.mro;have made:=F.called_set.made;have su:=F.called_set.sub;show Ol (codeAny_of_tree ?_);change wpAny _ _ (callAny (.type "set") _) _ _ _;show DO #[Code.quiet_builtin _ ao,MO F.entry_type_call ?_];rw[Around.under_plain (weight_type_call_type "set" [.ref l] []) rfl];have n1:=F.called_set.notType;have n2:=F.called_set.canCreate;have n3:=F.typeCall_set_1 (.ref l)
 repeat (any_goals (first|assumption|wp_step))
 show Mo (Cn (.ref l) (E:=E) (Q:=λv s1=>v=.ref s.heap.objs.size/\s1={ s with heap:=s.heap.push (so (led w) [] 0) }) #[1]) λr s1 G=>?_;cases r with
 |error e=>show G
 |ok O =>
  cases O with
  |ret obj =>
   let#[rfl,rfl]:=G;have ab:(s.heap.push (so (led w) [] 0)).get? s.heap.objs.size=some (so (led w) [] 0):=Heap.get?_push_size _ rfl;have ty:Shared.TypeIs { s with heap:=s.heap.push (so (led w) [] 0) } (.ref s.heap.objs.size) "set" := #[_,ab,rfl];have n4:=F.called_set.init.lookup;have n5:=F.called_set.init.bind (.ref s.heap.objs.size)
   repeat (any_goals (first|assumption|wp_step))
   show Mo (N2 (R:=wants (λr s2=>r=.none/\∃h' tk es ep,s2={ s with heap:=h',toks:=tk }/\Ent p es/\h'.get? s.heap.objs.size=some (so (led w) es ep)/\∀b o,s.heap.get? b=some o->h'.get? b=some o) E) F.called_set.init.plain F.entry_set_init (check_set_init_1 ty ?_)) λr s2 G=>?_
   .have lt:l<s.heap.objs.size:=let ⟨_,e,_⟩:=Y;Heap.lt_size e;have J:(s.heap.push (so (led w) [] 0)).IsList l items:=Y.push _;let#[ol,ac,hc,nl,hd]:=J;let#[oc,od,aB,ap]:=ol;simp only at hc hd;subst hc;subst hd;have n6:=F.sub_list_set;have n7:=F.sub_list_frozenset;have n8:(Value.type "list" == Value.type "dict")=false:=ar;have J:(s.heap.push (so (led w) [] 0)).IsList l items:=#[_,ac,rfl,nl,rfl];have fi:(tb (led w) (([]:List (Int×Value)).map m8)).fits 0=true:=rfl;unfold Builtin.«set.__init__» noKeywords Builtin.Frozenset.updateFrom;generalize am:Pa=PI
    wp_walk
    subst am;show Ml J (By (wpAny_runValue ?_));have li:l≠(s.heap.push (so (led w) [] 0)).objs.size:=(by rw[Heap.size_push];show Km (LS lt));have si:s.heap.objs.size≠(s.heap.push (so (led w) [] 0)).objs.size:=(by rw[Heap.size_push];show Km (MU _));show zd (p:=p) (b:=led w) (l:=l) (I:=(s.heap.push (so (led w) [] 0)).objs.size) (by simpa using hh) li (λz=>Km lt z.symm) si hi p0 p1 (items.size-0) 0 _ [] 0 rfl (Kl _) #[_,Heap.get?_push_size _ rfl,1] (J.push _) IX (Heap.get?_push_of_some _ ab) λh' tk es ep N U L=>?_;show DO (DO #[rfl,h',tk,es,ep,rfl,N,U,λb o e=>?_]);have lb:=Heap.lt_size e;show L b o (Km lb) (by rw[Heap.size_push];show Km (LS lb)) (Heap.get?_push_of_some _ (Heap.get?_push_of_some _ e))
   .cases r with
    |error e=>show G
    |ok O =>
     cases O with
     |ret v =>
      let#[rfl,h',tk,es,ep,rfl,N,U,L]:=G
      repeat (any_goals (first|assumption|wp_step))
      show h h' tk es ep N U L
     |_=>show G.elim
  |_=>show G.elim
end
open PySem.F
theorem jM:Slot "set_iterator" "__next__" "set_iterator.__next__" :=
 .of (owner := "set_iterator") (n := "__next__") (by rw[typeLookup_type,NU];kernel_rfl) ao ao ao (by first|show .inl ao|show .inr ao) (by rw[N5];kernel_rfl)
theorem sY:Slot "set_iterator" "__iter__" "set_iterator.__iter__" :=
 .of (owner := "set_iterator") (n := "__iter__") (by rw[typeLookup_type,NU];kernel_rfl) ao ao ao (by first|show .inl ao|show .inr ao) (by rw[N5];kernel_rfl)
theorem BO:Px table "set_iterator.__next__" = some Builtin.«set_iterator.__next__» := entryFor_of_tree (by kernel_rfl)
theorem BF:Px table "set_iterator.__iter__" = some Builtin.«dict_keyiterator.__iter__» := N3 (id' := "dict_keyiterator.__iter__") (by kernel_rfl) rfl ao (by kernel_rfl)
theorem yP:Px table "set.__iter__" = some Builtin.«frozenset.__iter__» := N3 (id' := "frozenset.__iter__") (by kernel_rfl) rfl ao (by kernel_rfl)
theorem zM:Manifest.owners.lookup (String.ofList ['r', 'o', 't', 'a', 'r', 'e', 't', 'i', '_', 't', 'e', 's'].reverse)=some Manifest.sig_set_iterator:=by kernel_rfl
theorem AV (a:Value):PX "set_iterator.__next__" #[[a],[]]:=by
 unfold PX;rw[signature?_of (id := "set_iterator.__next__") (n:=['_', '_', 't', 'x', 'e', 'n', '_', '_']) (o:=['r', 'o', 't', 'a', 'r', 'e', 't', 'i', '_', 't', 'e', 's']) (by kernel_rfl) zM];kernel_rfl
theorem Bw (a:Value):PX "set_iterator.__iter__" #[[a],[]]:=by
 unfold PX;rw[signature?_of (id := "set_iterator.__iter__") (n:=['_', '_', 'r', 'e', 't', 'i', '_', '_']) (o:=['r', 'o', 't', 'a', 'r', 'e', 't', 'i', '_', 't', 'e', 's']) (by kernel_rfl) zM];kernel_rfl
noncomputable def ord (w:Kd) (a:Addr) (ep:Nat) (es:List (Int×Value)):List (Int×Value):=
 if led w then es else(pickOrder (w.params.setOrder a ep) es.toArray).toList
theorem wt {α:Type}(f:Nat->Nat):∀(n k:Nat) (l:List α) (out:Array α),l.length=n->(OJ f n k l out).toList.Perm (out.toList++l)
 |0,k,l,out,h=>by
  cases List.eq_nil_of_length_eq_zero h;unfold OJ;rw[Oj]
 |n+1,k,l,out,h=>by
  have lt:f k%l.length<l.length:=Nat.mod_lt _ ae;unfold OJ;rw[J4 lt];dsimp only;show(wt f n (k+1) _ _ (by rw[List.length_eraseIdx_of_lt lt];omega)).trans ?_;rw[MJ,Kr];show List.Perm.append_left _ ?_;have e:=List.eraseIdx_eq_take_drop_succ l (f k%l.length);rw[e];change(l[f k%l.length]::(List.take (f k%l.length) l++List.drop (f k%l.length+1) l)).Perm l;show(List.perm_middle.symm).trans ?_;rw[<-Lu lt,K0]
theorem jU (w:Kd) (a:Addr) (ep:Nat) (es:List (Int×Value)):(ord w a ep es).Perm es:=by
 unfold ord;split
 .show .refl _
 .show wt _ _ 0 es ([].toArray) rfl
noncomputable def CD (w:Kd) (es:List (Int×Value)) (i:Nat):Nat:=if led w then slotAt (es.map m8) i else 0
noncomputable def Dz (w:Kd) (a:Addr) (es:List (Int×Value)) (ep i:Nat):Obj:={ cls:=.type "set_iterator",data:=.fields ([.int (CD w es i) 0,.int i 0,.ref a,.int es.length 0,.int ep 0].toArray) }
section
variable {prog:J2}{w:Kd}{A:Kk}{E:Value->BY->Prop}{s:BY}{a I:Addr}{p:Int}{es:List (Int×Value)}{ep i:Nat}
theorem zY {Q:Value->BY->Prop}(Z:Ent p es) (G:s.heap.get? a=some (so (led w) es ep)) (h:Q (.ref s.heap.objs.size) { s with heap:=s.heap.push (Dz w a es ep 0) }) :
  wpAny (model prog w) A (Pa (.ref a)) Q E s:=by
 have L:s.TypeIs (.ref a) "set" := #[_,G,rfl];have J:=k9 (b:=led w) Z;show Nu L F.slot_set_iter (Lq F.slot_set_iter L yP ?_ (F.args_set_iter_1 _));unfold Builtin.«frozenset.__iter__» Builtin.Frozenset.slot0 slotArgs;simp only[List.isEmpty_nil,PF,KQ, ↓reduceIte,bind_assoc,MB,bne_self_eq_false];show By (DO ?_);unfold Builtin.Frozenset.addrOf Builtin.Frozenset.sizeOf setDrawn Ot;show By (DO ?_);show By (By (Oa G rfl J (DO ?_)));show By (By (Mv G rfl J (By (By (LZ (DO (DO ?_)))))));show Ly (λO=>absurd ((Mp _).symm.trans O) ar) (λ_=>?_);show By (DO (By (wpAny_setEpoch_of G rfl J ?_)));unfold newFields;show By (K4 (DO #[0,"set_iterator",_,#[_,Heap.get?_push_size _ rfl,rfl],jM.lookup,?_]) (by size_fits));have e:CD w es 0=0:=(by unfold CD slotAt;split<;>rfl);have N:Dz w a es ep 0={ cls:=Value.type "set_iterator",data:=MF ([OM 0,OM 0,Value.ref a,OM ↑es.toArray.size,OM ↑ep].toArray) }:=by
  unfold Dz;rw[e,IF];rfl
 rw[<-N];show h
theorem Jk (Z:Ent p es) (L:s.heap.get? a=some (so (led w) es ep)) (hi:i<=es.length):wpAny (model prog w) A (setNext a (CD w es i) i ep) (λr s'=>s'=s/\r=((ord w a ep es)[i]?).map λe=>(e.2,CD w es (i+1))) E s:=by
 have J:=k9 (b:=led w) Z;unfold setNext Ot;show By (Mv L rfl J (By (By (LZ (DO ?_)))));show Ly (λc=>?_) (λc=>?_)
 .have G:led w=false:=(by unfold led;rw[show w.params.followText "set-order" = true from c];rfl);rw[Qh (by simp)];unfold setWalk Ot;show By (By (Mv L rfl J (By (By (LZ (DO ?_))))));show Ly (λ_=>?_) (λz=>absurd c z);show By (LZ (DO (DO #[4])));unfold ord CD;rw[G, <-Lj];rfl
 .have G:led w=true:=by
   unfold led;cases q:w.params.followText "set-order" with
   |true=>show absurd q c
   |false=>rfl
  show Ly (λN=>absurd (show false=true from N) ar) (λ_=>?_);rw[G];show By (DO (DO #[4]));have U:=Z.len;have O:=wV _ Z.ps i (List.mem_range.mpr ae) (by rw[DD];show hi);unfold ord CD;rw[G];change(match es.toArray[SetTable.below (es.map m8).toArray (slotAt (es.map m8) i)]?,(es.map m8).toArray[SetTable.below (es.map m8).toArray (slotAt (es.map m8) i)]? with|some (_,x),some j=>some (x,j+1)|_,_=>none)=((es[i]?).map λe=>(e.2,slotAt (es.map m8) (i+1)));rw[O,List.getElem?_toArray,List.getElem?_toArray,J3];cases q:es[i]? with
  |none=>rfl
  |some e =>
   change some (e.2,m8 e+1)=some (e.2,slotAt (es.map m8) (i+1));unfold slotAt;rw[Qh (by simp),Nat.add_sub_cancel,Kw,J3,q];rfl
theorem Jz {Q:Option Value->BY->Prop}(hh:A.handled=none) (Z:Ent p es) (G:s.heap.get? I=some (Dz w a es ep i)) (J:s.heap.get? a=some (so (led w) es ep)) (hi:i<=es.length)
  (h1:∀e h',(ord w a ep es)[i]?=some e->h'.get? I=some (Dz w a es ep (i+1))->Heap.SameBut I s.heap h'->Q (some e.2) { s with heap:=h' })
  (h2:∀h',(ord w a ep es)[i]?=none->Heap.ExtBut I s.heap h'->Q none { s with heap:=h' }):wpAny (model prog w) A (pyNext (.ref I)) Q E s:=by
 have L:s.TypeIs (.ref I) "set_iterator" := #[_,G,rfl];have N:=k9 (b:=led w) Z;unfold pyNext;show By (wpAny_attempt (Mg (name:=Str.ofString "__next__") L jM (Lq jM L BO ?_ (AV _))));unfold Builtin.«set_iterator.__next__» slotArgs;simp only[List.isEmpty_nil,PF,KQ, ↓reduceIte,bind_assoc,MB,bne_self_eq_false];show By (DO ?_);show By (wpAny_fieldsOf G rfl ?_);change wpAny _ _ (setEntries a>>=_) _ _ _;show By (Oa J rfl N ?_);rw[IF];show Ly (λO=>absurd O (by simp)) (λ_=>?_);change wpAny _ _ (setNext a _ _ _>>=_) _ _ _;rw[K6,K6,K6];show By (LU (Jk Z J hi) (λr s' hr=>?_) λ_ _ h=>h);let#[rfl,rfl]:=hr;cases q:(ord w a ep es)[i]? with
 |some e =>
  change wpAny _ _ (setField (.ref I) 0 (OM (CD w es (i+1)))>>=_) _ _ _;show By (Ou G (by change 0<5;decide) λh3 e3 Y=>?_);change wpAny _ _ (setField (.ref I) 1 (OM ((i:Int)+1))>>=_) _ _ _;show By (Ou e3 (by change 1<5;decide) λU e4 k4=>?_);show DO #[0,DO (h1 e U q e4 (Y.trans k4))]
 |none =>
  change wpAny _ _ (setField (.ref I) 2 .none>>=_) _ _ _;show By (wpAny_setField G rfl (by simp[Dz]) ?_);change wpAny _ _ (newExc (.type "StopIteration") []>>=_) _ _ _;show By ?_;simp only[newExc,newTuple];show By (K4 ?_ (by size_fits));show By (m:=firstArgMember _ _) (wpAny_of_eq (a:=Value.none) (by first|rfl|(simp only[firstArgMember];rfl)) ?_);show K4 ?_ (by size_fits);simp only[raiseNew];show By (wpAny_handled ?_);rw[show A.in1.handled=none from hh];show By (DO (wpAny_throw ?_));show By (OP (T := "StopIteration") (b:=true) #[_,Heap.get?_push_size _ rfl,rfl] isSubtype_stop ?_);show DO (h2 _ q (((Heap.SameBut.update ..).extBut.push _).push _))
theorem Fb (G:s.TypeIs (.ref a) "set") {Q:Bool->BY->Prop}(h:Q false s):wpAny (model prog w) A (Builtin.List.listLengthHint (.ref a)) Q E s:=by
 unfold Builtin.List.listLengthHint;show By (wpAny_specialOf G PySem.F.slot_set_len.lookup ?_);generalize L:("set.__len__" : String)=N
 wp_delta
 rw[show splitId N=some ("set","__len__")from by subst L;decide +kernel];subst L;show By (OP (T := "set") (b:=true) G (by rw[N5];kernel_rfl) ?_);show Ly (λJ=>absurd J ar) (λ_=>?_);show Ly (λ_=>?_) (λJ=>absurd ao J);show By (MW G ?_);show DO h
theorem Bd (Z:Ent p es):KdlSrc prog w "set" a a es.length (λi v=>((ord w a ep es)[i]?).map (·.2)=some v) (λh=>h.get? a=some (so (led w) es ep)) where
 type:=λ_ h=>#[_,h,rfl]
 there:=λ_ h=>#[Heap.lt_size h,Heap.lt_size h]
 keep:=λ_ _ h k=>k a (.inl rfl) _ h
 notList:=ar
 notTuple:=ar
 hint:=λ_ _ _ _ h q=>Fb #[_,h,rfl] q
 iter:=λA s Y h=>by
  have ne:a≠s.heap.objs.size:=Km (Heap.lt_size h);have ol:=(jU w a ep es).length_eq;show#[_,λi h=>h.get? s.heap.objs.size=some (Dz w a es ep i)/\h.get? a=some (so (led w) es ep),λ_ _ q=>zY Z h q,?_,Heap.get?_push_size _ rfl,Heap.get?_push_of_some _ h];show#[λb G=>by simp at G;simp[G],λi h1 h2 st k=>#[k _ (by simp) _ st.1,k _ (by simp) _ st.2],λi J Q E hi st N=>?_,λJ Q E st N=>?_,λi J Q E st N=>?_]
  .show Jz Y Z st.1 st.2 (Ow hi) (λe h' q U L=>N _ h' J.toks (by rw[q];rfl) #[U,by rw[L.2 a ne];show st.2] λb o G z=>by rw[L.2 b (λy=>G (by simp[y]))];show z) λh' q _=>?_;rw[J4 ae]at q;cases q
  .show Jz Y Z st.1 st.2 (J1 _) (λe h' q U L=>?_) λh' q L=>N h' J.toks λb o G z=>L b o (λy=>G (by simp[y])) z;rw[KO ae]at q;cases q
  .have O:J.TypeIs (.ref s.heap.objs.size) "set_iterator" := #[_,st.1,rfl];show Nu O sY (Lq sY O BF ?_ (Bw _));change wpAny _ _ (ret (.ref s.heap.objs.size)) _ _ J;show DO #[0,"set_iterator",_,O,jM.lookup,N]
end
end Srt
namespace L2
open PySem PySem.Spec PyProof.Rows
noncomputable def Hb (w:Kd) (a:Addr) (p:Int):HO:=.ext λh=>∃es ep,Srt.Ent p es/\h.get? a=some (Srt.so (Srt.led w) es ep)
theorem DL:Kq "set" = some (.type "set"):=by first|rfl|kernel_rfl|decide +kernel
section
variable {X:Cx}
theorem xT (hc:X.calm=true):di X (.type "set") (λxs H Q=>∃(l:Addr) (ns:List Int) (p:Int),xs=[.ref l]/\bB X.K H l (ns.map V.int)/\(∀k∈ns,p<=k/\k<=p+2)/\0<=p/\p<=69/\∀a,H a=none->Q (.ref a) (upd H a (Hb X.w a p))):=by
 intro pins s σ H xs us Q I r h;let#[l,ns,p,rfl,hp,ab,p0,p1,q]:=h;let#[u,rfl,N]:=vals1 r;cases N;let#[its,J,pl,hz]:=I.list hp;have hI:=intsAre_of J;show Srt.zK (p:=p) (I.ok.hd hc) pl.isList (λi v e=>?_) p0 p1 λh' tk es ep E1 L Y=>?_
 .have G:its[i]?=some v:=(by simpa using e);let#[t,rfl]:=hI.int_at i v G;have O:=J.length;rw[DD]at O;have lt:i<ns.length:=by
   have:=(List.getElem?_eq_some_iff.mp G).1;omega
  show#[_,t,4];rw[Kw,J4 lt];show ab _ (La lt)
 .show#[.ref s.heap.objs.size,_,I.laid (t':=tk) Y (J1 _) (show bR X.prog X.w _ _ _ (Hb X.w _ p)from#[#[es,ep,E1,L],#[_,L],λha hb z kk=>?_]),rfl,q _ (I.bG.fresh (J1 _))];let#[es,ep,U,e2]:=z;show#[es,ep,U,kk _ e2]
theorem qz (hc:X.calm=true):di X (.builtin "sorted") (λxs H Q=>∃(a:Addr) (p:Int),xs=[.ref a]/\H a=some (Hb X.w a p)/\∀(l:Addr) (ns:List Int),H l=none->ns.length<=3->Q (.ref l) (upd H l (.lst (ns.map V.int)))):=by
 intro pins s σ H xs us Q I r h;let#[a,p,rfl,ha,q]:=h;let#[u,rfl,N]:=vals1 r;cases N;let#[#[es,ep,G,a1],_]:=(show bR X.prog X.w H s.heap a (Hb X.w a p)from I.bG a _ ha);have Y:=(Srt.jU X.w a ep es).length_eq;have hs:sizeLine=16777216:=J5;have ln:=G.len;show Srt.lO (Srt.Bd (prog:=X.prog) (w:=X.w) (ep:=ep) G) (I.ok.hd hc) a1 (ns:=(Srt.ord X.w a ep es).map (·.1)) (λi v J=>?_) (by rw[DD];show Y) ?_ ae λh1 h' tk out ns' e O k2 U b1 b2 b3=>?_
 .rw[J3];cases z:(Srt.ord X.w a ep es)[i]? with
  |none=>rw[z]at J;cases J
  |some e =>
   rw[z]at J;let#[k,t,rfl,_]:=G.el e ((Srt.jU X.w a ep es).mem_iff.mp (J7 z));cases J;show#[k,t,1]
 .show(((Srt.jU X.w a ep es).map (·.1)).nodup_iff).mpr G.nd
 .have L:Inv X pins σ H { s with heap:=h1,toks:=tk }:=I.kept O;have l3:ns'.length<=3:=(by rw[b2.length_eq,DD];omega);show#[.ref h1.objs.size,_,L.laid (t':=tk) k2 (J1 _) (show bR X.prog X.w _ _ _ (.lst (ns'.map V.int))from#[by rw[DD];omega,out.toList,e,gi b1,by simpa using U]),rfl,q _ ns' (L.bG.fresh (J1 _)) l3]
end
end L2
namespace Lw
open PySem L2 St
noncomputable abbrev Dw:Ky:=top 51
noncomputable def vP (K:PySem.W.Frag):Sp:=λvs H Q _=>∃(a:Addr) (ns:List Int),vs=[.ref a]/\bB K H a (ns.map V.int)/\ns.length<=63/\∀H',Q (.bl true) H'
theorem HV (D:Dd):yE (wo D) 0=some (.str (sN D)):=by cases D<;>rfl
theorem Bh {D:Dd}(h:sN D = "peek"):∃t ad n,D=.peek t ad n:=by
 cases D<;>first|show#[2,0]|show absurd h (by dsimp only[sN];decide +kernel)
theorem BK {D:Dd}(h:sN D = "poke"):∃t ad G cs,D=.poke t ad G cs:=by
 cases D<;>first|show#[2,_,0]|show absurd h (by dsimp only[sN];decide +kernel)
theorem BQ {D:Dd}(h:sN D = "copy"):∃t o,D=.copy t o:=by
 cases D<;>first|show absurd h (by dsimp only[sN];decide +kernel)|show#[_,0]
section
variable {P:J2}{w:Kd}{K:PySem.W.Frag}{mg:Str->Option Value}{base:Heap}
theorem gn:aC ["_law_script","_law_m","_law_kept","_law_model_here","_law_low","_law_tasks","_law_k","_law_deed","_law_due_here","_law_found","_law_pages"] ["_law_script"] (aw Dw):=L2.bD
theorem ES {f:Addr}{fd:J0}{c:CA}(F:cQ K "law" "law" Dw f fd) (T:mH mg) (dV:mg "set" = none) (dl:Df P w K mg base aW 2 "_law_number" (mz K)) (ea:Df P w K mg base aW 7 "_law_begun" (qJ c)) (d9:Df P w K mg base aW 2 "_law_busy" vp) (dT:Df P w K mg base aW 2 "_law_due" zq) (ef:Df P w K mg base aW 1 "_law_done" qf) (dO:Df P w K mg base aW 11 "_law_called" (lY c)) (dz:Df P w K mg base aW 2 "_law_numbers" gk) (dM:Df P w K mg base aW 11 "_law_same" (tM c)) (d1:Df P w K mg base aW 11 "_law_all_right" (uX c)) :
  bh P w K mg base aW 12 f fd ["_law_script"] (vP K):=by
 show F.ok gn (λvs H Q E h=>?_) (λen A outer s H vs Q E Y h=>?_)
 .let#[a,ns,rfl,_]:=h;rfl
 .let#[sc,ns,rfl,bY,ek,k]:=h;have hs:sizeLine=16777216:=J5;show#[_,(ag (aK (i:=1) gn.nd rfl (J6 rfl) (pc dl Y ay (aa (pv 0) (aa ak ai))))
   (ag (cV (pc ea Y ay (aa (pv 1) ai)) (dH rfl (bp (aY (i:=2) gn.nd rfl (J6 rfl)) (bp (aY (i:=3) gn.nd rfl (J6 rfl)) cZ))))
   (ag (aK (i:=4) gn.nd rfl (J6 rfl) (a8 cG (cn (aa ak (aa (aA pJ (Ho EW ak) (aA bJ (aA bH (pv 1) ak) (aA tE ak ak))) ai))) (aA bJ (aA bH (pv 1) ak) ak) (λ_ _=>rfl)))
   (ag (aK (i:=5) gn.nd rfl (J6 rfl) (cn (aa ak (aa ak (aa (aA bu (aA bJ (aA bH (pv 1) ak) (aA tE ak ak)) ak) (aa (pv 4) (aa ak ai)))))))
   (ag (cN Kh rfl (fh (by rfl) T.range (aa ak (aa (aN (nV rfl) (by rfl) T.max Ax (aa ak (aa (aN bF (by rfl) T.len boot_len (aa (de gz (pv 0) fE (cX ak)) ai)) ai))) ai))) (aY (i:=6) gn.nd rfl (J6 rfl)) (ag (aK (i:=7) gn.nd rfl (N0 rfl) (pc d9 Y ay (aa (pc dl Y ay (aa (pv 0) (aa (pv 6) ai))) (aa (pv 3) (aa (pv 5) ai)))))
   (ag (aS (aE CU (pc dT Y ay (aa (pv 3) (aa (pv 7) ai))) aI (aJ _)) (aj sJ) aG)
   (ag (aK (i:=8) gn.nd rfl (J6 rfl) (pc ef Y ay (aa (pv 3) (aa (pv 7) ai))))
   (ag (aK (i:=9) gn.nd rfl (J6 rfl) (pc dO Y ay (aa (pv 2) (aa (pv 7) ai))))
   (ag (aS (PW.pt (mK (aE bU (a8 a9 (pv 7) ak (λ_ _=>rfl)) aI (aJ _)) (jP (lU (eM (pc dz Y ay (aa (pv 9) (aa (pv 8) ai)))))))) (aj (aF kR)) aG)
   (ag (aK (i:=10) gn.nd rfl (J6 rfl) (cn ai))
   (ag (aS (aE bU (a8 a9 (pv 7) ak (λ_ _=>rfl)) aI (aJ _)) (aj (aK (i:=10) gn.nd rfl (J6 rfl) (aN (qz rfl) (by rfl) T.sorted gq (aa (bS (xT rfl) (by rfl) dV DL (aa (fJ (cl:=[("_law_deed",s.heap.objs.size+1)]) (caps:=[("_law_deed",7)]) #[rfl,ao,ao,rfl,by kernel_rfl,by intro p hp;simp only[Ku,Kb,or_false]at hp;rcases hp with rfl<;>first|rfl|show#[rfl,.inl rfl,.inl rfl]|show#[rfl,.inl rfl,.inr rfl],by kernel_rfl,by intro p hp;simp only[Ku,Kb,or_false]at hp;rcases hp with rfl<;>first|rfl|show#[rfl,.inl rfl,.inl rfl]|show#[rfl,.inl rfl,.inr rfl],ao] rfl (nQ (by rfl) T.range (aa (aN bF (by rfl) T.len boot_len (aa (a8 a9 (pv 7) ak (λ_ _=>rfl)) ai)) ai)) (λ_ _ _ _=>eY) (λ_ _ _ _=>(aA bH (aA bu (a8 (show Hm _ (Dc K)from a9) (pv 1) ak (λ_ _=>rfl)) (pv 0)) ak))) ai)) ai)))) aG)
   (ag (aS (aE bU (a8 a9 (pv 7) ak (λ_ _=>rfl)) aI (aJ _)) (aj (aK (i:=10) gn.nd rfl (J6 rfl) (aN (gw rfl) (by rfl) T.sorted gq (aa (bj (aZ Y) (bj (aZ Y) (pv 3) aI (λ_ _=>rfl)) (a8 a9 (pv 7) ak (λ_ _=>rfl)) (λ_ _=>rfl)) ai)))) aG)
   (aj (aS (lU (eM (pc dM Y ay (aa (pv 2) (aa (pv 3) (aa (pv 10) ai)))))) (aj (aF kR)) aG)))))))))))
   (aj (aF (pc d1 Y ay (aa (pv 2) (aa (pv 3) ai)))))))))),?_]
  show gx λ_ L=>?_;show#[0,sc,ns,(0),rfl,bY,ae,ae,λJ H1 s1=>L _ _ ?_];clear L;show#[0,J,rfl,λH3 t3 M a m sS cv pk W Z s3 S3 C3 dj h3=>#[t3,0,cg.of h3,5,0,_,0,4]];have fr:∀b,M b->H b=none:=λb z=>s1.free (dj b z);have da:=s1.trans s3;clear dj h3 s1 s3
  try dsimp only
  show gx λ_ L=>?_;have w0:=Ll (J/20000) (show(2:Int)≠0 by decide);have w1:=K8 (J/20000) (show(0:Int)<2 by decide);let#[b1,_]:=at_of (xs:=[0, -1-J/20000%10^NJ 59]) (i:=J/20000%2) (n:=2) w0 w1 rfl;generalize el:([0, -1-J/20000%10^NJ 59]:List Int).getD (J/20000%2).toNat 0=lo at b1;show#[0,0,_,0,rfl,#[ar,ar],_,0,rfl,#[ar,ar,ar],_,0,rfl,(by change(0:Int)<10^NJ 59;decide),_,0,rfl,by change 2<=sizeLine;decide,λl0 as=>#[0,_,0,rfl,#[ar,ar],_,0,rfl,(by change(0:Int)<2;decide),l0,2,.int lo,1,bB.of af,b1,L _ _ ?_]];clear L;have s4:=Tb.au (X:=.lst ([0, -1-J/20000%10^NJ 59].map V.int)) as;show gx λ_ L=>?_;show#[0,_,0,rfl,#[ar,ar],_,0,rfl,#[ar,ar,ar],_,0,rfl,(by change(0:Int)<10^NJ 59;decide),_,0,rfl,0,by change 5<=sizeLine;decide,λtl bI=>L _ _ ?_];clear L;have s5:=Tb.au (X:=.lst ([1,2,J/20000%10^NJ 59+3,lo,12].map V.int)) bI;generalize cx:([1,2,J/20000%10^NJ 59+3,lo,12]:List Int)=ts at s5;have l5:ts.length=5:=(by rw[<-cx];rfl);have c1:¬ M tl:=λz=>S3.R.mt tl z (s4.free bI);have L5:Lv c H a m (nX J) (qV J) tl (.lst (ts.map V.int)) 1 (upd (upd H3 l0 (.lst ([0, -1-J/20000%10^NJ 59].map V.int))) tl (.lst (ts.map V.int))) M sS cv pk W Z:=#[S3.same (s4.trans s5),C3.same (s4.trans s5),da.trans (s4.trans s5),fr,af,c1];subst cx;change m7 _ _ _ _ (upd (upd H3 l0 (.lst ([0, -1-J/20000%10^NJ 59].map V.int))) tl (.lst ([1,2,J/20000%10^NJ 59+3,lo,12].map V.int)));clear s4 s5;generalize ([1,2,J/20000%10^NJ 59+3,lo,12]:List Int)=ts at *;clear as bI S3 da c1 fr C3;generalize upd (upd H3 l0 (.lst ([0, -1-J/20000%10^NJ 59].map V.int))) tl (.lst (ts.map V.int))=H5 at *;have cq:=Rm.eB bY (L5.sm _);have ec:fA (ns.map V.int) none (some (63:Int))=(ns.take 63).map V.int:=Rm.ur (s:=63);show#[0,0,sc,0,cq,λp6 c3=>?_];have s6:=Tb.au (X:=.lst (fA (ns.map V.int) none (some (63:Int)))) c3;show#[p6,0,.inl (bB.of af),_,0,?_];rw[ec]at s6 ⊢;rw[DD,Kg];generalize eN:(if ((min 63 ns.length:Nat):Int)>6 then((min 63 ns.length:Nat):Int)else 6)=N;have hN:6<=N/\N<=63:=(by rw[<-eN];split<;>omega);show#[_,0,#[ar,ar,ae,ae],?_];show iy (lo:=1) (n:=(N-1).toNat) (λi σ H7=>∃(v6 v7 v8 v9 bc:Option V) (M:Addr->Prop) (sS:Pg.PS) (cv:Int->Int->List Int) (pk:Int) (W:dW) (Z:Zs),σ=[some (.ref sc),some (.int J),some (.ref a.rp),some (.ref m.md),some (.int lo),some (.ref tl),v6,v7,v8,v9,bc]/\Lv c H a m (nX J) (qV J) tl (.lst (ts.map V.int)) (i+1) H7 M sS cv pk W Z)
   #[2,2,_,M,sS,cv,pk,W,Z,rfl,L5.same s6] ?_ ?_
  .clear c3 s6 L5 cq ec M sS cv pk W Z;rintro i σ H7 hi ⟨v6,v7,v8,v9,bc,M,sS,cv,pk,W,Z,rfl,L7⟩;show gx λ_ L=>?_;show#[0,0,sc,ns,1+i,by rw[Int.natCast_add];rfl,Rm.eB bY (L7.sm _),ae,ae,λnh H8 s8=>?_];have L8:=L7.same s8;clear L7 s8;show#[0,0,nh,m,_,pk,Z,tl,ts,rfl,L8.S.D,L8.S.zn,by have:=L8.S.lz;omega,L8.ht,l5,λH9 d D s9 hd U ci cP=>L _ _ ?_];clear L;have L9:=L8.same s9;have a5:∀t ad G cs,D=.poke t ad G cs->¬ M G:=λt ad G cs e z=>L8.S.R.mt G z (ci t ad G cs e);clear L8 ci s9;show bX λQQ ji je=>?_;show#[0,0,m,_,pk,Z,d,D,rfl,L9.S.D,by have:=L9.S.lz;omega,hd,U,λr dL aB b7=>#[rfl,0,?_]];show tU (λcr=>ji _ #[2,2,_,M,sS,cv,pk,W,Z,rfl,(L9.same aB).up (MV _)]) (λcr=>je _ ?_);have fi:Bk Z (bN sS) D:=b7 (by
    cases q:decide (V.str r=V.str "")with
    |true=>show V.str.inj (of_decide_eq_true q)
    |false=>show absurd (by rw[q];rfl) cr)
   have O:=L9.same aB;have b2:kU dL d D:=#[aB _ _ hd.1,λt ad G cs e=>aB _ _ (hd.2 t ad G cs e)];clear L9 hd aB ji je b7 cr;show gx λ_ L=>?_;show#[0,0,m,_,pk,Z,d,D,rfl,O.S.D,O.S.p0,by have:=O.S.lz;omega,b2,fi,(λt ad G cs e=>?_),(λt ad n e=>?_),λeo df Z2 u8 b4 be a7 cT bG cm=>L _ _ ?_]
   .subst e;show#[λw=>a5 _ _ _ _ rfl (O.S.sp _ w).1,U.1,U.2.1,Ko U.2.2.2 ar]
   .subst e;show#[U.1,U.2.1,U.2.2.2]
   clear L;let#[b0,_]:=uK O.S.R O.S.D O.S.sp b4 a7;have a1:=O.EI b2 a5 a7;show gx λ_ L=>?_;show#[0,0,_,a,sS,W,cv,d,D,rfl,b0,O.S.ri,O.S.cv,by have:=O.S.lw;omega,a1,G8 O.S.tw O.S.R O.S.D U fi,λba a3 eb c4 dd u9 c5 b9 b3 a0 db b8 c8 ch=>L _ _ ?_];clear L;have c0:=O.Ig cP b4 be a7 cT bG cm c5 b9 b3 a0 db b8 c8 ch;have bb:kU ba d D:=#[a0.off _ _ a1.1 (jL b0 a1.1),λt ad G cs e=>a0.off _ _ (a1.2 t ad G cs e) λw=>a5 t ad G cs e (O.S.R.dr _ w)];have cS:∀t ad n,D=.peek t ad n->∃p q,∃xs:List Int,u9=.ref p/\u8=.ref q/\ba p=some (.lst (xs.map V.int))/\ba q=some (.lst (xs.map V.int))/\xs.length<=100:=λt ad n e=>by
    subst e;let#[q,e1,e2,e3]:=(be.2 cv O.C).2;let#[p,e4,e5,e6]:=b3.2.2;show#[p,q,_,e4,e1,e6,a0.off _ _ e3 λw=>O.S.R.mt q (O.S.R.dr _ w) e2,?_];unfold oa;rw[DD,KL];show U.2.2.2
   have d8:∀t o,D=.copy t o->∃z,Tb.look Z2 t=some z:=λt o e=>by
    subst e;let#[z,hz,_]:=fi;have:=bG t;unfold hZ at this;rw[hz]at this;cases q:Tb.look Z2 t with
    |some z=>show#[z,rfl]
    |none=>rw[q]at this;simp at this
   have c9:∀t ad G cs,D=.poke t ad G cs->0<=ad/\ad+cs.length<=512/\cs.length<=11:=λt ad G cs e=>by
    subst e;let#[z,hz,f1]:=fi;show#[U.1,f1.1,U.2.2.2]
   clear b4 be a7 cT bG cm b0 a1 c5 b9 b3 a0 db b8 c8 ch O b2 fi cP a5 U;show iU (λσ ap=>bf ba ap/\σ=[some (.ref sc),some (.int J),some (.ref a.rp),some (.ref m.md),some (.int lo),some (.ref tl),some (.int (1+(i:Int))),some (.ref d),some u8,some u9,bc]) (λ_ QQ ji je=>?A1) ?B1
   case A1 =>
    show#[0,d,2,.str (sN D),1,cg.of bb.1,HV D,rfl,0,?_];show iH (λcp=>?_) (λ_=>je _ #[bf.refl _,rfl]);let#[t,ad,n,rfl]:=Bh (V.str.inj (of_decide_eq_true cp));let#[p,q,xs,e1,e2,hp,hq,hx]:=cS _ _ _ rfl;subst e1 e2;show#[0,0,p,q,xs,rfl,hp,hq,hx,λap am=>#[true,rfl,je _ #[am,rfl]]]
   case B1 =>
   rintro σ ap ⟨am,rfl⟩;have bi:=c0.same am;have bm:kU ap d D:=#[am _ _ bb.1,λt ad G cs e=>am _ _ (bb.2 t ad G cs e)];clear c0 bb am cS;show gx λ_ L=>?_;show#[by change 0<=sizeLine;decide,λl0 as=>L _ _ ?_];clear L;have a6:=Tb.au (X:=.lst []) as;have bx:=bi.same a6;have ac:kU _ d D:=#[a6 _ _ bm.1,λt ad G cs e=>a6 _ _ (bm.2 t ad G cs e)];have ce:¬ a3 l0:=λz=>bi.S.R.mt l0 z as;have cC:upd ap l0 (.lst []) l0=some (.lst (([]:List Int).map V.int)):=af;clear bi bm as a6;generalize upd ap l0 (.lst [])=c2 at *;show iU (λσ aT=>∃(pa:Addr) (ps:List Int),σ=[some (.ref sc),some (.int J),some (.ref a.rp),some (.ref m.md),some (.int lo),some (.ref tl),some (.int (1+(i:Int))),some (.ref d),some u8,some u9,some (.ref pa)]/\bf c2 aT/\aT pa=some (.lst (ps.map V.int))/\¬ a3 pa) (λbn QQ ji je=>?A2) ?B2
   case A2 =>
    show#[0,d,2,.str (sN D),1,cg.of ac.1,HV D,rfl,0,?_];show tU (λcp=>ji _ ?_) (λ_=>je _ #[l0,[],rfl,bf.refl _,cC,ce]);let#[t,ad,G,cs,rfl]:=BK (V.str.inj (of_decide_eq_true cp));let#[g0,g1,g2]:=c9 _ _ _ _ rfl;have d3:=ac.2 _ _ _ _ rfl;show#[0,d,2,.ref G,1,cg.of ac.1,rfl,G,0,.inl (bB.of d3),?_];show#[0,by rw[DD];omega,by rw[DD];omega,?_];rw[DD,K6];show eu (lo:=0) (n:=cs.length) (λi ys H2=>ys=((List.range i).map λj:Nat=>(ad+(j:Int))/8).map V.int/\H2=c2) #[1] ?_ ?_
    .rintro j ys H2 hj ⟨rfl,rfl⟩;show#[0,d,2,.int ad,1,cg.of ac.1,rfl,0,_,0,5,0,rfl,#[ar,ar],3,rfl]
     .rw[DD,DD,KL];omega
     .rw[Nk,Ke,Ke,Int.zero_add];rfl
    .rintro ys H2 ⟨rfl,rfl⟩ l1 d5;have s1:=Tb.au (X:=.lst (((List.range cs.length).map λj:Nat=>(ad+(j:Int))/8).map V.int)) d5;show#[l1,_,ad/8,rfl,bB.of af,λk hk=>?_,ae,ae,λa2 ei=>?_]
     .let#[j,hj,rfl]:=List.mem_map.mp hk;have:=List.mem_range.mp hj;constructor<;>omega
     have s2:=Tb.au (X:=Hb w a2 (ad/8)) ei;show#[a2,ad/8,rfl,af,λl3 d4 b6 _=>bn _ _ #[l3,d4,rfl,s1.trans (s2.trans (Tb.au b6)),af,λz=>?_]];show bx.S.R.mt l3 z (s1.free (s2.free b6))
   case B2 =>
   clear c9;rintro σ aT ⟨pa,ps,rfl,a4,bz,bd⟩;have ab:=bx.same a4;have ca:kU aT d D:=#[a4 _ _ ac.1,λt ad G cs e=>a4 _ _ (ac.2 t ad G cs e)];clear bx ac a4 cC ce;show iU (λσ b5=>∃(pa:Addr) (ps:List Int),σ=[some (.ref sc),some (.int J),some (.ref a.rp),some (.ref m.md),some (.int lo),some (.ref tl),some (.int (1+(i:Int))),some (.ref d),some u8,some u9,some (.ref pa)]/\bf aT b5/\b5 pa=some (.lst (ps.map V.int))/\¬ a3 pa) (λbn QQ ji je=>?A3) ?B3
   case A3 =>
    show#[0,d,2,.str (sN D),1,cg.of ca.1,HV D,rfl,0,?_];show tU (λcp=>ji _ ?_) (λ_=>je _ #[pa,ps,rfl,bf.refl _,bz,bd]);let#[t,o,rfl]:=BQ (V.str.inj (of_decide_eq_true cp));let#[z,ez]:=d8 _ _ rfl;have bv:=Tb.ax ez;have dm:(Tb.dk eD z.pl).map (·.1)=(z.pl.map (·.1)).map Sum.inl:=(by unfold Tb.dk;rw[Lc,Lc];rfl);show#[0,m.md,.ref m.lr,rfl,ab.S.D.g (vg _ _ _ _),0,d,2,.int t,1,cg.of ca.1,rfl,m.lr,0,dQ ab.S.D.hr ez,z.ra,_,z.pl.map (·.1),rfl,ab.S.D.rm _ bv,dm,ab.S.D.np _ bv,by rw[DD];have:z.pl.length<=64:=ab.S.D.len bv;omega,λl2 d2 c7 _ _=>bn _ _ #[l2,d2,rfl,Tb.au c7,af,λz=>ab.S.R.mt l2 z c7]]
   case B3 =>
   rintro σ b5 ⟨pa,ps,rfl,d7,bz,bd⟩;have bl:=ab.same d7;show vV λQQ ji je=>?_;show#[0,0,0,a3,a,m,2,_,eb,dd,df,c4,Z2,pa,ps,rfl,bl.S,bl.C,bz,bd,λem ee dp d6 dI ej=>#[true,rfl,je _ #[2,2,_,ee,dp,dd,df,c4,Z2,rfl,bl.step d6 dI ej]]]
  .rintro σ H7 ⟨v6,v7,v8,v9,bc,M,sS,cv,pk,W,Z,rfl,L7⟩;show#[0,0,M,a,m,2,_,sS,cv,pk,W,Z,rfl,L7.S,L7.C,ae,λH' _ _ _ _ _=>k H']
end
end Lw
end
namespace Hd
open PySem PySem.W PyProof.Rows
def qK:List Obj->List Obj×List Obj
 | []=>([],[])
 | [a]=>([a],[])
 |a::b::r=>(a::(qK r).1,b::(qK r).2)
def build:Nat->List Obj->BT
 |0,_=>.nil
 |_+1,[]=>.nil
 |f+1,o::r=>.node o (build f (qK r).1) (build f (qK r).2)
def topT (tb:String->Option Builtin) (p:Program) (w:World) (m:Nat) (an:Option Value):Nat->SharedT->Thread->Option SharedT
 |0,_,_=>none
 |k+1,x,t=>match through t with
  |true=>some x
  |false=>match stepOk m an t with
   |false=>none
   |true=>match stepT (denote tb) p w x t with
    |some (y,u)=>topT tb p w m an k y u
    |none=>none
theorem topT_of {tb:String->Option Builtin}{p:Program}{w:World}{m:Nat}{an:Option Value}:∀{k:Nat}{x z:SharedT}{t:Thread},topT tb p w m an k x t=some z->topRun tb p w m an k x.abs t=some z.abs:=by
 intro k
 induction k with
 |zero=>intro x z t e;cases e
 |succ k G =>
  intro x z t e;unfold topT at e;unfold topRun;cases a:through t with
  |true=>rw[a]at e;cases e;rfl
  |false =>
   rw[a]at e;cases b:stepOk m an t with
   |false=>rw[b]at e;cases e
   |true =>
    rw[b]at e;cases c:stepT (denote tb) p w x t with
    |none=>rw[c]at e;cases e
    |some r =>
     obtain⟨y,u⟩:=r;rw[c]at e;rw[stepT_spec c];exact G e
def yC (p q:Program) (loose:List Str) (G:Shared->Bool) (J:Bool) (h:Heap) (s:Shared):=
 (staticsOk (importedModules p.main.body) h s.heap&&namesBound p s.heap&&gensDone s&&laidKept h s.heap,openSeen q loose (importedModules p.main.body) G J s)
theorem Cd {p q:Program}{loose:List Str}{O:Shared->Bool}{α:Type}{U:Shared->α}{L:World->α}{N M m:Nat}{Y:Bool}{H:Params->Heap}{T:Params->BT}{life:Life}{gs:Array GenState}{d:Drawn}{k:Nat}{an:Option Value}
  (hO:∀w:World,(fencedOpening treeTable p w N).map (λs=>(s.heap,s.gens,s.drawn,s.toks))=some (H w.params,gs,d,k))
  (hT:∀P,absHeap (T P) m life=H P)
  (hS:∀w:World,((H w.params).isNs mainGlobals&&gs.size==0,(H w.params).objs.size,(H w.params).nsMap mainGlobals "__annotations__")=(true,m,an))
  (le:Nat.ble M N=true)
  (run:∀(w:World) (os:OsState),(topT treeTable p w m an M ⟨T w.params,m,life,gs,d,k,os⟩ (topStub p)).map (λs=>(yC p q loose O Y (H w.params) s.abs,U s.abs))=some ((true,openGood q loose),L w)) :
  LeftO p q loose O U L N Y:=by
 intro w;obtain⟨s,a,b⟩:=Option.map_eq_some_iff.mp (hO w);obtain⟨h,G,d',J,os⟩:=s;simp only[Prod.mk.injEq]at b;obtain⟨rfl,rfl,rfl,rfl⟩:=b;have z:=hS w;simp only[Prod.mk.injEq]at z;obtain⟨z1,z2,z3⟩:=z;obtain⟨x,c,e⟩:=Option.map_eq_some_iff.mp (run w os);have r:=topT_of c;have ab:(SharedT.mk (T w.params) m life G d' J os).abs=⟨H w.params,G,d',J,os⟩:=by
  unfold SharedT.abs;rw[hT]
 rw[ab]at r;have r:=topRun_mono (N-M) _ _ _ _ r;rw[show M+(N-M)=N from Nat.add_sub_cancel' (Nat.le_of_ble_eq_true le)]at r;simp only[yC,Prod.mk.injEq]at e;obtain⟨⟨e1,e2⟩,e3⟩:=e;have t:topFrom treeTable p w N ⟨H w.params,G,d',J,os⟩=some x.abs:=by
  unfold topFrom;dsimp only;rw[z1,z2,z3,r];simp only[bind_some,e1]
 unfold openEnds;rw[a];simp only[bind_some,t,Option.map_some,e2,e3]
theorem both {r:OpenRow}{q:Program}{loose:List Str}{d:DefRec}{G:List (Str×Expr)}{N:Nat}(H:Hook)
  (h1:defOf q r.name=some (d,G)) (h2:r.prog.theDef r.name=some (d.params,d.body,d.scope)) (Y:kwWritten? d.params.kwonlyargs d.params.kw_defaults=some G) (U:(!r.writes||r.records.isEmpty)=true)
  (O:r.wellSaid=true) (L:(chainsOk q&&opensWell r.prog&&(frees r.toRowW&&r.within.isEmpty))=true) (J:r.prog.bare) (h8:r.toRowW.promised)
  (h:LeftO r.prog q loose (λs=>xlAt q [] s&&recOk r.records s) H.obs H.val N/\WalkO q loose (XL q []) H.says r.toRowW d G λf vs=>PySem.call f vs):r.Holds :=
 holds_open h.1 H.of H.keeps (λs e=>xl_of s (Bool.and_eq_true_iff.mp e).1) XL.keeps h1 h2 Y (λs e=>recFacts_of (Bool.and_eq_true_iff.mp e).2) U O L J h8 h.2
noncomputable def CY (P:Params):BT:=build 12 (boot_heap P).objs.toList
def q:Program:=PySem.W.view PySem.Challenge.pw_ownroom_k12_copies_apart [51]
def loose:List Str:=[Str.ofString "_wall",Str.ofString "__name__",Str.ofString "KernelError",Str.ofString "ValueError",Str.ofString "NoOwner",Str.ofString "NoTask",Str.ofString "NoPage",Str.ofString "NoRoom",Str.ofString "Taken",Str.ofString "PAGE_CELLS",Str.ofString "Store",Str.ofString "lift",Str.ofString "settle",Str.ofString "Paging",Str.ofString "ROOM_PAGES",Str.ofString "room_of",Str.ofString "refuse_second_room",Str.ofString "refuse_above",Str.ofString "pages_from",Str.ofString "refuse_unmapped",Str.ofString "pages_to_map",Str.ofString "pages_to_drop",Str.ofString "pages_of_cells",Str.ofString "run_within",Str.ofString "pages_with",Str.ofString "STEP_PAGES",Str.ofString "own_copy",Str.ofString "Table",Str.ofString "BLANK",Str.ofString "Rooms",Str.ofString "_law_mixed",Str.ofString "_law_number",Str.ofString "_law_whole",Str.ofString "_law_cells",Str.ofString "_law_model",Str.ofString "_law_held",Str.ofString "_law_stretch",Str.ofString "_law_due",Str.ofString "_law_done",Str.ofString "_law_called",Str.ofString "_law_numbers",Str.ofString "_law_sizes",Str.ofString "_law_busy",Str.ofString "_law_begun",Str.ofString "_law_all_right",Str.ofString "_law_same"]
local macro_rules | `(tactic| o_head $H) => `(tactic| refine Hd.both (q:=Hd.q) (loose:=Hd.loose) (N:=100000) $H (by rfl) (by rfl) (by rfl) (by rfl) (by assumption) ao ⟨rfl,rfl,rfl,rfl,rfl,ao⟩ ?$(Lean.mkIdent `hw):ident ?$(Lean.mkIdent `hc):ident)
open_top top for PySem.Challenge.rw_ownroom_k12_copies_apart
def at_:List Addr:=[2,3,15,17,18,20,21,22,29,30,31,32,35,42,43,44,47,54,55,56,59,66,67,68,71,78,79,80,83,90,91,92,102,104,105,107,108,109,111,112,114,115,116,118,119,121,122,123,125,126,128,129,130,132,133,135,136,137,139,140,142,143,144,146,147,149,150,151,153,154,156,157,158,160,161,163,164,165,166,167,168,169,172,174,175,177,178,179,181,182,184,185,193,195,196,198,199,200,202,203,205,206,207,209,210,212,213,214,216,217,219,220,221,223,224,226,227,228,230,231,233,234,235,237,238,240,241,242,244,245,247,248,249,251,252,254,255,256,258,259,261,262,263,265,266,268,269,270,272,273,275,276,277,279,280,282,283,284,286,287,289,290,291,292,293,294,295,298,300,301,303,304,305,307,308,310,311,312,314,315,317,318,319,321,322,324,325,326,328,329,331,332,333,335,336,338,339,340,342,343,345,346,347,349,350,352,353,354,356,357,359,360,361,364,365,366,369,370,378,380,381,383,384,385,387,388,390,391,392,394,395,397,398,399,401,402,404,405,406,408,409,411,412,413,415,416,418,419,420,421,422,423,424,427,435,437,438,440,441,442,444,445,447,448,449,451,452,454,455,456,458,459,461,462,463,465,466,468,469,470,472,473,475,476,477,479,480,482,483,484,486,487,489,490,491,494,495,496,498,499,501,502,503,505,506,508,509,510,512,513,515,516,517,519,520,522,523,524,526,527,529,530,531,532,533,534,535,538,540,541,543,544,545,547,548,550,551,552,554,555,557,558,559,561,562,564,565,566,568,569,571,572,573,576,577,578,581,582,583,586,587,588,591,592,593,595,596,598,599,600,603,604,605,607,608,610,611,612,614,615,617,618,619,621,622,624,625,626,628,629,631,632,633,635,636,638,639,640,643,644]
noncomputable def lhs (w:World) (os:OsState):=
 (topT treeTable PySem.Challenge.pw_ownroom_k12_copies_apart w 11 (some (.ref 6)) 100000 ⟨CY w.params,11, {},Array.mk [],boot_drawn,boot_toks,os⟩ (topStub PySem.Challenge.pw_ownroom_k12_copies_apart)).map
  λs=>(yC PySem.Challenge.pw_ownroom_k12_copies_apart q loose (λs=>xlAt q [] s&&recOk PySem.Challenge.rw_ownroom_k12_copies_apart.row.records s) true (boot_heap w.params) s.abs,at_.map s.abs.heap.get?)
noncomputable def HS (K:Frag):=some ((true,openGood q loose),K.map λp=>some p.2)
theorem lhs_self:lhs=lhs:=rfl
theorem zk:HS=HS:=rfl
name_quick hdL for Hd.lhs by Hd.lhs_self
name_quick hdR for Hd.HS by Hd.zk
noncomputable def rhs (w:World):=some ((true,openGood q loose),(Hd.top.heap_39 w.params).map λp=>some p.2)
theorem same_ (w:World) (os:OsState):PySem.W.Fast.hdL w os=PySem.W.Fast.hdR (Hd.top.heap_39 w.params):=by kernel_rfl
theorem run_ (w:World) (os:OsState):lhs w os=rhs w:=((congrFun (congrFun PySem.W.Fast.hdL_eq w) os).trans (same_ w os)).trans (congrFun PySem.W.Fast.hdR_eq (Hd.top.heap_39 w.params)).symm
end Hd
section
local macro_rules|`(tactic|show $t)=>`(tactic|refine $t)
open Lean in
local macro_rules|`(#[$xs,*])=>do
 let T:=([← `(⟨_,rfl⟩),← `(⟨rfl,rfl⟩),← `(⟨_,_⟩),← `(⟨?_,?_⟩),← `(⟨rfl,?_⟩),← `(⟨rfl,_⟩)]:List (TSyntax `term))
 let mut r:Array (TSyntax `term):=Array.mk []
 for x in xs.getElems do
  match x.raw.isNatLit? with
  |some k=>
   match T[k]! with
   |`(⟨$ys,*⟩)=>r:=r++ys.getElems
   |_=>r:=r
  |_=>r:=r.push x
 `(⟨$r,*⟩)
open Lean in
local macro_rules|`(tactic|let $p:term:=$e)=>do
 let rec go (n:Nat)(t:Syntax):MacroM (TSyntax `rcasesPat):=do
  match n with
  |0=>Macro.throwUnsupported
  |n+1=>match t with
   |`($i:ident)=>`(rcasesPat|$i:ident)
   |`(_)=>`(rcasesPat|_)
   |`(#[$xs,*])=>do `(rcasesPat|⟨$(←xs.getElems.mapM fun x=>do `(Parser.Tactic.rcasesPatLo|$(←go n x):rcasesPat)),*⟩)
   |_=>Macro.throwUnsupported
 match p with
 |`(#[$_,*])=>do `(tactic|obtain $(←go 99 p):rcasesPat := $e)
 |_=>Macro.throwUnsupported
namespace Lw
open PySem L2
def Al:Nat->(List Value->Prop)->Prop
 |0,p=>p []
 |n+1,p=>∀a,Al n λl=>p (a::l)
theorem al:∀{n:Nat}{p:List Value->Prop},Al n p->∀us:List Value,us.length=n->p us
 |0,_,h,us,e=>by cases List.eq_nil_of_length_eq_zero e;show h
 |n+1,_,h,us,e=>by
  cases us with
  |nil=>cases e
  |cons a us=>show al (h a) us (Nat.succ.inj e)
inductive MI (K:PySem.W.Frag) (C:Addr) (m q:Str) (st:Ky) (ps:List Str):Prop
 |mk (f:Addr) (fd:J0) (_:cQ K m q st f fd) (_:Binds K fd ps []) (_:Meth K C m f):MI K C m q st ps
inductive DI (K:PySem.W.Frag) (x:Str) (st:Ky) (ps:List Str):Prop
 |mk (f:Addr) (fd:J0) (_:cQ K x x st f fd) (_:Binds K fd ps []) (_:Qg K KJ x=some (some (.ref f))):DI K x st ps
section
variable {K:PySem.W.Frag}{C f:Addr}{m q:Str}{st:Ky}{ps:List Str}{od an:Option Addr}{sl:Array (Option Value)}{oc kV dc pm cd ct:Value}
theorem MI.of (a:Nc K (.ref C) m=some (some (.ref f))) (i:isFn K (.ref f)=true) (l:K.lookup f=some #[oc,od,.func (PU m q (fL st) (fb st) (aw st) .none kV dc pm an cd ct),sl]) (c:PV K cd q=true) (k:NW K (.ref f)=true)
  (b:∀kV G pm an J ct,Al ps.length λus=>Pd (PU m q (fL st) (fb st) (aw st) .none kV G pm an J ct) #[us,[]]=pure (ps.zip us)):MI K C m q st ps :=
 #[2,pE l c k,(pE l c k).binds λ_ _ _ _ _ _=>al (b _ _ _ _ _ _),a,i,k]
theorem DI.of (a:Qg K KJ m=some (some (.ref f))) (l:K.lookup f=some #[oc,od,.func (PU m m (fL st) (fb st) (aw st) .none kV dc pm an cd ct),sl]) (c:PV K cd m=true) (k:NW K (.ref f)=true)
  (b:∀kV G pm an J ct,Al ps.length λus=>Pd (PU m m (fL st) (fb st) (aw st) .none kV G pm an J ct) #[us,[]]=pure (ps.zip us)):DI K m st ps :=
 #[2,pE l c k,(pE l c k).binds λ_ _ _ _ _ _=>al (b _ _ _ _ _ _),a]
inductive CI (K:PySem.W.Frag) (C:Addr) (x:Str):Prop
 |mk (_:Qg K KJ x=some (some (.ref C))) (_:qX K C) (_:makesIn K C=true) (_:NW K (.ref C)=true):CI K C x
end
def NI (K:PySem.W.Frag):List Str->Prop
 | []=>True
 |x::l=>Qg K KJ x=some none/\NI K l
def AI (K:PySem.W.Frag) (C:Addr):List Str->Prop
 | []=>True
 |x::l=>Nc K (.ref C) x=some none/\AI K C l
theorem all_mk {l:PySem.W.OpenLaw}{w:Kd}{K:PySem.W.Frag}{h:Heap}{mg:Str->Option Value}{fa N J O L aB:Addr}{e5 t8 t9:Qe}{ea:Value}{lw:Option Addr}{e2:Array (Option Value)}{a0:Array Value}{nB:Nat}(X:K.In h) (G:h.Ns KJ mg) (qs:mg "law" = some (.ref fa)) :
  CI K N "Store" -> AI K N ["owners","contents"]->MI K N "__init__" "Store.__init__" St.mP ["self","many"]->MI K N "take" "Store.take" St.Az ["self"]->MI K N "less" "Store.less" St.An ["self","n"]->MI K N "more" "Store.more" St.yu ["self","n"]->MI K N "free" "Store.free" St.Ad ["self"]->MI K N "count" "Store.count" St.vA ["self","n"]->MI K N "cells" "Store.cells" St.tF ["self","n"]->MI K N "put" "Store.put" St.DP ["self","n","cells"]->MI K N "refuse_free" "Store.refuse_free" St.ph ["self","n"]->CI K J "Paging" -> AI K J ["frames","slots","places","last_sheet","in_frames"]->MI K J "__init__" "Paging.__init__" St.vi ["self","frames","slots"]->MI K J "new_sheet" "Paging.new_sheet" St.kD ["self","cells"]->MI K J "share" "Paging.share" St.uN ["self","sheet"]->MI K J "leave" "Paging.leave" St.uU ["self","sheet"]->MI K J "cells" "Paging.cells" St.pN ["self","sheet"]->MI K J "change" "Paging.change" St.p9 ["self","sheet","cells"]->MI K J "fetch" "Paging.fetch" St.uM ["self","sheet"]->MI K J "bring_in" "Paging.bring_in" St.mI ["self","sheet","moved"]->MI K J "put_out" "Paging.put_out" St.pf ["self","sheet"]->MI K J "place" "Paging.place" St.tP ["self","sheet"]->MI K J "number_of" "Paging.number_of" St.jX ["self","sheet"]->MI K J "store_of" "Paging.store_of" St.lI ["self","sheet"]->MI K J "count" "Paging.count" St.qB ["self","sheet"]->CI K O "Table" -> AI K O ["first_step"]->MI K O "__init__" "Table.__init__" Tb.mP ["self"]->MI K O "get" "Table.get" Tb.Ef ["self","page"]->MI K O "lay" "Table.lay" Tb.EY ["self","page","entry"]->MI K O "clear" "Table.clear" Tb.u6 ["self","page"]->MI K O "pages" "Table.pages" Tb.vG ["self"]->CI K L "Rooms" -> AI K L ["paging","total","rooms"]->MI K L "__init__" "Rooms.__init__" St.um ["self","frames","slots"]->MI K L "begin" "Rooms.begin" St.qS ["self","task"]->MI K L "close" "Rooms.close" St.pK ["self","task"]->MI K L "map" "Rooms.map" St.Af ["self","task","page","many"]->MI K L "drop" "Rooms.drop" St.tJ ["self","task","page","many"]->MI K L "peek" "Rooms.peek" St.vf ["self","task","address","many"]->MI K L "poke" "Rooms.poke" St.uL ["self","task","address","cells"]->MI K L "copy" "Rooms.copy" St.uc ["self","task","other"]->MI K L "held" "Rooms.held" St.tG ["self"]->MI K L "leave_pages" "Rooms.leave_pages" St.qr ["self","table","pages"]->MI K L "cells_of" "Rooms.cells_of" St.qP ["self","entry"]->MI K L "sheet_with" "Rooms.sheet_with" St.pX ["self","entry","cells"]->DI K "lift" St.zg ["store","n"]->DI K "settle" St.pQ ["store","moved"]->DI K "own_copy" Tb.wK ["value"]->DI K "room_of" St.pP ["rooms","task"]->DI K "refuse_second_room" St.qk ["rooms","task"]->DI K "refuse_above" St.uG ["held","total"]->DI K "pages_from" Rm.iW ["page","many"]->DI K "refuse_unmapped" Rm.kH ["mapped","pages"]->DI K "pages_to_map" Rm.uW ["mapped","page","many"]->DI K "pages_to_drop" Rm.qA ["mapped","page","many"]->DI K "pages_of_cells" Rm.mT ["mapped","address","many"]->DI K "run_within" Rm.qI ["whole","address","many"]->DI K "pages_with" Rm.yr ["whole","address","cells"]->DI K "_law_mixed" Lw.u5 ["_law_cell","_law_k"]->DI K "_law_number" Lw.qF ["_law_script","_law_k"]->DI K "_law_whole" Lw.tV ["_law_found"]->DI K "_law_cells" Lw.m4 ["_law_m","_law_many"]->DI K "_law_model" Lw.uz ["_law_total"]->DI K "_law_held" Lw.vC ["_law_model_here"]->DI K "_law_stretch" Lw.mU ["_law_room","_law_address","_law_many"]->DI K "_law_due" Lw.Dq ["_law_model_here","_law_deed"]->DI K "_law_done" Lw.AE ["_law_model_here","_law_deed"]->DI K "_law_called" Lw.qR ["_law_kept","_law_deed"]->DI K "_law_numbers" Lw.nc ["_law_found","_law_due_here"]->DI K "_law_sizes" Lw.tX ["_law_m"]->DI K "_law_busy" Lw.yy ["_law_m","_law_model_here","_law_tasks"]->DI K "_law_begun" Lw.uh ["_law_m"]->DI K "_law_all_right" Lw.ze ["_law_kept","_law_model_here"]->DI K "_law_same" Lw.zX ["_law_kept","_law_model_here","_law_pages"]->DI K "law" Lw.Dw ["_law_script"]->Qg K KJ "ROOM_PAGES" = some (some (.int 64 e5))->Qg K KJ "PAGE_CELLS" = some (some (.int 8 t8))->Qg K KJ "STEP_PAGES" = some (some (.int 8 t9))->NI K ["range","enumerate","sum","int","isinstance","min","max","list","len","dict","bool","tuple","sorted","all","any","zip","set"]->Qg K KJ "BLANK" = some (some (.ref aB))->K.lookup aB=some #[ea,lw,.seq a0 nB,e2]->ea=.type "tuple" -> Vals [V.str "blank"] a0.toList->a0.size<=1 ->
  ∃fd:J0,(∀(s:BY) (v:Value),OE s fd #[[v],[]] [("_law_script",v)])/\∀base:Heap,K.In base->base.Ns KJ mg->bh l.prog w K mg base aW 12 fa fd ["_law_script"] (vP K):=by
 intro h0 h1 h2 h3 h4 h5 h6 h7 h8 h9 ql ji nS o3 n1 n0 hC n9 it hv nk ik o6 mB im e6 pw md p1 e3 pq l8 hl jp pr i7 jr kt hd mn kz m2 ht hg nw jt hk fv nO i0 hb hB hA oA hF iN fI lA lf nD pl qa nF ov py ib hT na nT nq e1 on hx ol qw o5 p3 q0 q1 q2 gO yB lB oB vB wB;let#[kd,oR,ha,pa]:=h0;let#[gd,n7,_]:=h1;let#[f1,d1,F1,b1,M1]:=h2;let#[f2,d2,F2,b2,M2]:=h3;let#[f3,d3,F3,b3,M3]:=h4;let#[f4,d4,F4,b4,M4]:=h5;let#[f5,d5,F5,b5,M5]:=h6;let#[f6,d6,F6,b6,M6]:=h7;let#[f7,d7,F7,b7,M7]:=h8;let#[f8,d8,F8,b8,M8]:=h9;let#[f9,d9,F9,b9,M9]:=ql;let#[om,mv,hQ,n6]:=ji;let#[p4,l1,eC,mu,i8,_]:=nS;let#[xw,rz,g9,g5,ek]:=o3;let#[ww,rk,ki,fl,e7]:=n1;let#[rt,w3,eN,hD,eo]:=n0;let#[v4,rg,i4,ms,k2]:=hC;let#[xe,sU,g0,p6,mx]:=n9;let#[sT,sn,fT,o2,g6]:=it;let#[sm,x0,p0,nz,n4]:=hv;let#[xx,sS,hO,qi,hG]:=nk;let#[sd,ua,k3,pD,io]:=ik;let#[q4,wP,hR,lx,hH]:=o6;let#[wn,r2,hY,ld,hp]:=mB;let#[q5,r3,o4,pi,hm]:=im;let#[vr,v0,nx,nt,me]:=e6;let#[en,nL,dj,c9]:=pw;let#[he,_]:=md;let#[w0,si,fu,db,a3]:=p1;let#[q9,rs,nh,i1,l6]:=e3;let#[q7,xL,e4,ez,g3]:=pq;let#[w1,ss,fH,pn,hn]:=l8;let#[s5,v5,j2,q3,ft]:=hl;let#[op,mm,oI,m1]:=jp;let#[ot,hh,i9,_]:=pr;let#[tz,sa,hz,i6,cc]:=i7;let#[v6,uy,hf,go,kQ]:=jr;let#[w4,tw,fk,iv,n8]:=kt;let#[w8,sA,oL,il,kv]:=hd;let#[r5,u2,hM,hS,o9]:=mn;let#[s7,s8,m3,pZ,eH]:=kz;let#[ti,wE,ge,pT,qe]:=m2;let#[wp,s9,hq,l0,k4]:=ht;let#[ra,sK,pd,nR,m0]:=hg;let#[sw,wT,nb,fx,l7]:=nw;let#[rv,w2,mt,fe,kn]:=jt;let#[wv,u1,ew,ls,eP]:=hk;let#[rr,sr,dm,kw,lp]:=fv;let#[xz,ry,dz,ey,nl]:=nO;let#[rn,re,a2,c3,bz]:=i0;let#[wf,xd,da,ln,gl]:=hb;let#[q6,r1,bn,g1,mw]:=hB;let#[ri,ru,bx,e0,la]:=hA;let#[sL,sb,dM,mb,je]:=oA;let#[xo,r7,bc,ni,hN]:=hF;let#[v7,rc,ce,hK,e9]:=iN;let#[tf,tp,ei,hj,eq]:=fI;let#[su,v1,dd,i5,o7]:=lA;let#[rp,v3,ef,li,g4]:=lf;let#[t2,sB,bY,fr,fy]:=nD;let#[t3,ux,bI,lc,fD]:=pl;let#[rm,ul,bm,nI,pp]:=qa;let#[r0,w7,dp,hI,ii]:=nF;let#[s1,sc,cm,nP,hy]:=ov;let#[va,u8,dl,lb,iF]:=py;let#[sx,ut,c2,qn,g7]:=ib;let#[se,t1,c7,fo,ho]:=hT;let#[wS,v8,cq,hu,nM]:=na;let#[rB,rb,c0,ka,gr]:=nT;let#[r8,r4,eb,no,i2]:=nq;let#[ub,xl,c8,fi,nn]:=e1;let#[t0,wl,cp,k0,e8]:=on;let#[vl,u9,bi,hw,og]:=hx;let#[wh,ro,ej,l5,nC]:=ol;let#[vn,tn,cx,o1,hE]:=qw;let#[ws,s6,ec,j1,nd]:=o5;let#[w5,hL,df,vu,hr]:=p3;let#[ch,ev,ca,l3,c5,qj,l2,as,ap,bd,i3,em,el,l4,pe,k1,hP,_]:=gO;have e:=qs.symm.trans (Lb X G hr);cases e;show#[hL,λs v=>?_,λbase _ _=>?_]
 .let#[oc,od,kV,tr,pm,an,v9,ct,rx,rfl,lk,sy]:=df.ex;show .of_eq rfl
 have TS:St.Txt K mg N:=#[oR,gd,n7,Kj X G ap,Kj X G as,#[_,Lb X G q1,#[0]]];have TT:Tb.Txt K mg O:=#[nL,he,#[_,Lb X G q2,#[0]]];have TQ:Tb.yL mg:=#[Kj X G c5,Kj X G em,Kj X G as,Kj X G bd,Kj X G ap,Kj X G el];have SX:Rm.Ar mg:=#[#[_,Lb X G q0,#[0]],#[_,Lb X G q1,#[0]],Kj X G as,Kj X G ch,Kj X G ap];have TP:St.pY K mg J:=#[mv,p4,l1,eC,mu,i8,Kj X G as];have U:St.sW K mg #[L,J,N,O]:=#[mm,ot,hh,i9,#[aB,Lb X G yB,.inr #[_,a0,nB,lB,oB,rfl,Ko wB ar,vB]],#[_,Lb X G q1,#[0]],Kj X G ap,Kj X G ca,Kj X G k1];have MT:Lw.mH mg:=#[Kj X G ch,Kj X G ev,Kj X G ca,Kj X G l3,Kj X G c5,Kj X G qj,Kj X G l2,Kj X G as,Kj X G ap,Kj X G bd,Kj X G i3,Kj X G em,Kj X G el,Kj X G l4,Kj X G pe];have gs:=St.qd (P:=l.prog) (w:=w) (base:=base) F1 TS;have am:=Md.mk _ _ _ (St.yZ (P:=l.prog) (w:=w) (base:=base) F6 TS) b6 M6;have a4:=Md.mk _ _ _ (St.xg F9 TS am) b9 M9;have dO:=Md.mk _ _ _ (St.BR F3 TS a4) b3 M3;have bv:=Md.mk _ _ _ (St.zu F7 TS a4) b7 M7;have b0:=Md.mk _ _ _ (St.EF F8 TS a4) b8 M8;have dT:=Md.mk _ _ _ (St.Bt F4 TS a4) b4 M4;have oC:=Md.mk _ _ _ (St.Co (P:=l.prog) (w:=w) (base:=base) F2 TS) b2 M2;have ee:=Md.mk _ _ _ (St.BJ (P:=l.prog) (w:=w) (base:=base) F5 TS) b5 M5;have mp:=Df.mk _ _ _ (Tb.yO (P:=l.prog) (w:=w) (base:=base) a2 TQ) c3 (Lb X G bz) a2.kp;have GC:=Df.mk _ _ _ (Tb.BX a2 TQ mp) c3 (Lb X G bz) a2.kp;have ci:=Tb.qd (P:=l.prog) (w:=w) (base:=base) fu TT;have a1:=Md.mk _ _ _ (Tb.El nh TT GC) i1 l6;have a5:=Md.mk _ _ _ (Tb.D7 e4 TT GC) ez g3;have gt:=Md.mk _ _ _ (Tb.yw (P:=l.prog) (w:=w) (base:=base) fH TT TQ) pn hn;have Y:=Md.mk _ _ _ (Tb.zp (P:=l.prog) (w:=w) (base:=base) j2 TT TQ) q3 ft;have GP:=Df.mk _ _ _ (Rm.qu (P:=l.prog) (w:=w) (base:=base) dM SX) mb (Lb X G je) dM.kp;have GU:=Df.mk _ _ _ (Rm.sF (P:=l.prog) (w:=w) (base:=base) (mg:=mg) bc) ni (Lb X G hN) bc.kp;have GM:=Df.mk _ _ _ (Rm.yM ce GP) hK (Lb X G e9) ce.kp;have GD:=Df.mk _ _ _ (Rm.xN ei GP GU) hj (Lb X G eq) ei.kp;have GO:=Df.mk _ _ _ (Rm.uo dd SX GP GU) i5 (Lb X G o7) dd.kp;have qb:=Df.mk _ _ _ (Rm.yf (P:=l.prog) (w:=w) (base:=base) ef SX) li (Lb X G g4) ef.kp;have pu:=Df.mk _ _ _ (Rm.B0 (P:=l.prog) (w:=w) (base:=base) bY SX) fr (Lb X G fy) bY.kp;have bG:=Df.mk _ _ _ (St.B9 dm TS bv am dO) kw (Lb X G lp) dm.kp;have be:=Df.mk _ _ _ (St.xr dz TS oC b0 am dT) ey (Lb X G nl) dz.kp;have a7:=Md.mk _ _ _ (St.zw (CS:=N) (P:=l.prog) (w:=w) (base:=base) hR TP) lx hH;have ac:=Md.mk _ _ _ (St.sG hY TP a7) ld hp;have aT:=Md.mk _ _ _ (St.vE o4 TP a7) pi hm;have lz:=Md.mk _ _ _ (St.xY nx TP TS aT ac am) nt me;have oD:=Md.mk _ _ _ (St.wY g0 TP TS aT ac bv) p6 mx;have lr:=Md.mk _ _ _ (St.uP k3 TP bG be ac) pD io;have bl:=Md.mk _ _ _ (St.rP hO TP TS ee lr be) qi hG;have c1:=Md.mk _ _ _ (St.pU ki TP TS ee bl) fl e7;have dL:=Md.mk _ _ _ (St.yV p0 TP a7 bl bG) nz n4;have g2:=Md.mk _ _ _ (St.zV eN TP TS aT ac dT) hD eo;have cr:=Md.mk _ _ _ (St.zZ i4 TP TS aT ac dO am) ms k2;have et:=Md.mk _ _ _ (St.xj fT TP TS lz c1 cr dL ac b0) o2 g6;have n5:=St.yx g9 TP #[ha,M1.at_,M1.fn,pa] (Lb X G kd) gs b1;have ab:=Df.mk _ _ _ (St.ye (P:=l.prog) (w:=w) (base:=base) (mg:=mg) da) ln (Lb X G gl) da.kp;have GS:=Df.mk _ _ _ (St.ya (P:=l.prog) (w:=w) (base:=base) (mg:=mg) bn) g1 (Lb X G mw) bn.kp;have GA:=Df.mk _ _ _ (St.yU (P:=l.prog) (w:=w) (base:=base) (mg:=mg) bx) e0 (Lb X G la) bx.kp;have hc:=St.zC (c:=#[L,J,N,O]) hz U #[hQ,ek.at_,ek.fn,n6] (Lb X G om) n5 g5;have dV:=Md.mk _ _ _ (St.nu (c:=#[L,J,N,O]) nb U TT TP a1 gt cr) fx l7;have oF:=Md.mk _ _ _ (St.Ce (c:=#[L,J,N,O]) hM U TT ab GD Y dV) hS o9;have kk:=Md.mk _ _ _ (St.xu (c:=#[L,J,N,O]) fk U TT ab Y dV) iv n8;have gm:=Md.mk _ _ _ (St.xQ (c:=#[L,J,N,O]) hf U #[dj,a3.at_,a3.fn,c9] (Lb X G en) GS ci db) go kQ;have dI:=Md.mk _ _ _ (St.uD (c:=#[L,J,N,O]) mt U TP oD) fe kn;have g8:=Md.mk _ _ _ (St.qM (c:=#[L,J,N,O]) ew U TP c1 et) ls eP;have ba:=Md.mk _ _ _ (St.Ai (c:=#[L,J,N,O]) pd U TT Y) nR m0;have lm:=Md.mk _ _ _ (St.B6 (c:=#[L,J,N,O]) oL U TT ab GM GA Y ba a5) il kv;have ll:=Md.mk _ _ _ (St.zi (c:=#[L,J,N,O]) m3 U TT TP ab GO qb Y a1 dL dI) pZ eH;have ih:=Md.mk _ _ _ (St.yS (c:=#[L,J,N,O]) ge U TT ab GO pu Y a1 a5 dI g8) pT qe;have n3:=Md.mk _ _ _ (St.zz (c:=#[L,J,N,O]) hq U TT TP #[dj,a3.at_,a3.fn,c9] (Lb X G en) ab GS GA ci db Y ba a1 a5 g2) l0 k4;have KT:Lw.Fo l.prog w K mg base #[L,J,N,O]:=#[gm,kk,lm,oF,n3,ll,ih];have fc:=Df.mk _ _ _ (Lw.Ah (P:=l.prog) (w:=w) (base:=base) (mg:=mg) bI) lc (Lb X G fD) bI.kp;have ke:=Df.mk _ _ _ (Lw.w6 bm MT fc) nI (Lb X G pp) bm.kp;have lv:=Df.mk _ _ _ (Lw.y6 (P:=l.prog) (w:=w) (base:=base) (mg:=mg) cp) k0 (Lb X G e8) cp.kp;have ne:=Df.mk _ _ _ (Lw.zG (P:=l.prog) (w:=w) (base:=base) (mg:=mg) dl) lb (Lb X G iF) dl.kp;have bb:=Df.mk _ _ _ (Lw.zQ (P:=l.prog) (w:=w) (base:=base) c2 MT) qn (Lb X G g7) c2.kp;have o0:=Df.mk _ _ _ (Lw.vc (P:=l.prog) (w:=w) (base:=base) c7 MT) fo (Lb X G ho) c7.kp;have ga:=Df.mk _ _ _ (Lw.Em cq MT bb o0) hu (Lb X G nM) cq.kp;have c4:=Df.mk _ _ _ (Lw.Ck (P:=l.prog) (w:=w) (base:=base) c0 MT) ka (Lb X G gr) c0.kp;have f0:=Df.mk _ _ _ (Lw.xc eb U KT) no (Lb X G i2) eb.kp;have j3:=Df.mk _ _ _ (Lw.z8 (P:=l.prog) (w:=w) (base:=base) dp MT) hI (Lb X G ii) dp.kp;have a6:=Df.mk _ _ _ (Lw.ud c8 MT j3) fi (Lb X G nn) c8.kp;have n2:=Df.mk _ _ _ (Lw.Bo cx U KT a6 bb ba) o1 (Lb X G hE) cx.kp;have ko:=Df.mk _ _ _ (Lw.tL (P:=l.prog) (w:=w) (base:=base) cm MT) nP (Lb X G hy) cm.kp;have ia:=Df.mk _ _ _ (Lw.Bz bi MT bb ko) hw (Lb X G og) bi.kp;have fz:=Df.mk _ _ _ (Lw.AY ec U KT a6) j1 (Lb X G nd) ec.kp;have po:=Df.mk _ _ _ (Lw.zm ej U KT #[oI,cc.at_,cc.fn,m1] (Lb X G op) lv hc i6 ne c4) l5 (Lb X G nC) ej.kp;show Lw.ES df MT (Kj X G hP) ke po ia ga c4 f0 a6 fz n2
theorem walk {l:PySem.W.OpenLaw}{q:J2}{loose:List Str}{O:(Str->Option Value)->Heap->Prop}{J:Kd->Heap->Prop}{d:DefRec}{K:Params->PySem.W.Frag}(N:l.most=some 63) (U:d.params.defaults=[])
  (hY:∀(w:Kd) (h:Heap),J w h->(K w.params).In h)
  (F:∀(w:Kd) (mg:Str->Option Value) (G:Addr) (h:Heap),(K w.params).In h->h.Ns KJ mg->mg d.name=some (.ref G) ->
   ∃fd:J0,(∀(s:BY) (u:Value),OE s fd #[[u],[]] [("_law_script",u)])/\∀base:Heap,(K w.params).In base->base.Ns KJ mg->bh l.prog w (K w.params) mg base aW 12 G fd ["_law_script"] (vP (K w.params))) :
  PySem.W.WalkO q loose O J l.row.toRowW d [] (λf vs=>PySem.call f vs):=
 L2.Br (n:=63) (k:=12) (x := "_law_script") (CX:=λ_=>aW) (sp:=λw=>vP (K w.params)) N ar U #[rfl,ar,ar] hY F (λ_ _ a ns L _ Y=>#[a,ns,rfl,Y,L,λ_=>rfl]) λ_ _ _ _ _ z=>z
end Lw
end
open PySem PySem.W PyProof.Rows
theorem PySem.Challenge.cw_ownroom_k12_copies_apart_holds : PySem.Challenge.rw_ownroom_k12_copies_apart.Holds := by
 refine Hd.top ⟨Hd.Cd (H:=boot_heap) (T:=Hd.CY) (life:={}) (m:=11) (M:=100000) (gs:=Array.mk []) (d:=boot_drawn) (k:=boot_toks) (an:=some (.ref 6)) (boot_open (by kernel_rfl) ar (λs=>by kernel_rfl)) (λP=>by kernel_rfl) (λw=>by kernel_rfl) ar (λw os=>Hd.run_ w os),?_⟩
 k_fill
 refine Lw.walk (l:=PySem.Challenge.rw_ownroom_k12_copies_apart) rfl rfl (λw h Y=>PySem.W.kIn_of Y) ?F
 case F =>
  intro w mg fa h KX G hmg;apply Lw.all_mk KX G hmg
  all_goals first
   |(apply Lw.MI.of<;>first|k_is|(first|exact λ_ _ _ _ _ _ _=>rfl|exact λ_ _ _ _ _ _ _ _=>rfl|exact λ_ _ _ _ _ _ _ _ _=>rfl|exact λ_ _ _ _ _ _ _ _ _ _=>rfl|exact λ_ _ _ _ _ _ _ _ _ _ _=>rfl))
   |(apply Lw.DI.of<;>first|k_is|(first|exact λ_ _ _ _ _ _ _=>rfl|exact λ_ _ _ _ _ _ _ _=>rfl|exact λ_ _ _ _ _ _ _ _ _=>rfl|exact λ_ _ _ _ _ _ _ _ _ _=>rfl|exact λ_ _ _ _ _ _ _ _ _ _ _=>rfl))
   |(apply Lw.CI.mk;k_is;(constructor<;>k_is);k_is;k_is)
   |(unfold Lw.NI;repeat' first|apply And.intro|exact trivial|k_is|unfold Lw.NI)
   |(unfold Lw.AI;repeat' first|apply And.intro|exact trivial|k_is|unfold Lw.AI)
   |k_is|rfl|exact .cons ⟨_,rfl⟩ .nil|exact le_refl 1
