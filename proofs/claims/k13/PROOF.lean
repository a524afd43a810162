import PyProof.Rows.All
import Wide.All
import OpenK.AllK
import Wide.FinOn
import Lean
import PyProof.EqAt
import PyProof.EqKinds
import PyProof.TupleCall
import PySem.Challenge.RW_ownroom_k13_blank_pages
inductive wX {α β:Type}(p:α->β->Prop):Prop
 |mk (x0:α) (x1:β) (_:p x0 x1):wX p
inductive Dy {α β γ:Type}(p:α->β->γ->Prop):Prop
 |mk (x0:α) (x1:β) (x2:γ) (_:p x0 x1 x2):Dy p
inductive Fw {α β γ δ:Type}(p:α->β->γ->δ->Prop):Prop
 |mk (x0:α) (x1:β) (x2:γ) (x3:δ) (_:p x0 x1 x2 x3):Fw p
inductive zL {α β γ δ ε:Type}(p:α->β->γ->δ->ε->Prop):Prop
 |mk (x0:α) (x1:β) (x2:γ) (x3:δ) (x4:ε) (_:p x0 x1 x2 x3 x4):zL p
inductive Dv {α β γ δ ε ζ:Type}(p:α->β->γ->δ->ε->ζ->Prop):Prop
 |mk (x0:α) (x1:β) (x2:γ) (x3:δ) (x4:ε) (x5:ζ) (_:p x0 x1 x2 x3 x4 x5):Dv p
inductive EG {α β γ δ ε ζ η θ ι κ ν ξ:Type}(p:α->β->γ->δ->ε->ζ->η->θ->ι->κ->ν->ξ->Prop):Prop
 |mk (x0:α) (x1:β) (x2:γ) (x3:δ) (x4:ε) (x5:ζ) (x6:η) (x7:θ) (x8:ι) (x9:κ) (x10:ν) (x11:ξ) (_:p x0 x1 x2 x3 x4 x5 x6 x7 x8 x9 x10 x11):EG p
inductive qv (A0 A1 A2:Prop):Prop
 |mk (_:A0) (_:A1) (_:A2):qv A0 A1 A2
inductive Du (A0 A1 A2 A3:Prop):Prop
 |mk (_:A0) (_:A1) (_:A2) (_:A3):Du A0 A1 A2 A3
inductive Cs (A0 A1 A2 A3 A4:Prop):Prop
 |mk (_:A0) (_:A1) (_:A2) (_:A3) (_:A4):Cs A0 A1 A2 A3 A4
inductive r9 (A0 A1 A2 A3 A4 A5:Prop):Prop
 |mk (_:A0) (_:A1) (_:A2) (_:A3) (_:A4) (_:A5):r9 A0 A1 A2 A3 A4 A5
inductive Fl (A0 A1 A2 A3 A4 A5 A6:Prop):Prop
 |mk (_:A0) (_:A1) (_:A2) (_:A3) (_:A4) (_:A5) (_:A6):Fl A0 A1 A2 A3 A4 A5 A6
inductive Fp (A0 A1 A2 A3 A4 A5 A6 A7:Prop):Prop
 |mk (_:A0) (_:A1) (_:A2) (_:A3) (_:A4) (_:A5) (_:A6) (_:A7):Fp A0 A1 A2 A3 A4 A5 A6 A7
inductive Ep (A0 A1 A2 A3 A4 A5 A6 A7 A8 A9 A10:Prop):Prop
 |mk (_:A0) (_:A1) (_:A2) (_:A3) (_:A4) (_:A5) (_:A6) (_:A7) (_:A8) (_:A9) (_:A10):Ep A0 A1 A2 A3 A4 A5 A6 A7 A8 A9 A10
inductive D1 (A0 A1 A2 A3 A4 A5 A6 A7 A8 A9 A10 A11 A12:Prop):Prop
 |mk (_:A0) (_:A1) (_:A2) (_:A3) (_:A4) (_:A5) (_:A6) (_:A7) (_:A8) (_:A9) (_:A10) (_:A11) (_:A12):D1 A0 A1 A2 A3 A4 A5 A6 A7 A8 A9 A10 A11 A12
set_option Elab.async false
set_option linter.all false
set_option tactic.hygienic false
set_option maxRecDepth 100000
set_option maxHeartbeats 0
local macro_rules | `(tactic| omega) => `(tactic| lia)
theorem ah {p:Prop}(h:p:=by decide +kernel):p:=h
theorem av {p:Prop}(h:p:=by decide):p:=h
theorem af {p:Prop}(h:p:=by omega):p:=h
open PySem.W (instObj methodObj lookIn plainGet hasDictIn findIn handedIn plainGet_of isFn plainOver takerIn makesIn emptyDict keepIn kitOne kia_one kitx_list kitx_tuple kitx_dict callWith_K callWith_K0 fnOf codeIn KdlSrc kdl_dict nsIn mg_of mg_none_of)
open PySem.F (slot_dict_get entry_dict_get plainAttrs_dict plainAttrs_list slot_list_remove slot_list_extend type_list_extend)
open List (mem_cons_self mem_cons_of_mem mem_append_left getElem?_set_self getElem?_set_ne mem_append_right length_cons map_cons length_map append_nil of_mem_zip replicate length_take getElem?_map take_sublist mem_of_getElem? length_append length_replicate size_toArray length_drop map_nil length_set all_cons any_cons replicate_succ flatten_cons foldl append_assoc length_singleton getElem_mem find?_cons length_nil filter_cons getElem?_eq_getElem drop_sublist take_append_drop pairwise_append perm_append_comm getElem_take drop_eq_getElem_cons take_of_length_le reverse_append take_zero map_map mem_cons not_mem_nil mem_singleton length_range map_set map_append filter_eq_self map_congr_left take_length nodup_nil map_take range_succ sum_cons getElem_of_mem filter take_add_one mem_map)
open Nat (lt_of_lt_of_le lt_irrefl ne_of_lt le_trans le_of_lt ne_of_gt le_refl zero_le le_succ lt_succ_of_lt min_eq_left zero_add min_eq_right)
open Int (toNat_natCast emod_nonneg toNat emod_lt_of_pos)
open Option (getD_none isSome_map getD_some bind_some isNone)
open Array (length_toList toList getElem?_toList toList_push toList_extract toList_append size_push toList_reverse)
open PySem
namespace L2
open PySem PySem.Spec PyProof.Rows
noncomputable abbrev Key:=Sum Int Str
noncomputable def l9:Key->Value->Bool
 |.inl k,v=>Value.isInt k v
 |.inr x,v=>Value.isStrOf x v
noncomputable def Gj (w:World):Key->Int
 |.inl k=>hashInt k
 |.inr x=>hashStr w x
theorem cg:∀{k:Key}{v:Value},l9 k v=true->(∃i t,k=Sum.inl i/\v=Value.int i t)\/(∃x t,k=Sum.inr x/\v=Value.str x t)
 |.inl i,v,h=>by
  obtain⟨t,e⟩:=Value.isInt_shape (k:=i) (v:=v) h;exact .inl ⟨i,t,rfl,e⟩
 |.inr x,v,h=>by
  obtain⟨t,e⟩:=Value.isStrOf_shape (x:=x) (v:=v) h;exact .inr ⟨x,t,rfl,e⟩
theorem xg (i:Int) (t:Tok):l9 (.inl i) (.int i t)=true:=by simp[l9,Value.isInt]
theorem wm (x:Str) (t:Tok):l9 (.inr x) (.str x t)=true:=by simp[l9,Value.isStrOf]
theorem B1 (a b:Int):decide ((Sum.inl a:Key)=Sum.inl b)=(a==b):=by
 by_cases e:a=b
 .subst e;simp
 .have h:¬ (Sum.inl a:Key)=Sum.inl b:=λq=>e (Sum.inl.inj q);rw[decide_eq_false h];exact(beq_eq_false_iff_ne.mpr e).symm
theorem BP (a b:Str):decide ((Sum.inr a:Key)=Sum.inr b)=decide (a=b):=by
 by_cases e:a=b
 .subst e;simp
 .have h:¬ (Sum.inr a:Key)=Sum.inr b:=λq=>e (Sum.inr.inj q);rw[decide_eq_false h,decide_eq_false e]
theorem Cq (a:Int) (b:Str):decide ((Sum.inl a:Key)=Sum.inr b)=false:=decide_eq_false (λq=>nomatch q)
theorem BG (a:Str) (b:Int):decide ((Sum.inr a:Key)=Sum.inl b)=false:=decide_eq_false (λq=>nomatch q)
noncomputable def br (prog:Program) (w:World):PySem.KeyKind prog w Key where
 is:=l9
 hash:=Gj w
 inj:=λv a b L I=>by
  rcases cg L with⟨i,t,rfl,rfl⟩|⟨x,t,rfl,rfl⟩
  .rcases cg I with⟨j,u,rfl,e⟩|⟨y,u,rfl,e⟩
   .injection e with F _;rw[F]
   .exact nomatch e
  .rcases cg I with⟨j,u,rfl,e⟩|⟨y,u,rfl,e⟩
   .exact nomatch e
   .injection e with F _;rw[F]
 byValue:=λk v h=>by
  rcases cg h with⟨i,t,rfl,rfl⟩|⟨x,t,rfl,rfl⟩<;>rfl
 pyHash:=λG h=>by
  rcases cg G with⟨i,t,rfl,rfl⟩|⟨x,t,rfl,rfl⟩
  .exact wpAny_pyHash_int h
  .exact wpAny_pyHash_str h
 eqBool:=λJ G h=>by
  rcases cg J with⟨i,t,rfl,rfl⟩|⟨x,t,rfl,rfl⟩
  .rcases cg G with⟨j,u,rfl,rfl⟩|⟨y,u,rfl,rfl⟩
   .rw[B1]at h;exact wpAny_eqBool_int h
   .rw[Cq]at h;exact SeqAt.EqAt.int_str i t y u _ _ _ _ h
  .rcases cg G with⟨j,u,rfl,rfl⟩|⟨y,u,rfl,rfl⟩
   .rw[BG]at h;exact SeqAt.EqAt.str_int x t j u _ _ _ _ h
   .rw[BP]at h;exact wpAny_eqBool_str h
 «strs» := λk x t v h=>by
  rcases cg h with⟨i,u,rfl,e⟩|⟨y,u,rfl,e⟩
  .exact nomatch e
  .injection e with F _;subst F;cases v<;>rfl
theorem qC (prog:Program) (w:World) (i:Int) (t:Tok):(br prog w).is (.inl i) (.int i t)=true:=xg i t
theorem qx (prog:Program) (w:World) (x:Str) (t:Tok):(br prog w).is (.inr x) (.str x t)=true:=wm x t
inductive V where
 |non|bl (b:Bool)|int (i:Int)|str (x:Str)|byt (b:Array UInt8)|flt (b:UInt64)|ref (a:Addr)|ty (n:String)
 deriving DecidableEq
noncomputable def RelV:V->Value->Prop
 |.non,u=>u=Value.none
 |.bl b,u=>u=Value.bool b
 |.int i,u=>∃t,u=Value.int i t
 |.str x,u=>∃t,u=Value.str x t
 |.byt b,u=>∃t,u=Value.bytes b t
 |.flt b,u=>∃t,u=Value.float b t
 |.ref a,u=>u=Value.ref a
 |.ty n,u=>u=Value.type n
noncomputable abbrev Vals:List V->List Value->Prop:=Paired RelV
theorem Vals.length {xs:List V}{us:List Value}(r:Vals xs us):xs.length=us.length:=Paired.length r
theorem Vals.get:∀{xs:List V}{us:List Value}{i:Nat}{x:V},Vals xs us->xs[i]?=some x->∃u,us[i]?=some u/\RelV x u
 |_,_,_,_,.nil,e=>by simp at e
 |_,_,0,_,.cons r _,e=>by simp at e;subst e;exact⟨_,rfl,r⟩
 |_,_,i+1,x,.cons _ t,e=>by
  obtain⟨u,h1,h2⟩:=Vals.get (i:=i) (x:=x) t (by simpa using e);exact⟨u,by simpa using h1,h2⟩
theorem Vals.set {x:V}{u:Value}(r:RelV x u):∀{xs:List V}{us:List Value}(i:Nat),Vals xs us->Vals (xs.set i x) (us.set i u)
 |_,_,_,.nil=>.nil
 |_,_,0,.cons _ t=>.cons r t
 |_,_,i+1,.cons q t=>.cons q (Vals.set r i t)
theorem Vals.append:∀{xs ys:List V}{us ws:List Value},Vals xs us->Vals ys ws->Vals (xs++ys) (us++ws)
 |_,_,_,_,.nil,s=>s
 |_,_,_,_,.cons r t,s=>.cons r (Vals.append t s)
theorem Vals.take:∀{xs:List V}{us:List Value}(n:Nat),Vals xs us->Vals (xs.take n) (us.take n)
 |_,_,0,_=>.nil
 |_,_,_+1,.nil=>.nil
 |_,_,n+1,.cons r t=>.cons r (Vals.take n t)
theorem Vals.drop:∀{xs:List V}{us:List Value}(n:Nat),Vals xs us->Vals (xs.drop n) (us.drop n)
 |_,_,0,r=>r
 |_,_,_+1,.nil=>.nil
 |_,_,n+1,.cons _ t=>Vals.drop n t
noncomputable def fB:Option V->Option Value->Prop
 |some v,some u=>RelV v u
 |none,none=>True
 |_,_=>False
noncomputable def KV {κ:Type}:List (κ×V)->List (κ×Value)->Prop:=Paired λ(p:κ×V) (q:κ×Value)=>p.1=q.1/\RelV p.2 q.2
noncomputable def kV:Key->V
 |.inl i=>.int i
 |.inr x=>.str x
inductive HO where
  |lst (xs:List V)
  |tup (xs:List V)
  |dK (kvs:List (Key×V))|dT (kvs:List (List Key×V))
  |set (S:Int->Bool) (n:Nat)
  |ins (C dx:Addr) (fs:List (Str×V))
  |own (x:Addr)
  |xd (fs:List (Str×V))
  |met (f x:Addr)
  |rng (lo hi:Int)
  |frz (o:Obj) (u:HO)
  |tbl (ps:Array Value)
  |ext (φ:Heap->Prop)
noncomputable abbrev Hp:=Addr->Option HO
noncomputable def upd (H:Hp) (a:Addr) (o:HO):Hp:=λb=>if b=a then some o else H b
theorem ae {H:Hp}{a:Addr}{o:HO}:upd H a o a=some o:=by unfold upd;rw[if_pos rfl]
theorem ai {H:Hp}{a b:Addr}{o:HO}(h:b≠a):upd H a o b=H b:=by unfold upd;rw[if_neg h]
theorem cB {H:Hp}{a b:Addr}{o u:HO}(h:H a=some o) (h':H b=some u) (d:o≠u):a≠b:=by
 intro e;subst e;rw[h]at h';exact d (Option.some.inj h')
theorem aq {H:Hp}{a b:Addr}{o:HO}(h:H a=some o) (h':H b=none):a≠b:=by
 intro e;subst e;rw[h]at h';cases h'
section
variable (P:Program) (w:World)
noncomputable def bT (H:Hp) (h:Heap) (a:Addr):HO->Prop
 |.lst xs=>xs.length<=sizeLine/\∃(its:List Value) (n:Nat),Vals xs its/\h.get? a=some { cls:=.type "list",data:=.seq its.toArray n }
 |.tup xs=>xs.length<=sizeLine/\∃its:List Value,Vals xs its/\IsTup h a its.toArray
 |.dK kvs=>kvs.length<=sizeLine/\(a==sysModules)=false/\∃vs,KV kvs vs/\h.DictOf (br P w) a vs
 |.dT kvs=>kvs.length<=sizeLine/\(a==sysModules)=false/\∃xs:List (List Key×Addr×Value),
   Paired (λ(p:List Key×V) (q:List Key×Addr×Value)=>p.1=q.1/\H q.2.1=some (.tup (p.1.map kV))/\RelV p.2 q.2.2) kvs xs /\
   ∃o es ep,h.get? a=some o/\o.ExactDict/\o.data=.dict es ep/\es.toList=xs.map (entryOfKey (tupleKind (br P w)))/\(xs.map (·.1)).Nodup
 |.set S n=>h.SetOf (intKind P w) a S n
 |.ins C dx fs=>H dx=some (.own a)/\fs.length<=1000/\dx≠a/\h.get? a=some (instObj C dx) /\
   ∃mA,h.Ns1 dx mA/\(∀f,fB (fs.lookup f) (mA f))/\PySem.Within mA (fs.map (·.1))
 |.own _=>∃o,h.get? a=some o
 |.xd fs=>∃mA,h.Ns1 a mA/\∀f,fB (fs.lookup f) (mA f)
 |.rng lo hi=>∃t u v,h.get? a=some { cls:=.type "range",data:=.fields #[.int lo t,.int hi u,.int 1 v] }
 |.frz o u=>h.get? a=some o/\bT H h a u
 |.tbl ps=>h.get? a=some { cls:=.none,data:=.fields ps }
 |.met f x=>h.get? a=some (methodObj (.ref f) (.ref x))
 |.ext F=>F h/\(∃o,h.get? a=some o)/\∀h1 h2:Heap, F h1->(∀o,h1.get? a=some o->h2.get? a=some o)->F h2
noncomputable def iI (H:Hp) (h:Heap):Prop:=∀a o,H a=some o->bT P w H h a o
end
section
variable {P:Program}{w:World}{H H':Hp}{h h':Heap}{a:Addr}{o:HO}
theorem bT.lt (x:bT P w H h a o):a<h.objs.size:=by
 cases o with
 |lst xs=>obtain⟨_,_,_,_,e⟩:=x;exact Heap.lt_size e
 |tup xs=>obtain⟨_,_,_,p⟩:=x;exact p.lt
 |dK kvs=>obtain⟨_,_,_,_,o,_,_,e,_⟩:=x;exact Heap.lt_size e
 |dT kvs=>obtain⟨_,_,_,_,o,_,_,e,_⟩:=x;exact Heap.lt_size e
 |set S n=>obtain⟨o,_,_,_,e,_⟩:=x;exact Heap.lt_size e
 |ins C dx fs=>obtain⟨_,_,_,e,_⟩:=x;exact Heap.lt_size e
 |own y=>obtain⟨_,e⟩:=x;exact Heap.lt_size e
 |xd fs=>obtain⟨_,⟨_,_,_,e,_⟩,_⟩:=x;exact Heap.lt_size e
 |rng lo hi=>obtain⟨_,_,_,e⟩:=x;exact Heap.lt_size e
 |frz F u=>obtain⟨e,_⟩:=x;exact Heap.lt_size e
 |tbl ps=>exact Heap.lt_size (show h.get? a=some _ from x)
 |met f y=>exact Heap.lt_size (show h.get? a=some _ from x)
 |ext G=>obtain⟨_,⟨_,e⟩,_⟩:=x;exact Heap.lt_size e
theorem Paired.y0 {α I:Type}{F G:α->I->Prop}:∀{l₁:List α}{l₂:List I},Paired F l₁ l₂->(∀a b,F a b->G a b)->Paired G l₁ l₂
 |_,_,.nil,_=>.nil
 |_,_,.cons r t,f=>.cons (f _ _ r) (Paired.y0 t f)
theorem bT.oO (x:bT P w H h a o) (k:∀b u,(b=a\/H b=some (.own a))->h.get? b=some u->h'.get? b=some u)
  (I:∀b,H b=some (.own a)->H' b=some (.own a)) (N:∀b xs,H b=some (.tup xs)->H' b=some (.tup xs)):bT P w H' h' a o:=by
 induction o with
 |lst xs=>obtain⟨z,its,n,r,e⟩:=x;exact⟨z,its,n,r,k _ _ (.inl rfl) e⟩
 |tup xs=>obtain⟨z,its,r,F,e,c⟩:=x;exact⟨z,its,r,F,k _ _ (.inl rfl) e,c⟩
 |dK kvs=>obtain⟨z,y,vs,r,F,es,ep,e,c⟩:=x;exact⟨z,y,vs,r,F,es,ep,k _ _ (.inl rfl) e,c⟩
 |dT kvs =>
  obtain⟨z,y,xs,r,F,es,ep,e,c⟩:=x;exact⟨z,y,xs,Paired.y0 r λp q z=>⟨z.1,N _ _ z.2.1,z.2.2⟩,F,es,ep,k _ _ (.inl rfl) e,c⟩
 |set S n=>obtain⟨F,es,ep,t,e,c⟩:=x;exact⟨F,es,ep,t,k _ _ (.inl rfl) e,c⟩
 |ins C dx fs =>
  obtain⟨d,z,J,e,mA,⟨od,es,ep,G,c⟩,r⟩:=x;exact⟨I _ d,z,J,k _ _ (.inl rfl) e,mA,⟨od,es,ep,k _ _ (.inr d) G,c⟩,r⟩
 |own y=>obtain⟨F,e⟩:=x;exact⟨F,k _ _ (.inl rfl) e⟩
 |xd fs=>obtain⟨mA,⟨od,es,ep,e,c⟩,r⟩:=x;exact⟨mA,⟨od,es,ep,k _ _ (.inl rfl) e,c⟩,r⟩
 |rng lo hi=>obtain⟨t,u,v,e⟩:=x;exact⟨t,u,v,k _ _ (.inl rfl) e⟩
 |frz F u L=>obtain⟨e,q⟩:=x;exact⟨k _ _ (.inl rfl) e,L q⟩
 |tbl ps =>
  have e:h.get? a=some { cls:=.none,data:=.fields ps }:=x;show h'.get? a=some { cls:=.none,data:=.fields ps };exact k a _ (.inl rfl) e
 |met f y =>
  have e:h.get? a=some (methodObj (.ref f) (.ref y)):=x;show h'.get? a=some (methodObj (.ref f) (.ref y));exact k a _ (.inl rfl) e
 |ext O=>obtain⟨p,⟨o,e⟩,st⟩:=x;exact⟨st _ _ p λo q=>k _ _ (.inl rfl) q,⟨o,k _ _ (.inl rfl) e⟩,st⟩
theorem iI.lt (x:iI P w H h) (e:H a=some o):a<h.objs.size:=(x a o e).lt
theorem iI.fresh (x:iI P w H h) (e:h.objs.size<=a):H a=none:=by
 cases q:H a with
 |none=>rfl
 |some u=>exact absurd (lt_of_lt_of_le (x.lt q) e) (lt_irrefl _)
theorem iI.kept (x:iI P w H h) (k:∀b u,h.get? b=some u->h'.get? b=some u):iI P w H h':=λa o e =>
 (x a o e).oO (λb u _ q=>k b u q) (λ_ q=>q) λ_ _ q=>q
theorem iI.laid (x:iI P w H h) (k:∀b u,h.get? b=some u->h'.get? b=some u) (I:h.objs.size<=a) (new:bT P w (upd H a o) h' a o):iI P w (upd H a o) h':=λb u e=>by
 have G:=x.fresh I;by_cases F:b=a
 .subst F;rw[ae]at e;cases e;exact new
 .rw[ai F]at e;exact(x b u e).oO (λc v _ q=>k c v q) (λc q=>by rw[ai (aq q G)];exact q) λc xs q=>by rw[ai (aq q G)];exact q
end
noncomputable def Rd (H:Hp) (a:Addr) (u:HO):Prop:=H a=some u\/∃o,H a=some (.frz o u)
theorem Rd.ok {P:Program}{w:World}{H:Hp}{h:Heap}{a:Addr}{u:HO}(r:Rd H a u) (x:iI P w H h):bT P w H h a u:=by
 rcases r with r|⟨o,r⟩
 .exact x a u r
 .obtain⟨_,q⟩:=x a _ r;exact q
noncomputable def E4:Option HO->Prop
 |some (.lst _)=>True
 |some (.dK _)=>True
 |some (.dT _)=>True
 |some (.set _ _)=>True
 |some (.ins _ _ _)=>True
 |some (.ext _)=>True
 |_=>False
section
variable {P:Program}{w:World}{H:Hp}{h h':Heap}{x e:Addr}{o':HO}
theorem iI.write (ok:iI P w H h) (F:E4 (H x)) (O:e=x\/H e=some (.own x)) (k:∀b u,b≠e->h.get? b=some u->h'.get? b=some u) (S:∃u,h'.get? e=some u)
  (new:bT P w (upd H x o') h' x o'):iI P w (upd H x o') h':=λb u q=>by
 have N:∀c y,H c=some (.own y)->c≠x:=λc y r z=>(by subst z;rw[r]at F;exact F);have R:∀c xs,H c=some (.tup xs)->c≠x:=λc xs r z=>(by subst z;rw[r]at F;exact F);by_cases I:b=x
 .subst I;rw[ae]at q;cases q;exact new
 .rw[ai I]at q;by_cases J:b=e
  .have L:H b=some (.own x):=by
    rcases O with z|z
    .exact absurd (J.trans z) I
    .rw[J];exact z
   rw[q]at L;cases L;obtain⟨v,U⟩:=S;exact⟨v,by rw[J];exact U⟩
  .refine(ok b u q).oO (λc v G r=>k c v ?_ r) (λc r=>by rw[ai (N c b r)];exact r) λc xs r=>(by rw[ai (R c xs r)];exact r);rcases G with rfl|G
   .exact J
   .rintro rfl;rcases O with z|z
    .exact N c b G z
    .rw[G]at z;cases z;exact I rfl
end
structure Un (fs ex:List Addr) (H H':Hp) (h h':Heap):Prop where
 keep:∀b o,h.get? b=some o->H b=none->b∉fs->b∉ex->h'.get? b=some o
 slot:∀b o,h.get? b=some o->H b=none->b∈fs->b∉ex->∃sl,h'.get? b=some { o with slots:=sl }
 free:∀b o,h.get? b=some o->H b=none->b∉ex->H' b=none
 there:∀b o,h.get? b=some o->b∉ex->∃o',h'.get? b=some o'
 pW:∀b xs,H b=some (.tup xs)->H' b=some (.tup xs)
 mN:∀b o u,H b=some (.frz o u)->H' b=some (.frz o u)
 pY:∀b ps,H b=some (.tbl ps)->∃more,H' b=some (.tbl (ps++more))
section
variable {fs fs' ex ex':List Addr}{H H1 H2:Hp}{h h1 h2 h':Heap}{a x e:Addr}{o:HO}
theorem Un.any (u:Un fs ex H H1 h h1) {b:Addr}{F:Obj}(q:h.get? b=some F) (n:H b=none) (I:b∉ex):∃sl,h1.get? b=some { F with slots:=sl }:=by
 by_cases G:b∈fs
 .exact u.slot b F q n G I
 .exact⟨F.slots,u.keep b F q n G I⟩
theorem Un.kept (k:∀b u,h.get? b=some u->h'.get? b=some u):Un fs ex H H h h' :=
 ⟨λb F q _ _ _=>k b F q,λb F q _ _ _=>⟨F.slots,k b F q⟩,λ_ _ _ n _=>n,λb F q _=>⟨F,k b F q⟩,λ_ _ q=>q,λ_ _ _ q=>q,λ_ ps q=>⟨#[],by rw[q];simp⟩⟩
theorem Un.refl:Un fs ex H H h h:=Un.kept λ_ _ q=>q
theorem Un.laid (k:∀b u,h.get? b=some u->h'.get? b=some u) (G:h.objs.size<=a) (F:H a=none):Un fs ex H (upd H a o) h h' where
 keep:=λb u q _ _ _=>k b u q
 slot:=λb u q _ _ _=>⟨u.slots,k b u q⟩
 free:=λb u q n _=>by rw[ai (ne_of_lt (lt_of_lt_of_le (Heap.lt_size q) G))];exact n
 there:=λb u q _=>⟨u,k b u q⟩
 pW:=λb xs q=>by rw[ai (aq q F)];exact q
 mN:=λb u xs q=>by rw[ai (aq q F)];exact q
 pY:=λb ps q=>⟨#[],by rw[ai (aq q F),q];simp⟩
theorem Un.write (F:E4 (H x)) (O:e=x\/H e=some (.own x)) (k:∀b u,b≠e->h.get? b=some u->h'.get? b=some u) (N:∃u,h'.get? e=some u):Un fs ex H (upd H x o) h h':=by
 have J:∀b,H b=none->b≠x:=λb n z=>(by subst z;rw[n]at F;exact F);have I:∀b,H b=none->b≠e:=λb n z=>by
  subst z;rcases O with r|r
  .exact J b n r
  .rw[n]at r;cases r
 have G:∀b u,H b=some u->¬ E4 (some u)->b≠x:=λb u q nm z=>(by subst z;rw[q]at F;exact nm F);refine⟨λb u q n _ _=>k b u (I b n) q,λb u q n _ _=>⟨u.slots,k b u (I b n) q⟩,λb u q n _=>by rw[ai (J b n)];exact n,λb u q _=>?_,
  λb xs q=>by rw[ai (G b _ q λz=>z)];exact q,λb u xs q=>by rw[ai (G b _ q λz=>z)];exact q,λb ps q=>⟨#[],by rw[ai (G b _ q λz=>z),q];simp⟩⟩
 by_cases L:b=e
 .subst L;exact N
 .exact⟨u,k b u L q⟩
end
noncomputable def Fg (h:Heap) (H:Hp):List Addr:=(List.range h.objs.size).filter λa=>(H a).isSome
noncomputable def nX (h:Heap) (H:Hp):Heap:=PySem.W.hideAll h (Fg h H)
theorem wL (h:Heap) (H:Hp):(nX h H).objs.size=h.objs.size:=PySem.W.hideAll_size _ _
theorem xJ {h:Heap}{H:Hp}{b:Addr}{o:Obj}(e:h.get? b=some o) (n:H b=none):(nX h H).get? b=some o :=
 PySem.W.hideAll_get _ e λF=>by
  have q:(H b).isSome=true:=(List.mem_filter.mp F).2;rw[n]at q;simp at q
theorem zU {h:Heap}{H:Hp}{b:Addr}{o:Obj}(e:(nX h H).get? b=some o):h.get? b=some o/\H b=none:=by
 have F:h.get? b=some o:=PySem.W.of_hideAll (Fg h H) e;refine⟨F,?_⟩;cases q:H b with
 |none=>rfl
 |some x =>
  have G:b∈Fg h H:=List.mem_filter.mpr ⟨List.mem_range.mpr (Heap.lt_size F),by simp[q]⟩;have z:(nX h H).get? b=none:=PySem.W.hideAll_none (Fg h H) G;rw[z]at e;cases e
structure Mod (K:PySem.W.Frag) (mg:Str->Option Value) (base:Heap):Prop where
 DH:K.In base
 glob:base.Ns mainGlobals mg
 blt:∃mb,base.Ns builtinsNs mb/\∀x:Str,x ≠ "__name__" -> mb x=bootBuiltins x
 nolimit:base.NoLimit
structure Cx where
 prog:Program
 w:World
 K:PySem.W.Frag
 mg:Str->Option Value
 base:Heap
 A:Around
 N:List Str
 s₀:Shared
 H₀:Hp
 env:Env
 outer:List Env
 stack:List Env
 ex:List Addr
 fn:Str->Bool
 calm:Bool
 pn:List (Addr×Obj)
 xe:Value->Shared->Prop
noncomputable def xm (l:List Env):List Addr:=l.filterMap (·.frame)
noncomputable abbrev Cx.fs (X:Cx):List Addr:=xm X.outer
noncomputable def Fo (F:Scope) (x:Str):Prop:=F.names.lookup x=some .local\/F.names.lookup x=some .cell\/F.names.lookup x=some .free
noncomputable def Loc (F:Scope) (x:Str):Prop:=F.names.lookup x=some .local\/F.names.lookup x=some .cell
noncomputable def Look (env:Env) (h:Heap) (m:Str->Option Value) (x:Str) (u:Value):Prop :=
 (env.kindOf x=some .local/\m x=some u)\/((env.kindOf x=some .cell\/env.kindOf x=some .free)/\∃c,env.cells.lookup x=some c/\h.IsCell c (some u))
structure Cx.Ok (X:Cx):Prop where
 mod:Mod X.K X.mg X.base
 kind:X.env.scope.kind=.function
 glob:X.env.globals=mainGlobals
 blt:X.env.builtins=builtinsNs
 above:X.s₀.heap.objs.size<=X.env.locals
 inj:∀x y c,X.env.cells.lookup x=some c->X.env.cells.lookup y=some c->x=y
 has:∀x,(X.env.kindOf x=some .cell\/X.env.kindOf x=some .free)->∃c,X.env.cells.lookup x=some c
 Dt:∀x c,X.fn x=true->X.env.cells.lookup x=some c->X.s₀.heap.objs.size<=c
 hd:X.calm=true->X.A.handled=none
 frames:X.A.frames=some X.stack
 Eh:X.stack=X.outer\/(X.stack=X.env::X.outer/\X.env.frame=some X.env.locals)
 Gi:∀b∈X.ex,b≠X.env.locals/\∀x c,X.env.cells.lookup x=some c->c≠b
 bs:∀b o,X.base.get? b=some o->X.s₀.heap.get? b=some o/\X.H₀ b=none
 zO:X.base.objs.size<=X.s₀.heap.objs.size
 wZ:∀b o,X.base.get? b=some o->b∉X.ex
 vS:∀b∈X.ex,b∉X.fs
 kj:X.s₀.heap.FunFrames X.base X.outer
 BA:∀b∈X.fs,X.H₀ b=none
structure Inv (X:Cx) (pins:List (Addr×Obj)) (σ:List (Option V)) (H:Hp) (s:Shared):Prop where
 ok:X.Ok
 os:s.os=X.s₀.os
 bare:AllBare s.gens
 base:Un X.fs X.ex X.H₀ H X.s₀.heap s.heap
 loc:∃m,s.heap.Ns X.env.locals m/\∀(i:Nat) (x:Str) (v:V),X.N[i]?=some x->σ[i]?=some (some v)->Fo X.env.scope x->∃u,RelV v u/\Look X.env s.heap m x u
 cell:∀x c,X.env.cells.lookup x=some c->∃v,s.heap.IsCell c v
 free:H X.env.locals=none
 gv:∀x c,X.env.cells.lookup x=some c->H c=none
 pin:∀p∈X.pn++pins,s.heap.get? p.1=some p.2/\H p.1=none/\p.1≠X.env.locals/\p.1∉X.fs/\∀v,p.2.data≠.cell v
 bG:iI X.prog X.w H s.heap
 len:σ.length=X.N.length
section
variable {X:Cx}{pins:List (Addr×Obj)}{σ:List (Option V)}{H H':Hp}{s:Shared}{h':Heap}
theorem Cx.Ok.Gr (ok:X.Ok) {b:Addr}{o:Obj}(e:X.base.get? b=some o):b∉X.fs:=λF=>by
 have:=(ok.kj.mem F).1;rw[e]at this;cases this
theorem Inv.bs (I:Inv X pins σ H s):∀b o,X.base.get? b=some o->s.heap.get? b=some o/\H b=none:=λb o e =>
 ⟨I.base.keep b o (I.ok.bs b o e).1 (I.ok.bs b o e).2 (I.ok.Gr e) (I.ok.wZ b o e),I.base.free b o (I.ok.bs b o e).1 (I.ok.bs b o e).2 (I.ok.wZ b o e)⟩
theorem Inv.bk (I:Inv X pins σ H s):∀b o,X.base.get? b=some o->s.heap.get? b=some o:=λb o e=>(I.bs b o e).1
theorem Inv.mod (I:Inv X pins σ H s):Mod X.K X.mg X.base:=I.ok.mod
theorem Inv.jM (I:Inv X pins σ H s):X.K.In s.heap:=I.ok.mod.DH.keeps I.bk
theorem Inv.lt (I:Inv X pins σ H s):X.env.locals<s.heap.objs.size:=let ⟨_,F,_⟩:=I.loc;F.lt
theorem Inv.sz (I:Inv X pins σ H s):X.s₀.heap.objs.size<=s.heap.objs.size:=le_trans I.ok.above (le_of_lt I.lt)
theorem Inv.EZ (I:Inv X pins σ H s) {a:Addr}(h:s.heap.objs.size<=a):a∉X.fs:=λF=>by
 obtain⟨_,o,G,_⟩:=I.ok.kj.mem F;exact absurd (lt_of_lt_of_le (Heap.lt_size G) (le_trans I.sz h)) (lt_irrefl _)
theorem Inv.CU (I:Inv X pins σ H s):∀x c,X.env.cells.lookup x=some c->c≠X.env.locals:=λx c e z=>by
 obtain⟨v,o,F,hd⟩:=I.cell x c e;obtain⟨m,⟨o',es,ep,G,J,_⟩,_⟩:=I.loc;rw[z,G]at F;cases F;rw[J]at hd;cases hd
theorem Inv.kj (I:Inv X pins σ H s):s.heap.FunFrames X.base X.outer:=by
 have all:∀(l:List Env),(∀b∈xm l,b∈X.fs)->X.s₀.heap.FunFrames X.base l->s.heap.FunFrames X.base l:=by
  intro l
  induction l with
  |nil=>intro _ _;trivial
  |cons env r S =>
   intro hs O;obtain⟨Y,⟨L,o,F,U,R,hd⟩,N⟩:=O;have J:L∈X.fs:=hs L (by unfold xm;rw[List.filterMap_cons,F];exact mem_cons_self);obtain⟨sl,e⟩:=I.base.slot L o R (I.ok.BA L J) J λz=>I.ok.vS L z J;exact⟨Y,⟨L,_,F,U,e,hd⟩,S (λb G=>hs b (by unfold xm;rw[List.filterMap_cons,F];exact mem_cons_of_mem _ G)) N⟩
 exact all X.outer (λ_ G=>G) I.ok.kj
theorem Inv.stack (I:Inv X pins σ H s):s.heap.FunFrames X.base X.stack:=by
 rcases I.ok.Eh with e|⟨e,F⟩
 .rw[e];exact I.kj
 .rw[e];obtain⟨m,G,_⟩:=I.loc;refine .cons (by rw[I.ok.kind];decide) F G ?_ I.kj;exact Heap.get?_none_of_le (le_trans I.ok.zO I.ok.above)
theorem Inv.pL (I:Inv X pins σ H s):∀b∈xm X.stack,b∈X.env.locals::X.fs:=λb F=>by
 rcases I.ok.Eh with e|⟨e,G⟩
 .rw[e]at F;exact mem_cons_of_mem _ F
 .rw[e]at F;unfold xm at F;rw[List.filterMap_cons,G]at F;exact F
theorem Inv.vv (I:Inv X pins σ H s):∀b∈xm X.stack,H b=none:=λb F=>by
 rcases List.mem_cons.mp (I.pL b F)with e|F
 .rw[e];exact I.free
 .obtain⟨_,o,G,_⟩:=I.ok.kj.mem F;exact I.base.free b o G (I.ok.BA b F) λz=>I.ok.vS b z F
theorem Inv.step {g':Array GenState}{t':Nat}{d':Drawn}{ch:List Addr}(I:Inv X pins σ H s)
  (R:∀b∈ch,(b∈X.ex\/X.s₀.heap.objs.size<=b)/\b≠X.env.locals/\(∀x c,X.env.cells.lookup x=some c->c≠b)/\∀p∈X.pn++pins,p.1≠b)
  (keep:∀b o,b≠X.env.locals->b∉X.fs->b∉ch->s.heap.get? b=some o->H b=none->h'.get? b=some o)
  (slot:∀b o,b≠X.env.locals->b∈X.fs->b∉ch->s.heap.get? b=some o->H b=none->∃sl,h'.get? b=some { o with slots:=sl }) (free:∀b o,b∉ch->s.heap.get? b=some o->H b=none->H' b=none)
  (there:∀b o,b∉ch->s.heap.get? b=some o->∃o',h'.get? b=some o')
  (pW:∀b xs,H b=some (.tup xs)->H' b=some (.tup xs)) (mN:∀b o u,H b=some (.frz o u)->H' b=some (.frz o u)) (pY:∀b ps,H b=some (.tbl ps)->∃am,H' b=some (.tbl (ps++am)))
  (ns:∀m,s.heap.Ns X.env.locals m->h'.Ns X.env.locals m) (bG:iI X.prog X.w H' h') (hg:AllBare g') :
  Inv X pins σ H' { s with heap:=h',gens:=g',drawn:=d',toks:=t' }:=by
 have ac:∀b o,X.s₀.heap.get? b=some o->b≠X.env.locals:=λb o e=>ne_of_lt (lt_of_lt_of_le (Heap.lt_size e) I.ok.above);have S:∀b o,X.s₀.heap.get? b=some o->b∉X.ex->b∉ch:=λb o e F J=>by
  rcases(R b J).1 with z|z
  .exact F z
  .exact absurd (lt_of_lt_of_le (Heap.lt_size e) z) (lt_irrefl _)
 have ab:∀x c,X.env.cells.lookup x=some c->∀v,s.heap.IsCell c v->h'.IsCell c v:=λx c e v ad=>by
  obtain⟨o,L,hd⟩:=ad;have O:c∉ch:=λz=>(R c z).2.2.1 x c e rfl;by_cases hc:c∈X.fs
  .obtain⟨sl,q⟩:=slot c o (I.CU x c e) hc O L (I.gv x c e);exact⟨_,q,hd⟩
  .exact⟨o,keep c o (I.CU x c e) hc O L (I.gv x c e),hd⟩
 refine⟨I.ok,I.os,hg,⟨λb o e n J F=>?_,λb o e n J F=>?_,λb o e n F=>?_,λb o e F=>?_,λb xs e=>pW b xs (I.base.pW b xs e),λb o xs e=>mN b o xs (I.base.mN b o xs e),λb ps e=>?_⟩,?_,λx c e=>?_,?_,λx c e=>?_,λp Y=>?_,bG,I.len⟩
 .exact keep b o (ac b o e) J (S b o e F) (I.base.keep b o e n J F) (I.base.free b o e n F)
 .obtain⟨sl,G⟩:=I.base.slot b o e n J F;obtain⟨ap,N⟩:=slot b _ (ac b o e) J (S b o e F) G (I.base.free b o e n F);exact⟨ap,N⟩
 .obtain⟨o',G⟩:=I.base.there b o e F;exact free b o' (S b o e F) G (I.base.free b o e n F)
 .obtain⟨o',G⟩:=I.base.there b o e F;exact there b o' (S b o e F) G
 .obtain⟨m1,G⟩:=I.base.pY b ps e;obtain⟨m2,N⟩:=pY b _ G;exact⟨m1++m2,by rw[N,Array.append_assoc]⟩
 .obtain⟨m,hn,hl⟩:=I.loc;refine⟨m,ns m hn,λi x v G N e3=>?_⟩;obtain⟨u,r,l⟩:=hl i x v G N e3;refine⟨u,r,?_⟩;rcases l with l|⟨k,c,e,z⟩
  .exact .inl l
  .exact .inr ⟨k,c,e,ab x c e _ z⟩
 .obtain⟨v,z⟩:=I.cell x c e;exact⟨v,ab x c e v z⟩
 .obtain⟨m,⟨o,_,_,L,_⟩,_⟩:=I.loc;exact free _ o (λz=>(R _ z).2.1 rfl) L I.free
 .obtain⟨v,o,L,hd⟩:=I.cell x c e;exact free c o (λz=>(R c z).2.2.1 x c e rfl) L (I.gv x c e)
 .obtain⟨e,n,U,nf,d⟩:=I.pin p Y;have O:p.1∉ch:=λz=>(R p.1 z).2.2.2 p Y rfl;exact⟨keep p.1 p.2 U nf O e n,free p.1 p.2 O e n,U,nf,d⟩
theorem Inv.un {t':Nat}(I:Inv X pins σ H s) (u:Un X.fs [] H H' s.heap h') (S:iI X.prog X.w H' h'):Inv X pins σ H' { s with heap:=h',toks:=t' }:=by
 obtain⟨m,⟨o,es,ep,G,r⟩,_⟩:=id I.loc;obtain⟨sl,U⟩:=u.any G I.free (by simp);exact I.step (g':=s.gens) (d':=s.drawn) (ch:=[]) (λ_ z=>nomatch z) (λb o _ F _ e n=>u.keep b o e n F (by simp)) (λb o _ F _ e n=>u.slot b o e n F (by simp)) (λb o _ e n=>u.free b o e n (by simp)) (λb o _ e=>u.there b o e (by simp)) u.pW u.mN u.pY (λY R=>by
  obtain⟨o',L,N,J,O⟩:=R;rw[G]at J;cases J;exact⟨_,L,N,U,O⟩) S I.bare
theorem Inv.call {g':Array GenState}{t':Nat}{d':Drawn}{ch:List Addr}(I:Inv X pins σ H s) (u:Un (xm X.stack) ch H H' s.heap h') (bG:iI X.prog X.w H' h') (hg:AllBare g')
  (N:∀b∈ch,(b∈X.ex\/X.s₀.heap.objs.size<=b)/\b≠X.env.locals/\(∀x c,X.env.cells.lookup x=some c->c≠b)/\∀p∈X.pn++pins,p.1≠b) :
  Inv X pins σ H' { s with heap:=h',gens:=g',drawn:=d',toks:=t' }:=by
 obtain⟨m,⟨o,es,ep,J,r⟩,_⟩:=id I.loc;obtain⟨sl,G⟩:=u.any J I.free λz=>(N _ z).2.1 rfl;exact I.step (ch:=ch) N (λb o G Y F e n=>u.keep b o e n (λz=>(List.mem_cons.mp (I.pL b z)).elim G Y) F) (λb o _ _ F e n=>u.any e n F) (λb o F e n=>u.free b o e n F) (λb o F e=>u.there b o e F) u.pW u.mN u.pY (λm' R=>by
  obtain⟨o',O,U,L,S⟩:=R;rw[J]at L;cases L;exact⟨_,O,U,G,S⟩) bG hg
theorem Inv.turned {t':Nat}{F:Addr}(I:Inv X pins σ H s) (k:∀b o,b≠F->s.heap.get? b=some o->h'.get? b=some o) (O:H F=none) (L:F≠X.env.locals)
  (h1:F∈X.ex\/X.s₀.heap.objs.size<=F) (h2:∀x c,X.env.cells.lookup x=some c->c≠F) (U:∀p∈X.pn++pins,p.1≠F):Inv X pins σ H { s with heap:=h',toks:=t' }:=by
 have J:∀b u,H b=some u->b≠F:=λb u e z=>(by rw[z,O]at e;cases e);refine I.step (g':=s.gens) (d':=s.drawn) (ch:=[F]) (λb R=>?_) (λb o _ _ G e _=>k b o (λz=>G (by simp[z])) e) (λb o _ _ G e _=>⟨o.slots,k b o (λz=>G (by simp[z])) e⟩) (λ_ _ _ _ n=>n)
  (λb o G e=>⟨o,k b o (λz=>G (by simp[z])) e⟩) (λ_ _ e=>e) (λ_ _ _ e=>e) (λb ps e=>⟨#[],by rw[e];simp⟩) (λm S=>?_) (λb u e=>?_) I.bare
 .have e:b=F:=(by simpa using R);subst e;exact⟨h1,L,h2,U⟩
 .obtain⟨o,es,ep,N,r⟩:=S;exact⟨o,es,ep,k _ o (Ne.symm L) N,r⟩
 .refine(I.bG b u e).oO (λc v G q=>k c v ?_ q) (λ_ q=>q) λ_ _ q=>q;rcases G with z|z
  .rw[z];exact J b u e
  .exact J c _ z
theorem Inv.tok (I:Inv X pins σ H s) (t:Nat):Inv X pins σ H { s with toks:=t }:=I.un (h':=s.heap) (t':=t) Un.refl I.bG
theorem Inv.kept {t':Nat}(I:Inv X pins σ H s) (k:∀b u,s.heap.get? b=some u->h'.get? b=some u):Inv X pins σ H { s with heap:=h',toks:=t' }:=I.un (Un.kept k) (I.bG.kept k)
theorem Inv.laid {a:Addr}{o:HO}{t':Nat}(I:Inv X pins σ H s) (k:∀b u,s.heap.get? b=some u->h'.get? b=some u) (F:s.heap.objs.size<=a) (new:bT X.prog X.w (upd H a o) h' a o) :
  Inv X pins σ (upd H a o) { s with heap:=h',toks:=t' }:=I.un (Un.laid k F (I.bG.fresh F)) (I.bG.laid k F new)
theorem Inv.write {x e:Addr}{o:HO}{t':Nat}(I:Inv X pins σ H s) (F:E4 (H x)) (G:e=x\/H e=some (.own x)) (k:∀b u,b≠e->s.heap.get? b=some u->h'.get? b=some u) (J:∃u,h'.get? e=some u)
  (new:bT X.prog X.w (upd H x o) h' x o):Inv X pins σ (upd H x o) { s with heap:=h',toks:=t' }:=I.un (Un.write F G k J) (I.bG.write F G k J new)
theorem Inv.kE {F:List (Addr×Obj)}(I:Inv X pins σ H s) (h:∀p∈F,s.heap.get? p.1=some p.2/\H p.1=none/\p.1≠X.env.locals/\p.1∉X.fs/\∀v,p.2.data≠.cell v):Inv X F σ H s :=
 ⟨I.ok,I.os,I.bare,I.base,I.loc,I.cell,I.free,I.gv,λp G=>(List.mem_append.mp G).elim (λz=>I.pin p (mem_append_left _ z)) (h p),I.bG,I.len⟩
theorem qQ {N:List Str}(G:N.Nodup) {i j:Nat}{x:Str}(a:N[i]?=some x) (b:N[j]?=some x):i=j:=by
 obtain⟨h1,I⟩:=List.getElem?_eq_some_iff.mp a;obtain⟨h2,F⟩:=List.getElem?_eq_some_iff.mp b;exact(List.getElem_inj G).mp (I.trans F.symm)
theorem mT {M:Model}{A:Around}{E:Value->Shared->Prop}{i:Nat}{x:Str}{v:V}{u:Value}{Q:Unit->Shared->Prop}(I:Inv X pins σ H s) (hN:X.N.Nodup) (hi:X.N[i]?=some x) (J:Loc X.env.scope x) (r:RelV v u)
  (h:∀s',Inv X pins (σ.set i (some v)) H s'->(∃a,Heap.SameBut a s.heap s'.heap/\(a=X.env.locals\/X.env.cells.lookup x=some a))->Q () s') (hf:X.fn x=true\/X.env.scope.names.lookup x=some .local:=by first|exact .inl rfl|exact .inr rfl|assumption):wpAny M A (storeName X.env x u) Q E s:=by
 obtain⟨m,hn,hl⟩:=id I.loc;have a0:(X.env.scope.kind == .class||(X.env.scope.kind == .module&&X.env.locals != X.env.globals))=false:=(by rw[I.ok.kind];rfl);have am:i<σ.length:=(by rw[I.len];exact(List.getElem?_eq_some_iff.mp hi).1);have CU:=I.CU;have as:∀{a:Addr}{h':Heap},(∃o,s.heap.get? a=some o/\H a=none)->Heap.SameBut a s.heap h'->iI X.prog X.w H h':=λ{a h'} ha hs b ob e=>by
  obtain⟨_,_,ap⟩:=ha;refine(I.bG b ob e).oO (λc w' G q=>(hs.2 c ?_).trans q) (λ_ q=>q) λ_ _ q=>q;rintro rfl;rcases G with rfl|G
  .rw[ap]at e;cases e
  .rw[ap]at G;cases G
 rcases J with O|O
 .refine wpAny_storeName_local O hn (λh' a1 hs=>?_) a0;obtain⟨oL,_,_,aT,_⟩:=id hn;refine h _ ⟨I.ok,I.os,I.bare,⟨λb o e n S J=>?_,λb o e n S J=>?_,I.base.free,λb o e J=>?_,I.base.pW,I.base.mN,I.base.pY⟩,⟨_,a1,λj y v' F L e3=>?_⟩,λy c e=>?_,I.free,I.gv,λp hp=>?_,as ⟨oL,aT,I.free⟩ hs,by simpa using I.len⟩ ⟨_,hs,.inl rfl⟩
  .exact(hs.2 b (ne_of_lt (lt_of_lt_of_le (Heap.lt_size e) I.ok.above))).trans (I.base.keep b o e n S J)
  .obtain⟨sl,F⟩:=I.base.slot b o e n S J;exact⟨sl,(hs.2 b (ne_of_lt (lt_of_lt_of_le (Heap.lt_size e) I.ok.above))).trans F⟩
  .obtain⟨o',F⟩:=I.base.there b o e J;exact⟨o',(hs.2 b (ne_of_lt (lt_of_lt_of_le (Heap.lt_size e) I.ok.above))).trans F⟩
  .by_cases R:j=i
   .subst R;rw[hi]at F;cases F;rw[getElem?_set_self am]at L;cases L;exact⟨u,r,.inl ⟨O,by simp⟩⟩
   .rw[getElem?_set_ne (Ne.symm R)]at L;obtain⟨u',r',q⟩:=hl j y v' F L e3;refine⟨u',r',?_⟩;rcases q with⟨k,e⟩|⟨k,c,e,z⟩
    .refine .inl ⟨k,?_⟩;have:y≠x:=λe=>R (qQ hN F (e▸hi));simp[this,e]
    .exact .inr ⟨k,c,e,z.sameBut hs (CU y c e)⟩
  .obtain⟨w',z⟩:=I.cell y c e;exact⟨w',z.sameBut hs (CU y c e)⟩
  .obtain⟨e,n,Y,nf,d⟩:=I.pin p hp;exact⟨(hs.2 p.1 Y).trans e,n,Y,nf,d⟩
 .have ab:X.fn x=true:=by
   rcases hf with z|z
   .exact z
   .rw[z]at O;cases O
  obtain⟨c,G⟩:=I.ok.has x (.inl O);obtain⟨w',z⟩:=I.cell x c G;refine wpAny_storeName_cell I.ok.kind O G z (λh' aB hs=>?_);obtain⟨oc,ad,a2⟩:=id z;refine h { s with heap:=h' } ⟨I.ok,I.os,I.bare,⟨λb o e n S J=>?_,λb o e n S J=>?_,I.base.free,λb o e J=>?_,I.base.pW,I.base.mN,I.base.pY⟩,⟨m,hn.sameBut hs (Ne.symm (CU x c G)),λj y v' F L e3=>?_⟩,λy U e=>?_,I.free,I.gv,λp hp=>?_,as ⟨oc,ad,I.gv x c G⟩ hs,by simpa using I.len⟩ ⟨c,hs,.inr G⟩
  .exact(hs.2 b (ne_of_lt (lt_of_lt_of_le (Heap.lt_size e) (I.ok.Dt x c ab G)))).trans (I.base.keep b o e n S J)
  .obtain⟨sl,F⟩:=I.base.slot b o e n S J;exact⟨sl,(hs.2 b (ne_of_lt (lt_of_lt_of_le (Heap.lt_size e) (I.ok.Dt x c ab G)))).trans F⟩
  .obtain⟨o',F⟩:=I.base.there b o e J;exact⟨o',(hs.2 b (ne_of_lt (lt_of_lt_of_le (Heap.lt_size e) (I.ok.Dt x c ab G)))).trans F⟩
  .by_cases R:j=i
   .subst R;rw[hi]at F;cases F;rw[getElem?_set_self am]at L;cases L;exact⟨u,r,.inr ⟨.inl O,c,G,aB⟩⟩
   .rw[getElem?_set_ne (Ne.symm R)]at L;obtain⟨u',r',q⟩:=hl j y v' F L e3;refine⟨u',r',?_⟩;rcases q with q|⟨k,U,e,z'⟩
    .exact .inl q
    .refine .inr ⟨k,U,e,z'.sameBut hs ?_⟩;rintro rfl;exact R (qQ hN F (I.ok.inj _ _ _ e G▸hi))
  .by_cases ac:U=c
   .subst ac;exact⟨_,aB⟩
   .obtain⟨w2,z2⟩:=I.cell y U e;exact⟨w2,z2.sameBut hs ac⟩
  .obtain⟨e,n,Y,nf,d⟩:=I.pin p hp;refine⟨(hs.2 p.1 ?_).trans e,n,Y,nf,d⟩;intro q;rw[q,ad]at e;have q':oc=p.2:=Option.some.inj e;exact d w' (by rw[<-q'];exact a2)
theorem gE {M:Model}{A:Around}{E:Value->Shared->Prop}{i:Nat}{x:Str}{v:V}{u:Value}{Q:Unit->Shared->Prop}(I:Inv X pins σ H s) (L:X.N.Nodup) (hi:X.N[i]?=some x) (F:Loc X.env.scope x) (r:RelV v u)
  (h:∀s',Inv X pins (σ.set i (some v)) H s'->Q () s') (G:X.fn x=true\/X.env.scope.names.lookup x=some .local:=by first|exact .inl rfl|exact .inr rfl|assumption):wpAny M A (storeName X.env x u) Q E s :=
 mT I L hi F r (λs' J _=>h s' J) G
theorem Inv.Em {s':Shared}{ch:List Addr}(I:Inv X pins σ H s) (G:s'.os=s.os) (u:Un (xm X.stack) ch H H' s.heap s'.heap) (J:iI X.prog X.w H' s'.heap) (hg:AllBare s'.gens)
  (F:∀b∈ch,(b∈X.ex\/X.s₀.heap.objs.size<=b)/\b≠X.env.locals/\(∀x c,X.env.cells.lookup x=some c->c≠b)/\∀p∈X.pn++pins,p.1≠b):Inv X pins σ H' s':=by
 obtain⟨h',g',d',t',o'⟩:=s';have e:o'=s.os:=G;subst e;exact I.call (g':=g') (t':=t') (d':=d') u J hg F
end
noncomputable abbrev XK:=Value->Option Addr->Hp->Prop
noncomputable abbrev St:=List (Option V)
noncomputable abbrev VK:=V->Hp->Prop
noncomputable abbrev TE:=St->Hp->VK->Prop
noncomputable abbrev TT:=St->Hp->(Bool->Hp->Prop)->Prop
noncomputable abbrev TA:=St->Hp->(List V->Hp->Prop)->Prop
structure Ends where
 nx:St->Hp->Prop
 rt:VK
 bk:St->Hp->Prop:=λ_ _=>False
 ct:St->Hp->Prop:=λ_ _=>False
noncomputable abbrev TS:=Ends->St->Hp->Prop
noncomputable def EP (X:Cx) (pins:List (Addr×Obj)) (σ:St) (Q:VK) (u:Value) (s':Shared):Prop:=∃v H',Inv X pins σ H' s'/\RelV v u/\Q v H'
noncomputable def TP (X:Cx) (pins:List (Addr×Obj)) (σ:St) (Q:Bool->Hp->Prop) (b:Bool) (s':Shared):Prop:=∃H',Inv X pins σ H' s'/\Q b H'
noncomputable def AP (X:Cx) (pins:List (Addr×Obj)) (σ:St) (Q:List V->Hp->Prop) (us:List Value) (s':Shared):Prop:=∃vs H',Inv X pins σ H' s'/\Vals vs us/\Q vs H'
noncomputable def SP (X:Cx) (pins:List (Addr×Obj)) (D:Ends) (f:Flow) (s':Shared):Prop :=
 match f with
 |.next=>∃F H',Inv X pins F H' s'/\D.nx F H'
 |.brk=>∃F H',Inv X pins F H' s'/\D.bk F H'
 |.cont=>∃F H',Inv X pins F H' s'/\D.ct F H'
 |.ret u=>∃v F H',Inv X pins F H' s'/\RelV v u/\D.rt v H'
noncomputable def PE (X:Cx) (e:Expr) (t:TE):Prop :=
 ∀(pins:List (Addr×Obj)) (s:Shared) (σ:St) (H:Hp) (Q:VK),Inv X pins σ H s->t σ H Q->wpAny (model X.prog X.w) X.A (eval e X.env) (EP X pins σ Q) X.xe s
noncomputable def PT (X:Cx) (e:Expr) (t:TT):Prop :=
 ∀(pins:List (Addr×Obj)) (s:Shared) (σ:St) (H:Hp) (Q:Bool->Hp->Prop),Inv X pins σ H s->t σ H Q->wpAny (model X.prog X.w) X.A (isTrue e X.env (eval e X.env)) (TP X pins σ Q) X.xe s
noncomputable def PW (X:Cx) (e:Expr) (t:TT):Prop :=
 ∀(F:Sem Value) (pins:List (Addr×Obj)) (s:Shared) (σ:St) (H:Hp) (Q:Bool->Hp->Prop),Inv X pins σ H s->t σ H Q->wpAny (model X.prog X.w) X.A (isTrue e X.env F) (TP X pins σ Q) X.xe s
theorem PW.pt {X:Cx}{e:Expr}{t:TT}(h:PW X e t):PT X e t:=h _
noncomputable def PA (X:Cx) (es:List Expr) (t:TA):Prop :=
 ∀(pos:Pos) (pins:List (Addr×Obj)) (s:Shared) (σ:St) (H:Hp) (Q:List V->Hp->Prop),Inv X pins σ H s->t σ H Q->wpAny (model X.prog X.w) X.A (spliced (backTo pos (starEach es X.env))) (AP X pins σ Q) X.xe s
noncomputable def PS (X:Cx) (st:Stmt) (t:TS):Prop :=
 ∀(pins:List (Addr×Obj)) (s:Shared) (σ:St) (H:Hp) (D:Ends),Inv X pins σ H s->t D σ H->wpAny (model X.prog X.w) X.A (exec st X.env) (SP X pins D) X.xe s
noncomputable def uX (X:Cx) (st:List Stmt) (t:TS):Prop :=
 ∀(pins:List (Addr×Obj)) (s:Shared) (σ:St) (H:Hp) (D:Ends),Inv X pins σ H s->t D σ H->wpAny (model X.prog X.w) X.A (execs st X.env) (SP X pins D) X.xe s
theorem bP {α:Type}{t:Sem α}{Q F:α->Shared->Prop}{M:Model}{A:Around}{E:Value->Shared->Prop}{s:Shared}(h:wpAny M A t Q E s) (G:∀a s,Q a s->F a s):wpAny M A t F E s:=wpAny_mono h G λ_ _ x=>x
section
variable {X:Cx}
inductive Ag (i:Nat) (σ:St) (H:Hp) (Q:VK):Prop
 |mk (v:_) (_:σ[i]?=some (some v)) (_:Q v H):Ag i σ H Q
noncomputable def tC (v:V):TE:=λ_ H Q=>Q v H
theorem BO {i:Nat}{x:Str}{pos:Pos}(U:X.N[i]?=some x) (hv:Fo X.env.scope x) (hd:(x==("__debug__" : Str))=false:=by decide) (Y:(x==("__classdict__" : Str))=false:=by decide):PE X (.Name x pos) (Ag i):=by
 intro pins s σ H Q I h;obtain⟨v,e,h⟩:=h;obtain⟨m,R,O⟩:=I.loc;obtain⟨u,r,l⟩:=O i x v U e hv;have G:EP X pins σ Q u s:=⟨v,H,I,r,h⟩;rcases l with⟨F,S⟩|⟨F,c,J,L⟩
 .exact wpAny_Name (wpAny_loadName_local I.ok.kind F R S G) hd
 .rcases F with F|F
  .exact wpAny_Name (wpAny_loadName_cell I.ok.kind F J L G) hd
  .exact wpAny_Name (wpAny_loadName_free I.ok.kind F J L G Y) hd
theorem ak {i j pos}:PE X (.Constant (.int i) j pos) (tC (.int i)):=λ_ _ _ H _ I h=>wpAny_Constant_int ⟨.int i,H,I.tok _,⟨_,rfl⟩,h⟩
theorem nD {b j pos}:PE X (.Constant (.bool b) j pos) (tC (.bl b)):=λ_ _ _ H _ I h=>Constant_bool ⟨.bl b,H,I,rfl,h⟩
theorem lW {j pos}:PE X (.Constant .none j pos) (tC .non):=λ_ _ _ H _ I h=>Constant_none ⟨.non,H,I,rfl,h⟩
theorem aI {x j pos}:PE X (.Constant (.str x) j pos) (tC (.str x)):=λ_ _ _ H _ I h=>Calls.Constant_str ⟨.str x,H,I.tok _,⟨_,rfl⟩,h⟩
noncomputable def Gl (X:Cx) (x:Str):Prop:=X.env.kindOf x=some .globalImplicit
theorem kG {E:Value->Shared->Prop}{pins:List (Addr×Obj)}{s:Shared}{σ:St}{H:Hp}{x:Str}{u:Value}{pos:Pos}{Q:Value->Shared->Prop}(I:Inv X pins σ H s) (hg:Gl X x) (F:X.mg x=some u) (h:Q u s)
  (hd:(x==("__debug__" : Str))=false:=by decide):wpAny (model X.prog X.w) X.A (eval (.Name x pos) X.env) Q E s :=
 Calls.Name_function_global I.ok.kind hg (Calls.loadGlobal_global (by rw[I.ok.glob];exact I.mod.glob.keeps I.bk) F h) hd
theorem gH {E:Value->Shared->Prop}{pins:List (Addr×Obj)}{s:Shared}{σ:St}{H:Hp}{x:Str}{u:Value}{pos:Pos}{Q:Value->Shared->Prop}(I:Inv X pins σ H s) (hg:Gl X x) (G:X.mg x=none) (J:bootBuiltins x=some u) (h:Q u s)
  (F:x ≠ "__name__" := by decide) (hd:(x==("__debug__" : Str))=false:=by decide):wpAny (model X.prog X.w) X.A (eval (.Name x pos) X.env) Q E s:=by
 obtain⟨L,h1,h2⟩:=I.mod.blt;exact Calls.Name_function_global I.ok.kind hg (Calls.loadGlobal_builtin (by rw[I.ok.glob];exact I.mod.glob.keeps I.bk) G (by rw[I.ok.blt];exact h1.keeps I.bk) ((h2 x F).trans J) h) hd
theorem cf {x:Str}{v:V}{u:Value}{pos:Pos}(hg:Gl X x) (F:X.mg x=some u) (r:RelV v u) (hd:(x==("__debug__" : Str))=false:=by decide):PE X (.Name x pos) (tC v):=
 λ_ _ _ H _ I h=>kG I hg F ⟨v,H,I,r,h⟩ hd
theorem dW {x:Str}{v:V}{u:Value}{pos:Pos}(hg:Gl X x) (F:X.mg x=none) (G:bootBuiltins x=some u) (r:RelV v u) (J:x ≠ "__name__" := by decide) (hd:(x==("__debug__" : Str))=false:=by decide):PE X (.Name x pos) (tC v):=
 λ_ _ _ H _ I h=>gH I hg F G ⟨v,H,I,r,h⟩ J hd
variable {a b:Expr}{ta tb:TE}{pos:Pos}
noncomputable def PC (X:Cx) (I:CmpOp) (a b:Expr) (t:TE):Prop :=
 ∀(pins:List (Addr×Obj)) (s:Shared) (σ:St) (H:Hp) (Q:VK),Inv X pins σ H s->t σ H Q ->
  wpAny (model X.prog X.w) X.A (eval a X.env) (λv G=>wpAny (model X.prog X.w) X.A (eval b X.env) (λu F=>wpAny (model X.prog X.w) X.A (compareOp I v u) (EP X pins σ Q) X.xe F) X.xe G) X.xe s
inductive Hf (t:TE) (Q:Bool->Hp->Prop) (x:V) (H1:Hp):Prop
 |mk (c:_) (_:x=.bl c) (_:Q c H1):Hf t Q x H1
noncomputable def tB (t:TE):TT:=λσ H Q=>t σ H λx H1=>Hf t Q x H1
theorem tI {F:CmpOp}{t:TE}(h:PC X F a b t) (h1:behindInMarks F b=false:=by first|exact nobehind _ av av|rfl):PE X (.Compare a [F] [b] pos) t:=λpins s σ H Q I G=>wpAny_Compare1 (h pins s σ H Q I G) h1
theorem gU {F:CmpOp}{t:TE}(h:PC X F a b t) (h1:behindInMarks F b=false:=by first|exact nobehind _ av av|rfl):PT X (.Compare a [F] [b] pos) (tB t):=by
 intro pins s σ H Q I J;refine wpAny_isTrue_Compare1 (bP (h pins s σ H _ I J) λv R h1=>bP h1 λu U h2=>bP h2 λc S N=>?_) h1;obtain⟨x,H1,O,G,L⟩:=N;obtain⟨d,rfl,q⟩:=L;cases G;exact wpAny_truthy_bool ⟨H1,O,q⟩
theorem gb {e:Expr}{t:TE}(h:PE X e t) (N:∀F,isTrue e X.env F=(do let v <-F;standAt e.pos;holding [v] (truthy v)):=by intro _;rfl):PT X e (tB t):=by
 intro pins s σ H Q I J;refine isTrue_plain (bP (h pins s σ H _ I J) λv S R=>?_) (N _);obtain⟨x,H1,O,G,L⟩:=R;obtain⟨d,rfl,q⟩:=L;cases G;exact wpAny_truthy_bool ⟨H1,O,q⟩
variable {tA tB':TT}{rest:List Expr}
noncomputable def FI (t u:TT):TT:=λσ H Q=>t σ H λc H1=>if c=true then u σ H1 Q else Q false H1
noncomputable def Hu (t u:TT):TT:=λσ H Q=>t σ H λc H1=>if c=true then Q true H1 else u σ H1 Q
noncomputable def FC (t:TT):TT:=λσ H Q=>t σ H λc H1=>Q (!c) H1
theorem jI (F:PT X a tA):PW X (.BoolOp .And [a] pos) tA:=by
 intro G pins s σ H Q I h;refine isTrue_and (bP (F pins s σ H Q I h) λc J e=>?_);cases c with
 |true=>exact isTrue_and_nil e
 |false=>exact e
theorem gh (F:PT X a tA):PW X (.BoolOp .Or [a] pos) tA:=by
 intro G pins s σ H Q I h;refine isTrue_or (bP (F pins s σ H Q I h) λc J e=>?_);cases c with
 |false=>exact isTrue_or_nil e
 |true=>exact e
theorem k8 (R:PT X a tA) (N:PW X (.BoolOp .And (b::rest) pos) tB'):PW X (.BoolOp .And (a::b::rest) pos) (FI tA tB'):=by
 intro O pins s σ H Q I h;refine isTrue_and (bP (R pins s σ H _ I h) λc J L=>?_);obtain⟨H1,G,F⟩:=L;cases c with
 |true=>exact N O pins J σ H1 Q G F
 |false=>exact⟨H1,G,F⟩
theorem gp (R:PT X a tA) (N:PW X (.BoolOp .Or (b::rest) pos) tB'):PW X (.BoolOp .Or (a::b::rest) pos) (Hu tA tB'):=by
 intro O pins s σ H Q I h;refine isTrue_or (bP (R pins s σ H _ I h) λc L J=>?_);obtain⟨H1,G,F⟩:=J;cases c with
 |true=>exact⟨H1,G,F⟩
 |false=>exact N O pins L σ H1 Q G F
theorem yh (F:PT X a tA):PT X (.UnaryOp .Not a pos) (FC tA):=by
 intro pins s σ H Q I h;exact isTrue_not (F pins s σ H (λc H1=>Q (!c) H1) I h)
inductive xT (ta tb:TE) (σ:St) (Q:VK) (x:V) (H1:Hp):Prop
 |mk (c:_) (_:x=.bl c) (_:if c=true then tb σ H1 Q else Q (.bl false) H1):xT ta tb σ Q x H1
noncomputable def D8 (ta tb:TE):TE:=λσ H Q=>ta σ H λx H1=>xT ta tb σ Q x H1
inductive Bh (ta tb:TE) (σ:St) (Q:VK) (x:V) (H1:Hp):Prop
 |mk (c:_) (_:x=.bl c) (_:if c=true then Q (.bl true) H1 else tb σ H1 Q):Bh ta tb σ Q x H1
noncomputable def FK (ta tb:TE):TE:=λσ H Q=>ta σ H λx H1=>Bh ta tb σ Q x H1
inductive zd (ta:TE) (Q:VK) (x:V) (H1:Hp):Prop
 |mk (c:_) (_:x=.bl c) (_:Q (.bl (!c)) H1):zd ta Q x H1
noncomputable def E9 (ta:TE):TE:=λσ H Q=>ta σ H λx H1=>zd ta Q x H1
theorem oU {op} {t:TE}(h:PE X a t):PE X (.BoolOp op [a] pos) t:=λpins s σ H Q I F=>BoolOp_one (h pins s σ H Q I F)
theorem sj (O:PE X a ta) (N:PE X (.BoolOp .And (b::rest) pos) tb):PE X (.BoolOp .And (a::b::rest) pos) (D8 ta tb):=by
 intro pins s σ H Q I h;refine BoolOp_and (bP (O pins s σ H _ I h) λv L R=>?_);obtain⟨x,H1,G,J,F⟩:=R;obtain⟨c,rfl,F⟩:=F;cases J;refine wpAny_truthy_bool ?_;cases c with
 |true=>exact N pins L σ H1 Q G F
 |false=>exact⟨.bl false,H1,G,rfl,F⟩
theorem E5 (R:PE X a ta) (O:PE X (.BoolOp .Or (b::rest) pos) tb):PE X (.BoolOp .Or (a::b::rest) pos) (FK ta tb):=by
 intro pins s σ H Q I h;refine BoolOp_or (bP (R pins s σ H _ I h) λv L N=>?_);obtain⟨x,H1,G,J,F⟩:=N;obtain⟨c,rfl,F⟩:=F;cases J;refine wpAny_truthy_bool ?_;cases c with
 |false=>exact O pins L σ H1 Q G F
 |true=>exact⟨.bl true,H1,G,rfl,F⟩
theorem Cg (L:PE X a ta):PE X (.UnaryOp .Not a pos) (E9 ta):=by
 intro pins s σ H Q I h;refine UnaryOp_ (bP (L pins s σ H _ I h) λv O N=>?_);obtain⟨x,H1,J,G,F⟩:=N;obtain⟨c,rfl,F⟩:=F;cases G;exact not_of (wpAny_truthy_bool ⟨.bl (!c),H1,J,rfl,F⟩)
end
noncomputable def bE (K:PySem.W.Frag) (H:Hp) (a:Addr) (xs:List V):Prop :=
 Rd H a (.lst xs) \/
  ∃(o:Obj) (its:Array Value) (n:Nat),K.lookup a=some o/\o.cls=.type "list" /\ o.dict=none/\o.data=.seq its n/\its.size<=sizeLine/\Vals xs its.toList
noncomputable def bR (K:PySem.W.Frag) (H:Hp) (a:Addr) (xs:List V):Prop :=
 Rd H a (.tup xs) \/
  ∃(o:Obj) (its:Array Value) (n:Nat),K.lookup a=some o/\o.cls=.type "tuple" /\ o.data=.seq its n/\its.size<=sizeLine/\Vals xs its.toList
noncomputable def FX:Value->Option V
 |.none=>some .non
 |.bool b=>some (.bl b)
 |.int i _=>some (.int i)
 |.str x _=>some (.str x)
 |.bytes b _=>some (.byt b)
 |.float b _=>some (.flt b)
 |.ref a=>some (.ref a)
 |.type n=>some (.ty n)
 |_=>none
theorem RelV.abs {x:V}{u:Value}(r:RelV x u):FX u=some x:=by
 cases x with
 |non=>cases r;rfl
 |bl _=>cases r;rfl
 |int _=>obtain⟨t,rfl⟩:=r;rfl
 |str _=>obtain⟨t,rfl⟩:=r;rfl
 |byt _=>obtain⟨t,rfl⟩:=r;rfl
 |flt _=>obtain⟨t,rfl⟩:=r;rfl
 |ref _=>cases r;rfl
 |ty _=>cases r;rfl
theorem RelV.inj {x y:V}{u:Value}(r:RelV x u) (q:RelV y u):x=y:=Option.some.inj (r.abs.symm.trans q.abs)
theorem Vals.inj:∀{xs ys:List V}{us:List Value},Vals xs us->Vals ys us->xs=ys
 |_,_,_,.nil,.nil=>rfl
 |_,_,_,.cons r t,.cons F t'=>by rw[r.inj F,Vals.inj t t']
section
variable {X:Cx}{pins:List (Addr×Obj)}{σ:St}{H:Hp}{s:Shared}{a:Addr}{xs ys:List V}
theorem bE.of {K:PySem.W.Frag}(h:H a=some (.lst xs)):bE K H a xs:=.inl (.inl h)
theorem bR.of {K:PySem.W.Frag}(h:H a=some (.tup xs)):bR K H a xs:=.inl (.inl h)
theorem Inv.list (I:Inv X pins σ H s) (h:bE X.K H a xs):∃its:List Value,Vals xs its/\PlainL s.heap a its.toArray/\xs.length<=sizeLine:=by
 rcases h with h|⟨o,its,n,G,F,hd,hs,J,r⟩
 .obtain⟨z,its,n,r,e⟩:=h.ok I.bG;exact⟨its,r,⟨_,n,e,rfl,rfl,rfl⟩,z⟩
 .refine⟨its.toList,r,⟨o,n,I.jM a o G,F,hd,by simpa using hs⟩,?_⟩;have e:=r.length;simp only[length_toList]at e;omega
theorem Inv.tuple (I:Inv X pins σ H s) (h:bR X.K H a xs):∃its:List Value,Vals xs its/\IsTup s.heap a its.toArray/\xs.length<=sizeLine:=by
 rcases h with h|⟨o,its,n,G,F,hs,J,r⟩
 .obtain⟨z,its,r,p⟩:=h.ok I.bG;exact⟨its,r,p,z⟩
 .refine⟨its.toList,r,⟨o,I.jM a o G,F,n,by simpa using hs⟩,?_⟩;have e:=r.length;simp only[length_toList]at e;omega
theorem Inv.jf (I:Inv X pins σ H s) (h:bE X.K H a xs) (h':bE X.K H a ys):xs=ys:=by
 obtain⟨its,r,⟨o,n,e,_,_,d⟩,_⟩:=I.list h;obtain⟨its',J,⟨o',L,F,_,_,d'⟩,_⟩:=I.list h';rw[e]at F;cases F;rw[d]at d';injection d' with G _;have:its=its':=(by simpa using congrArg toList G);subst this;exact r.inj J
theorem Inv.vP (I:Inv X pins σ H s) (h:bR X.K H a xs) (h':bR X.K H a ys):xs=ys:=by
 obtain⟨its,r,⟨o,e,_,n,d⟩,_⟩:=I.tuple h;obtain⟨its',J,⟨o',F,_,L,d'⟩,_⟩:=I.tuple h';rw[e]at F;cases F;rw[d]at d';injection d' with G _;have:its=its':=(by simpa using congrArg toList G);subst this;exact r.inj J
end
noncomputable abbrev Cx.mL (X:Cx) (E:Value->Shared->Prop):Cx:={ X with xe:=E }
noncomputable abbrev Cx.Dk (X:Cx):Cx:=X.mL λ_ _=>False
theorem Cx.Ok.mL {X:Cx}(ok:X.Ok) (E:Value->Shared->Prop):(X.mL E).Ok :=
 ⟨ok.mod,ok.kind,ok.glob,ok.blt,ok.above,ok.inj,ok.has,ok.Dt,ok.hd,ok.frames,ok.Eh,ok.Gi,ok.bs,ok.zO,ok.wZ,ok.vS,ok.kj,ok.BA⟩
theorem Cx.Ok.gN {X:Cx}{E:Value->Shared->Prop}(ok:(X.mL E).Ok):X.Ok :=
 ⟨ok.mod,ok.kind,ok.glob,ok.blt,ok.above,ok.inj,ok.has,ok.Dt,ok.hd,ok.frames,ok.Eh,ok.Gi,ok.bs,ok.zO,ok.wZ,ok.vS,ok.kj,ok.BA⟩
section
variable {X:Cx}{pins:List (Addr×Obj)}{σ:St}{H:Hp}{s:Shared}{E:Value->Shared->Prop}
theorem Inv.mL (I:Inv X pins σ H s) (E:Value->Shared->Prop):Inv (X.mL E) pins σ H s:=⟨I.ok.mL E,I.os,I.bare,I.base,I.loc,I.cell,I.free,I.gv,I.pin,I.bG,I.len⟩
theorem Inv.gN (I:Inv (X.mL E) pins σ H s):Inv X pins σ H s:=⟨I.ok.gN,I.os,I.bare,I.base,I.loc,I.cell,I.free,I.gv,I.pin,I.bG,I.len⟩
theorem SP.gN {D:Ends}{f:Flow}{s':Shared}(h:SP (X.mL E) pins D f s'):SP X pins D f s':=by
 cases f with
 |next=>obtain⟨F,H',I,q⟩:=h;exact⟨F,H',I.gN,q⟩
 |brk=>obtain⟨F,H',I,q⟩:=h;exact⟨F,H',I.gN,q⟩
 |cont=>obtain⟨F,H',I,q⟩:=h;exact⟨F,H',I.gN,q⟩
 |ret u=>obtain⟨v,F,H',I,r,q⟩:=h;exact⟨v,F,H',I.gN,r,q⟩
theorem uX.Dk {st:List Stmt}{t:TS}(h:uX X.Dk st t):uX X st t:=λpins s σ H D I F =>
 wpAny_mono (h pins s σ H D (I.mL _) F) (λ_ _ q=>q.gN) λ_ _ z=>False.elim z
end
section
variable {X:Cx}{st:Stmt}{rest:List Stmt}{t u:TS}{e:Expr}{te:TE}{pos:Pos}
noncomputable def rS:TS:=λD σ H=>D.nx σ H
noncomputable def mE (t u:TS):TS:=λD σ H=>t { D with nx:=u D } σ H
theorem aF:uX X [] rS:=λ_ _ σ H _ I h=>wpAny_execs_nil ⟨σ,H,I,h⟩
theorem ag (h1:PS X st t) (h2:uX X rest u):uX X (st::rest) (mE t u):=by
 intro pins s σ H D I h;refine wpAny_execs_cons (bP (h1 pins s σ H { D with nx:=u D } I h) λf G q=>?_);cases f with
 |next =>
  obtain⟨F,H',J,q⟩:=q;exact h2 pins G F H' D J q
 |ret v=>exact q
 |brk=>exact q
 |cont=>exact q
theorem ao (h1:PS X st t):uX X [st] t:=by
 intro pins s σ H D I h;refine wpAny_execs_cons (bP (h1 pins s σ H D I h) λf F q=>?_);cases f with
 |next=>exact wpAny_execs_nil q
 |ret v=>exact q
 |brk=>exact q
 |cont=>exact q
theorem Inv.quiet {pins:List (Addr×Obj)}{σ:St}{H:Hp}{s:Shared}(I:Inv X pins σ H s):interactive X.env=false:=by simp[interactive,I.ok.kind]
noncomputable def DZ (te:TE):TS:=λD σ H=>te σ H λ_ H1=>D.nx σ H1
theorem aL (G:PE X e te) (hs:swapsWith e none pos.line X.env=pure false:=by rfl):PS X (.Expr e pos) (DZ te):=by
 intro pins s σ H D I h;exact wpAny_Expr_any (bP (G pins s σ H _ I h) λv O L=>by obtain⟨x,H1,J,N,F⟩:=L;exact⟨σ,H1,J,F⟩) I.quiet hs
noncomputable def Cz (te:TE):TS:=λD σ H=>te σ H D.rt
theorem aE (J:PE X e te):PS X (.Return (some e) pos) (Cz te):=by
 intro pins s σ H D I h;exact wpAny_Return_some (bP (J pins s σ H _ I h) λv O F=>by obtain⟨x,H1,L,N,G⟩:=F;exact⟨x,σ,H1,L,N,G⟩)
noncomputable def DY:TS:=λD _ H=>D.rt .non H
theorem nY:PS X (.Return none pos) DY:=λ_ _ σ H _ I h=>wpAny_Return_none ⟨.non,σ,H,I,rfl,h⟩
noncomputable def w9 (c:TT) (t u:TS):TS:=λD σ H=>c σ H λb H1=>if b=true then t D σ H1 else u D σ H1
theorem aS {c:Expr}{a b:List Stmt}{tc:TT}(L:PT X c tc) (R:uX X a t) (O:uX X b u):PS X (.If c a b pos) (w9 tc t u):=by
 intro pins s σ H D I h;refine wpAny_If (bP (L pins s σ H _ I h) λd F N=>?_);obtain⟨H1,J,G⟩:=N;cases d with
 |true=>exact R pins F σ H1 D J G
 |false=>exact O pins F σ H1 D J G
noncomputable def yN:TS:=λ_ _ _=>False
theorem dE:PS X st yN:=λ_ _ _ _ _ _ h=>h.elim
theorem cO {sts:List Stmt}:uX X sts yN:=λ_ _ _ _ _ _ h=>h.elim
end
noncomputable abbrev TG:=V->St->Hp->(St->Hp->Prop)->Prop
noncomputable abbrev Dz:=List V->St->Hp->(St->Hp->Prop)->Prop
noncomputable def PG (X:Cx) (G:Expr) (t:TG):Prop :=
 ∀(pins:List (Addr×Obj)) (s:Shared) (σ:St) (H:Hp) (v:V) (u:Value) (Q:St->Hp->Prop),Inv X pins σ H s->RelV v u->t v σ H Q ->
  wpAny (model X.prog X.w) X.A (assign G X.env u) (λ_ s'=>∃F H',Inv X pins F H' s'/\Q F H') X.xe s
noncomputable def Fn (X:Cx) (ts:List Expr) (t:Dz):Prop :=
 ∀(pins:List (Addr×Obj)) (s:Shared) (σ:St) (H:Hp) (vs:List V) (us:List Value) (Q:St->Hp->Prop),Inv X pins σ H s->Vals vs us->t vs σ H Q ->
  wpAny (model X.prog X.w) X.A (assignInOrder ((assignEach ts X.env).map (·.2)) us) (λ_ s'=>∃F H',Inv X pins F H' s'/\Q F H') X.xe s
noncomputable abbrev xi:=V->V->V->Hp->(Hp->Prop)->Prop
noncomputable def Az (X:Cx) (t:xi):Prop :=
 ∀(pins:List (Addr×Obj)) (s:Shared) (σ:St) (H:Hp) (o i v:V) (ov F u:Value) (Q:Hp->Prop),Inv X pins σ H s->RelV o ov->RelV i F->RelV v u->t o i v H Q ->
  wpAny (model X.prog X.w) X.A (setItem ov F u) (λ_ s'=>∃H',Inv X pins σ H' s'/\Q H') X.xe s
noncomputable abbrev Fc:=V->V->Hp->VK->Prop
noncomputable def Gn (X:Cx) (F:Operator) (t:Fc):Prop :=
 ∀(pins:List (Addr×Obj)) (s:Shared) (σ:St) (H:Hp) (x y:V) (v u:Value) (Q:VK),Inv X pins σ H s->RelV x v->RelV y u->t x y H Q ->
  wpAny (model X.prog X.w) X.A (inplaceOp F v u) (EP X pins σ Q) X.xe s
section
variable {X:Cx}{pos:Pos}
noncomputable def qD (i:Nat):TG:=λv σ H Q=>Q (σ.set i (some v)) H
theorem a8 {i:Nat}{x:Str}(L:X.N.Nodup) (hi:X.N[i]?=some x) (F:Loc X.env.scope x) (G:X.fn x=true\/X.env.scope.names.lookup x=some .local:=by first|exact .inl rfl|exact .inr rfl|assumption):PG X (.Name x pos) (qD i):=by
 intro pins s σ H v u Q I r h;exact wpAny_assign_Name (gE I L hi F r (λs' J=>⟨_,H,J,h⟩) G)
noncomputable def Gx:Dz:=λvs σ H Q=>vs=[]/\Q σ H
inductive yr (t:TG) (u:Dz) (vs:List V) (σ:St) (H:Hp) (Q:St->Hp->Prop):Prop
 |mk (v:_) (r:_) (_:vs=v::r) (_:t v σ H λσ' H'=>u r σ' H' Q):yr t u vs σ H Q
theorem cW:Fn X [] Gx:=by
 intro pins s σ H vs us Q I r h;obtain⟨e,h⟩:=h;subst e;cases r;exact assignInOrder_nil ⟨σ,H,I,h⟩
theorem bo {e:Expr}{es:List Expr}{t:TG}{u:Dz}(h1:PG X e t) (h2:Fn X es u)
  (hs:(assignEach (e::es) X.env).map (·.2)=assign e X.env::(assignEach es X.env).map (·.2):=by rfl):Fn X (e::es) (yr t u):=by
 intro pins s σ H vs us Q I r h;obtain⟨v,S,L,h⟩:=h;subst L;cases r with
 |cons r G =>
  rw[hs];refine assignInOrder_cons (bP (h1 pins s σ H _ _ _ I r h) λ_ J F=>?_);obtain⟨R,H1,O,N⟩:=F;exact h2 pins J R H1 _ _ Q O G N
inductive EY (K:PySem.W.Frag) (n:Nat) (t:Dz) (v:V) (σ:St) (H:Hp) (Q:St->Hp->Prop):Prop
 |mk (a:_) (xs:_) (_:v=.ref a) (_:bR K H a xs) (_:xs.length=n) (_:t xs σ H Q):EY K n t v σ H Q
theorem dF {es:List Expr}{k:Nat}{t:Dz}{n:Nat}(J:X.calm=true) (h:Fn X es t)
  (R:(assignEach es X.env).length=n:=by rfl) (U:(assignEach es X.env).findIdx? (·.1)=none:=by rfl):PG X (.Tuple es k pos) (EY X.K n t):=by
 intro pins s σ H v u Q I r F;obtain⟨a,xs,O,S,N,F⟩:=F;subst O;cases r;obtain⟨its,G,ht,hz⟩:=I.tuple S;refine assign_Tuple_tuple (I.ok.hd J) ht (by simp[R, <-N,G.length]) U λh' L=>?_;have Y:Inv X pins σ H { s with heap:=h' }:=I.kept (t':=s.toks) λb o e=>L b o (ne_of_lt (Heap.lt_size e)) e;exact h pins _ σ H xs _ Q Y (by simpa using G) F
noncomputable def FY (to F:TE) (t:xi):TG:=λv σ H Q=>to σ H λo H1=>F σ H1 λi H2=>t o i v H2 λG=>Q σ G
theorem dS {o i:Expr}{to G:TE}{t:xi}(O:PE X o to) (hi:PE X i G) (hs:Az X t)
  (ha:∀v,assign (.Subscript o i pos) X.env v=(do
   let ov <-holding [v] (eval o X.env)
   let F <-holding [v,ov] (eval i X.env)
   standAt pos
   holding [v,ov,F] (setItem ov F v)
   release [v,ov,F] []):=by intro _;rfl):PG X (.Subscript o i pos) (FY to G t):=by
 intro pins s σ H v u Q I r h;rw[ha];refine wpAny_bind (wpAny_holding (bP (O pins s σ H _ I h) λov S J=>?_));obtain⟨x,H1,U,r1,q1⟩:=J;refine wpAny_bind (wpAny_holding (bP (hi pins S σ H1 _ U q1) λF s2 Y=>?_));obtain⟨y,H2,I2,L,R⟩:=Y;refine wpAny_bind (wpAny_standAt (wpAny_bind (wpAny_holding (bP (hs pins s2 σ H2 x y v ov F u _ I2 r1 L r R) λ_ s3 ab=>?_))));obtain⟨H3,I3,N⟩:=ab;exact wpAny_release ⟨σ,H3,I3,N⟩
noncomputable def Bg (te:TE) (g:TG):TS:=λD σ H=>te σ H λx H1=>g x σ H1 D.nx
theorem cI {tg e:Expr}{te:TE}{g:TG}(O:PE X e te) (hg:PG X tg g) (hs:swapsWithSole [tg] e pos.line X.env=pure false:=by rfl) (F:swappedStores [tg] e X.env=pure none:=by rfl)
  (h1:(assignEach [tg] X.env).map (·.2)=[assign tg X.env]:=by rfl):PS X (.Assign [tg] e pos) (Bg te g):=by
 intro pins s σ H D I h;refine wpAny_Assign_stores (bP (O pins s σ H _ I h) λv L J=>?_) hs F;obtain⟨x,H1,R,G,N⟩:=J;rw[h1];exact bP (hg pins L σ H1 x v _ R G N) λ_ S q=>q
theorem aK {i:Nat}{x:Str}{e:Expr}{te:TE}{pos':Pos}(Y:X.N.Nodup) (hi:X.N[i]?=some x) (F:Loc X.env.scope x) (R:PE X e te) (hs:swapsWith e (some (.Name x pos')) pos.line X.env=pure false:=by rfl) (G:X.fn x=true\/X.env.scope.names.lookup x=some .local:=by first|exact .inl rfl|exact .inr rfl|assumption) :
  PS X (.Assign [.Name x pos'] e pos) (Bg te (qD i)):=by
 intro pins s σ H D I h;refine wpAny_Assign_Name (bP (R pins s σ H _ I h) λv s1 U=>?_) hs;obtain⟨y,H1,S,J,O⟩:=U;exact gE S Y hi F J (λs2 L=>⟨_,H1,L,O⟩) G
noncomputable def Fx (i j:Nat) (ta:TA):TS:=λD σ H=>ta σ H λvs H1=>wX λv w=>vs=[v,w]/\D.nx ((σ.set i (some v)).set j (some w)) H1
theorem CJ {i j:Nat}{x y:Str}{a b:Expr}{ta:TA}{px O pt:Pos}{kt k2 pt2} (hc:X.calm=true) (Y:X.N.Nodup) (hi:X.N[i]?=some x) (hj:X.N[j]?=some y) (ab:i≠j)
  (S:X.env.scope.names.lookup x=some .local) (U:X.env.scope.names.lookup y=some .local) (ha:PA X [a,b] ta)
  (hw:swappedStores [.Tuple [.Name x px,.Name y O] kt pt] (.Tuple [a,b] k2 pt2) X.env=pure (some [x,y]))
  (hs:swapsWithSole [.Tuple [.Name x px,.Name y O] kt pt] (.Tuple [a,b] k2 pt2) pos.line X.env=pure false:=by rfl) :
  PS X (.Assign [.Tuple [.Name x px,.Name y O] kt pt] (.Tuple [a,b] k2 pt2) pos) (Fx i j ta):=by
 intro pins s σ H D I h;rw[exec_Assign_arm];refine wpAny_bind (wpAny_standAt ?_);rw[hs];refine wpAny_bind (wpAny_pure ?_);rw[if_neg av];refine wpAny_bind (Tuple_ (bP (ha _ pins s σ H _ I h) λus F ad=>?_));obtain⟨vs,H1,I1,r1,L⟩:=ad;obtain⟨v,w,e1,L⟩:=L;subst e1;obtain⟨J,G,rfl,rv,ac⟩:∃J G,us=[J,G]/\RelV v J/\RelV w G:=by
  cases r1 with
  |cons p q =>
   cases q with
   |cons p' q' =>
    cases q';exact⟨_,_,rfl,p,p'⟩
 refine wpAny_newObj_type ?_ (by show 2<=sizeLine;decide);have I2:Inv X pins σ H1 { F with heap:=F.heap.push { cls:=.type "tuple",data:=.seq [J,G].toArray } }:=I1.kept (t':=F.toks) λb o e=>Heap.get?_push_of_some _ e;rw[hw];refine wpAny_bind (wpAny_pure ?_);show wpAny (model X.prog X.w) X.A (do rule "assign.swapped-stores";let items <-unpackItems (.ref F.heap.objs.size) 2 none;assignInOrder [λv=>bindName X.env y v,λv=>bindName X.env x v] items.reverse;pure Flow.next) _ _ _;refine wpAny_bind (wpAny_rule (wpAny_bind (unpackItems_tuple (items := #[J,G]) (I.ok.hd hc) (IsTup.new F.heap _) λh' am=>?_)));have I3:=I2.kept (h':=h') (t':=F.toks) λb o e=>am b o (ne_of_lt (Heap.lt_size e)) e;show wpAny _ _ (assignInOrder [λv=>bindName X.env y v,λv=>bindName X.env x v] [G,J]>>=λ_=>pure Flow.next) _ _ _;refine wpAny_bind (assignInOrder_cons (wpAny_bindName (gE I3 Y hj (.inl U) ac (λs2 I4=>?_) (.inr U))));refine assignInOrder_cons (wpAny_bindName (gE I4 Y hi (.inl S) rv (λs3 R=>assignInOrder_nil (wpAny_pure ?_)) (.inr S)));rw[List.set_comm _ _ (Ne.symm ab)]at R;exact⟨_,H1,R,L⟩
noncomputable def Eo (to L te:TE) (N:V->V->Hp->VK->Prop) (I:Fc) (G:xi):TS:=λD σ H=>to σ H λo H1=>L σ H1 λi H2=>N o i H2 λx O=>te σ O λy J=>I x y J λz F=>G o i z F λR=>D.nx σ R
noncomputable def Ew (X:Cx) (t:V->V->Hp->VK->Prop):Prop :=
 ∀(pins:List (Addr×Obj)) (s:Shared) (σ:St) (H:Hp) (o i:V) (ov F:Value) (Q:VK),Inv X pins σ H s->RelV o ov->RelV i F->t o i H Q ->
  wpAny (model X.prog X.w) X.A (getItem ov F) (EP X pins σ Q) X.xe s
theorem vA {o i e:Expr}{to U te:TE}{N:V->V->Hp->VK->Prop}{L:Fc}{S:xi}{O:Operator}{tpos:Pos}(ho:PE X o to) (hi:PE X i U) (hg:Ew X N) (he:PE X e te) (hp:Gn X O L) (hs:Az X S)
  (ha:∀ov F new,augStore i ov F new=(do holding [new,ov,F] (setItem ov F new);release [new,ov,F] [];pure .next):=by intros;rfl):PS X (.AugAssign (.Subscript o i tpos) O e pos) (Eo to U te N L S):=by
 intro pins s σ H D I h;refine wpAny_AugAssign_SubscriptAny (bP (ho pins s σ H _ I h) λov s1 aB=>?_) ha;obtain⟨J,H1,I1,R,q1⟩:=aB;refine bP (hi pins s1 σ H1 _ I1 q1) λF s2 am=>?_;obtain⟨Y,H2,I2,G,q2⟩:=am;refine bP (hg pins s2 σ H2 J Y ov F _ I2 R G q2) λac s3 ad=>?_;obtain⟨x3,H3,I3,r3,q3⟩:=ad;refine bP (he pins s3 σ H3 _ I3 q3) λv s4 ap=>?_;obtain⟨x4,H4,I4,r4,q4⟩:=ap;refine bP (hp pins s4 σ H4 x3 x4 ac v _ I4 r3 r4 q4) λnew s5 ab=>?_;obtain⟨x5,H5,I5,r5,q5⟩:=ab;exact bP (hs pins s5 σ H5 J Y x5 ov F new _ I5 R G r5 q5) λ_ s6 as=>by obtain⟨H6,I6,q6⟩:=as;exact⟨σ,H6,I6,q6⟩
noncomputable def Hq (f:Int->Int->Int):Fc:=λx y H Q=>∃i j,x=.int i/\y=.int j/\Q (.int (f i j)) H
theorem Cw:Gn X .Add (Hq λi j=>i+j):=by
 intro pins s σ H x y v u Q I G F h;obtain⟨i,j,L,J,q⟩:=h;subst L;subst J;obtain⟨t,rfl⟩:=G;obtain⟨t',rfl⟩:=F;exact iadd_int ⟨.int _,H,I.tok _,⟨_,rfl⟩,q⟩
theorem Cd:Gn X .Sub (Hq λi j=>i-j):=by
 intro pins s σ H x y v u Q I G F h;obtain⟨i,j,L,J,q⟩:=h;subst L;subst J;obtain⟨t,rfl⟩:=G;obtain⟨t',rfl⟩:=F;exact isub_int ⟨.int _,H,I.tok _,⟨_,rfl⟩,q⟩
end
section
variable {X:Cx}{pos:Pos}
noncomputable def BR (c:TT) (tb:TS):TS:=λD σ H=>∃W:Nat->St->Hp->Prop,(∃m,W m σ H)/\∀m σ H,W m σ H ->
 c σ H λb H1=>if b=true then ∃N:St->Hp->Prop,(∀F H',N F H'->∃G,G<m/\W G F H')/\tb { D with nx:=N,ct:=N,bk:=D.nx } σ H1 else D.nx σ H1
theorem rq {c:Expr}{body:List Stmt}{tc:TT}{tb:TS}(hp:PassesOwn (model X.prog X.w) X.A X.env X.xe) (hc:PT X c tc) (hb:uX X body tb):PS X (.While c body [] pos) (BR tc tb):=by
 intro pins s σ H D I h;obtain⟨W,⟨m0,w0⟩,ac⟩:=h;refine wpAny_While (codeAny_whileLoop (λn s'=>∃ab H',Inv X pins ab H' s'/\W n ab H') ?_ m0 ⟨σ,H,I,w0⟩);rintro n s1 ⟨O,H1,I1,w1⟩;refine wpAny_passesOwn hp (bP (hc pins s1 O H1 _ I1 (ac n O H1 w1)) λb s2 ad=>?_);obtain⟨H2,I2,L⟩:=ad;cases b with
 |true =>
  obtain⟨N,hN,L⟩:=L;rw[if_pos rfl];refine wpAny_passesOwn hp (bP (hb pins s2 O H2 _ I2 L) λf s3 J=>?_);cases f with
  |next =>
   obtain⟨F,G,Y,n3⟩:=J;obtain⟨U,S,R⟩:=hN F G n3;exact⟨U,S,F,G,Y,R⟩
  |cont =>
   obtain⟨F,G,Y,n3⟩:=J;obtain⟨U,S,R⟩:=hN F G n3;exact⟨U,S,F,G,Y,R⟩
  |brk=>exact J
  |ret v=>exact J
 |false =>
  rw[if_neg Bool.false_ne_true];exact wpAny_execs_nil ⟨O,H2,I2,L⟩
end
structure It where
 go:Nat->Hp->Prop
 Ao:Nat->Hp->V->Hp->Prop
 stop:Nat->Hp->Prop
noncomputable def fK (X:Cx) (pins:List (Addr×Obj)) (H:Hp) (b:Addr):Prop :=
 H b=none/\b≠X.env.locals/\b∉X.fs/\(b∈X.ex\/X.s₀.heap.objs.size<=b)/\(∀x c,X.env.cells.lookup x=some c->c≠b)/\∀p∈X.pn++pins,p.1≠b
theorem Inv.jz {X:Cx}{pins:List (Addr×Obj)}{σ:St}{H H':Hp}{s:Shared}{b:Addr}(I:Inv X pins σ H s) (F:s.heap.objs.size<=b) (J:H' b=none):fK X pins H' b:=by
 refine⟨J,ne_of_gt (lt_of_lt_of_le I.lt F),I.EZ F,.inr (le_trans I.sz F),λx c e z=>?_,λp G z=>?_⟩
 .obtain⟨v,q⟩:=I.cell x c e;exact absurd (lt_of_lt_of_le q.lt (by rw[z];exact F)) (lt_irrefl _)
 .exact absurd (lt_of_lt_of_le (Heap.lt_size (I.pin p G).1) (by rw[z];exact F)) (lt_irrefl _)
structure Turn (P:Program) (w:World) (K:PySem.W.Frag) (tg:Expr) (J:It) (fp:List Addr) (it:Addr) (tn:Nat->Heap->Prop):Prop where
 mem:it∈fp
 obj:∀i h,tn i h->∀b∈fp,∃o,h.get? b=some o/\∀v,o.data≠.cell v
 keep:∀i h h',tn i h->(∀b∈fp,∀o,h.get? b=some o->h'.get? b=some o)->tn i h'
 item:∀(X:Cx),X.prog=P->X.w=w->X.K=K->X.calm=true->∀(i:Nat) (pins:List (Addr×Obj)) (s:Shared) (σ:St) (H:Hp) (E:Value->Shared->Prop),Inv X pins σ H s->(∀b∈fp,fK X pins H b)->tn i s.heap->J.go i H ->
  wpAny (model P w) X.A (pyNext (.ref it)) (λr s1=>∃u,r=some u /\
   wpAny (model P w) X.A (letOwnedTupleGo tg (.ref it) u) (λ_ s2=>∃x H',Inv X pins σ H' s2/\RelV x u/\J.Ao i H x H'/\tn (i+1) s2.heap/\∀b∈fp,H' b=none) E s1) E s
 done:∀(X:Cx),X.prog=P->X.w=w->X.K=K->X.calm=true->∀(i:Nat) (pins:List (Addr×Obj)) (s:Shared) (σ:St) (H:Hp) (E:Value->Shared->Prop),Inv X pins σ H s->(∀b∈fp,fK X pins H b)->tn i s.heap->J.stop i H ->
  wpAny (model P w) X.A (pyNext (.ref it)) (λr s1=>r=none/\Inv X pins σ H s1) E s
 self:∀(A:Around) (i:Nat) (s:Shared) (Q:Value->Shared->Prop) (E:Value->Shared->Prop),tn i s.heap->Q (.ref it) s->wpAny (model P w) A (pyIter (.ref it)) Q E s
noncomputable abbrev TI:=St->Hp->(It->Hp->Prop)->Prop
noncomputable def He (X:Cx) (pins:List (Addr×Obj)) (σ:St) (tg:Expr) (R:It->Hp->Prop) (L:Value) (G:Shared):Prop :=
 ∃(I:Addr) (fp:List Addr) (F:Nat->Heap->Prop) (J:It) (H':Hp),L=.ref I/\Inv X pins σ H' G/\Turn X.prog X.w X.K tg J fp I F/\F 0 G.heap/\(∀b∈fp,fK X pins H' b)/\R J H'
noncomputable def PI (X:Cx) (tg iter:Expr) (wi:TI):Prop :=
 ∀(pins:List (Addr×Obj)) (s:Shared) (σ:St) (H:Hp) (R:It->Hp->Prop),Inv X pins σ H s->wi σ H R ->
  wpAny (model X.prog X.w) X.A (eval iter X.env) (λv F=>wpAny (model X.prog X.w) X.A (pyIter v) (He X pins σ tg R) X.xe F) X.xe s
theorem nJ {M:Model}{A:Around}{E:Value->Shared->Prop}{s:Shared}{tg:Expr}{G:Addr}{u:Value}{o:Obj}{n:String}{vs:Array Value}{Q:Unit->Shared->Prop}(J:s.heap.get? G=some o) (I:o.cls=.type n) (hd:o.data=.fields vs)
  (L:["enumerate","zip","dict_itemiterator","dict_reverseitemiterator","odict_iterator","itertools.zip_longest","itertools.pairwise"].contains n=false) (F:Q () s):wpAny M A (letOwnedTupleGo tg (.ref G) u) Q E s:=by
 unfold letOwnedTupleGo;cases tg<;>first
  |exact wpAny_pure F
  |(cases u<;>first
    |exact wpAny_pure F
    |(refine wpAny_bind (wpAny_load J ?_)
      rw[I,hd];show wpAny M A (if (["enumerate","zip","dict_itemiterator","dict_reverseitemiterator","odict_iterator","itertools.zip_longest","itertools.pairwise"].contains n&&vs[0]?==some (rawInt _))=true then _ else _) Q E s;rw[if_neg (by intro h;rw[L,Bool.false_and]at h;cases h)];exact wpAny_pure F))
noncomputable def DT (K:PySem.W.Frag) (a:Addr):It :=
 ⟨λi H=>∃xs x,bE K H a xs/\xs[i]?=some x,λi H x H'=>H'=H/\∀xs,bE K H a xs->xs[i]?=some x,λi H=>∃xs,bE K H a xs/\xs.length<=i⟩
noncomputable def Ff (K:PySem.W.Frag) (a:Addr):It :=
 ⟨λi H=>∃xs x,bR K H a xs/\xs[i]?=some x,λi H x H'=>H'=H/\∀xs,bR K H a xs->xs[i]?=some x,λi H=>∃xs,bR K H a xs/\xs.length<=i⟩
noncomputable def Ap (lo:Int) (n:Nat):It:=⟨λi _=>i<n,λi H x H'=>H'=H/\x=.int (lo+i),λi _=>n<=i⟩
theorem we {P:Program}{w:World}{K:PySem.W.Frag}{tg:Expr}(a F:Addr):Turn P w K tg (DT K a) [F] F (λi h=>h.IsListIter F a i) where
 mem:=by simp
 obj:=λi h st b G=>by
  have e:b=F:=(by simpa using G);subst e;obtain⟨o,e,c,d⟩:=st;exact⟨o,e,λv z=>by rw[d]at z;cases z⟩
 keep:=λi h h' st k=>st.at λo e=>k F (by simp) o e
 item:=by
  intro X hP O U hc i pins s σ H E I L st hg;subst hP O U;obtain⟨xs,x,J,hx⟩:=hg;obtain⟨its,rv,p,hz⟩:=I.list J;obtain⟨u,hu,ru⟩:=rv.get hx;obtain⟨S,R,f2,N,f4,Y⟩:=L F (by simp);refine wpAny_pyNext_list_item st p.isList (x:=u) (by simpa using hu) λh' ab sb=>?_;have I1:Inv X pins σ H { s with heap:=h' }:=I.turned (t':=s.toks) (λb o G e=>(sb.2 b G).trans e) S R N f4 Y;obtain⟨o,e,c,d⟩:=id ab;exact⟨u,rfl,nJ (s:={ s with heap:=h' }) e c d av ⟨x,H,I1,ru,⟨rfl,λys hy=>by rw[I.jf hy J];exact hx⟩,ab,λb G=>(L b G).1⟩⟩
 done:=by
  intro X hP O U hc i pins s σ H E I L st hg;subst hP O U;obtain⟨xs,J,hx⟩:=hg;obtain⟨its,rv,p,hz⟩:=I.list J;obtain⟨S,R,f2,N,f4,Y⟩:=L F (by simp);have hl:=rv.length;exact wpAny_pyNext_list_end (I.ok.hd hc) st p.isList (by simp;omega) λh' eb=>⟨rfl,I.turned (t':=s.toks) (λb o G e=>eb b o G e) S R N f4 Y⟩
 self:=λ_ _ _ _ _ st h=>wpAny_pyIter_listiter st h
theorem t4 {P:Program}{w:World}{K:PySem.W.Frag}{tg:Expr}(a F:Addr):Turn P w K tg (Ff K a) [F] F (λi h=>h.IsTupleIter F a i) where
 mem:=by simp
 obj:=λi h st b G=>by
  have e:b=F:=(by simpa using G);subst e;obtain⟨o,e,c,d⟩:=st;exact⟨o,e,λv z=>by rw[d]at z;cases z⟩
 keep:=λi h h' st k=>st.at λo e=>k F (by simp) o e
 item:=by
  intro X hP O U hc i pins s σ H E I L st hg;subst hP O U;obtain⟨xs,x,J,hx⟩:=hg;obtain⟨its,rv,p,hz⟩:=I.tuple J;obtain⟨u,hu,ru⟩:=rv.get hx;obtain⟨S,R,f2,N,f4,Y⟩:=L F (by simp);refine wpAny_pyNext_tuple_item st (show s.heap.IsTuple a its.toArray from p) (x:=u) (by simpa using hu) λh' ab sb=>?_;have I1:Inv X pins σ H { s with heap:=h' }:=I.turned (t':=s.toks) (λb o G e=>(sb.2 b G).trans e) S R N f4 Y;obtain⟨o,e,c,d⟩:=id ab;exact⟨u,rfl,nJ (s:={ s with heap:=h' }) e c d av ⟨x,H,I1,ru,⟨rfl,λys hy=>by rw[I.vP hy J];exact hx⟩,ab,λb G=>(L b G).1⟩⟩
 done:=by
  intro X hP O U hc i pins s σ H E I L st hg;subst hP O U;obtain⟨xs,J,hx⟩:=hg;obtain⟨its,rv,p,hz⟩:=I.tuple J;obtain⟨S,R,f2,N,f4,Y⟩:=L F (by simp);have hl:=rv.length;exact wpAny_pyNext_tuple_end (I.ok.hd hc) st (show s.heap.IsTuple a its.toArray from p) (by simp;omega) λh' eb=>⟨rfl,I.turned (t':=s.toks) (λb o G e=>eb b o G e) S R N f4 Y⟩
 self:=λ_ _ _ _ _ st h=>wpAny_pyIter_tupleiter st h
theorem uG {P:Program}{w:World}{K:PySem.W.Frag}{tg:Expr}(F:Addr) (lo:Int) (n:Nat):Turn P w K tg (Ap lo n) [F] F (λi h=>IsRangeIter h F (lo+(i:Nat)*1) ((n:Int)-(i:Nat)) 1) where
 mem:=by simp
 obj:=λi h st b G=>by
  have e:b=F:=(by simpa using G);subst e;exact⟨_,st,λv z=>by
   have z':Data.fields _=Data.cell v:=z;cases z'⟩
 keep:=λi h h' st k=>k F (by simp) _ st
 item:=by
  intro X hP N S Y i pins s σ H E I J st hg;subst hP N S;obtain⟨R,O,f2,L,f4,U⟩:=J F (by simp);have W:=Walks.range (prog:=X.prog) (w:=X.w) (I.ok.hd Y) F lo 1 n;refine W.item i s _ _ hg st λv h' tk hv ab kk=>?_;obtain⟨t,rfl⟩:=hv;have I1:Inv X pins σ H { s with heap:=h',toks:=tk }:=I.turned (λb o G e=>kk b o (by simpa using G) e) R O L f4 U;refine⟨_,rfl,nJ (s:={ s with heap:=h',toks:=tk }) (n := "range_iterator") ab rfl rfl av ⟨.int (lo+i),H,I1,⟨t,?_⟩,⟨rfl,rfl⟩,ab,λb G=>(J b G).1⟩⟩;rw[Int.mul_one]
 done:=by
  intro X hP N S Y i pins s σ H E I J st hg;subst hP N S;obtain⟨R,O,f2,L,f4,U⟩:=J F (by simp);exact wpAny_pyNext_range_end (I.ok.hd Y) st (by have:n<=i:=hg;omega) λh' eb=>⟨rfl,I.turned (t':=s.toks) (λb o G e=>eb b o G e) R O L f4 U⟩
 self:=λ_ _ _ _ _ st h=>wpAny_pyIter_rangeiter st h
section
variable {X:Cx}{tg:Expr}
noncomputable def DG (K:PySem.W.Frag) (tl:TE):TI:=λσ H R=>tl σ H λx H1=>∃a,x=.ref a/\(∃xs,bE K H1 a xs)/\R (DT K a) H1
noncomputable def Gs (K:PySem.W.Frag) (tl:TE):TI:=λσ H R=>tl σ H λx H1=>∃a,x=.ref a/\(∃xs,bR K H1 a xs)/\R (Ff K a) H1
theorem fh {l:Expr}{tl:TE}(J:PE X l tl):PI X tg l (DG X.K tl):=by
 intro pins s σ H R I h;refine bP (J pins s σ H _ I h) λv F U=>?_;obtain⟨x,H1,G,L,N⟩:=U;obtain⟨a,e,⟨xs,S⟩,q⟩:=N;subst e;cases L;obtain⟨its,Y,p,hz⟩:=G.list S;refine wpAny_pyIter_list p.isList ?_;refine⟨F.heap.objs.size,[F.heap.objs.size],_,_,H1,rfl,G.kept (t':=F.toks) λb o e=>Heap.get?_push_of_some _ e,we a _,⟨_,Heap.get?_push_size _ rfl,rfl,rfl⟩,λb O=>?_,q⟩;have e:b=F.heap.objs.size:=(by simpa using O);subst e;exact G.jz (le_refl _) (G.bG.fresh (le_refl _))
theorem CM {l:Expr}{tl:TE}(J:PE X l tl):PI X tg l (Gs X.K tl):=by
 intro pins s σ H R I h;refine bP (J pins s σ H _ I h) λv F U=>?_;obtain⟨x,H1,G,L,N⟩:=U;obtain⟨a,e,⟨xs,S⟩,q⟩:=N;subst e;cases L;obtain⟨its,Y,p,hz⟩:=G.tuple S;refine wpAny_pyIter_tuple (show F.heap.IsTuple a its.toArray from p) ?_;refine⟨F.heap.objs.size,[F.heap.objs.size],_,_,H1,rfl,G.kept (t':=F.toks) λb o e=>Heap.get?_push_of_some _ e,t4 a _,⟨_,Heap.get?_push_size _ rfl,rfl,rfl⟩,λb O=>?_,q⟩;have e:b=F.heap.objs.size:=(by simpa using O);subst e;exact G.jz (le_refl _) (G.bG.fresh (le_refl _))
theorem rj {pins:List (Addr×Obj)}{σ:St}{H:Hp}{s:Shared}{R:It->Hp->Prop}{E:Value->Shared->Prop}{lo hi:Int}{t u v:Tok}{tk:Nat}(I:Inv X pins σ H s) (h1 : -(2^62)<=lo) (h2:lo<2^62) (O : -(2^62)<=hi) (L:hi<2^62)
  (q:R (Ap lo (hi-lo).toNat) H):wpAny (model X.prog X.w) X.A (pyIter (.ref s.heap.objs.size)) (He X pins σ tg R) E { s with heap:=s.heap.push { cls:=.type "range",data:=.fields #[.int lo t,.int hi u,.int 1 v] },toks:=tk }:=by
 refine wpAny_pyIter_range (IsRange.new ..) (small_one h1 h2 O L) ?_;have F:Inv X pins σ H { s with heap:=s.heap.push { cls:=.type "range",data:=.fields #[.int lo t,.int hi u,.int 1 v] },toks:=tk }:=I.kept λb o e=>Heap.get?_push_of_some _ e;refine⟨(s.heap.push { cls:=.type "range",data:=.fields #[.int lo t,.int hi u,.int 1 v] }).objs.size,[(s.heap.push { cls:=.type "range",data:=.fields #[.int lo t,.int hi u,.int 1 v] }).objs.size],_,_,H,rfl,
  F.kept (t':=tk) λb o e=>Heap.get?_push_of_some _ e,uG _ lo (hi-lo).toNat,?_,λb N=>?_,q⟩
 .have J:lo+((0:Nat):Int)*1=lo:=(by simp);have G:(((hi-lo).toNat:Nat):Int)-((0:Nat):Int)=Builtin.Range.rangeSize lo hi 1:=(by rw[rangeSize_one];split<;>omega);show IsRangeIter _ _ (lo+((0:Nat):Int)*1) ((((hi-lo).toNat:Nat):Int)-((0:Nat):Int)) 1;rw[J,G];exact Heap.get?_push_size _ rfl
 .have e:b=(s.heap.push { cls:=.type "range",data:=.fields #[.int lo t,.int hi u,.int 1 v] }).objs.size:=(by simpa using N);subst e;exact F.jz (le_refl _) (F.bG.fresh (le_refl _))
noncomputable def DV (ta:TA):TI:=λσ H R=>ta σ H λvs H1=>∃j:Int,vs=[.int j] /\ -(2^62)<=j/\j<2^62/\R (Ap 0 j.toNat) H1
noncomputable def Ex (ta:TA):TI:=λσ H R=>ta σ H λvs H1=>wX λ(i j:Int)=>qv (vs=[.int i,.int j]) ((-(2^62)<=i/\i<2^62 /\ -(2^62)<=j/\j<2^62)) (R (Ap i (j-i).toNat) H1)
theorem xf {a:Expr}{ta:TA}{p pos:Pos}(hg:Gl X "range") (S:X.mg "range" = none) (U:PA X [a] ta) (hs:starEach [a] X.env=[(false,eval a X.env)]:=by rfl):PI X tg (.Call (.Name "range" p) [a] [] pos) (DV ta):=by
 intro pins s σ H R I h;refine Call_ (gH I hg S boot_range (PyProof.Rows.callWith_type1 (bP (U pos pins s σ H _ I h) λus Y G=>?_) hs rfl));obtain⟨vs,H1,O,J,F⟩:=G;obtain⟨j,e,F,L,q⟩:=F;subst e;cases J with
 |cons r N =>
  cases N;obtain⟨t,rfl⟩:=r;exact call_range_1 (rj O af af F L (by simpa using q))
theorem eS {a b:Expr}{ta:TA}{p pos:Pos}(hg:Gl X "range") (U:X.mg "range" = none) (ha:PA X [a,b] ta) (hs:starEach [a,b] X.env=[(false,eval a X.env),(false,eval b X.env)]:=by rfl) (J:starEach [b] X.env=[(false,eval b X.env)]:=by rfl) :
  PI X tg (.Call (.Name "range" p) [a,b] [] pos) (Ex ta):=by
 intro pins s σ H R I h;refine Call_ (gH I hg U boot_range (PyProof.Rows.callWith_type1 (bP (ha pos pins s σ H _ I h) λus s1 ⟨vs,H1,S,r1,G⟩=>?_) (by rw[hs,J]) (by rw[J];rfl)));obtain⟨i,j,e,⟨G,O,N,L⟩,q⟩:=G;subst e;cases r1 with
 |cons r F =>
  cases F with
  |cons Y F =>
   cases F;obtain⟨t,rfl⟩:=r;obtain⟨t',rfl⟩:=Y;exact call_range_2 (rj S G O N L q)
noncomputable def G8 (wi:TI) (g:TG) (tb:TS):TS:=λD σ H=>wi σ H λJ H1=>∃W:Nat->Nat->St->Hp->Prop,(∃m,W 0 m σ H1)/\∀i m σ H,W i m σ H ->
 (J.stop i H/\D.nx σ H)\/(J.go i H/\∃N:St->Hp->Prop,(∀F H',N F H'->∃G,G<m/\W (i+1) G F H')/\∀x H',J.Ao i H x H'->g x σ H' λI H2=>tb { D with nx:=N,ct:=N,bk:=D.nx } I H2)
noncomputable def my (fp:List Addr) (h:Heap):List (Addr×Obj):=fp.filterMap λb=>(h.get? b).map λo=>(b,o)
theorem gi {fp:List Addr}{h:Heap}{b:Addr}{o:Obj}(F:b∈fp) (e:h.get? b=some o):(b,o)∈my fp h:=List.mem_filterMap.mpr ⟨b,F,by rw[e];rfl⟩
theorem xc {fp:List Addr}{h:Heap}{p:Addr×Obj}(F:p∈my fp h):p.1∈fp/\h.get? p.1=some p.2:=by
 obtain⟨b,G,e⟩:=List.mem_filterMap.mp F;cases q:h.get? b with
 |none=>rw[q]at e;cases e
 |some o =>
  rw[q]at e;have I:(b,o)=p:=Option.some.inj e;subst I;exact⟨G,q⟩
theorem Inv.pinned {pins:List (Addr×Obj)}{σ:St}{H:Hp}{s:Shared}{fp:List Addr}(I:Inv X pins σ H s) (J:∀b∈fp,fK X pins H b) (L:∀b∈fp,∃o,s.heap.get? b=some o/\∀v,o.data≠.cell v):Inv X (pins++my fp s.heap) σ H s :=
 I.kE λp N=>(List.mem_append.mp N).elim (λz=>I.pin p (mem_append_right _ z)) λz=>by
  obtain⟨G,e⟩:=xc z;obtain⟨R,O,S,_⟩:=J p.1 G;obtain⟨o,F,d⟩:=L p.1 G;rw[e]at F;cases F;exact⟨e,R,O,S,d⟩
theorem Inv.lY {pins pl:List (Addr×Obj)}{σ:St}{H:Hp}{s:Shared}(I:Inv X (pins++pl) σ H s):Inv X pins σ H s:=I.kE λp F=>I.pin p (mem_append_right _ (mem_append_left _ F))
theorem cU {iter:Expr}{body:List Stmt}{wi:TI}{g:TG}{tb:TS}{pos:Pos}(hp:PassesOwn (model X.prog X.w) X.A X.env X.xe) (hc:X.calm=true) (hi:PI X tg iter wi) (hg:PG X tg g) (G:uX X body tb)
  (hs:∀x,foldedSetIterable iter X.env x=pure x:=by intro _;rfl):PS X (.For tg iter body [] pos) (G8 wi g tb):=by
 intro pins s σ H D I h;refine wpAny_For (bP (hi pins s σ H _ I h) λv s1 h1=>bP h1 λa6 s2 h2=>?_) hs;obtain⟨it,fp,tn,J,H2,e,I2,T,aT,f2,W,⟨m0,w0⟩,as⟩:=h2;subst e;have ab:∀{H':Hp},(∀b∈fp,H' b=none)->∀b∈fp,fK X pins H' b:=λhn b G=>⟨hn b G,(f2 b G).2⟩;refine codeAny_forLoop_any (λn s'=>∃i S H',Inv X pins S H' s'/\tn i s'.heap/\(∀b∈fp,H' b=none)/\W i n S H') ?_ m0 ⟨0,σ,H2,I2,aT,λb G=>(f2 b G).1,w0⟩;rintro n s3 ⟨i,U,H3,I3,am,ad,w3⟩;rcases as i n U H3 w3 with⟨a2,qn⟩|⟨go,N,hN,step⟩
 .refine wpAny_passesOwn hp (bP (T.done X rfl rfl rfl hc i pins s3 U H3 X.xe I3 (ab ad) am a2) λr s4 aB=>?_);obtain⟨hr,I4⟩:=aB;subst hr;exact wpAny_execs_nil ⟨U,H3,I4,qn⟩
 .refine wpAny_passesOwn hp (bP (T.item X rfl rfl rfl hc i pins s3 U H3 X.xe I3 (ab ad) am go) λr s4 a1=>?_);obtain⟨u,hr,h4⟩:=a1;subst hr;refine wpAny_passesOwn hp (bP h4 λ_ s5 ap=>?_);obtain⟨x,H5,I5,r5,y5,ac,a3⟩:=ap;have a4:=I5.pinned (ab a3) (T.obj _ _ ac);refine wpAny_passesOwn hp (bP (hg _ s5 U H5 x u _ a4 r5 (step x H5 y5)) λ_ s6 a5=>?_);obtain⟨a0,H6,I6,q6⟩:=a5;refine wpAny_passesOwn hp (bP (G _ s6 a0 H6 _ I6 q6) λf s7 R=>?_);have again:∀{L:St}{O:Hp},Inv X (pins++my fp s5.heap) L O s7->N L O->∃m,m<n/\∃i S H',Inv X pins S H' s7/\tn i s7.heap/\(∀b∈fp,H' b=none)/\W i m S H':=λ{L O} F Y=>by
   obtain⟨m',hm,w7⟩:=hN L O Y;refine⟨m',hm,i+1,L,O,F.lY,T.keep _ _ _ ac λb G o e=>(F.pin (b,o) (mem_append_right _ (mem_append_right _ (gi G e)))).1,λb G=>?_,w7⟩;obtain⟨o,e,d⟩:=T.obj _ _ ac b G;exact(F.pin (b,o) (mem_append_right _ (mem_append_right _ (gi G e)))).2.1
  cases f with
  |next=>obtain⟨L,O,F,Y⟩:=R;exact again F Y
  |cont=>obtain⟨L,O,F,Y⟩:=R;exact again F Y
  |brk=>obtain⟨L,O,F,R⟩:=R;exact⟨L,O,F.lY,R⟩
  |ret v=>obtain⟨x7,L,O,F,r7,R⟩:=R;exact⟨x7,L,O,F.lY,r7,R⟩
end
theorem dY {K:PySem.W.Frag}{a:Addr}{xs:List V}{g:TG}{tb:TS}{D:Ends}{σ:St}{H:Hp}(Pv:Nat->St->Hp->Prop) (O:Pv 0 σ H) (R:∀i σ H,i<=xs.length->Pv i σ H->bE K H a xs)
  (hs:∀i x σ H,xs[i]?=some x->Pv i σ H->g x σ H λG H2=>tb { D with nx:=Pv (i+1),ct:=Pv (i+1),bk:=D.nx } G H2) (hd:∀σ H,Pv xs.length σ H->D.nx σ H) :
  ∃W:Nat->Nat->St->Hp->Prop,(∃m,W 0 m σ H)/\∀i m σ H,W i m σ H ->
   ((DT K a).stop i H/\D.nx σ H)\/((DT K a).go i H/\∃N:St->Hp->Prop,(∀F H',N F H'->∃I,I<m/\W (i+1) I F H')/\∀x H',(DT K a).Ao i H x H'->g x σ H' λG H2=>tb { D with nx:=N,ct:=N,bk:=D.nx } G H2):=by
 refine⟨λi m σ H=>m=xs.length-i/\i<=xs.length/\Pv i σ H,⟨xs.length,by simp,zero_le _,O⟩,?_⟩;rintro i m σ H ⟨rfl,hi,p⟩;have q:=R i σ H hi p;by_cases J:i<xs.length
 .refine .inr ⟨⟨xs,xs[i],q,by simp[J]⟩,Pv (i+1),λF H' L=>⟨xs.length-(i+1),af,rfl,J,L⟩,λx H' y=>?_⟩;obtain⟨e,y⟩:=y;subst e;exact hs i x σ _ (y xs q) p
 .have e:i=xs.length:=af;subst e;exact .inl ⟨⟨xs,q,le_refl _⟩,hd σ H p⟩
theorem gZ {lo:Int}{n:Nat}{g:TG}{tb:TS}{D:Ends}{σ:St}{H:Hp}(Pv:Nat->St->Hp->Prop) (O:Pv 0 σ H)
  (hs:∀i σ H,i<n->Pv i σ H->g (.int (lo+i)) σ H λI H2=>tb { D with nx:=Pv (i+1),ct:=Pv (i+1),bk:=D.nx } I H2) (hd:∀σ H,Pv n σ H->D.nx σ H) :
  ∃W:Nat->Nat->St->Hp->Prop,(∃m,W 0 m σ H)/\∀i m σ H,W i m σ H ->
   ((Ap lo n).stop i H/\D.nx σ H)\/((Ap lo n).go i H/\∃N:St->Hp->Prop,(∀F H',N F H'->∃J,J<m/\W (i+1) J F H')/\∀x H',(Ap lo n).Ao i H x H'->g x σ H' λI H2=>tb { D with nx:=N,ct:=N,bk:=D.nx } I H2):=by
 refine⟨λi m σ H=>m=n-i/\i<=n/\Pv i σ H,⟨n,by simp,zero_le _,O⟩,?_⟩;rintro i m σ H ⟨rfl,hi,p⟩;by_cases G:i<n
 .refine .inr ⟨G,Pv (i+1),λF H' L=>⟨n-(i+1),af,rfl,G,L⟩,λx H' y=>?_⟩;obtain⟨e,y⟩:=y;subst e y;exact hs i σ _ G p
 .have e:i=n:=af;subst e;exact .inl ⟨le_refl _,hd σ H p⟩
noncomputable abbrev R2:=V->V->Hp->VK->Prop
noncomputable def iP (X:Cx) (f:Value->Value->Sem Value) (r:R2):Prop :=
 ∀(pins:List (Addr×Obj)) (s:Shared) (σ:St) (H:Hp) (x y:V) (v u:Value) (Q:VK),Inv X pins σ H s->RelV x v->RelV y u->r x y H Q ->
  wpAny (model X.prog X.w) X.A (f v u) (EP X pins σ Q) X.xe s
noncomputable def Gy (X:Cx) (f:Value->Sem Value) (r:V->Hp->VK->Prop):Prop :=
 ∀(pins:List (Addr×Obj)) (s:Shared) (σ:St) (H:Hp) (x:V) (v:Value) (Q:VK),Inv X pins σ H s->RelV x v->r x H Q ->
  wpAny (model X.prog X.w) X.A (f v) (EP X pins σ Q) X.xe s
noncomputable def di (X:Cx) (f:Value) (r:List V->Hp->VK->Prop):Prop :=
 ∀(pins:List (Addr×Obj)) (s:Shared) (σ:St) (H:Hp) (xs:List V) (us:List Value) (Q:VK),Inv X pins σ H s->Vals xs us->r xs H Q ->
  wpAny (model X.prog X.w) X.A (call f us) (EP X pins σ Q) X.xe s
noncomputable def Dw (r:R2) (ta tb:TE):TE:=λσ H Q=>ta σ H λx H1=>tb σ H1 λy H2=>r x y H2 Q
noncomputable def HK (r:V->Hp->VK->Prop) (ta:TE):TE:=λσ H Q=>ta σ H λx H1=>r x H1 Q
inductive rI (C:Int->Int->Prop) (g:Int->Int->V) (x:V) (y:V) (H:Hp) (Q:VK):Prop
 |mk (i:_) (j:_) (_:x=.int i) (_:y=.int j) (_:C i j) (_:Q (g i j) H):rI C g x y H Q
inductive AN (g:Int->Int->V) (x:V) (y:V) (H:Hp) (Q:VK):Prop
 |mk (i:_) (j:_) (_:x=.int i) (_:y=.int j) (_:Q (g i j) H):AN g x y H Q
inductive rU (g:Int->V) (x:V) (H:Hp) (Q:VK):Prop
 |mk (i:_) (_:x=.int i) (_:Q (g i) H):rU g x H Q
section
variable {X:Cx}{a b c:Expr}{ta tb tc:TE}{pos:Pos}
theorem Ds (ha:PE X a ta) (hb:PE X b tb) {pins:List (Addr×Obj)}{s:Shared}{σ:St}{H:Hp}{R:V->V->Hp->Prop}(I:Inv X pins σ H s)
  (h:ta σ H λx H1=>tb σ H1 λy H2=>R x y H2) {Q:Value->Shared->Prop}{f:Value->Value->Sem Value}
  (L:∀v u F x y H2,Inv X pins σ H2 F->RelV x v->RelV y u->R x y H2->wpAny (model X.prog X.w) X.A (f v u) Q X.xe F) :
  wpAny (model X.prog X.w) X.A (eval a X.env) (λv N=>wpAny (model X.prog X.w) X.A (eval b X.env) (λu Y=>wpAny (model X.prog X.w) X.A (f v u) Q X.xe Y) X.xe N) X.xe s:=by
 refine bP (ha pins s σ H _ I h) λv U G=>?_;obtain⟨x,H1,I1,O,q1⟩:=G;refine bP (hb pins U σ H1 _ I1 q1) λu F ab=>?_;obtain⟨y,H2,I2,J,S⟩:=ab;exact L v u F x y H2 I2 O J S
theorem ay {F:Operator}{r:R2}(G:iP X (binaryOp F) r) (S:PE X a ta) (N:PE X b tb):PE X (.BinOp a F b pos) (Dw r ta tb):=by
 intro pins s σ H Q I h;exact wpAny_BinOp (Ds S N I h λv u O x y H2 J R L q=>G pins O σ H2 x y v u Q J R L q)
theorem Bj {F:UnaryOp}{r:V->Hp->VK->Prop}(J:Gy X (unaryOp F) r) (S:PE X a ta):PE X (.UnaryOp F a pos) (HK r ta):=by
 intro pins s σ H Q I h;exact UnaryOp_ (bP (S pins s σ H _ I h) λv N L=>by obtain⟨x,H1,R,G,O⟩:=L;exact J pins N σ H1 x v Q R G O)
theorem Fj {f:Value->Value->Sem Value}{C:Int->Int->Prop}{g:Int->Int->Int}
  (rule:∀(i j:Int) (t u:Tok) (s:Shared) (Q:Value->Shared->Prop) (E:Value->Shared->Prop),C i j->Q (.int (g i j) s.toks) { s with toks:=s.toks+1 }->wpAny (model X.prog X.w) X.A (f (.int i t) (.int j u)) Q E s) :
  iP X f (rI C λi j=>.int (g i j)):=by
 intro pins s σ H x y v u Q I J G h;obtain⟨i,j,rfl,rfl,F,q⟩:=h;obtain⟨t,rfl⟩:=J;obtain⟨t',rfl⟩:=G;exact rule i j t t' s _ _ F ⟨.int (g i j),H,I.tok _,⟨_,rfl⟩,q⟩
theorem DC {f:Value->Value->Sem Value}{g:Int->Int->Int}
  (rule:∀(i j:Int) (t u:Tok) (s:Shared) (Q:Value->Shared->Prop) (E:Value->Shared->Prop),Q (.int (g i j) s.toks) { s with toks:=s.toks+1 }->wpAny (model X.prog X.w) X.A (f (.int i t) (.int j u)) Q E s) :
  iP X f (AN λi j=>.int (g i j)):=by
 intro pins s σ H x y v u Q I G F h;obtain⟨i,j,rfl,rfl,q⟩:=h;obtain⟨t,rfl⟩:=G;obtain⟨t',rfl⟩:=F;exact rule i j t t' s _ _ ⟨.int (g i j),H,I.tok _,⟨_,rfl⟩,q⟩
theorem zR {f:Value->Value->Sem Value}{g:Int->Int->Bool}
  (rule:∀(i j:Int) (t u:Tok) (s:Shared) (Q:Value->Shared->Prop) (E:Value->Shared->Prop),Q (.bool (g i j)) s->wpAny (model X.prog X.w) X.A (f (.int i t) (.int j u)) Q E s) :
  iP X f (AN λi j=>.bl (g i j)):=by
 intro pins s σ H x y v u Q I G F h;obtain⟨i,j,rfl,rfl,q⟩:=h;obtain⟨t,rfl⟩:=G;obtain⟨t',rfl⟩:=F;exact rule i j t t' s _ _ ⟨.bl (g i j),H,I,rfl,q⟩
noncomputable def Gw (i j:Int):Prop:=0<j/\j<1073741824
noncomputable def Fy (i j:Int):Prop:=0<=j/\j<=1000000/\i.natAbs<2^64
noncomputable def yi (i j:Int):Prop:=(-(2^64)<i/\i<2^64)\/(-(2^64)<j/\j<2^64)
theorem yi.ok {i j:Int}(h:yi i j):IntMulOk i j:=by
 rcases h with⟨h1,h2⟩|⟨h1,h2⟩
 .exact .of_left (intBits_le_64 h1 h2)
 .exact .of_right (intBits_le_64 h1 h2)
theorem bu:iP X (binaryOp .Add) (AN λi j=>.int (i+j)):=DC λ_ _ _ _ _ _ _ q=>add_int q
theorem oi:iP X (binaryOp .Sub) (AN λi j=>.int (i-j)):=DC λ_ _ _ _ _ _ _ q=>sub_int q
theorem eY:iP X (binaryOp .Mult) (rI yi λi j=>.int (i*j)):=Fj λ_ _ _ _ _ _ _ F q=>mul_int q F.ok
theorem bF:iP X (binaryOp .FloorDiv) (rI Gw λi j=>.int (i/j)):=Fj λi j _ _ _ _ _ F q=>by
 have h1:(0:Int)<j:=F.1;have h2:j<1073741824:=F.2;exact floordiv_int af (by rw[Int.fdiv_eq_ediv_of_nonneg i af];exact q) (.inl (PyProof.noPylong_small af))
theorem bD:iP X (binaryOp .Mod) (rI (λ_ j=>0<j) λi j=>.int (i%j)):=Fj λi j _ _ _ _ _ F q=>by
 have h1:(0:Int)<j:=F;exact mod_int' af (by rw[Int.fmod_eq_emod_of_nonneg i af];exact q)
theorem pE:iP X (binaryOp .Pow) (rI Fy λi j=>.int (i^j.toNat)):=Fj λ_ _ _ _ _ _ _ F q=>pow_int_small F.1 F.2.1 F.2.2 q
theorem HN {f:Value->Sem Value}{g:Int->Int}
  (rule:∀(i:Int) (t:Tok) (s:Shared) (Q:Value->Shared->Prop) (E:Value->Shared->Prop),Q (.int (g i) s.toks) { s with toks:=s.toks+1 }->wpAny (model X.prog X.w) X.A (f (.int i t)) Q E s) :
  Gy X f (rU λi=>.int (g i)):=by
 intro pins s σ H x v Q I F h;obtain⟨i,rfl,q⟩:=h;obtain⟨t,rfl⟩:=F;exact rule i t s _ _ ⟨.int (g i),H,I.tok _,⟨_,rfl⟩,q⟩
theorem xU:Gy X (unaryOp .USub) (rU λi=>.int (-i)):=HN λ_ _ _ _ _ q=>neg_int q
end
noncomputable def AM:V->V->Bool
 |.non,.non=>true|.non,.int _=>true|.int _,.non=>true|.non,.bl _=>true|.bl _,.non=>true|.non,.str _=>true|.str _,.non=>true
 |.int _,.int _=>true|.bl _,.bl _=>true|.str _,.str _=>true|.byt _,.byt _=>true
 |.int _,.str _=>true|.str _,.int _=>true|.bl _,.str _=>true|.str _,.bl _=>true
 |_,_=>false
noncomputable def Gd:R2:=λx y H Q=>AM x y=true/\Q (.bl (decide (x=y))) H
noncomputable def HQ:R2:=λx y H Q=>AM x y=true/\Q (.bl (!decide (x=y))) H
theorem uS {i j:Int}:decide (V.int i=V.int j)=(i==j):=by
 rw[Bool.eq_iff_iff];simp
theorem xR {i j:Bool}:decide (V.bl i=V.bl j)=(i==j):=by
 rw[Bool.eq_iff_iff];simp
theorem vH {i j:Str}:decide (V.str i=V.str j)=(i==j):=by
 rw[Bool.eq_iff_iff];simp
theorem vg {i j:Array UInt8}:decide (V.byt i=V.byt j)=(i.toList==j.toList):=by
 rw[Bool.eq_iff_iff];cases i;cases j;simp
section
variable {X:Cx}{a b c:Expr}{ta tb tc:TE}{pos:Pos}
theorem bH {pins:List (Addr×Obj)}{σ:St}{H:Hp}{s:Shared}{Q:VK}{k F:Bool}(I:Inv X pins σ H s) (q:Q (.bl k) H) (e:k=F):EP X pins σ Q (.bool F) s:=by
 subst e;exact⟨.bl k,H,I,rfl,q⟩
theorem bN:iP X (compareOp .Eq) Gd:=by
 intro pins s σ H x y v u Q I G F h;obtain⟨hs,q⟩:=h;cases x with
 |non =>
  cases G;cases y with
  |non=>cases F;exact PySem.EqNone.eq_none_none (bH I q (by simp))
  |bl j=>cases F;exact PySem.EqNone.eq_none_bool (bH I q (by simp))
  |int j=>obtain⟨t',rfl⟩:=F;exact PySem.EqNone.eq_none_int (bH I q (by simp))
  |str j=>obtain⟨t',rfl⟩:=F;exact PySem.EqNone.eq_none_str (bH I q (by simp))
  |_=>exact absurd (show false=true from hs) Bool.false_ne_true
 |bl i =>
  cases G;cases y with
  |non=>cases F;exact PySem.EqNone.eq_bool_none (bH I q (by simp))
  |bl j=>cases F;exact eq_bool (bH I q xR)
  |str j=>obtain⟨t',rfl⟩:=F;exact PySem.EqMixed.eq_bool_str (bH I q (by simp))
  |_=>exact absurd (show false=true from hs) Bool.false_ne_true
 |int i =>
  obtain⟨t,rfl⟩:=G;cases y with
  |non=>cases F;exact PySem.EqNone.eq_int_none (bH I q (by simp))
  |int j=>obtain⟨t',rfl⟩:=F;exact eq_int (bH I q uS)
  |str j=>obtain⟨t',rfl⟩:=F;exact PySem.EqMixed.eq_int_str (bH I q (by simp))
  |_=>exact absurd (show false=true from hs) Bool.false_ne_true
 |str i =>
  obtain⟨t,rfl⟩:=G;cases y with
  |non=>cases F;exact PySem.EqNone.eq_str_none (bH I q (by simp))
  |bl j=>cases F;exact PySem.EqMixed.eq_str_bool (bH I q (by simp))
  |int j=>obtain⟨t',rfl⟩:=F;exact PySem.EqMixed.eq_str_int (bH I q (by simp))
  |str j=>obtain⟨t',rfl⟩:=F;exact eq_str (bH I q vH)
  |_=>exact absurd (show false=true from hs) Bool.false_ne_true
 |byt i =>
  obtain⟨t,rfl⟩:=G;cases y with
  |byt j=>obtain⟨t',rfl⟩:=F;exact PySem.W.eq_bytes (bH I q vg)
  |_=>exact absurd (show false=true from hs) Bool.false_ne_true
 |_=>cases y<;>exact absurd (show false=true from hs) Bool.false_ne_true
theorem BC:iP X (compareOp .NotEq) HQ:=by
 intro pins s σ H x y v u Q I G F h;obtain⟨hs,q⟩:=h;cases x with
 |non =>
  cases G;cases y with
  |non=>cases F;exact PySem.EqNone.ne_none_none (bH I q (by simp))
  |bl j=>cases F;exact PySem.EqNone.ne_none_bool (bH I q (by simp))
  |int j=>obtain⟨t',rfl⟩:=F;exact PySem.EqNone.ne_none_int (bH I q (by simp))
  |str j=>obtain⟨t',rfl⟩:=F;exact PySem.EqNone.ne_none_str (bH I q (by simp))
  |_=>exact absurd (show false=true from hs) Bool.false_ne_true
 |bl i =>
  cases G;cases y with
  |non=>cases F;exact PySem.EqNone.ne_bool_none (bH I q (by simp))
  |bl j=>cases F;exact ne_bool (bH I q (congrArg not xR))
  |str j=>obtain⟨t',rfl⟩:=F;exact PySem.EqMixed.ne_bool_str (bH I q (by simp))
  |_=>exact absurd (show false=true from hs) Bool.false_ne_true
 |int i =>
  obtain⟨t,rfl⟩:=G;cases y with
  |non=>cases F;exact PySem.EqNone.ne_int_none (bH I q (by simp))
  |int j=>obtain⟨t',rfl⟩:=F;exact ne_int (bH I q (congrArg not uS))
  |str j=>obtain⟨t',rfl⟩:=F;exact PySem.EqMixed.ne_int_str (bH I q (by simp))
  |_=>exact absurd (show false=true from hs) Bool.false_ne_true
 |str i =>
  obtain⟨t,rfl⟩:=G;cases y with
  |non=>cases F;exact PySem.EqNone.ne_str_none (bH I q (by simp))
  |bl j=>cases F;exact PySem.EqMixed.ne_str_bool (bH I q (by simp))
  |int j=>obtain⟨t',rfl⟩:=F;exact PySem.EqMixed.ne_str_int (bH I q (by simp))
  |str j=>obtain⟨t',rfl⟩:=F;exact ne_str (bH I q (congrArg not vH))
  |_=>exact absurd (show false=true from hs) Bool.false_ne_true
 |byt i =>
  obtain⟨t,rfl⟩:=G;cases y with
  |byt j=>obtain⟨t',rfl⟩:=F;exact PySem.W.ne_bytes (bH I q (congrArg not vg))
  |_=>exact absurd (show false=true from hs) Bool.false_ne_true
 |_=>cases y<;>exact absurd (show false=true from hs) Bool.false_ne_true
theorem fV:iP X (compareOp .Lt) (AN λi j=>.bl (decide (i<j))):=zR λ_ _ _ _ _ _ _ q=>lt_int q
theorem E2:iP X (compareOp .LtE) (AN λi j=>.bl (decide (i<=j))):=zR λ_ _ _ _ _ _ _ q=>le_int q
theorem iz:iP X (compareOp .Gt) (AN λi j=>.bl (decide (j<i))):=zR λ_ _ _ _ _ _ _ q=>gt_int q
theorem E3:iP X (compareOp .GtE) (AN λi j=>.bl (decide (j<=i))):=zR λ_ _ _ _ _ _ _ q=>ge_int q
theorem Dp:iP X (compareOp .Is) (λx y H Q=>y=.non/\Q (.bl (decide (x=.non))) H):=by
 intro pins s σ H x y v u Q I F G h;obtain⟨rfl,q⟩:=h;cases G;refine is_none_gen (bH I q ?_);cases x<;>first
  |(cases F;rfl)
  |(obtain⟨t,rfl⟩:=F;rfl)
theorem Aw:iP X (compareOp .IsNot) (λx y H Q=>y=.non/\Q (.bl (!decide (x=.non))) H):=by
 intro pins s σ H x y v u Q I F G h;obtain⟨rfl,q⟩:=h;cases G;refine isnot_none_gen (bH I q ?_);cases x<;>first
  |(cases F;rfl)
  |(obtain⟨t,rfl⟩:=F;rfl)
theorem aG (b:Expr) {F:CmpOp}(h:F≠.In:=by decide) (h2:F≠.NotIn:=by decide):behindInMarks F b=false:=by
 have I:(F==CmpOp.In)=false:=by cases F<;>first|rfl|exact absurd rfl h
 have G:(F==CmpOp.NotIn)=false:=by cases F<;>first|rfl|exact absurd rfl h2
 cases b<;>simp[behindInMarks,I,G]
theorem jv {F:CmpOp}{r:R2}(G:iP X (compareOp F) r) (U:PE X a ta) (N:PE X b tb) (S:behindInMarks F b=false):PE X (.Compare a [F] [b] pos) (Dw r ta tb):=by
 intro pins s σ H Q I h;exact wpAny_Compare1 (Ds U N I h λv u O x y H2 J R L q=>G pins O σ H2 x y v u Q J R L q) S
inductive xE (t:TE) (Q:Bool->Hp->Prop) (x:V) (H':Hp):Prop
 |mk (k:_) (_:x=.bl k) (_:Q k H'):xE t Q x H'
noncomputable def xM (t:TE):TT:=λσ H Q=>t σ H λx H'=>xE t Q x H'
theorem az {F:CmpOp}{r:R2}(N:iP X (compareOp F) r) (ha:PE X a ta) (hb:PE X b tb) (hm:behindInMarks F b=false):PT X (.Compare a [F] [b] pos) (xM (Dw r ta tb)):=by
 intro pins s σ H Q I h;refine wpAny_isTrue_Compare1 (bP (ha pins s σ H _ I h) λv U ⟨x,H1,I1,L,q1⟩=>bP (hb pins U σ H1 _ I1 q1) λu s2 ⟨y,H2,Y,J,O⟩ =>
  bP (N pins s2 σ H2 x y v u _ Y L J O) λc s3 ⟨z,H3,S,G,k,e,R⟩=>?_) hm
 subst e;cases G;exact wpAny_truthy_bool ⟨H3,S,R⟩
inductive uR (r r':R2) (ta tb tc:TE) (σ:St) (Q:VK) (y:V) (z:V) (H3:Hp):Prop
 |mk (k:_) (_:z=.bl k) (_:(if k=true then tc σ H3 λw' H4=>r' y w' H4 Q else Q (.bl false) H3)):uR r r' ta tb tc σ Q y z H3
noncomputable def Cr (r G:R2) (ta tb tc:TE):TE:=λσ H Q=>ta σ H λx H1=>tb σ H1 λy H2=>r x y H2 λz F=>uR r G ta tb tc σ Q y z F
theorem yf {F G:CmpOp}{r N:R2}(U:iP X (compareOp F) r) (ab:iP X (compareOp G) N) (ha:PE X a ta) (hb:PE X b tb) (hc:PE X c tc)
  (hm:lastMarks [F,G] [b,c]=false:=by with_unfolding_all rfl):PE X (.Compare a [F,G] [b,c] pos) (Cr r N ta tb tc):=by
 intro pins s σ H Q I h;refine Compare_chain (bP (ha pins s σ H _ I h) λv s1 ⟨x,H1,I1,r1,q1⟩=>chain_link (bP (hb pins s1 σ H1 _ I1 q1) λu s2 ⟨y,H2,I2,J,Y⟩ =>
  bP (U pins s2 σ H2 x y v u _ I2 r1 J Y) λd s3 ⟨z,R,O,r3,k,e,L⟩=>?_)) hm
 subst e;cases r3;refine wpAny_truthy_bool ?_;cases k with
 |false=>exact ite_ff ⟨.bl false,R,O,rfl,L⟩
 |true=>exact ite_tt (chain_last (bP (hc pins s3 σ R _ O L) λw' s4 ac=>by obtain⟨z',H4,I4,r4,S⟩:=ac;exact ab pins s4 σ H4 y z' u w' Q I4 J r4 S))
theorem lZ:(sizeLine:Nat)<2^63:=by rw[sizeLine_eq];decide
theorem vals1 {x:V}{us:List Value}(r:Vals [x] us):∃u,us=[u]/\RelV x u:=by
 cases r with
 |cons G F=>cases F;exact⟨_,rfl,G⟩
theorem vals2 {x y:V}{us:List Value}(r:Vals [x,y] us):∃u F,us=[u,F]/\RelV x u/\RelV y F:=by
 cases r with
 |cons J G =>
  cases G with
  |cons I L=>cases L;exact⟨_,_,rfl,J,I⟩
theorem nv (G:X.calm=true):di X (.builtin "max") (λxs H Q=>∃i j,xs=[.int i,.int j]/\Q (.int (if j>i then j else i)) H):=by
 intro pins s σ H xs us Q I r h;obtain⟨i,j,rfl,q⟩:=h;obtain⟨u,J,rfl,⟨t,rfl⟩,⟨t',rfl⟩⟩:=vals2 r;refine max_two_ints (I.ok.hd G) λh' tk k=>⟨_,H,I.kept k,?_,q⟩;by_cases F:j>i
 .rw[if_pos F,if_pos F];exact⟨_,rfl⟩
 .rw[if_neg F,if_neg F];exact⟨_,rfl⟩
theorem vT (G:X.calm=true):di X (.builtin "min") (λxs H Q=>∃i j,xs=[.int i,.int j]/\Q (.int (if j<i then j else i)) H):=by
 intro pins s σ H xs us Q I r h;obtain⟨i,j,rfl,q⟩:=h;obtain⟨u,J,rfl,⟨t,rfl⟩,⟨t',rfl⟩⟩:=vals2 r;refine min_two_ints (I.ok.hd G) λh' tk k=>⟨_,H,I.kept k,?_,q⟩;by_cases F:j<i
 .rw[if_pos F,if_pos F];exact⟨_,rfl⟩
 .rw[if_neg F,if_neg F];exact⟨_,rfl⟩
theorem dU:di X (.type "int") (λxs H Q=>(∃i,xs=[.int i]/\Q (.int i) H)\/∃k,xs=[.bl k]/\Q (.int (if k then 1 else 0)) H):=by
 intro pins s σ H xs us Q I r h;rcases h with⟨i,rfl,q⟩|⟨k,rfl,q⟩
 .obtain⟨u,rfl,t,rfl⟩:=vals1 r;exact call_int_int ⟨.int i,H,I,⟨_,rfl⟩,q⟩
 .obtain⟨u,rfl,F⟩:=vals1 r;cases F;exact call_int_bool ⟨.int (if k then 1 else 0),H,I.tok _,⟨_,rfl⟩,q⟩
end
structure tO (h:Heap) (x dx C:Addr) (mA:Str->Option Value):Prop where
 obj:h.get? x=some (instObj C dx)
 ns:h.Ns1 dx mA
 ne:dx≠x
theorem wk {h:Heap}{dx:Addr}{mA:Str->Option Value}(n:h.Ns1 dx mA):∃od,h.get? dx=some od/\∀name,lookIn name od=some (mA name):=by
 obtain⟨o,es,ep,F,hd,L,_,N⟩:=n;refine⟨o,F,λname=>?_⟩;have e:=N name;unfold nsFind findBy at e;rw[<-Array.find?_toList]at e;unfold lookIn;rw[hd];dsimp only
 set_option tactic.hygienic true in split
 .rename_i y q;rw[q]at e;exact congrArg some e
 .rename_i q;rw[q]at e;have a:es.toList.any (·.refKey)=false:=by
   rw[List.any_eq_false];intro y I;obtain⟨z,t,J⟩:=L y (Array.mem_toList_iff.mp I);simp[DictEntry.refKey,J]
  have G:¬ es.toList.any (·.refKey)=true:=(by rw[a];exact Bool.false_ne_true);rw[if_neg G];exact congrArg some e
theorem tO.look {h:Heap}{x dx C:Addr}{mA:Str->Option Value}(I:tO h x dx C mA):∃od,PySem.W.InstAt h x (instObj C dx) C (some od)/\∀name,lookIn name od=some (mA name):=
 let ⟨od,G,F⟩:=wk I.ns
 ⟨od,⟨I.obj,rfl,rfl,G⟩,F⟩
section
variable {prog:Program}{w:World}{A:Around}{E:Value->Shared->Prop}{s:Shared}{K:PySem.W.Frag}{x dx C f:Addr}{mA:Str->Option Value}{name:Str}{v:Value}
theorem get_map {L:Bool}{Q:Value->Shared->Prop}(X:K.In s.heap) (I:tO s.heap x dx C mA) (hg:plainGet K C name=true) (F:hasDictIn K C=true)
  (R:findIn K (.ref C) name=some none) (O:mA name=some v) (N:handedIn v=true) (h:Q v { s with toks:=s.toks+1 }) :
  wpAny (model prog w) A (getAttr (.ref x) name L) Q E s:=by
 obtain⟨od,J,G⟩:=I.look;exact PySem.W.get_value X J (plainGet_of hg).1 (PySem.W.findObj_own F R rfl (by rw[G,O])) N h
theorem zA {pl:Sem Bool}{Q:Value×List Value->Shared->Prop}(X:K.In s.heap) (I:tO s.heap x dx C mA) (hg:plainGet K C name=true)
  (G:findIn K (.ref C) name=some (some (.ref f))) (L:isFn K (.ref f)=true) (N:mA name=none) (h:Q (.ref f,[.ref x]) s) :
  wpAny (model prog w) A (getMethod (.ref x) name pl) Q E s:=by
 obtain⟨od,J,F⟩:=I.look;exact PySem.W.method_fn X J (plainGet_of hg).1 (plainGet_of hg).2 G (beq_iff_eq.mp L) (by show(lookIn name od).map (·.isSome)=some false;rw[F,N];rfl) h
theorem zP {ns:List Str}{Q:Unit->Shared->Prop}(X:K.In s.heap) (I:tO s.heap x dx C mA)
  (hs:findIn K (.ref C) "__setattr__" = some (some (.builtin "object.__setattr__"))) (U:plainOver K C=true) (ht:takerIn K C name=some none) (Y:hasDictIn K C=true)
  (R:PySem.Within mA ns) (hsz:ns.length<=sizeLine)
  (h:∀h',tO h' x dx C (λy=>if y=name then some v else mA y)->Heap.SameBut dx s.heap h'->Q () { s with heap:=h',toks:=s.toks+2 }) :
  wpAny (model prog w) A (setAttr (.ref x) name v) Q E s:=by
 obtain⟨od,J,hl⟩:=I.look;refine PySem.W.set_plain X J hs (PySem.W.osa_open (s:={ s with toks:=s.toks+1 }) (r:=none) X J U ht λb=>?_);obtain⟨cd,O,ab⟩:=PySem.W.any_some Y;have S:s.heap.get? x=some ⟨.ref C,some dx,.plain, #[]⟩:=I.obj;refine wpAny_bind (wpAny_pure (wpAny_bind (wpAny_bind (wpAny_loadPart S (wpAny_bind (PySem.W.Looks.here (s:={ s with toks:=s.toks+1 }) (PySem.W.looks_clsIn X O) ?_))))));rw[ab];refine wpAny_pure (a:=some dx) (wpAny_bind (wpAny_pure (wpAny_bind ?_)));refine wpAny_nsSet1 (s:={ s with toks:=s.toks+1 }) I.ns λh' F G=>?_;obtain⟨oD,am,ad,N,L,ac⟩:=F.count (PySem.Within.cons name v R);refine wpAny_bind (wpAny_lookBehind N (by rw[L];exact pastItsLine_dict (le_trans ac (by rw[length_cons];omega))) ?_);exact wpAny_pure (h _ ⟨(G.2 _ (Ne.symm I.ne)).trans I.obj,F,I.ne⟩ G)
theorem xF {R:Result->Shared->Prop}{vs:List Value}{F:List (Str×Value)}(X:K.In s.heap) (I:makesIn K C=true)
  (hi:findIn K (.ref C) "__init__" = some (some (.ref f))) (G:PySem.W.typeIn K (.ref f)=some (.type "function"))
  (h:codeAny (model prog w) (A.under (.builtin "type.__call__" ⟨.ref C::vs,F⟩)) (.call (.ref f) ⟨.ref (s.heap.objs.size+1)::vs,F⟩) (PySem.W.InitBack (s.heap.objs.size+1) R)
   { s with heap:=(s.heap.push emptyDict).push (instObj C s.heap.objs.size) }) :
  codeAny (model prog w) A (.call (.ref C) ⟨vs,F⟩) R s:=by
 obtain⟨J,g,d,t,os⟩:=s;exact PySem.W.make_core (PySem.W.makes_of X I) (PySem.W.looks_findIn X hi) (λself=>PySem.W.bind_fn X self G) (.inl rfl) h
end
noncomputable def bj (f:Str) (v:V):List (Str×V)->List (Str×V)
 | []=>[(f,v)]
 |(g,x)::r=>if g=f then(g,v)::r else(g,x)::bj f v r
theorem aD (f g:Str) (v:V):∀fs:List (Str×V),(bj f v fs).lookup g=if g=f then some v else fs.lookup g
 | []=>by
  show List.lookup g [(f,v)]=_;by_cases h:g=f
  .have F:(g==f)=true:=beq_iff_eq.mpr h;simp only[List.lookup,F,if_pos h]
  .have F:(g==f)=false:=beq_eq_false_iff_ne.mpr h;simp only[List.lookup,F,if_neg h]
 |(k,x)::r=>by
  have I:=aD f g v r;rw[show bj f v ((k,x)::r)=(if k=f then(k,v)::r else(k,x)::bj f v r)from rfl];by_cases G:k=f
  .rw[if_pos G];by_cases h:g=k
   .have F:(g==k)=true:=beq_iff_eq.mpr h;simp only[List.lookup,F,if_pos (h.trans G)]
   .have F:(g==k)=false:=beq_eq_false_iff_ne.mpr h;simp only[List.lookup,F,if_neg (λe:g=f=>h (e.trans G.symm))]
  .rw[if_neg G];by_cases h:g=k
   .have F:(g==k)=true:=beq_iff_eq.mpr h;simp only[List.lookup,F,if_neg (λe:g=f=>G (h.symm.trans e))]
   .have F:(g==k)=false:=beq_eq_false_iff_ne.mpr h;simp only[List.lookup,F];exact I
theorem jU (f:Str) (v:V):∀fs:List (Str×V),f∈(bj f v fs).map (·.1)/\∀g,g∈fs.map (·.1)->g∈(bj f v fs).map (·.1)
 | []=>⟨by simp[bj],λg h=>by simp at h⟩
 |(k,x)::r=>by
  obtain⟨I,G⟩:=jU f v r;rw[show bj f v ((k,x)::r)=(if k=f then(k,v)::r else(k,x)::bj f v r)from rfl];by_cases F:k=f
  .rw[if_pos F];subst F;exact⟨by simp,λg h=>by simpa using h⟩
  .rw[if_neg F];refine⟨?_,λg h=>?_⟩
   .rw[map_cons];exact mem_cons_of_mem _ I
   .rw[map_cons]at h ⊢;rcases List.mem_cons.mp h with e|e
    .exact List.mem_cons.mpr (.inl e)
    .exact mem_cons_of_mem _ (G g e)
theorem ky (f:Str) (v:V):∀fs:List (Str×V),(bj f v fs).length<=fs.length+1
 | []=>by simp[bj]
 |(k,x)::r=>by
  have G:=ky f v r;rw[show bj f v ((k,x)::r)=(if k=f then(k,v)::r else(k,x)::bj f v r)from rfl];by_cases F:k=f
  .rw[if_pos F,length_cons,length_cons];omega
  .rw[if_neg F,length_cons,length_cons];omega
theorem fB.some_of {v:V}{o:Option Value}(r:fB (some v) o):∃u,o=some u/\RelV v u:=by
 cases o with
 |none=>exact(show False from r).elim
 |some u=>exact⟨u,rfl,r⟩
theorem fB.none_of {o:Option Value}(r:fB none o):o=none:=by
 cases o with
 |none=>rfl
 |some u=>exact(show False from r).elim
theorem wC {v:V}{u:Value}(r:RelV v u):handedIn u=true:=by
 cases v with
 |non=>cases(show u=Value.none from r);rfl
 |bl b=>cases(show u=Value.bool b from r);rfl
 |int i=>obtain⟨t,e⟩:=(show ∃t,u=Value.int i t from r);cases e;rfl
 |str x=>obtain⟨t,e⟩:=(show ∃t,u=Value.str x t from r);cases e;rfl
 |byt b=>obtain⟨t,e⟩:=(show ∃t,u=Value.bytes b t from r);cases e;rfl
 |flt b=>obtain⟨t,e⟩:=(show ∃t,u=Value.float b t from r);cases e;rfl
 |ref a=>cases(show u=Value.ref a from r);rfl
 |ty n=>cases(show u=Value.type n from r);rfl
section
variable {P:Program}{w:World}{H H':Hp}{h h':Heap}{a C dx:Addr}{fs fs':List (Str×V)}
theorem kP (I:iI P w H h) (e:H a=some (.ins C dx fs)):∃mA,tO h a dx C mA/\(∀f,fB (fs.lookup f) (mA f))/\PySem.Within mA (fs.map (·.1))/\fs.length<=1000/\H dx=some (.own a):=by
 obtain⟨d,z,G,F,mA,n,r,q⟩:=(show bT P w H h a (.ins C dx fs)from I a _ e);exact⟨mA,⟨F,n,G⟩,r,q,z,d⟩
end
structure qt (K:PySem.W.Frag) (C:Addr):Prop where
 pg:plainGet K C Str.empty=true
 hd:hasDictIn K C=true
 po:plainOver K C=true
 sa:findIn K (.ref C) "__setattr__" = some (some (.builtin "object.__setattr__"))
theorem qt.get {K:PySem.W.Frag}{C:Addr}(c:qt K C) (f:Str):plainGet K C f=true:=c.pg
noncomputable def cR (K:PySem.W.Frag) (C:Addr) (f:Str):Prop:=findIn K (.ref C) f=some none
theorem cR.Et {K:PySem.W.Frag}{C:Addr}{f:Str}(n:cR K C f):takerIn K C f=some none:=by
 unfold takerIn;rw[show findIn K (.ref C) f=some none from n];rfl
structure Meth (K:PySem.W.Frag) (C:Addr) (m:Str) (f:Addr):Prop where
 at_:findIn K (.ref C) m=some (some (.ref f))
 fn:isFn K (.ref f)=true
 kp:keepIn K (.ref f)=true
section
variable {X:Cx}{pins:List (Addr×Obj)}{σ:St}{H:Hp}{s:Shared}{a C dx:Addr}{fs:List (Str×V)}{f:Str}{v:V}{A:Around}{E:Value->Shared->Prop}
theorem lX {b:Bool}{Q:Value->Shared->Prop}(I:Inv X pins σ H s) (e:H a=some (.ins C dx fs)) (c:qt X.K C) (n:cR X.K C f) (l:fs.lookup f=some v)
  (h:∀u s',Inv X pins σ H s'->RelV v u->Q u s'):wpAny (model X.prog X.w) A (getAttr (.ref a) f b) Q E s:=by
 obtain⟨mA,O,r,_,_,_⟩:=kP I.bG e;obtain⟨u,G,F⟩:=fB.some_of (v:=v) (o:=mA f) (by rw[<-l];exact r f);exact get_map I.jM O (c.get f) c.hd n G (wC F) (h u _ (I.tok _) F)
theorem kY {m:Str}{g:Addr}{pl:Sem Bool}{Q:Value×List Value->Shared->Prop}(I:Inv X pins σ H s) (e:H a=some (.ins C dx fs)) (c:qt X.K C) (k:Meth X.K C m g) (l:fs.lookup m=none)
  (h:Q (.ref g,[.ref a]) s):wpAny (model X.prog X.w) A (getMethod (.ref a) m pl) Q E s:=by
 obtain⟨mA,O,r,_,_,_⟩:=kP I.bG e;have F:mA m=none:=fB.none_of (by rw[<-l];exact r m);exact zA I.jM O (c.get m) k.at_ k.fn F h
theorem k7 {y:V}{u:Value}{Q:Unit->Shared->Prop}(I:Inv X pins σ H s) (e:H a=some (.ins C dx fs)) (c:qt X.K C) (n:cR X.K C f) (U:fs.length<1000) (N:RelV y u)
  (h:∀s',Inv X pins σ (upd H a (.ins C dx (bj f y fs))) s'->Q () s'):wpAny (model X.prog X.w) A (setAttr (.ref a) f u) Q E s:=by
 obtain⟨mA,O,r,wi,_,G⟩:=kP I.bG e;have J:(fs.map (·.1)).length<=sizeLine:=(by rw[length_map,sizeLine_eq];omega);refine zP I.jM O c.sa c.po n.Et c.hd wi J λh' F R=>h _ ?_;have hd:∃o,h'.get? dx=some o:=let ⟨o,_,_,L,_⟩:=F.ns;⟨o,L⟩;refine I.write (x:=a) (e:=dx) (by rw[e];exact True.intro) (.inr G) (λb q S z=>(R.2 b S).trans z) hd ?_;refine⟨by rw[ai O.ne];exact G,?_,O.ne,F.obj,_,F.ns,λg=>?_,λg hg=>?_⟩
 .have:=ky f y fs;omega
 .show fB ((bj f y fs).lookup g) (if g=f then some u else mA g);rw[aD];by_cases q:g=f
  .rw[if_pos q,if_pos q];exact N
  .rw[if_neg q,if_neg q];exact r g
 .by_cases q:g=f
  .rw[q];exact(jU f y fs).1
  .refine(jU f y fs).2 g (wi g λz=>hg ?_);show(if g=f then some u else mA g)=none;rw[if_neg q];exact z
theorem Inv.made (I:Inv X pins σ H s):Inv X pins σ (upd (upd H s.heap.objs.size (.own (s.heap.objs.size+1))) (s.heap.objs.size+1) (.ins C s.heap.objs.size []))
  { s with heap:=(s.heap.push emptyDict).push (instObj C s.heap.objs.size) }:=by
 have G:(s.heap.push emptyDict).get? s.heap.objs.size=some emptyDict:=Heap.get?_push_size s.heap rfl;have J:((s.heap.push emptyDict).push (instObj C s.heap.objs.size)).get? (s.heap.objs.size+1)=some (instObj C s.heap.objs.size):=by
  have:=Heap.get?_push_size (s.heap.push emptyDict) (o:=instObj C s.heap.objs.size) rfl
  rwa [Heap.size_push]at this
 have O:(s.heap.push emptyDict).Ns s.heap.objs.size (λ_=>none):=⟨emptyDict, #[],_,G,rfl,(λe R=>absurd R (by simp)),λ_=>rfl⟩;have L:=I.laid (a:=s.heap.objs.size) (o:=.own (s.heap.objs.size+1)) (h':=s.heap.push emptyDict) (t':=s.toks) (λb u q=>Heap.get?_push_of_some _ q) (le_refl _) ⟨_,G⟩;refine L.laid (a:=s.heap.objs.size+1) (o:=.ins C s.heap.objs.size []) (t':=s.toks) (λb u q=>Heap.get?_push_of_some _ q) (Nat.le_of_eq (Heap.size_push _ _)) ?_;have F:s.heap.objs.size≠s.heap.objs.size+1:=ne_of_lt (Nat.lt_succ_self _);refine⟨by rw[ai F,ae],zero_le _,F,J,λ_=>none,(Heap.Ns1.of_empty O).at λo q=>Heap.get?_push_of_some _ q,λ_=>True.intro,λy N=>absurd rfl N⟩
theorem AO {prog:Program}{w:World}{env:Env}{e:Expr}{f:Str}{pos:Pos}{s:Shared}{Q:Value->Shared->Prop}(F:attributeBase e f env (eval e env)=eval e env)
  (h:wpAny (model prog w) A (eval e env) (λo G=>wpAny (model prog w) A (getAttr o f true) Q E G) E s):wpAny (model prog w) A (eval (.Attribute e f pos) env) Q E s :=
 Attribute_any_ h (by rw[arm_eval_Attribute,F])
end
inductive Bs (K:PySem.W.Frag) (ta:TE) (f:Str) (Q:VK) (x:V) (H1:Hp):Prop
 |mk (a:_) (C:_) (dx:_) (fs:_) (v:_) (_:x=.ref a) (_:H1 a=some (.ins C dx fs)) (_:qt K C) (_:cR K C f) (_:fs.lookup f=some v) (_:Q v H1):Bs K ta f Q x H1
noncomputable def Ad (K:PySem.W.Frag) (ta:TE) (f:Str):TE:=λσ H Q=>ta σ H λx H1=>Bs K ta f Q x H1
noncomputable def GB (K:PySem.W.Frag) (ta tv:TE) (f:Str):TS:=λD σ H=>tv σ H λy H1=>ta σ H1 λx H2=>Fw λa C dx fs=>r9 (x=.ref a) (H2 a=some (.ins C dx fs)) (qt K C) (cR K C f) (fs.length<1000) (D.nx σ (upd H2 a (.ins C dx (bj f y fs))))
noncomputable def Fb (X:Cx) (F:Operator) (rd:V->V->Hp->VK->Prop):Prop :=
 ∀(pins:List (Addr×Obj)) (s:Shared) (σ:St) (H:Hp) (x y:V) (u v:Value) (Q:VK),Inv X pins σ H s->RelV x u->RelV y v->rd x y H Q->wpAny (model X.prog X.w) X.A (inplaceOp F u v) (EP X pins σ Q) X.xe s
noncomputable def Au (K:PySem.W.Frag) (ta tv:TE) (rd:V->V->Hp->VK->Prop) (f:Str):TS:=λD σ H=>ta σ H λx H1=>zL λa C dx fs v=>r9 (x=.ref a) (H1 a=some (.ins C dx fs)) (qt K C) (cR K C f) (fs.lookup f=some v) (tv σ H1 λy H2=>rd v y H2 λz F=>∃G fs',F a=some (.ins C G fs')/\fs'.length<1000/\D.nx σ (upd F a (.ins C G (bj f z fs'))))
section
variable {X:Cx}{o e value:Expr}{f:Str}{pos pos' tpos:Pos}{ta tv:TE}
theorem aJ (N:PE X e ta) (L:attributeBase e f X.env (eval e X.env)=eval e X.env):PE X (.Attribute e f pos) (Ad X.K ta f):=by
 intro pins s σ H Q I h;refine AO L (bP (N pins s σ H _ I h) λu U F=>?_);obtain⟨x,H1,O,R,a,C,dx,fs,v,ex,G,c,n,l,q⟩:=F;subst ex;obtain rfl:u=Value.ref a:=R;exact lX O G c n l λu' Y J S=>⟨v,H1,J,S,q⟩
theorem eV (L:PE X o ta) (Y:PE X value tv) (hs:swapsWith value (some (.Attribute o f pos')) pos.line X.env=pure false):PS X (.Assign [.Attribute o f pos'] value pos) (GB X.K ta tv f):=by
 intro pins s σ H D I h;refine plainObj_wpAny_Assign_Attribute (bP (Y pins s σ H _ I h) λu G ab=>?_) hs;obtain⟨y,H1,J,S,q⟩:=ab;refine bP (L pins G σ H1 _ J q) λov s2 U=>?_;obtain⟨x,H2,R,rx,a,C,dx,fs,ex,N,c,n,l,F⟩:=U;subst ex;obtain rfl:ov=Value.ref a:=rx;exact k7 R N c n l S λs3 O=>⟨σ,_,O,F⟩
theorem wI {F:Operator}{rd:V->V->Hp->VK->Prop}(U:PE X o ta) (hv:PE X value tv) (ac:Fb X F rd):PS X (.AugAssign (.Attribute o f tpos) F value pos) (Au X.K ta tv rd f):=by
 intro pins s σ H D I h;refine wpAny_AugAssign_AttributeAny (bP (U pins s σ H _ I h) λov s1 am=>?_);obtain⟨x,H1,S,rx,a,C,dx,fs,v,ex,Y,c,n,l,q⟩:=am;subst ex;obtain rfl:ov=Value.ref a:=rx;refine lX S Y c n l λu s2 I2 ru=>bP (hv pins s2 σ H1 _ I2 q) λG s3 ad=>?_;obtain⟨y,H2,I3,ry,N⟩:=ad;refine bP (ac pins s3 σ H2 v y u G _ I3 ru ry N) λw4 s4 ap=>?_;obtain⟨z,H3,I4,O,as,fs',ab,R,J⟩:=ap;exact k7 I4 ab c n R O λs5 L=>⟨σ,_,L,J⟩
inductive EJ (x:V) (y:V) (H:Hp) (Q:VK):Prop
 |mk (i:_) (j:_) (_:x=.int i) (_:y=.int j) (_:Q (.int (i+j)) H):EJ x y H Q
theorem CY:Fb X .Add EJ:=by
 rintro pins s σ H x y u v Q I G F ⟨i,j,rfl,rfl,q⟩;obtain⟨t,rfl⟩:=(show ∃t,u=Value.int i t from G);obtain⟨t',rfl⟩:=(show ∃t',v=Value.int j t' from F);exact PyProof.Rows.iadd_int ⟨.int (i+j),H,I.tok _,⟨_,rfl⟩,q⟩
end
section
variable {X:Cx}{pins:List (Addr×Obj)}{σ:St}{H:Hp}{s:Shared}{A:Around}{E:Value->Shared->Prop}{Q:Value->Shared->Prop}{c:Value}{b:Bool}
inductive jB (K:PySem.W.Frag) (H:Hp):V->Value->Prop where
 |non:jB K H .non (.type "NoneType")
 |bl (x:Bool):jB K H (.bl x) (.type "bool")
 |int (i:Int):jB K H (.int i) (.type "int")
 |str (x:Str):jB K H (.str x) (.type "str")
 |flt (x:UInt64):jB K H (.flt x) (.type "float")
 |lst {a:Addr}{xs:List V}(e:H a=some (.lst xs)):jB K H (.ref a) (.type "list")
 |frz {a:Addr}{o:Obj}{xs:List V}(e:H a=some (.frz o (.lst xs))):jB K H (.ref a) (.type "list")
 |tup {a:Addr}{xs:List V}(e:H a=some (.tup xs)):jB K H (.ref a) (.type "tuple")
 |dK {a:Addr}{kvs:List (Key×V)}(e:H a=some (.dK kvs)):jB K H (.ref a) (.type "dict")
 |dT {a:Addr}{kvs:List (List Key×V)}(e:H a=some (.dT kvs)):jB K H (.ref a) (.type "dict")
 |ins {a C dx:Addr}{fs:List (Str×V)}(e:H a=some (.ins C dx fs)) (cl:qt K C) (ha:findIn K (.ref C) "__class__" = some (some (.builtin "object.__class__")))
   (hn:PySem.W.specialIn K (.builtin "object.__class__") "__get__" = some (some (.builtin "getset_descriptor.__get__"))) (htk:PySem.W.takesIn K (.builtin "object.__class__")=some true)
   (hm:PySem.W.mroIn K C (.type "object")=some true):jB K H (.ref a) (.ref C)
theorem wH {x:V}{u t:Value}(I:Inv X pins σ H s) (G:RelV x u) (ty:jB X.K H x t) (e:kitOne X.K t c=some b) (h:∀tk,Q (.bool b) { s with toks:=tk }) :
  wpAny (model X.prog X.w) A (call (.builtin "isinstance") [u,c]) Q E s:=by
 cases ty with
 |non=>cases(show u=Value.none from G);exact kia_one PySem.W.kitx_none I.jM True.intro e (λz=>nomatch z) h
 |bl y=>cases(show u=Value.bool y from G);exact kia_one PySem.W.kitx_bool I.jM True.intro e (λz=>nomatch z) h
 |int i=>obtain⟨t,q⟩:=(show ∃t,u=Value.int i t from G);cases q;exact kia_one PySem.W.kitx_int I.jM True.intro e (λz=>nomatch z) h
 |str y=>obtain⟨t,q⟩:=(show ∃t,u=Value.str y t from G);cases q;exact kia_one PySem.W.kitx_str I.jM True.intro e (λz=>nomatch z) h
 |flt y=>obtain⟨t,q⟩:=(show ∃t,u=Value.float y t from G);cases q;exact kia_one PySem.W.kitx_float I.jM True.intro e (λz=>nomatch z) h
 | @lst a xs F =>
  cases(show u=Value.ref a from G);obtain⟨_,_,n,_,h1⟩:=(show bT X.prog X.w H s.heap a (.lst xs)from I.bG a _ F);exact kia_one kitx_list I.jM ⟨_,h1,rfl⟩ e (λz=>nomatch z) h
 | @frz a U xs F =>
  cases(show u=Value.ref a from G);obtain⟨_,_,_,n,_,h1⟩:=(show bT X.prog X.w H s.heap a (.frz U (.lst xs))from I.bG a _ F);exact kia_one kitx_list I.jM ⟨_,h1,rfl⟩ e (λz=>nomatch z) h
 | @tup a xs F =>
  cases(show u=Value.ref a from G);obtain⟨_,_,_,p⟩:=(show bT X.prog X.w H s.heap a (.tup xs)from I.bG a _ F);obtain⟨o,h1,h2,_⟩:=p;exact kia_one kitx_tuple I.jM ⟨o,h1,h2⟩ e (λz=>nomatch z) h
 | @dK a kvs F =>
  cases(show u=Value.ref a from G);obtain⟨_,_,vs,_,p⟩:=(show bT X.prog X.w H s.heap a (.dK kvs)from I.bG a _ F);obtain⟨o,es,ep,h1,h2,_⟩:=p;exact kia_one kitx_dict I.jM ⟨o,h1,h2.1⟩ e (λz=>nomatch z) h
 | @dT a kvs F =>
  cases(show u=Value.ref a from G);obtain⟨_,_,xs,_,o,es,ep,h1,h2,_⟩:=(show bT X.prog X.w H s.heap a (.dT kvs)from I.bG a _ F);exact kia_one kitx_dict I.jM ⟨o,h1,h2.1⟩ e (λz=>nomatch z) h
 | @ins a C dx fs F cl S N L R =>
  cases(show u=Value.ref a from G);obtain⟨mA,O,_⟩:=kP I.bG F;obtain⟨od,J,_⟩:=O.look;exact kia_one (PySem.W.kitx_own (cl.get _) cl.hd S N L R) I.jM J e (λz=>nomatch z) h
end
structure dv (k:Nat) (A:Around):Prop where
 hd:A.handled=none
 dp:A.depth+3*k+5<recursionLimit
 un:A.units+16*k+200<cLine
theorem dv.mono {j k:Nat}{A:Around}(r:dv k A) (h:j<=k):dv j A:=⟨r.hd,by have:=r.dp;omega,by have:=r.un;omega⟩
theorem dv.deeper {k:Nat}{A:Around}(r:dv (k+1) A) (env:Env):dv k (A.deeper env):=
 ⟨r.hd,by have:=r.dp;show A.depth+1+3*k+5<_;omega,by have:=r.un;show A.units+3+16*k+200<_;omega⟩
theorem sX {A:Around}{C:Addr}{us:List Value}{F:List (Str×Value)}:(A.under (.builtin "type.__call__" ⟨.ref C::us,F⟩)).depth=A.depth+1:=by
 first|rfl|simp[Around.under,Code.weight,Code.isCreation,Code.isGuard,Code.isCaller,Code.frames,Code.isFrame,guardIds]
theorem tZ {A:Around}{C:Addr}{us:List Value}{F:List (Str×Value)}:(A.under (.builtin "type.__call__" ⟨.ref C::us,F⟩)).units=A.units+1:=by
 first|rfl|simp[Around.under,Code.cUnits,Code.frames,Code.isFrame]
theorem dv.make {k:Nat}{A:Around}(r:dv (k+1) A) (C:Addr) (us:List Value) (F:List (Str×Value)):dv k (A.under (.builtin "type.__call__" ⟨.ref C::us,F⟩)):=
 ⟨r.hd,by have:=r.dp;rw[sX];omega,by have:=r.un;rw[tZ];omega⟩
theorem dv.depth {k:Nat}{A:Around}(r:dv k A):A.depth<recursionLimit:=by have:=r.dp;omega
theorem dv.units {k:Nat}{A:Around}(r:dv k A):A.units+64<cLine:=by have:=r.un;omega
theorem dv.gM {k:Nat}{A:Around}(r:dv k A):A.units<cLine:=by have:=r.un;omega
noncomputable def Ax:TA:=λ_ H Q=>Q [] H
noncomputable def DL (ta:TE) (F:TA):TA:=λσ H Q=>ta σ H λx H1=>F σ H1 λxs H2=>Q (x::xs) H2
section
variable {X:Cx}{e:Expr}{es:List Expr}{te:TE}{t:TA}{pos:Pos}
theorem aj:PA X [] Ax:=λ_ _ _ _ H Q I h=>Calls.spliced_nil ⟨[],H,I,.nil,h⟩
theorem aa (ha:PE X e te) (F:PA X es t) (hs:starEach (e::es) X.env=(false,eval e X.env)::starEach es X.env:=by rfl):PA X (e::es) (DL te t):=by
 intro pos pins s σ H Q I h;rw[hs];show wpAny _ _ (spliced ((false,eval e X.env)::backTo pos (starEach es X.env))) _ _ s;refine Calls.spliced_cons (bP (ha pins s σ H _ I h) λu O U=>?_);obtain⟨x,H1,Y,L,S⟩:=U;exact bP (F pos pins O σ H1 _ Y S) λus s2 J=>by obtain⟨xs,H2,R,G,N⟩:=J;exact⟨x::xs,H2,R,.cons L G,N⟩
noncomputable def Gm (t:TA):TE:=λσ H Q=>t σ H λxs H1=>xs.length<=sizeLine/\∀p,H1 p=none->Q (.ref p) (upd H1 p (.tup xs))
noncomputable def EC (t:TA):TE:=λσ H Q=>t σ H λxs H1=>xs.length<=sizeLine/\∀p,H1 p=none->Q (.ref p) (upd H1 p (.lst xs))
theorem cF {x1} (h:PA X es t):PE X (.Tuple es x1 pos) (Gm t):=by
 intro pins s σ H Q I N;refine wpAny_Tuple_spliced (bP (h pos pins s σ H _ I N) λus F L=>?_);obtain⟨xs,H1,G,r,z,q⟩:=L;refine⟨by rw[<-r.length];exact z,?_⟩;have J:H1 F.heap.objs.size=none:=G.bG.fresh (le_refl _);refine⟨.ref F.heap.objs.size,upd H1 F.heap.objs.size (.tup xs),G.laid (t':=F.toks) (λb u e=>Heap.get?_push_of_some _ e) (le_refl _) ?_,rfl,q _ J⟩;exact⟨z,us,r,⟨_,Heap.get?_push_size _ rfl,rfl,_,rfl⟩⟩
theorem bU (h:PA X es t):PE X (.List es pos) (EC t):=by
 intro pins s σ H Q I L;refine wpAny_List_spliced (bP (h pos pins s σ H _ I L) λus F N=>?_);obtain⟨xs,H1,G,r,z,q⟩:=N;refine⟨by rw[<-r.length];exact z,?_⟩;have J:H1 F.heap.objs.size=none:=G.bG.fresh (le_refl _);refine⟨.ref F.heap.objs.size,upd H1 F.heap.objs.size (.lst xs),G.laid (t':=F.toks) (λb u e=>Heap.get?_push_of_some _ e) (le_refl _) ?_,rfl,q _ J⟩;exact⟨z,us,0,r,Heap.get?_push_size _ rfl⟩
end
noncomputable abbrev Sp:=List V->Hp->VK->XK->Prop
noncomputable abbrev vi:=List Env->Hp->Shared->XK->Value->Shared->Prop
structure t5 (P:Program) (w:World) (K:PySem.W.Frag) (mg:Str->Option Value) (base:Heap) (A:Around) (outer:List Env) (s:Shared) (H:Hp):Prop where
 frames:A.frames=some outer
 mod:Mod K mg base
 bs:∀b o,base.get? b=some o->s.heap.get? b=some o/\H b=none
 zO:base.objs.size<=s.heap.objs.size
 kj:s.heap.FunFrames base outer
 BA:∀b∈xm outer,H b=none
 bG:iI P w H s.heap
 bare:AllBare s.gens
noncomputable def CE (outer:List Env) (P:Program) (w:World) (H:Hp) (s:Shared) (Q:VK) (u:Value) (s':Shared):Prop :=
 ∃v H',s'.os=s.os/\AllBare s'.gens/\Un (xm outer) [] H H' s.heap s'.heap/\iI P w H' s'.heap/\RelV v u/\Q v H'
noncomputable def CR (CX:vi) (outer:List Env) (P:Program) (w:World) (H:Hp) (s:Shared) (Q:VK) (E:XK) (r:Result) (s':Shared):Prop :=
 match r with
 |.ok (.ret u)=>CE outer P w H s Q u s'
 |.ok _=>False
 |.error e=>CX outer H s E e s'
structure bg (P:Program) (w:World) (K:PySem.W.Frag) (mg:Str->Option Value) (base:Heap) (CX:vi) (k:Nat) (f:Addr) (fd:FuncData) (ps:List Str) (sp:Sp):Prop where
 len:∀vs H Q E,sp vs H Q E->vs.length=ps.length
 run:∀(A:Around) (outer:List Env) (s:Shared) (H:Hp) (args:Args) (us:List Value) (vs:List V) (Q:VK) (E:XK),dv k A->t5 P w K mg base A outer s H->BindsTo s fd args (ps.zip us)->Vals vs us->sp vs H Q E ->
  codeAny (model P w) A (.call (.ref f) args) (CR CX outer P w H s Q E) s
theorem t5.make {P:Program}{w:World}{K:PySem.W.Frag}{mg:Str->Option Value}{base:Heap}{A:Around}{outer:List Env}{s:Shared}{H:Hp}(e:t5 P w K mg base A outer s H) (C:Addr) (us:List Value) (F:List (Str×Value)) :
  t5 P w K mg base (A.under (.builtin "type.__call__" ⟨.ref C::us,F⟩)) outer s H:=⟨by first|exact e.frames|(simpa[Around.under,Code.envs,Code.isFrame,pushEnvs]using e.frames),e.mod,e.bs,e.zO,e.kj,e.BA,e.bG,e.bare⟩
section
variable {X:Cx}{pins:List (Addr×Obj)}{σ:St}{H:Hp}{s s':Shared}
theorem Inv.DS (I:Inv X pins σ H s):t5 X.prog X.w X.K X.mg X.base X.A X.stack s H :=
 ⟨I.ok.frames,I.ok.mod,I.bs,le_trans I.ok.zO I.sz,I.stack,I.vv,I.bG,I.bare⟩
theorem Inv.after {Q:VK}{u:Value}(I:Inv X pins σ H s) (h:CE X.stack X.prog X.w H s Q u s'):EP X pins σ Q u s':=by
 obtain⟨v,H',os,bare,un,J,r,q⟩:=h;obtain⟨G,g,d,t,F⟩:=s';obtain rfl:F=s.os:=os;exact⟨v,H',I.call (h':=G) (g':=g) (d':=d) (t':=t) (ch:=[]) un J bare (λb z=>absurd z (by simp)),r,q⟩
end
noncomputable def BB (sp:Sp) (dvs:List V) (E:XK) (t:TA):TE:=λσ H Q=>t σ H λvs H1=>sp (vs++dvs) H1 Q E
inductive zE (C:Addr) (m:Str) (sp:Sp) (dvs:List V) (E:XK) (ta:TE) (t:TA) (σ:St) (Q:VK) (x:V) (H1:Hp):Prop
 |mk (a:_) (dx:_) (fs:_) (_:x=.ref a) (_:H1 a=some (.ins C dx fs)) (_:fs.lookup m=none) (_:t σ H1 λvs H2=>sp (x::(vs++dvs)) H2 Q E):zE C m sp dvs E ta t σ Q x H1
noncomputable def uU (C:Addr) (m:Str) (sp:Sp) (dvs:List V) (E:XK) (ta:TE) (t:TA):TE:=λσ H Q=>ta σ H λx H1=>zE C m sp dvs E ta t σ Q x H1
noncomputable def Bv (C:Addr) (sp:Sp) (dvs:List V) (E:XK) (t:TA):TE:=λσ H Q=>t σ H λvs H1=>∀x dx,H1 x=none->H1 dx=none->dx≠x ->
 sp (.ref x::(vs++dvs)) (upd (upd H1 dx (.own x)) x (.ins C dx [])) (λv H2=>v=.non/\Q (.ref x) H2) E
noncomputable def Binds (K:PySem.W.Frag) (fd:FuncData) (ps:List Str) (ds:List Value):Prop :=
 ∀(s:Shared) (us:List Value),K.In s.heap->(us++ds).length=ps.length->BindsTo s fd ⟨us,[]⟩ (ps.zip (us++ds))
theorem Binds.all {K:PySem.W.Frag}{fd:FuncData}{ps:List Str}(h:∀us:List Value,us.length=ps.length->bindArgs fd ⟨us,[]⟩=pure (ps.zip us)):Binds K fd ps []:=λs us _ F=>by
 rw[append_nil]at F ⊢;exact .of_eq (h us F)
noncomputable def Passes (CX:vi) (X:Cx) (E:XK):Prop:=∀(pins:List (Addr×Obj)) (σ:St) (H:Hp) (s:Shared) (e:Value) (s':Shared),Inv X pins σ H s->CX X.stack H s E e s'->X.xe e s'
section
variable {X:Cx}{CX:vi}{k:Nat}{f C:Addr}{fd:FuncData}{ps:List Str}{sp:Sp}{dvs:List V}{ds:List Value}{E:XK}{x m:Str}{p pos apos:Pos}{e o:Expr}{es:List Expr}{ta:TE}{t:TA}
theorem ud {pins:List (Addr×Obj)}{σ:St}{H:Hp}{s:Shared}{Q:VK}{us:List Value}{vs:List V}(F:bg X.prog X.w X.K X.mg X.base CX k f fd ps sp) (L:dv k X.A) (S:Binds X.K fd ps ds) (hd:Vals dvs ds) (N:Passes CX X E)
  (I:Inv X pins σ H s) (r:Vals vs us) (h:sp (vs++dvs) H Q E):wpAny (model X.prog X.w) X.A (call (.ref f) us) (EP X pins σ Q) X.xe s:=by
 have J:Vals (vs++dvs) (us++ds):=r.append hd;have O:(us++ds).length=ps.length:=(by rw[<-J.length];exact F.len _ _ _ _ h);refine wpAny_call (codeAny_mono (F.run X.A X.stack s H ⟨us,[]⟩ (us++ds) (vs++dvs) Q E L I.DS (S s us I.jM O) J h) λr s' G=>?_);cases r with
 |error e=>exact N pins σ H s e s' I G
 |ok R =>
  cases R with
  |ret u=>exact I.after G
  |next=>exact False.elim G
  |brk=>exact False.elim G
  |cont=>exact False.elim G
theorem Aq (F:bg X.prog X.w X.K X.mg X.base CX k f fd ps sp) (J:dv k X.A) (hg:Gl X x) (hm:X.mg x=some (.ref f)) (Y:keepIn X.K (.ref f)=true) (S:Binds X.K fd ps ds) (hd:Vals dvs ds) (O:Passes CX X E)
  (ha:PA X (e::es) t) (N:(x==("__debug__" : Str))=false:=by decide) (U:starEach (e::es) X.env=(false,eval e X.env)::starEach es X.env:=by rfl) (L:(backTo pos (starEach es X.env)).any (·.1)=false:=by rfl) :
  PE X (.Call (.Name x p) (e::es) [] pos) (BB sp dvs E t):=by
 intro pins s σ H Q I h;refine wpAny_Call_Name_kw (kG I hg hm ?_ N);refine callWith_K (h₀:=X.base) I.ok.mod.DH Y (bP (ha pos pins s σ H _ I h) λus s1 R=>?_) U L;obtain⟨vs,H1,G,r,q⟩:=R;refine⟨G.jM,?_⟩;exact ud F J S hd O G r q
theorem Af {pl:Sem Bool}(he:PE X o ta) (c:qt X.K C) (J:Meth X.K C m f) (F:bg X.prog X.w X.K X.mg X.base CX k f fd ps sp) (N:dv k X.A) (hb:Binds X.K fd ps ds) (hd:Vals dvs ds) (hx:Passes CX X E) (U:PA X (e::es) t)
  (ac:starEach (e::es) X.env=(false,eval e X.env)::starEach es X.env:=by rfl) (ab:(backTo pos (starEach es X.env)).any (·.1)=false:=by rfl)
  (ht:eval (.Call (.Attribute o m apos) (e::es) [] pos) X.env=(do
   let ov <-eval o X.env
   standAt apos.atName
   let (f,first) <-holding [ov] (getMethod ov m pl)
   callWith pos f first (backTo pos (starEach (e::es) X.env)) (backToKw pos (keywordEach [] X.env))):=by rfl) :
  PE X (.Call (.Attribute o m apos) (e::es) [] pos) (uU C m sp dvs E ta t):=by
 intro pins s σ H Q I h;refine PySem.W.methodCall_KW (pl:=pl) (bP (he pins s σ H _ I h) λu S Y=>?_) ht;obtain⟨x,H1,G,rx,a,dx,fs,ex,ea,l,q⟩:=Y;subst ex;obtain rfl:u=Value.ref a:=rx;refine kY G ea c J l ?_;refine callWith_K (first:=[.ref a]) (h₀:=X.base) I.ok.mod.DH J.kp (bP (U pos pins S σ H1 _ G q) λus s2 O=>?_) ac ab;obtain⟨vs,H2,L,r,R⟩:=O;refine⟨L.jM,?_⟩;exact ud (us:=.ref a::us) (vs:=.ref a::vs) F N hb hd hx L (.cons rfl r) R
theorem yE {pl:Sem Bool}(U:PE X o ta) (c:qt X.K C) (J:Meth X.K C m f) (F:bg X.prog X.w X.K X.mg X.base CX k f fd ps sp) (L:dv k X.A) (S:Binds X.K fd ps ds) (hd:Vals dvs ds) (N:Passes CX X E)
  (ht:eval (.Call (.Attribute o m apos) [] [] pos) X.env=(do
   let ov <-eval o X.env
   standAt apos.atName
   let (f,first) <-holding [ov] (getMethod ov m pl)
   callWith pos f first (backTo pos (starEach [] X.env)) (backToKw pos (keywordEach [] X.env))):=by rfl) :
  PE X (.Call (.Attribute o m apos) [] [] pos) (uU C m sp dvs E ta Ax):=by
 intro pins s σ H Q I h;refine PySem.W.methodCall_KW (pl:=pl) (bP (U pins s σ H _ I h) λu s1 O=>?_) ht;obtain⟨x,H1,G,Y,a,dx,fs,ex,R,l,q⟩:=O;subst ex;obtain rfl:u=Value.ref a:=Y;refine kY G R c J l ?_;exact callWith_K0 (first:=[.ref a]) G.jM J.kp (ud (us:=[.ref a]) (vs:=[.ref a]) F L S hd N G (.cons rfl .nil) q)
structure Mk (K:PySem.W.Frag) (C f:Addr):Prop where
 makes:makesIn K C=true
 init:findIn K (.ref C) "__init__" = some (some (.ref f))
 fn:isFn K (.ref f)=true
 kp:keepIn K (.ref C)=true
theorem q8 {pins:List (Addr×Obj)}{σ:St}{H:Hp}{s:Shared}{Q:VK}{us:List Value}{vs:List V}(M:Mk X.K C f) (F:bg X.prog X.w X.K X.mg X.base CX k f fd ps sp) (O:dv (k+1) X.A) (hb:Binds X.K fd ps ds) (hd:Vals dvs ds)
  (S:Passes CX X E) (I:Inv X pins σ H s) (r:Vals vs us)
  (h:∀x dx,H x=none->H dx=none->dx≠x->sp (.ref x::(vs++dvs)) (upd (upd H dx (.own x)) x (.ins C dx [])) (λv H2=>v=.non/\Q (.ref x) H2) E) :
  wpAny (model X.prog X.w) X.A (call (.ref C) us) (EP X pins σ Q) X.xe s:=by
 have L:=h (s.heap.objs.size+1) s.heap.objs.size (I.bG.fresh (le_succ _)) (I.bG.fresh (le_refl _)) (ne_of_lt (Nat.lt_succ_self _));have J:=Inv.made (C:=C) I;have N:Vals (V.ref (s.heap.objs.size+1)::(vs++dvs)) (Value.ref (s.heap.objs.size+1)::(us++ds)):=.cons rfl (r.append hd);have hl:(Value.ref (s.heap.objs.size+1)::us++ds).length=ps.length:=by
  have e:=N.length;rw[F.len _ _ _ _ L]at e;exact e.symm
 refine wpAny_call (xF (f:=f) I.jM M.makes M.init (beq_iff_eq.mp M.fn) (codeAny_mono (F.run _ X.stack _ _ ⟨Value.ref (s.heap.objs.size+1)::us,[]⟩ (Value.ref (s.heap.objs.size+1)::(us++ds)) _ _ E (O.make C us [])
  (J.DS.make C us []) (hb _ (Value.ref (s.heap.objs.size+1)::us) J.jM hl) N L) λr s' G=>?_))
 cases r with
 |error e=>exact S pins σ _ _ e s' J G
 |ok fl =>
  cases fl with
  |ret u =>
   obtain⟨v,H',I3,U,Y,R⟩:=J.after G;subst Y;exact⟨U,⟨V.ref (s.heap.objs.size+1),H',I3,rfl,R⟩⟩
  |next=>exact False.elim G
  |brk=>exact False.elim G
  |cont=>exact False.elim G
theorem kU (M:Mk X.K C f) (F:bg X.prog X.w X.K X.mg X.base CX k f fd ps sp) (J:dv (k+1) X.A) (hg:Gl X x) (U:X.mg x=some (.ref C)) (R:Binds X.K fd ps ds) (hd:Vals dvs ds) (O:Passes CX X E)
  (ha:PA X (e::es) t) (N:(x==("__debug__" : Str))=false:=by decide) (S:starEach (e::es) X.env=(false,eval e X.env)::starEach es X.env:=by rfl) (L:(backTo pos (starEach es X.env)).any (·.1)=false:=by rfl) :
  PE X (.Call (.Name x p) (e::es) [] pos) (Bv C sp dvs E t):=by
 intro pins s σ H Q I h;refine wpAny_Call_Name_kw (kG I hg U ?_ N);refine callWith_K (h₀:=X.base) I.ok.mod.DH M.kp (bP (ha pos pins s σ H _ I h) λus s1 Y=>?_) S L;obtain⟨vs,H1,G,r,q⟩:=Y;refine⟨G.jM,?_⟩;exact q8 M F J R hd O G r q
theorem qM (M:Mk X.K C f) (F:bg X.prog X.w X.K X.mg X.base CX k f fd ps sp) (G:dv (k+1) X.A) (hg:Gl X x) (O:X.mg x=some (.ref C)) (J:Binds X.K fd ps ds) (hd:Vals dvs ds) (N:Passes CX X E)
  (L:(x==("__debug__" : Str))=false:=by decide):PE X (.Call (.Name x p) [] [] pos) (Bv C sp dvs E Ax):=by
 intro pins s σ H Q I h;refine wpAny_Call_Name_kw (kG I hg O ?_ L);exact callWith_K0 I.jM M.kp (q8 (us:=[]) M F G J hd N I .nil h)
end
section
variable {X:Cx}{CX:vi}{k:Nat}{f C:Addr}{fd:FuncData}{ps ks:List Str}{sp:Sp}{E:XK}{x m:Str}{p pos apos kpos:Pos}{e o:Expr}{es:List Expr}{kws:List Keyword}{te ta:TE}{t tk:TA}{nm:Option Str}
variable {g:List Value->List Value->List Value}{gV:List V->List V->List V}
end
structure aC (N P:List Str) (sc:Scope):Prop where
 kind:sc.kind=.function
 co:sc.isCoroutine=false
 gen:sc.isGenerator=false
 nd:N.Nodup
 pre:N.take P.length=P
 par:∀x∈P,sc.names.lookup x=some .local\/sc.names.lookup x=some .cell
 BE:∀y∈sc.names,y.2≠.free
theorem ny {kindOf:Str->Option NameKind}{x:Str}:∀{binds:List (Str×Value)}{m:Str->Option Value},(∀v,(x,v)∉binds)->bindL kindOf binds m x=m x
 | [],_,_=>rfl
 |(n,v)::r,m,h=>by
  unfold bindL;rw[ny λw F=>h w (mem_cons_of_mem _ F)];split
  .have:x≠n:=(by rintro rfl;exact h v mem_cons_self);simp[this]
  .rfl
theorem nj {kindOf:Str->Option NameKind}{x:Str}:∀{binds:List (Str×Value)}{m:Str->Option Value},(∀v,(x,v)∉binds)->bindC kindOf binds m x=m x
 | [],_,_=>rfl
 |(n,v)::r,m,h=>by
  unfold bindC;rw[nj λw F=>h w (mem_cons_of_mem _ F)];split
  .rfl
  .have:x≠n:=(by rintro rfl;exact h v mem_cons_self);simp[this]
theorem nG {kindOf:Str->Option NameKind}{x:Str}{v:Value}:∀{P:List Str}{vs:List Value}{i:Nat}{m:Str->Option Value},P.Nodup->P[i]?=some x->vs[i]?=some v->kindOf x=some .local ->
  bindL kindOf (P.zip vs) m x=some v
 | [],_,_,_,_,h,_,_=>by simp at h
 |_::_,[],_,_,_,_,h,_=>by simp at h
 |p::P,w::vs,0,m,F,h1,h2,G=>by
  simp at h1 h2;subst h1;subst h2;show bindL kindOf ((p,w)::P.zip vs) m p=_;unfold bindL;rw[ny λv I=>(List.nodup_cons.mp F).1 (of_mem_zip I).1,if_pos G];simp
 |p::P,w::vs,i+1,m,F,h1,h2,G=>by
  show bindL kindOf ((p,w)::P.zip vs) m x=_;unfold bindL;exact nG (i:=i) (List.nodup_cons.mp F).2 (by simpa using h1) (by simpa using h2) G
theorem mZ {kindOf:Str->Option NameKind}{x:Str}{v:Value}:∀{P:List Str}{vs:List Value}{i:Nat}{m:Str->Option Value},P.Nodup->P[i]?=some x->vs[i]?=some v->kindOf x≠some .local ->
  bindC kindOf (P.zip vs) m x=some v
 | [],_,_,_,_,h,_,_=>by simp at h
 |_::_,[],_,_,_,_,h,_=>by simp at h
 |p::P,w::vs,0,m,F,h1,h2,G=>by
  simp at h1 h2;subst h1;subst h2;show bindC kindOf ((p,w)::P.zip vs) m p=_;unfold bindC;rw[nj λv I=>(List.nodup_cons.mp F).1 (of_mem_zip I).1,if_neg G];simp
 |p::P,w::vs,i+1,m,F,h1,h2,G=>by
  show bindC kindOf ((p,w)::P.zip vs) m x=_;unfold bindC;exact mZ (i:=i) (List.nodup_cons.mp F).2 (by simpa using h1) (by simpa using h2) G
noncomputable def start (N:List Str) (vs:List V):St:=vs.map some++replicate (N.length-vs.length) none
noncomputable def vV (CX:vi) (P:Program) (w:World) (K:PySem.W.Frag) (mg:Str->Option Value) (base:Heap) (N:List Str) (F:Str) (scope:Scope) (f:Addr) (cd:Value) (A:Around) (outer:List Env) (s:Shared) (H:Hp) (E:XK):Cx where
 prog:=P
 w:=w
 K:=K
 mg:=mg
 base:=base
 A:=A.deeper (envOfC F scope s.heap.objs.size f cd)
 N:=N
 s₀:=s
 H₀:=H
 env:=envOfC F scope s.heap.objs.size f cd
 outer:=outer
 stack:=envOfC F scope s.heap.objs.size f cd::outer
 ex:=[]
 calm:=true
 fn:=λ_=>true
 pn:=[]
 xe:=λe s'=>wpAny (model P w) (A.deeper (envOfC F scope s.heap.objs.size f cd)) (leaving (envOfC F scope s.heap.objs.size f cd) e) (λ_ G=>CX outer H s E e G) (λI G=>CX outer H s E I G) s'
theorem rl {F:Scope}{n:Nat}{x:Str}(h:F.names.lookup x=some .cell):∃c,(cellsFrom n F.names []).lookup x=some c:=by
 have q:=PySem.W.cellsFrom_some F.names n [] (.inl h);exact Option.isSome_iff_exists.mp q
theorem wb {CX:vi}{P:Program}{w:World}{K:PySem.W.Frag}{mg:Str->Option Value}{base:Heap}{N ps:List Str}{J:Str}{scope:Scope}{f:Addr}{cd:Value}{A:Around}{outer:List Env}{s O:Shared}{H:Hp}{E:XK}{us:List Value}{vs:List V}
  (S:aC N ps scope) (hd:A.handled=none) (F:t5 P w K mg base A outer s H) (hl:vs.length=ps.length) (r:Vals vs us)
  (x:InCallC s s.heap.objs.size (bindL (envOfC J scope s.heap.objs.size f cd).kindOf (ps.zip us) λ_=>none) (cellsFrom (s.heap.objs.size+1) scope.names []) (bindC (envOfC J scope s.heap.objs.size f cd).kindOf (ps.zip us) λ_=>none) O) :
  Inv (vV CX P w K mg base N J scope f cd A outer s H E) [] (start N vs) H O:=by
 have ab:ps.length<=N.length:=(by have:=congrArg List.length S.pre;rw[length_take]at this;omega);obtain⟨h1,tk,rfl,Y⟩:=x.done;have L:∀b:Addr,b∉(vV CX P w K mg base N J scope f cd A outer s H E).ex:=λb z=>absurd (show b∈([]:List Addr)from z) (by simp);refine⟨⟨F.mod,S.kind,rfl,rfl,le_refl _,λy z c h1 h2=>?_,λy G=>?_,λy c _ h=>?_,λ_=>hd,Around.frames_deeper F.frames,.inr ⟨rfl,rfl⟩,λb z=>absurd z (L b),F.bs,F.zO,λb _ _=>L b,λb z=>absurd z (L b),F.kj,F.BA⟩,
  rfl,F.bare,Un.kept Y,⟨_,x.toInCall.ns,λi y v h1 h2 h3=>?_⟩,λy c h=>⟨_,x.cell y c h⟩,F.bG.fresh (le_refl _),λy c h=>?_,λp I=>absurd (show p∈([]:List (Addr×Obj))from I) (by simp),F.bG.kept Y,?_⟩
 .exact name_of_addr x.apart (PySem.mem_of_lookup h1) (PySem.mem_of_lookup h2)
 .have G:scope.names.lookup y=some .cell\/scope.names.lookup y=some .free:=G;rcases G with G|G
  .exact rl G
  .exact absurd rfl (S.BE _ (PySem.mem_of_lookup G))
 .exact le_of_lt (x.above y c (PySem.mem_of_lookup h))
 .have hi:i<vs.length:=by
   unfold start at h2;by_cases hi:i<vs.length
   .exact hi
   .rw[List.getElem?_append_right (by simpa using hi)]at h2;rw[List.getElem?_replicate]at h2;split at h2<;>cases h2
  have ha:vs[i]?=some v:=by
   unfold start at h2;rw[List.getElem?_append_left (by simpa using hi),getElem?_map]at h2;cases e:vs[i]? with
   |none=>rw[e]at h2;cases h2
   |some a=>rw[e]at h2;cases h2;rfl
  obtain⟨u,R,rv⟩:=r.get ha;have I:ps[i]?=some y:=by
   rw[<-S.pre,List.getElem?_take_of_lt af];exact h1
  have U:ps.Nodup:=(by rw[<-S.pre];exact S.nd.sublist (take_sublist _ _));refine⟨u,rv,?_⟩;rcases S.par y (mem_of_getElem? I)with k|k
  .exact .inl ⟨k,nG U I R k⟩
  .obtain⟨c,e⟩:=rl (n:=s.heap.objs.size+1) k;refine .inr ⟨.inl k,c,e,?_⟩;have q:=x.cell y c e;rw[mZ U I R (by show scope.names.lookup y≠_;rw[k];decide)]at q;exact q
 .exact F.bG.fresh (le_of_lt (x.above y c (PySem.mem_of_lookup h)))
 .unfold start;show _=N.length;rw[length_append,length_map,length_replicate];omega
theorem D0 {CX:vi}{P:Program}{w:World}{K:PySem.W.Frag}{mg:Str->Option Value}{base:Heap}{k:Nat}{f:Addr}{name F:Str}{ad:Arguments}{body:List Stmt}{scope:Scope}{dV kV Y pm G ct oc:Value}{an od:Option Addr}
  {aB:Array (Option Value)}{N ps:List Str}{sp:Sp}(lk:K.lookup f=some ⟨oc,od,.func (fnOf name F ad body scope dV kV Y pm an G ct),aB⟩) (a0:codeIn K G F=true) (S:aC N ps scope)
  (len:∀vs H Q E,sp vs H Q E->vs.length=ps.length)
  (am:∀(A:Around) (outer:List Env) (s:Shared) (H:Hp) (vs:List V) (Q:VK) (E:XK),dv k (A.deeper (envOfC F scope s.heap.objs.size f G))->sp vs H Q E ->
   ∃t,uX (vV CX P w K mg base N F scope f G A outer s H E) body t/\t { nx:=λ_ H'=>Q .non H',rt:=Q } (start N vs) H) :
  bg P w K mg base CX (k+1) f (fnOf name F ad body scope dV kV Y pm an G ct) ps sp:=by
 refine⟨len,λA outer s H args us vs Q E U L hb r ac=>?_⟩;have hl:=len _ _ _ _ ac;have KX:K.In s.heap:=L.mod.DH.keeps λb o e=>(L.bs b o e).1;have ap:s.heap.NoLimit:=L.mod.nolimit.keeps λb o e=>(L.bs b o e).1;have as:∀y∈ps.zip us,scope.names.lookup y.1=some .local\/(scope.names.lookup y.1=some .cell/\((cellsFrom (s.heap.objs.size+1) scope.names []).lookup y.1).isSome=true):=λaT hy=>by
  obtain⟨n,v⟩:=aT;rcases S.par n (of_mem_zip hy).1 with q|q
  .exact .inl q
  .exact .inr ⟨q,PySem.W.cellsFrom_some _ _ _ (.inl q)⟩
 refine codeAny_call_function U.depth (KX _ _ lk) rfl S.co S.gen rfl (PySem.W.codeRec_of KX a0) (hb _ _ _ _ ?_);refine wpAny_newFunctionEnv_cells S.kind as λenv he s1 x=>?_;subst he;refine⟨ap.keeps x.toInCall.keep,codeAny_func ?_⟩;obtain⟨t,ht,hq⟩:=am A outer s H vs Q E (U.deeper _) ac;have I:Inv (vV CX P w K mg base N F scope f G A outer s H E) [] (start N vs) H s1:=wb S U.hd L hl r x;refine wpAny_mono (ht [] s1 (start N vs) H _ I hq) (λfl s' hs=>?_) λe s' hs=>hs;have ab:∀{O:St}{H':Hp}{v:V}{u:Value},Inv (vV CX P w K mg base N F scope f G A outer s H E) [] O H' s'->RelV v u->Q v H'->CE outer P w H s Q u s' :=
  λ{O H' v u} J R q=>⟨v,H',J.os,J.bare,J.base,J.bG,R,q⟩
 cases fl with
 |ret u =>
  obtain⟨v,O,H',J,R,q⟩:=hs;exact ab J R q
 |next =>
  obtain⟨O,H',J,q⟩:=hs;exact ab (v:=V.non) (u:=Value.none) J rfl q
 |brk =>
  obtain⟨_,_,_,q⟩:=hs;exact False.elim q
 |cont =>
  obtain⟨_,_,_,q⟩:=hs;exact False.elim q
section
variable {X:Cx}{x:Str}{p pos:Pos}{e:Expr}{es:List Expr}{t:TA}{id T:String}{r:List V->Hp->VK->Prop}
noncomputable def Hr (r:List V->Hp->VK->Prop) (t:TA):TE:=λσ H Q=>t σ H λvs H1=>r vs H1 Q
theorem aN (J:di X (.builtin id) r) (hg:Gl X x) (hm:X.mg x=none) (hv:bootBuiltins x=some (.builtin id)) (ha:PA X (e::es) t) (R:x ≠ "__name__" := by decide) (G:(x==("__debug__" : Str))=false:=by decide)
  (U:starEach (e::es) X.env=(false,eval e X.env)::starEach es X.env:=by rfl) (F:(backTo pos (starEach es X.env)).any (·.1)=false:=by rfl):PE X (.Call (.Name x p) (e::es) [] pos) (Hr r t):=by
 intro pins s σ H Q I h;refine wpAny_Call_Name_kw (gH I hg hm hv ?_ R G);exact PyProof.Rows.callWith_builtin1 (bP (ha pos pins s σ H _ I h) λus O N=>by obtain⟨vs,H1,Y,L,S⟩:=N;exact J pins O σ H1 vs us Q Y L S) U F
theorem bO (J:di X (.type T) r) (hg:Gl X x) (Y:X.mg x=none) (hv:bootBuiltins x=some (.type T)) (ha:PA X (e::es) t) (O:x ≠ "__name__" := by decide) (G:(x==("__debug__" : Str))=false:=by decide)
  (S:starEach (e::es) X.env=(false,eval e X.env)::starEach es X.env:=by rfl) (F:(backTo pos (starEach es X.env)).any (·.1)=false:=by rfl):PE X (.Call (.Name x p) (e::es) [] pos) (Hr r t):=by
 intro pins s σ H Q I h;refine wpAny_Call_Name_kw (gH I hg Y hv ?_ O G);exact PyProof.Rows.callWith_type1 (bP (ha pos pins s σ H _ I h) λus N ab=>by obtain⟨vs,H1,U,L,R⟩:=ab;exact J pins N σ H1 vs us Q U L R) S F
end
end L2
namespace HT
open PySem PyProof.Rows
section
open PySem.SeqAt
open PySem.AutoSeq1 (wpAny_loadPart')
open PySem.MeetsSeq PySem.MeetsSeq2 PySem.MeetsSeq3
end
section
variable {prog:Program}{w:World}{A:Around}{E:Value->Shared->Prop}{s:Shared}
theorem AL {t b:Addr}{vs ws:List Value}{Q:Value->Shared->Prop}(ht:IsTup s.heap t vs.toArray) (hb:IsTup s.heap b ws.toArray) (Y:vs≠[])
  (h1:ws=[]->Q (.ref t) s) (h2:ws≠[]->Q (.ref s.heap.objs.size) { s with heap:=s.heap.push { cls:=.type "tuple",data:=.seq (vs++ws).toArray } })
  (hsz:vs.length+ws.length<=sizeLine):wpAny (model prog w) A (binaryOp .Add (.ref t) (.ref b)) Q E s:=by
 obtain⟨⟨cls,R,data,sl⟩,G,L,n,hd⟩:=id ht;obtain⟨⟨ab,wG,data2,S⟩,J,U,N,O⟩:=id hb;simp only at L hd U O;subst L hd U O;have e:vs.toArray++ws.toArray=(vs++ws).toArray:=(by simp);by_cases I:ws=[]
 .exact concat_meets ⟨_,G,rfl⟩ ⟨_,J,rfl⟩ noFill_tuple_add seq_tuple_add PySem.F.slot_tuple_add PySem.F.entry_tuple_add (PySem.F.args_tuple_add_2 _ _)
   (tuple_addW1 t b vs.toArray ws.toArray n N R wG sl S (by simpa using Y) (by simp[I])) ⟨G,J,h1 I⟩
 .refine concat_meets ⟨_,G,rfl⟩ ⟨_,J,rfl⟩ noFill_tuple_add seq_tuple_add PySem.F.slot_tuple_add PySem.F.entry_tuple_add (PySem.F.args_tuple_add_2 _ _)
   (tuple_addW2 t b vs.toArray ws.toArray n N R wG sl S (by simpa using Y) (by simpa using I) (by rw[size_toArray,size_toArray];exact hsz)) ⟨G,J,?_⟩
  rw[e];exact h2 I
noncomputable def cQ (n d:Nat):Option Int->Nat
 |none=>d
 |some v=>if v<0 then(v+(n:Int)).toNat else min v.toNat n
theorem kW (n d k:Nat):cQ n d (some (k:Int))=min k n:=by
 show(if (k:Int)<0 then((k:Int)+(n:Int)).toNat else min (k:Int).toNat n)=min k n;rw[if_neg af,toNat_natCast]
theorem B7 (n d:Nat) (hd:d<=n) (o:Option Int):cQ n d o<=n:=by
 cases o with
 |none=>exact hd
 |some v =>
  show(if v<0 then(v+(n:Int)).toNat else min v.toNat n)<=n;by_cases F:v<0
  .rw[if_pos F];omega
  .rw[if_neg F];exact Nat.min_le_right _ _
theorem vb (v:Int) (n d:Nat):(if v<0 then max (v+(n:Int)) 0 else min v (n:Int))=((cQ n d (some v):Nat):Int):=by
 show(if v<0 then max (v+(n:Int)) 0 else min v (n:Int))=(((if v<0 then(v+(n:Int)).toNat else min v.toNat n):Nat):Int);by_cases F:v<0
 .simp only[if_pos F];omega
 .simp only[if_neg F];omega
theorem uo (lo hi:Option Int) (n:Nat):Builtin.Slice.sliceAdjust lo hi 1 (n:Int)=(((cQ n 0 lo:Nat):Int),((cQ n n hi:Nat):Int)):=by
 have h1:¬ ((1:Int)<0):=af;unfold Builtin.Slice.sliceAdjust;simp only[h1,if_false];refine Prod.ext ?_ ?_
 .cases lo with
  |none=>rfl
  |some v=>exact vb v n 0
 .cases hi with
  |none=>rfl
  |some v=>exact vb v n n
theorem sh (i j:Nat):Builtin.Slice.slicePlaces (i:Int) (j:Int) 1=j-i:=by
 unfold Builtin.Slice.slicePlaces;have h1:(1:Int)>0:=af;simp only[h1,if_true,Int.ediv_one];split<;>omega
theorem lN {v:Value}{o:Option Int}{Q:Option Int->Shared->Prop}(p:IsPart v o) (h:Q o s):wpAny (model prog w) A (Builtin.Slice.slicePartIndex v) Q E s:=by
 cases p with
 |none=>exact slicePart_none h
 |int i t=>exact slicePart_int h
theorem fJ {sl:Addr}{J G:Value}{lo hi:Option Int}{n:Nat}{Q:Int×Int×Nat->Shared->Prop}(hs:s.heap.IsSliceOf sl J G .none) (pl:IsPart J lo) (L:IsPart G hi)
  (h:Q (((cQ n 0 lo:Nat):Int),1,cQ n n hi-cQ n 0 lo) s):wpAny (model prog w) A (Builtin.Slice.sliceApplied (.ref sl) (pure (n:Int))) Q E s:=by
 obtain⟨os,F,N,I⟩:=id hs;unfold Builtin.Slice.sliceApplied Builtin.Slice.sliceFields;refine wpAny_bind (wpAny_bind (wpAny_field F I (x:=J) rfl (wpAny_bind (wpAny_field F I (x:=G) rfl (wpAny_bind (wpAny_field F I (x:=.none) rfl (wpAny_pure ?_)))))));refine wpAny_bind (slicePart_none ?_);show wpAny _ _ (if ((1:Int)==0)=true then _ else _) _ _ s;rw[if_neg av];refine wpAny_bind (lN pl (wpAny_bind (lN L (wpAny_bind (wpAny_pure ?_)))));show wpAny _ _ (match Builtin.Slice.sliceAdjust lo hi 1 (n:Int)with|(lo,hi)=>pure (lo,(1:Int),Builtin.Slice.slicePlaces lo hi 1)) _ _ s;rw[uo lo hi n];show wpAny _ _ (pure (((cQ n 0 lo:Nat):Int),(1:Int),Builtin.Slice.slicePlaces ((cQ n 0 lo:Nat):Int) ((cQ n n hi:Nat):Int) 1)) _ _ s;rw[sh];exact wpAny_pure h
theorem zl (xs:Array Value) (i k:Nat):((List.range k).filterMap λ(m:Nat)=>xs[((i:Int)+(m:Int)*1).toNat]?).toArray=((xs.toList.drop i).take k).toArray:=by
 have e:(λ(m:Nat)=>xs[((i:Int)+(m:Int)*1).toNat]?)=λm=>xs[i+m]?:=by
  funext m;have:((i:Int)+(m:Int)*1).toNat=i+m:=af;rw[this]
 rw[e];have:=pick_run xs i k;rw[List.filterMap_map]at this;have F:((λx=>xs[x]?)∘λx=>i+x)=λm=>xs[i+m]?:=rfl;rw[F]at this;rw[this]
theorem jw {t sl:Addr}{items:Array Value}{J I:Value}{lo hi:Option Int}{Q:Value->Shared->Prop}(G:IsTup s.heap t items) (hs:s.heap.IsSliceOf sl J I .none) (pl:IsPart J lo) (N:IsPart I hi)
  (O:¬ (cQ items.size 0 lo=0/\cQ items.size items.size hi=items.size))
  (h:Q (.ref s.heap.objs.size) { s with heap:=s.heap.push { cls:=.type "tuple",data:=.seq ((items.toList.drop (cQ items.size 0 lo)).take (cQ items.size items.size hi-cQ items.size 0 lo)).toArray } })
  (hsz:items.size<=sizeLine):wpAny (model prog w) A (getItem (.ref t) (.ref sl)) Q E s:=by
 have F:sizeOk (.seq ((items.toList.drop (cQ items.size 0 lo)).take (cQ items.size items.size hi-cQ items.size 0 lo)).toArray):=by
  show((items.toList.drop (cQ items.size 0 lo)).take (cQ items.size items.size hi-cQ items.size 0 lo)).toArray.size<=sizeLine;rw[size_toArray,length_take,length_drop,length_toList];omega
 have Y:cQ items.size items.size hi<=items.size:=B7 _ _ (le_refl _) hi;obtain⟨os,S,L,ab⟩:=id hs;have U:s.TypeIs (.ref sl) "slice" := ⟨os,S,L⟩;unfold getItem
 try with_reducible refine wpAny_holding ?_
 first|refine wpAny_bind (wpAny_pure ?_)|skip
 refine wpAny_bind (wpAny_sequenceKey G.typeIs av ?_);refine wpAny_bind (wpAny_callSpecial?_slot (name:=Str.ofString "__getitem__") G.typeIs PyProof.Rows.slot_tuple_getitem
  (wpAny_call_entry PyProof.Rows.slot_tuple_getitem G.typeIs entry_tuple_getitem ?_ (args_tuple_getitem _ _)))
 show wpAny _ _ (Builtin.Tuple.tupleItemsOf (.ref t)>>=_) _ _ s;refine wpAny_bind (tupleItemsOf_ G ?_);refine wpAny_bind (wpAny_typeOf U ?_);rw[if_pos av];refine wpAny_bind (fJ hs pl N ?_);have R:¬ ((((cQ items.size 0 lo:Nat):Int)==0&&(1:Int)==1&&(cQ items.size items.size hi-cQ items.size 0 lo)==items.size)=true):=by
  intro q;rw[Bool.and_eq_true,Bool.and_eq_true]at q;have q1:((cQ items.size 0 lo:Nat):Int)=0:=eq_of_beq q.1.1;have q2:cQ items.size items.size hi-cQ items.size 0 lo=items.size:=eq_of_beq q.2;exact O ⟨af,af⟩
 show wpAny _ _ (if (((cQ items.size 0 lo:Nat):Int)==0&&(1:Int)==1&&(cQ items.size items.size hi-cQ items.size 0 lo)==items.size)=true then _ else _) _ _ s;rw[if_neg R,zl]
 first
  |exact wpAny_bind (m:=Builtin.Tuple.tupleExact _) (wpAny_newObj_type (wpAny_pure ⟨_,rfl,wpAny_pure h⟩) F)
  |exact wpAny_bind (m:=Builtin.Tuple.tupleExact _) (wpAny_newObj_type (wpAny_bind (wpAny_pure (wpAny_pure ⟨_,rfl,wpAny_pure h⟩))) F)
  |exact wpAny_bind (wpAny_bind (m:=Builtin.Tuple.tupleExact _) (wpAny_newObj_type (wpAny_pure (wpAny_pure ⟨_,rfl,wpAny_pure h⟩)) F))
  |exact wpAny_bind (wpAny_bind (m:=Builtin.Tuple.tupleExact _) (wpAny_newObj_type (wpAny_pure ⟨_,rfl,wpAny_pure h⟩) F))
end
end HT
namespace L2
open PySem PySem.Spec PyProof.Rows
noncomputable abbrev TO:=St->Hp->(Option Int->Hp->Prop)->Prop
noncomputable def PO (X:Cx) (e:Option Expr) (t:TO):Prop :=
 ∀(pins:List (Addr×Obj)) (s:Shared) (σ:St) (H:Hp) (Q:Option Int->Hp->Prop),Inv X pins σ H s->t σ H Q ->
  wpAny (model X.prog X.w) X.A (evalPart e X.env) (λu s'=>∃o H',Inv X pins σ H' s'/\IsPart u o/\Q o H') X.xe s
noncomputable def AD:TO:=λ_ H Q=>Q none H
noncomputable def El (t:TE):TO:=λσ H Q=>t σ H λx H1=>∃i,x=.int i/\Q (some i) H1
theorem intsAre_of {ns:List Int}:∀{us:List Value},Vals (ns.map V.int) us->IntsAre us ns:=by
 induction ns with
 |nil=>intro us r;rw[map_nil]at r;cases r;exact .nil
 |cons n ns I =>
  intro us r;rw[map_cons]at r;cases r with
  |cons G F =>
   obtain⟨t,e⟩:=G;subst e;exact .cons n t (I F)
section
variable {X:Cx}{e:Expr}{te:TE}{lo hi:Option Expr}{tl th:TO}{pos p2:Pos}
theorem eM:PO X none AD:=by
 intro pins s σ H Q I h;rw[evalPart_none];exact wpAny_pure ⟨none,H,I,.none,h⟩
theorem cJ (h:PE X e te):PO X (some e) (El te):=by
 intro pins s σ H Q I G;rw[evalPart_some];refine bP (h pins s σ H _ I G) λu O N=>?_;obtain⟨x,H1,L,F,J⟩:=N;obtain⟨i,rfl,q⟩:=J;obtain⟨t,rfl⟩:=F;exact⟨some i,H1,L,.int i t,q⟩
noncomputable def DK (X:Cx) (r:V->Option Int->Option Int->Hp->VK->Prop):Prop :=
 ∀(pins:List (Addr×Obj)) (s:Shared) (σ:St) (H:Hp) (x:V) (v G F:Value) (lo hi:Option Int) (sl:Addr) (Q:VK),Inv X pins σ H s->RelV x v->s.heap.IsSliceOf sl G F .none->IsPart G lo->IsPart F hi->r x lo hi H Q ->
  ∃T id,typeLookup (.type T) "__getitem__" = pure (some (.builtin id))/\s.TypeIs v T/\wpAny (model X.prog X.w) X.A (getItem v (.ref sl)) (EP X pins σ Q) X.xe s
noncomputable def HM (r:V->Option Int->Option Int->Hp->VK->Prop) (te:TE) (tl th:TO):TE:=λσ H Q=>te σ H λx H1=>tl σ H1 λl H2=>th σ H2 λu F=>r x l u F Q
theorem cL {r:V->Option Int->Option Int->Hp->VK->Prop}(N:DK X r) (he:PE X e te) (hl:PO X lo tl) (hu:PO X hi th):PE X (.Subscript e (.Slice lo hi none p2) pos) (HM r te tl th):=by
 intro pins s σ H Q I h;refine Subscript_ (bP (he pins s σ H _ I h) λv U ad=>?_);obtain⟨x,H1,Y,r1,q1⟩:=ad;refine wpAny_Slice (bP (hl pins U σ H1 _ Y q1) λJ s2 ab=>?_);obtain⟨l,H2,I2,pl,S⟩:=ab;refine bP (hu pins s2 σ H2 _ I2 S) λG F ac=>?_;obtain⟨u,L,I3,O,R⟩:=ac;rw[evalPart_none];refine wpAny_pure ?_;have I4:Inv X pins σ L { F with heap:=F.heap.push { cls:=.type "slice",data:=.fields #[J,G,.none] } }:=I3.kept (t':=F.toks) λb ob q=>Heap.get?_push_of_some _ q;obtain⟨T,id,hT,ht,hg⟩:=N pins { F with heap:=F.heap.push { cls:=.type "slice",data:=.fields #[J,G,.none] } } σ L x v J G l u F.heap.objs.size Q I4 r1 (Heap.IsSliceOf.new ..) pl O R;show wpAny (model X.prog X.w) X.A (subscriptTail e (.Slice lo hi none p2) v (.ref F.heap.objs.size)) (EP X pins σ Q) X.xe { F with heap:=F.heap.push { cls:=.type "slice",data:=.fields #[J,G,.none] } };exact tail_any (ops:=[.ref F.heap.objs.size,v]) ht hT hg (by with_unfolding_all rfl)
noncomputable def eK (xs:List V) (lo hi:Option Int):List V:=(xs.drop (HT.cQ xs.length 0 lo)).take (HT.cQ xs.length xs.length hi-HT.cQ xs.length 0 lo)
theorem km (xs:List V) (lo hi:Option Int):(eK xs lo hi).length<=xs.length:=by
 unfold eK;rw[length_take,length_drop];omega
inductive Ee (K:PySem.W.Frag) (x:V) (lo:Option Int) (hi:Option Int) (H:Hp) (Q:VK):Prop
 |mk (a:_) (xs:_) (_:x=.ref a) (_:bR K H a xs) (_:¬ (HT.cQ xs.length 0 lo=0/\HT.cQ xs.length xs.length hi=xs.length)) (_:∀p,H p=none->Q (.ref p) (upd H p (.tup (eK xs lo hi)))):Ee K x lo hi H Q
theorem CG:DK X (Ee X.K):=by
 intro pins s σ H x v Y U lo hi sl Q I R hs pl L h;obtain⟨a,xs,rfl,N,O,q⟩:=h;cases R;obtain⟨its,r,J,G⟩:=I.tuple N;have F:its.toArray.size=xs.length:=(by rw[size_toArray];exact r.length.symm);refine⟨"tuple",_,PyProof.Rows.slot_tuple_getitem.lookup,J.typeIs,?_⟩;refine HT.jw J hs pl L (by rw[F];exact O) ?_ (by rw[F];exact G);rw[F];refine⟨.ref s.heap.objs.size,_,I.laid (t':=s.toks) (o:=.tup (eK xs lo hi)) (λb S q=>Heap.get?_push_of_some _ q) (le_refl _) ?_,rfl,q _ (I.bG.fresh (le_refl _))⟩;exact⟨le_trans (km xs lo hi) G,_,(r.drop (HT.cQ xs.length 0 lo)).take (HT.cQ xs.length xs.length hi-HT.cQ xs.length 0 lo),IsTup.new _ _⟩
inductive Bt (K:PySem.W.Frag) (x:V) (y:V) (H:Hp) (Q:VK):Prop
 |mk (a:_) (b:_) (xs:_) (ys:_) (_:x=.ref a) (_:y=.ref b) (_:bR K H a xs) (_:bR K H b ys) (_:xs≠[]) (_:xs.length+ys.length<=sizeLine) (_:(ys=[]->Q (.ref a) H)) (_:(ys≠[]->∀p,H p=none->Q (.ref p) (upd H p (.tup (xs++ys))))):Bt K x y H Q
theorem Vals.o8 {xs:List V}{us:List Value}(r:Vals xs us):us=[]↔xs=[]:=by
 cases r with
 |nil=>simp
 |cons _ _=>simp
theorem zZ:iP X (binaryOp .Add) (Bt X.K):=by
 intro pins s σ H x y v u Q I rx R h;obtain⟨a,b,xs,ys,rfl,rfl,N,U,L,J,S,O⟩:=h;cases rx;cases R;obtain⟨its,G,Y,_⟩:=I.tuple N;obtain⟨ab,F,p2,_⟩:=I.tuple U;refine HT.AL Y p2 (λz=>L (G.o8.mp z)) (λz=>⟨.ref a,H,I,rfl,S (F.o8.mp z)⟩) (λz=>?_) (by rw[<-G.length, <-F.length];exact J);refine⟨.ref s.heap.objs.size,_,I.laid (t':=s.toks) (o:=.tup (xs++ys)) (λb ob q=>Heap.get?_push_of_some _ q) (le_refl _) ?_,rfl,O (λw=>z (F.o8.mpr w)) _ (I.bG.fresh (le_refl _))⟩;exact⟨by rw[length_append];exact J,_,G.append F,IsTup.new _ _⟩
end
noncomputable def u4 (n:Nat) (i:Int):Option Nat:=if 0<=i then(if i<n then some i.toNat else none)else if -(n:Int)<=i then some (i+n).toNat else none
noncomputable def yX {α:Type}(xs:List α) (i:Int):Option α:=(u4 xs.length i).bind λj=>xs[j]?
theorem uW {n:Nat}{i:Int}{j:Nat}(h:u4 n i=some j):seqIndex? i n=some j/\j<n /\ -(n:Int)<=i/\i<n:=by
 unfold u4 at h;by_cases F:0<=i
 .rw[if_pos F]at h;by_cases h1:i<n
  .rw[if_pos h1]at h;have e:i.toNat=j:=Option.some.inj h;exact⟨by rw[seqIndex_of F h1,e],af,af,h1⟩
  .rw[if_neg h1]at h;cases h
 .rw[if_neg F]at h;by_cases h1 : -(n:Int)<=i
  .rw[if_pos h1]at h;have e:(i+n).toNat=j:=Option.some.inj h;exact⟨by rw[seqIndex_neg af h1,e],af,h1,af⟩
  .rw[if_neg h1]at h;cases h
theorem qr {α:Type}{xs:List α}{i:Int}{v:α}(h:yX xs i=some v):∃j,seqIndex? i xs.length=some j/\xs[j]?=some v/\j<xs.length /\ -(xs.length:Int)<=i/\i<xs.length:=by
 unfold yX at h;cases e:u4 xs.length i with
 |none=>rw[e]at h;cases h
 |some j =>
  rw[e]at h;obtain⟨h1,h2,G,F⟩:=uW e;exact⟨j,h1,h,h2,G,F⟩
theorem jx {α:Type}{xs:List α}{j:Nat}{v:α}(h:xs[j]?=some v):yX xs (j:Int)=some v:=by
 have F:j<xs.length:=(List.getElem?_eq_some_iff.mp h).1;have e:u4 xs.length (j:Int)=some j:=by
  unfold u4;rw[if_pos af,if_pos af];simp
 unfold yX;rw[e];exact h
noncomputable def An (b:Expr):Prop:=∀o i,subscripted b false o i=operate [o,i] (getItem o i)
noncomputable def Fi (X:Cx) (r:R2):Prop :=
 ∀(value F:Expr) (pins:List (Addr×Obj)) (s:Shared) (σ:St) (H:Hp) (x y:V) (v u:Value) (Q:VK),Inv X pins σ H s->RelV x v->RelV y u->r x y H Q ->
  subscripted F false v u=operate [v,u] (getItem v u)->wpAny (model X.prog X.w) X.A (subscriptTail value F v u) (EP X pins σ Q) X.xe s
noncomputable def HI (X:Cx) (id:String) (r:V->List V->Hp->VK->Prop):Prop :=
 ∀(pins:List (Addr×Obj)) (s:Shared) (σ:St) (H:Hp) (x:V) (xs:List V) (v:Value) (us:List Value) (Q:VK),Inv X pins σ H s->RelV x v->Vals xs us->r x xs H Q ->
  wpAny (model X.prog X.w) X.A (call (.builtin id) (v::us)) (EP X pins σ Q) X.xe s
section
variable {X:Cx}{a b:Expr}{ta tb:TE}{pos:Pos}
theorem aY {r:R2}(F:Fi X r) (R:PE X a ta) (L:PE X b tb) (hs:An b):PE X (.Subscript a b pos) (Dw r ta tb):=by
 intro pins s σ H Q I h;exact Subscript_ (Ds R L I h λv u N x y H2 G O J q=>F a b pins N σ H2 x y v u Q G O J q (hs _ _))
inductive AU (K:PySem.W.Frag) (x:V) (y:V) (H:Hp) (Q:VK):Prop
 |mk (p:_) (xs:_) (i:_) (v:_) (_:x=.ref p) (_:y=.int i) (_:bE K H p xs) (_:yX xs i=some v) (_:Q v H):AU K x y H Q
inductive D2 (K:PySem.W.Frag) (x:V) (y:V) (H:Hp) (Q:VK):Prop
 |mk (p:_) (xs:_) (i:_) (v:_) (_:x=.ref p) (_:y=.int i) (_:bR K H p xs) (_:yX xs i=some v) (_:Q v H):D2 K x y H Q
theorem cm:Fi X (AU X.K):=by
 intro value ab pins s σ H x y v u Q I rx U h hs;obtain⟨p,xs,i,z,rfl,rfl,R,Y,q⟩:=h;cases rx;obtain⟨t,rfl⟩:=U;obtain⟨its,r,pl,hz⟩:=I.list R;obtain⟨j,h1,h2,h3,O,h5⟩:=qr Y;obtain⟨w,G,N⟩:=r.get h2;have S:=r.length;have hn:=lZ;have L:EP X pins σ Q w s:=⟨z,H,I,N,q⟩;by_cases J:0<=i
 .have F:i.toNat=j:=by
   rw[seqIndex_of J h5]at h1;exact Option.some.inj h1
  exact item_listR pl.isList J af (by rw[F];simpa using G) L hs
 .have F:(i+(its.toArray.size:Int)).toNat=j:=by
   rw[seqIndex_neg af O]at h1;rw[size_toArray, <-S];exact Option.some.inj h1
  exact subscriptTail_builtinR (x:=w) pl.isList.typeIs slot_list_getitem.lookup
   (wpAny_getItem_list_neg (Q:=λr s'=>r=w/\EP X pins σ Q r s') pl.isList af (by rw[size_toArray]<;>omega) af (by rw[F];simpa using G) ⟨rfl,L⟩) hs
theorem a9:Fi X (D2 X.K):=by
 intro value ab pins s σ H x y v u Q I S N h hs;obtain⟨p,xs,i,z,rfl,rfl,J,R,q⟩:=h;cases S;obtain⟨t,rfl⟩:=N;obtain⟨its,r,pl,U⟩:=I.tuple J;obtain⟨j,h1,h2,h3,h4,h5⟩:=qr R;obtain⟨w,G,F⟩:=r.get h2;have L:=r.length;have Y:=lZ;have O:EP X pins σ Q w s:=⟨z,H,I,F,q⟩;exact subscriptTail_builtinR (x:=w) pl.typeIs slot_tuple_getitem.lookup
  (getItem_tuple (j:=j) (Q:=λr s'=>r=w/\EP X pins σ Q r s') pl af af (by rw[size_toArray, <-L];exact h1) (by simpa using G) ⟨rfl,O⟩) hs
theorem uI (its:List Value) (n j:Nat) (u:Value):Obj.mapSeq (·.setIfInBounds j u) { cls:=.type "list",data:=.seq its.toArray n }={ cls:=.type "list",data:=.seq (its.set j u).toArray n }:=by
 simp[Obj.mapSeq]
theorem Inv.lst {pins:List (Addr×Obj)}{σ:St}{H:Hp}{s:Shared}{p:Addr}{xs:List V}(I:Inv X pins σ H s) (h:H p=some (.lst xs)) :
  ∃(its:List Value) (n:Nat),Vals xs its/\s.heap.get? p=some { cls:=.type "list",data:=.seq its.toArray n }/\xs.length<=sizeLine:=by
 obtain⟨z,its,n,r,e⟩:=I.bG p _ h;exact⟨its,n,r,e,z⟩
theorem Inv.CC {pins:List (Addr×Obj)}{σ:St}{H:Hp}{s:Shared}{p:Addr}{xs ys:List V}{its its':List Value}{n F:Nat}{f:Obj->Obj}(I:Inv X pins σ H s) (h:H p=some (.lst xs))
  (J:s.heap.get? p=some { cls:=.type "list",data:=.seq its.toArray n }) (G:f { cls:=.type "list",data:=.seq its.toArray n }={ cls:=.type "list",data:=.seq its'.toArray F }) (r:Vals ys its') (L:ys.length<=sizeLine) (t:Nat) :
  Inv X pins σ (upd H p (.lst ys)) { s with heap:=s.heap.update p f,toks:=t }:=by
 have e:(s.heap.update p f).get? p=some { cls:=.type "list",data:=.seq its'.toArray F }:=by
  rw[Heap.get?_update_self f J (by rw[G]<;>rfl),G]
 refine I.write (x:=p) (e:=p) (by rw[h];trivial) (.inl rfl) (λb u N q=>(Heap.get?_update_other _ _ (Ne.symm N)).trans q) ⟨_,e⟩ ?_;exact⟨L,its',F,r,e⟩
inductive Bi (o:V) (i:V) (v:V) (H:Hp) (Q:(Hp->Prop)):Prop
 |mk (p:_) (xs:_) (k:_) (j:_) (_:o=.ref p) (_:i=.int k) (_:H p=some (.lst xs)) (_:u4 xs.length k=some j) (_:Q (upd H p (.lst (xs.set j v)))):Bi o i v H Q
theorem set_list:Az X Bi:=by
 intro pins s σ H o i v ov iv u Q I Y ri rv h;obtain⟨p,xs,k,j,rfl,rfl,L,U,q⟩:=h;cases Y;obtain⟨t,rfl⟩:=ri;obtain⟨its,n,r,F,hz⟩:=I.lst L;obtain⟨h1,h2,R,N⟩:=uW U;have G:=r.length;have hn:=lZ;have S:Inv X pins σ (upd H p (.lst (xs.set j v))) { s with heap:=s.heap.update p (Obj.mapSeq (·.setIfInBounds j u)) }:=
  I.CC L F (uI its n j u) (r.set rv j) (by rw[length_set];exact hz) s.toks
 by_cases O:0<=k
 .have J:k.toNat=j:=by
   rw[seqIndex_of O N]at h1;exact Option.some.inj h1
  exact PySem.W.ki_setAt F O af (by rw[size_toArray, <-G];exact N) (by rw[J];exact⟨_,S,q⟩)
 .have J:(k+(its.toArray.size:Int)).toNat=j:=by
   rw[seqIndex_neg af R]at h1;rw[size_toArray, <-G];exact Option.some.inj h1
  exact PySem.W.ki_setBack F af (by rw[size_toArray, <-G];exact R) af (by rw[J];exact⟨_,S,q⟩)
theorem ph (lo hi:Option Int) (n:Nat):(sliceBounds lo hi none n).1=((HT.cQ n 0 lo:Nat):Int)/\(sliceBounds lo hi none n).2.1=((HT.cQ n n hi:Nat):Int)/\(sliceBounds lo hi none n).2.2=1:=by
 refine⟨?_,?_,rfl⟩
 .cases lo with
  |none=>simp[sliceBounds,HT.cQ]
  |some i =>
   simp only[sliceBounds,HT.cQ,getD_none,show(1:Int)>0 by decide,if_true];by_cases h:i<0
   .simp only[h,if_true]<;>omega
   .simp only[h,if_false]<;>omega
 .cases hi with
  |none=>simp[sliceBounds,HT.cQ]
  |some i =>
   simp only[sliceBounds,HT.cQ,getD_none,show(1:Int)>0 by decide,if_true];by_cases h:i<0
   .simp only[h,if_true]<;>omega
   .simp only[h,if_false]<;>omega
theorem mM (its:List Value) (lo hi:Option Int):slicePick its.toArray lo hi none=((its.drop (HT.cQ its.length 0 lo)).take (HT.cQ its.length its.length hi-HT.cQ its.length 0 lo)).toArray:=by
 obtain⟨h1,h2,F⟩:=ph lo hi its.toArray.size;unfold slicePick;rw[h1,h2,F];simp only[sliceRange_one,pick_run,size_toArray]<;>rfl
inductive CW (K:PySem.W.Frag) (x:V) (lo:Option Int) (hi:Option Int) (H:Hp) (Q:VK):Prop
 |mk (a:_) (xs:_) (_:x=.ref a) (_:bE K H a xs) (_:∀p,H p=none->Q (.ref p) (upd H p (.lst (eK xs lo hi)))):CW K x lo hi H Q
theorem fX:DK X (CW X.K):=by
 intro pins s σ H x v U S lo hi sl Q I O hs pl G h;obtain⟨a,xs,rfl,J,q⟩:=h;cases O;obtain⟨its,r,F,L⟩:=I.list J;have N:=r.length;refine⟨"list",_,slot_list_getitem.lookup,F.isList.typeIs,?_⟩;refine wpAny_getItem_list_slice F.isList hs pl G .none (by simp) ?_ (by rw[size_toArray]<;>omega);rw[mM, <-N];refine⟨.ref s.heap.objs.size,_,I.laid (t':=s.toks) (o:=.lst (eK xs lo hi)) (λb R q=>Heap.get?_push_of_some _ q) (le_refl _) ?_,rfl,q _ (I.bG.fresh (le_refl _))⟩;exact⟨le_trans (km xs lo hi) L,_,0,(r.drop (HT.cQ xs.length 0 lo)).take (HT.cQ xs.length xs.length hi-HT.cQ xs.length 0 lo),Heap.get?_push_size _ rfl⟩
noncomputable def eh:V->Bool
 |.non=>true
 |.bl _=>true
 |.int _=>true
 |.str _=>true
 |_=>false
noncomputable def mG:V->V->Bool
 |.non,.non=>true
 |.bl a,.bl b=>a==b
 |.bl a,.int b=>(if a then 1 else 0)==b
 |.int a,.bl b=>a==(if b then 1 else 0)
 |.int a,.int b=>a==b
 |.str a,.str b=>a==b
 |_,_=>false
theorem pG {A:Around}{s:Shared}{y x:V}{u v:Value}(G:RelV y u) (F:RelV x v) (J:eh y=true) (I:eh x=true):SeqAt.EqAt A s u v (mG y x):=by
 cases y with
 |non =>
  cases G;cases x with
  |non=>cases F;exact SeqAt.EqAt.same _
  |bl b=>cases F;exact SeqAt.EqAt.none_bool b
  |int b=>obtain⟨t,rfl⟩:=F;exact SeqAt.EqAt.none_int b t
  |str b=>obtain⟨t,rfl⟩:=F;exact SeqAt.EqAt.none_str b t
  |_=>exact absurd (show false=true from I) Bool.false_ne_true
 |bl a =>
  cases G;cases x with
  |non=>cases F;exact SeqAt.EqAt.bool_none a
  |bl b=>cases F;exact SeqAt.EqAt.bool_bool a b
  |int b=>obtain⟨t,rfl⟩:=F;exact SeqAt.EqAt.bool_int a b t
  |str b=>obtain⟨t,rfl⟩:=F;exact SeqAt.EqAt.bool_str a b t
  |_=>exact absurd (show false=true from I) Bool.false_ne_true
 |int a =>
  obtain⟨t',rfl⟩:=G;cases x with
  |non=>cases F;exact SeqAt.EqAt.int_none a t'
  |bl b=>cases F;exact SeqAt.EqAt.int_bool a t' b
  |int b=>obtain⟨t,rfl⟩:=F;exact SeqAt.EqAt.int_int a t' b t
  |str b=>obtain⟨t,rfl⟩:=F;exact SeqAt.EqAt.int_str a t' b t
  |_=>exact absurd (show false=true from I) Bool.false_ne_true
 |str a =>
  obtain⟨t',rfl⟩:=G;cases x with
  |non=>cases F;exact SeqAt.EqAt.str_none a t'
  |bl b=>cases F;exact SeqAt.EqAt.str_bool a t' b
  |int b=>obtain⟨t,rfl⟩:=F;exact SeqAt.EqAt.str_int a t' b t
  |str b=>obtain⟨t,rfl⟩:=F;exact SeqAt.EqAt.str_str a t' b t
  |_=>exact absurd (show false=true from I) Bool.false_ne_true
 |_=>exact absurd (show false=true from J) Bool.false_ne_true
noncomputable def ue (x:V) (u:Value):Bool:=match u with
 |.none=>mG .non x
 |.bool b=>mG (.bl b) x
 |.int i _=>mG (.int i) x
 |.str z _=>mG (.str z) x
 |_=>false
theorem xO {x y:V}{u:Value}(r:RelV y u) (f:eh y=true):ue x u=mG y x:=by
 cases y with
 |non=>cases r;rfl
 |bl b=>cases r;rfl
 |int i=>obtain⟨t,rfl⟩:=r;rfl
 |str z=>obtain⟨t,rfl⟩:=r;rfl
 |_=>exact absurd (show false=true from f) Bool.false_ne_true
theorem jJ {x:V}:∀{xs:List V}{us:List Value},Vals xs us->xs.all eh=true->us.any (ue x)=xs.any λy=>mG y x
 |_,_,.nil,_=>rfl
 |y::xs,u::us,.cons r t,f=>by
  rw[all_cons,Bool.and_eq_true]at f;rw[any_cons,any_cons,xO r f.1,jJ t f.2]
theorem gP {A:Around}{s:Shared}{x:V}{v:Value}(I:RelV x v) (G:eh x=true):∀{xs:List V}{us:List Value},Vals xs us->xs.all eh=true->∀u∈us,SeqAt.EqAt A s u v (ue x u)
 |_,_,.nil,_=>λu F=>by cases F
 |y::xs,u::us,.cons r t,f=>λJ F=>by
  rw[all_cons,Bool.and_eq_true]at f;rcases List.mem_cons.mp F with rfl|F
  .rw[xO r f.1];exact pG r I f.1 G
  .exact gP I G t f.2 J F
noncomputable def Bx (x:V) (xs:List V):Bool:=xs.any λy=>mG y x
inductive FV (K:PySem.W.Frag) (neg:Bool) (x:V) (y:V) (H:Hp) (Q:VK):Prop
 |mk (p:_) (xs:_) (_:y=.ref p) (_:(bE K H p xs\/bR K H p xs)) (_:eh x=true) (_:xs.all eh=true) (_:Q (.bl (if neg then !Bx x xs else Bx x xs)) H):FV K neg x y H Q
theorem xa:iP X (compareOp .In) (FV X.K false):=by
 intro pins s σ H x y v u Q I L O h;obtain⟨p,xs,rfl,F,J,fs,q⟩:=h;cases O;rcases F with F|F
 .obtain⟨its,r,pl,N⟩:=I.list F;refine SeqAt.in_listAt (ue x) pl.isList (λw G=>gP L J r fs w (by simpa using G)) ⟨.bl _,H,I,rfl,?_⟩;rw[show its.toArray.any (ue x)=its.any (ue x)by simp,jJ r fs];exact q
 .obtain⟨its,r,pl,N⟩:=I.tuple F;refine SeqAt.in_tupleAt (ue x) pl (λw G=>gP L J r fs w (by simpa using G)) ⟨.bl _,H,I,rfl,?_⟩;rw[show its.toArray.any (ue x)=its.any (ue x)by simp,jJ r fs];exact q
theorem gf:iP X (compareOp .NotIn) (FV X.K true):=by
 intro pins s σ H x y v u Q I L O h;obtain⟨p,xs,rfl,F,J,fs,q⟩:=h;cases O;rcases F with F|F
 .obtain⟨its,r,pl,N⟩:=I.list F;refine SeqAt.notIn_listAt (ue x) pl.isList (λw G=>gP L J r fs w (by simpa using G)) ⟨.bl _,H,I,rfl,?_⟩;rw[show its.toArray.any (ue x)=its.any (ue x)by simp,jJ r fs];exact q
 .obtain⟨its,r,pl,N⟩:=I.tuple F;refine SeqAt.notIn_tupleAt (ue x) pl (λw G=>gP L J r fs w (by simpa using G)) ⟨.bl _,H,I,rfl,?_⟩;rw[show its.toArray.any (ue x)=its.any (ue x)by simp,jJ r fs];exact q
theorem bC:di X (.builtin "len") (λxs H Q=>∃p ys,xs=[.ref p]/\(bE X.K H p ys\/bR X.K H p ys)/\Q (.int ys.length) H):=by
 intro pins s σ H xs us Q I r h;obtain⟨p,ys,rfl,F,q⟩:=h;obtain⟨u,rfl,N⟩:=vals1 r;cases N;have O:=lZ;rcases F with F|F
 .obtain⟨its,G,pl,L⟩:=I.list F;have J:=G.length;exact Calls.call_len_list pl.isList (by simp only[size_toArray]<;>omega) ⟨.int ys.length,H,I.tok _,⟨s.toks+1,by rw[size_toArray,J]⟩,q⟩
 .obtain⟨its,G,pl,L⟩:=I.tuple F;have J:=G.length;exact len_tuple pl (by simp only[size_toArray]<;>omega) ⟨.int ys.length,H,I.tok _,⟨s.toks+1,by rw[size_toArray,J]⟩,q⟩
theorem dN:di X (.type "list") (λxs H Q=>∃p ys,xs=[.ref p]/\(bE X.K H p ys\/bR X.K H p ys)/\∀l,H l=none->Q (.ref l) (upd H l (.lst ys))):=by
 intro pins s σ H xs us Q I r h;obtain⟨p,ys,rfl,L,q⟩:=h;obtain⟨u,rfl,Y⟩:=vals1 r;cases Y;have S:∀(its:List Value),Vals ys its->ys.length<=sizeLine->∀(h':Heap) (F:Nat),(∀b o',s.heap.get? b=some o'->h'.get? b=some o') ->
   h'.get? s.heap.objs.size=some { cls:=.type "list",dict:=none,data:=.seq its.toArray F,slots := #[] }->EP X pins σ Q (.ref s.heap.objs.size) { s with heap:=h' }:=λits G J h' F N e =>
  ⟨.ref s.heap.objs.size,_,I.laid (t':=s.toks) N (le_refl _) (show bT X.prog X.w _ h' _ (.lst ys)from⟨J,its,F,G,e⟩),rfl,q _ (I.bG.fresh (le_refl _))⟩
 rcases L with L|L
 .obtain⟨its,G,pl,J⟩:=I.list L;have U:=G.length;obtain⟨o,O,R,n,hd⟩:=pl.isList;exact call_list_seq p (.inl rfl) O R hd (λh' F N e=>S its G J h' F N e) (by simp only[size_toArray]<;>omega)
 .obtain⟨its,G,pl,J⟩:=I.tuple L;have U:=G.length;obtain⟨o,O,R,n,hd⟩:=pl;exact call_list_seq p (.inr rfl) O R hd (λh' F N e=>S its G J h' F N e) (by simp only[size_toArray]<;>omega)
theorem mJ:di X (.type "tuple") (λxs H Q=>∃p ys,xs=[.ref p]/\((bE X.K H p ys/\∀l,H l=none->Q (.ref l) (upd H l (.tup ys)))\/(bR X.K H p ys/\Q (.ref p) H))):=by
 intro pins s σ H xs us Q I r h;obtain⟨p,ys,rfl,h⟩:=h;obtain⟨u,rfl,R⟩:=vals1 r;cases R;rcases h with⟨G,q⟩|⟨G,q⟩
 .obtain⟨its,F,pl,J⟩:=I.list G;have S:=F.length;refine call_tuple_list pl.isList (λh' N=>?_) (by simp only[size_toArray]<;>omega);have L:Inv X pins σ H { s with heap:=h' }:=I.kept (t':=s.toks) N;have O:Inv X pins σ (upd H h'.objs.size (.tup ys)) { s with heap:=h'.push { cls:=.type "tuple",data:=.seq its.toArray } }:=
   L.laid (t':=s.toks) (λb o e=>Heap.get?_push_of_some _ e) (le_refl _) (show bT X.prog X.w _ _ _ (.tup ys)from⟨J,its,F,IsTup.new _ _⟩)
  exact⟨.ref h'.objs.size,_,O,rfl,q _ (L.bG.fresh (le_refl _))⟩
 .obtain⟨its,F,pl,J⟩:=I.tuple G;exact call_tuple_same pl ⟨.ref p,H,I,rfl,q⟩
noncomputable def Hk (K:PySem.W.Frag) (T:String) (x:V) (H:Hp):Prop:=match x with
 |.str _=>T = "str"
 |.int _=>T = "int"
 |.ref p=>(T = "list" /\ ∃xs,bE K H p xs)\/(T = "tuple" /\ ∃o,K.lookup p=some o/\o.cls=.type "tuple" /\ o.dict=none) \/
   (T = "dict" /\ ((∃kvs,H p=some (.dK kvs))\/∃kvs,H p=some (.dT kvs)))\/(T = "set" /\ ∃S n,H p=some (.set S n))
 |_=>False
theorem C6 {pins:List (Addr×Obj)}{σ:St}{H:Hp}{s:Shared}{T:String}{x:V}{v:Value}(I:Inv X pins σ H s) (r:RelV x v) (ty:Hk X.K T x H) :
  s.TypeIs v T/\∀a,v=.ref a->∃J,s.heap.get? a=some J/\J.dict=none:=by
 cases x with
 |str z =>
  obtain⟨t,rfl⟩:=r;cases(show T = "str" from ty);exact⟨typeIs_str s z t,λ_ e=>nomatch e⟩
 |int i =>
  obtain⟨t,rfl⟩:=r;cases(show T = "int" from ty);exact⟨typeIs_int s i t,λ_ e=>nomatch e⟩
 |ref p =>
  cases r;rcases ty with⟨rfl,xs,N⟩|⟨rfl,o,F,L,hd⟩|⟨rfl,F⟩|⟨rfl,S,n,F⟩
  .obtain⟨its,_,pl,_⟩:=I.list N;refine⟨pl.isList.typeIs,λa e=>?_⟩;cases e;obtain⟨o,n,e,c,hd,_⟩:=pl;exact⟨o,e,hd⟩
  .refine⟨⟨o,I.jM p o F,L⟩,λa e=>?_⟩;cases e;exact⟨o,I.jM _ o F,hd⟩
  .have z:∃o,s.heap.get? p=some o/\o.ExactDict:=by
    rcases F with⟨kvs,F⟩|⟨kvs,F⟩
    .obtain⟨_,_,_,_,o,_,_,e,ex,_⟩:=I.bG p _ F;exact⟨o,e,ex⟩
    .obtain⟨_,_,_,_,o,_,_,e,ex,_⟩:=I.bG p _ F;exact⟨o,e,ex⟩
   obtain⟨o,e,ex⟩:=z;refine⟨⟨o,e,ex.1⟩,λa G=>?_⟩;cases G;exact⟨o,e,ex.2.1⟩
  .obtain⟨o,_,_,_,e,ex,_⟩:=I.bG p _ F;refine⟨⟨o,e,ex.1⟩,λa G=>?_⟩;cases G;exact⟨o,e,ex.2.1⟩
 |_=>exact False.elim ty
noncomputable def Hz (K:PySem.W.Frag) (T:String) (r:V->List V->Hp->VK->Prop) (to:TE) (t:TA):TE:=λσ H Q=>to σ H λx H1=>Hk K T x H1/\t σ H1 λxs H2=>r x xs H2 Q
variable {o e:Expr}{es:List Expr}{to:TE}{t:TA}{name:Str}{apos cpos:Pos}{T id:String}{r:V->List V->Hp->VK->Prop}
theorem gS (Y:PlainAttrs T) (slot:Slot T name id) (N:typeOf (.builtin id)=pure (.type "method_descriptor")) (hm:HI X id r) (O:PE X o to) (ha:PA X (e::es) t)
  (ad:attributeBase o name X.env (eval o X.env)=eval o X.env:=by rfl)
  (ap:((backTo cpos (starEach (e::es) X.env)).all (λx => !x.1)&&(backToKw cpos (keywordEach [] X.env)).all (λx=>x.1.isSome)
   && decide ((e::es).length+([]:List Keyword).length+(if ([]:List Keyword).isEmpty then 0 else 1)<30))=true:=by rfl)
  (ac:(apos.endLine==cpos.line)=true:=by rfl) (hs:starEach (e::es) X.env=(false,eval e X.env)::starEach es X.env:=by rfl) (am:(backTo cpos (starEach es X.env)).any (·.1)=false:=by rfl) :
  PE X (.Call (.Attribute o name apos) (e::es) [] cpos) (Hz X.K T r to t):=by
 intro pins s σ H Q I h;refine wpAny_Call_method_late ad ap ac rfl (bP (O pins s σ H _ I h) λv U S=>?_);obtain⟨x,H1,F,J,ty,q1⟩:=S;obtain⟨h1,h2⟩:=C6 F J ty;refine⟨T,id,Y,slot,N,h1,h2,?_⟩;have G:=ha cpos pins U σ H1 _ F q1;rw[hs]at G ⊢;refine Calls.callWith_builtin (by show(false||(backTo cpos (starEach es X.env)).any (·.1))=false;rw[am]<;>rfl) (Calls.evalArgs_plain ?_);exact bP G λus s2 ab=>by obtain⟨vs,H2,I2,L,R⟩:=ab;exact hm pins s2 σ H2 x vs v us Q I2 J L R
end
noncomputable def BN (X:Cx) (id:String) (r:V->List V->Hp->VK->Prop):Prop :=
 ∀(pins:List (Addr×Obj)) (s:Shared) (σ:St) (H:Hp) (x:V) (xs:List V) (v:Value) (us:List Value) (Q:VK),Inv X pins σ H s->RelV x v->Vals xs us->r x xs H Q ->
  wpAny (model X.prog X.w) X.A (call (.builtin id) (v::us)) (EP X pins σ Q) X.xe s
theorem Vals.one:∀{x:V}{us:List Value},Vals [x] us->∃u,us=[u]/\RelV x u
 |_,_,.cons r .nil=>⟨_,rfl,r⟩
theorem Vals.eraseIdx:∀{xs:List V}{us:List Value}(i:Nat),Vals xs us->Vals (xs.eraseIdx i) (us.eraseIdx i)
 |_,_,_,.nil=>.nil
 |_,_,0,.cons _ t=>t
 |_,_,i+1,.cons r t=>.cons r (Vals.eraseIdx i t)
theorem Vals.rep {xs:List V}{us:List Value}(h:Vals xs us):∀k:Nat,Vals (replicate k xs).flatten (replicate k us).flatten
 |0=>.nil
 |k+1=>by
  rw[replicate_succ,replicate_succ,flatten_cons,flatten_cons];exact Vals.append h (Vals.rep h k)
theorem mV {α:Type}:∀(l:List α) (i:Nat),(l.eraseIdx i).length<=l.length
 | [],_=>le_refl _
 |_::_,0=>le_succ _
 |_::r,i+1=>Nat.succ_le_succ (mV r i)
theorem foldl_rep (its:List Value):∀(k:Nat) (F:List Value),
  foldl (λI G=>I++G) F.toArray (replicate k its.toArray)=(F++(replicate k its).flatten).toArray
 |0,F=>by simp
 |k+1,F=>by
  have e:F.toArray++its.toArray=(F++its).toArray:=(by simp);have J:(F++its)++(replicate k its).flatten=F++(replicate (k+1) its).flatten:=by
   rw[replicate_succ,flatten_cons,append_assoc]
  rw[<-J, <-foldl_rep its k (F++its), <-e,replicate_succ,List.foldl_cons]
section
variable {X:Cx}{pins:List (Addr×Obj)}{σ:St}{H:Hp}{s:Shared}{l b:Addr}{xs ys zs:List V}
theorem Inv.zX {its its':List Value}{n:Nat}{f:Array Value->Array Value}{t':Nat}(I:Inv X pins σ H s) (L:H l=some (.lst xs))
  (e:s.heap.get? l=some { cls:=.type "list",data:=.seq its.toArray n }) (F:f its.toArray=its'.toArray) (O:Vals ys its') (G:ys.length<=sizeLine) :
  Inv X pins σ (upd H l (.lst ys)) { s with heap:=s.heap.update l (Obj.mapSeq f),toks:=t' }:=by
 have q:=PySem.IsL.update e f;rw[F]at q;refine I.write (x:=l) (e:=l) (by rw[L];exact trivial) (.inl rfl) (λR u J N=>(Heap.get?_update_other s.heap (Obj.mapSeq f) (Ne.symm J)).trans N) ⟨_,q⟩ ?_;exact⟨G,its',_,O,q⟩
theorem Inv.ET {its:List Value}{t':Nat}(I:Inv X pins σ H s) (F:Vals ys its) (G:ys.length<=sizeLine) :
  Inv X pins σ (upd H s.heap.objs.size (.lst ys)) { s with heap:=s.heap.push { cls:=.type "list",data:=.seq its.toArray },toks:=t' }:=
 I.laid (λ_ _ q=>Heap.get?_push_of_some _ q) (le_refl _) ⟨G,its,0,F,Heap.get?_push_size _ rfl⟩
theorem Inv.fresh (I:Inv X pins σ H s):H s.heap.objs.size=none:=I.bG.fresh (le_refl _)
theorem Inv.mi (I:Inv X pins σ H s) (F:H l=some (.lst xs)):xs.length<=sizeLine/\∃(its:List Value) (n:Nat),Vals xs its/\xs.length=its.length/\s.heap.get? l=some { cls:=.type "list",data:=.seq its.toArray n }:=by
 obtain⟨z,its,n,r,e⟩:=I.bG l _ F;exact⟨z,its,n,r,r.length,e⟩
theorem rJ {n:Nat}(h:n<=sizeLine):Builtin.List.listTooLong n=false:=by
 unfold Builtin.List.listTooLong;exact decide_eq_false af
end
section
variable {X:Cx}
inductive u0 (x:V) (vs:List V) (H:Hp) (Q:VK):Prop
 |mk (l:_) (xs:_) (y:_) (_:x=.ref l) (_:vs=[y]) (_:H l=some (.lst xs)) (_:xs.length<sizeLine) (_:Q .non (upd H l (.lst (xs++[y])))):u0 x vs H Q
theorem jT:BN X "list.append" u0:=by
 intro pins s σ H x vs v us Q I L J h;obtain⟨l,xs,y,rfl,rfl,G,R,q⟩:=h;cases L;obtain⟨u,rfl,N⟩:=J.one;obtain⟨z,its,n,r,O,e⟩:=I.mi G;refine call_meets F.slot_list_append ⟨_,e,rfl⟩ F.entry_list_append (F.args_list_append_2 _ _) (list_append l its.toArray n u (by rw[size_toArray];omega)) ⟨e,?_⟩;refine⟨.non,_,I.zX (its':=its++[u]) G e (by simp) (r.append (.cons N .nil)) ?_,rfl,q⟩;rw[length_append,length_singleton];omega
inductive vp (x:V) (vs:List V) (H:Hp) (Q:VK):Prop
 |mk (l:_) (b:_) (xs:_) (zs:_) (_:x=.ref l) (_:vs=[.ref b]) (_:H l=some (.lst xs)) (_:H b=some (.lst zs)) (_:xs.length+zs.length<=sizeLine) (_:Q .non (upd H l (.lst (xs++zs)))):vp x vs H Q
theorem mW:BN X "list.extend" vp:=by
 intro pins s σ H x vs v us Q I N L h;obtain⟨l,b,xs,zs,rfl,rfl,J,hB,hz,q⟩:=h;cases N;obtain⟨u,rfl,O⟩:=L.one;cases O;obtain⟨z,its,n,r,hl,e⟩:=I.mi J;obtain⟨z2,G,S,R,ab,U⟩:=I.mi hB;have hsz:its.toArray.size+G.toArray.size<=sizeLine:=(by rw[size_toArray,size_toArray];omega);have Y:¬ (!its.toArray.isEmpty&&Builtin.List.listTooLong (its.toArray.size+G.toArray.size))=true:=by
  rw[rJ hsz,Bool.and_false];exact Bool.false_ne_true
 refine call_meets F.slot_list_extend ⟨_,e,rfl⟩ F.entry_list_extend (F.args_list_extend_2 _ _)
  (AutoSeq1.list_extend_list_list_0 l its.toArray n b G.toArray S Y (by rw[size_toArray];omega) af) ⟨e,U,?_⟩
 refine⟨.non,_,I.zX (its':=its++G) J e (by simp) (r.append R) ?_,rfl,q⟩;rw[length_append];omega
inductive yA (x:V) (vs:List V) (H:Hp) (Q:VK):Prop
 |mk (l:_) (xs:_) (i:_) (k:_) (y:_) (_:x=.ref l) (_:vs=[.int i]) (_:H l=some (.lst xs)) (_ : -(2^63)<=i) (_:i<2^63) (_:seqIndex? i xs.length=some k) (_:xs[k]?=some y) (_:Q y (upd H l (.lst (xs.eraseIdx k)))):yA x vs H Q
theorem yW:BN X "list.pop" yA:=by
 intro pins s σ H x vs v us Q I S J h;obtain⟨l,xs,i,k,y,rfl,rfl,G,h1,h2,U,R,q⟩:=h;cases S;obtain⟨u,rfl,Y⟩:=J.one;obtain⟨t,rfl⟩:=Y;obtain⟨z,its,n,r,L,e⟩:=I.mi G;obtain⟨w,N,O⟩:=r.get R;refine call_meets F.slot_list_pop ⟨_,e,rfl⟩ F.entry_list_pop (F.args_list_pop_2 _ _)
  (MeetsSeq.list_pop_at l its.toArray n i t k w (fitsIndex_both h1 h2) (by rw[size_toArray, <-L];exact U) (by rw[<-getElem?_toList];exact N) (by rw[size_toArray];omega)) ⟨e,?_⟩
 refine⟨y,_,I.zX (its':=its.eraseIdx k) G e ?_ (r.eraseIdx k) ?_,O,q⟩
 .show its.toArray.eraseIdxIfInBounds k=(its.eraseIdx k).toArray;rw[List.eraseIdxIfInBounds_toArray]
 .have:=mV xs k;omega
inductive EK (x:V) (y:V) (H:Hp) (Q:VK):Prop
 |mk (l:_) (b:_) (xs:_) (zs:_) (_:x=.ref l) (_:y=.ref b) (_:H l=some (.lst xs)) (_:H b=some (.lst zs)) (_:xs.length+zs.length<=sizeLine) (_:∀p,H p=none->Q (.ref p) (upd H p (.lst (xs++zs)))):EK x y H Q
theorem sJ:iP X (binaryOp .Add) EK:=by
 intro pins s σ H x y v u Q I R N h;obtain⟨l,b,xs,zs,rfl,rfl,O,S,hz,q⟩:=h;cases R;cases N;obtain⟨z,its,n,r,Y,e⟩:=I.mi O;obtain⟨z2,F,U,G,ab,J⟩:=I.mi S;refine PySem.P.add_list e J ?_ (by rw[size_toArray,size_toArray];omega);have L:its.toArray++F.toArray=(its++F).toArray:=(by simp);rw[L];exact⟨.ref _,_,I.ET (t':=s.toks) (r.append G) (by rw[length_append];omega),rfl,q _ I.fresh⟩
inductive ES (x:V) (y:V) (H:Hp) (Q:VK):Prop
 |mk (l:_) (k:_) (xs:_) (_:x=.ref l) (_:y=.int k) (_:H l=some (.lst xs)) (_ : -(2^63)<=k) (_:k<2^63) (_:xs.length*k.toNat<=sizeLine) (_:∀p,H p=none->Q (.ref p) (upd H p (.lst (replicate k.toNat xs).flatten))):ES x y H Q
theorem len_rep {α:Type}(xs:List α) (k:Nat):(replicate k xs).flatten.length=k*xs.length:=by
 induction k with
 |zero=>simp
 |succ k F=>rw[replicate_succ,flatten_cons,length_append,F,Nat.succ_mul,Nat.add_comm]
theorem j4:iP X (binaryOp .Mult) ES:=by
 intro pins s σ H x y v u Q I rx ry h;obtain⟨l,k,xs,rfl,rfl,R,h1,h2,L,q⟩:=h;cases rx;obtain⟨t,rfl⟩:=ry;obtain⟨z,its,n,r,hl,e⟩:=I.mi R;have ac:its.toArray.size*k.toNat<=sizeLine:=(by rw[size_toArray, <-hl];exact L);have Y:¬ its.toArray.size*k.toNat>(2^63-1)/8:=by
  have:(sizeLine:Nat)<=(2^63-1)/8:=av;omega
 have N:¬ (!Builtin.List.listFitsIndex k)=true:=by
  rw[fitsIndex_both h1 h2];exact Bool.false_ne_true
 have ab:¬ Builtin.List.listTooLong (its.toArray.size*k.toNat)=true:=by
  rw[rJ ac];exact Bool.false_ne_true
 have O:foldl (λG J=>G++J) #[] (replicate (if its.toArray.isEmpty=true then 0 else k.toNat) its.toArray)=(replicate k.toNat its).flatten.toArray:=by
  have S:∀m:Nat,foldl (λG J=>G++J) #[] (replicate m its.toArray)=(replicate m its).flatten.toArray:=λm=>by
   have:=foldl_rep its m [];rw[List.nil_append]at this;exact this
  rw[S];cases its with
  |nil=>simp
  |cons a r'=>rw[if_neg (by simp)]
 refine wpAny_binaryOp_repeat_ref (T := "list") (U := "int") av ⟨_,e,rfl⟩ (λs'=>typeIs_int s' k t) noFill_list_mul F.fills_int_mul F.slot_int_rmul repeat_list F.slot_int_index.lookup
  (call_meets F.slot_int_rmul (typeIs_int s k t) F.entry_int_rmul (F.args_int_rmul_2 _ _) (int___rmul___int_list k t l its.toArray n)
   ⟨e,rfl,⟨_,e,rfl⟩,call_meets F.slot_list_mul ⟨_,e,rfl⟩ F.entry_list_mul (F.args_list_mul_2 _ _) (AutoListH.list___mul___list_int_3 l its.toArray n k t N Y ab) ⟨e,?_⟩⟩)
 rw[O];exact⟨.ref _,_,I.ET (t':=s.toks) (r.rep k.toNat) (by rw[len_rep,Nat.mul_comm];exact L),rfl,q _ I.fresh⟩
end
section
variable {prog:Program}{w:World}{A:Around}{E:Value->Shared->Prop}{s:Shared}
end
section
variable {X:Cx}
end
end L2
namespace Att
open PySem PySem.W PySem.Calls PyProof.Rows
theorem kz {P:Params}{h:Heap}:∀(ns:List Int) (vs:List Value),WellAll P h vs (ns.map WData.int)->IntsAre vs ns:=by
 intro ns
 induction ns with
 |nil =>
  intro vs w;rw[map_nil]at w;cases w;exact .nil
 |cons n ns F =>
  intro vs w;rw[map_cons]at w;cases w with
  |cons a b =>
   cases a;exact .cons _ _ (F _ b)
theorem wg {l:OpenLaw}{n:Nat}(hn:l.most=some n) {P:Params}{h:Heap}{args:List WData}{L:List Value}
  (J:l.row.toRowW.claim.pre args=true) (ac:WellAll P h L args) :
  ∃a vs ns,L=[Value.ref a]/\args=[WData.list (ns.map WData.int)]/\h.get? a=some { cls:=.type "list",data:=.seq vs.toArray }/\IntsAre vs ns/\ns.length<=n:=by
 have N:WShape.hasAll [] args [.list .int]=true:=(pre_splitW J).1;have I:l.pre.holds [] { args:=args }=true:=(pre_splitW J).2;obtain⟨d,r,rfl,h1,h2⟩:=hasAllW_cons N;obtain rfl:=hasAllW_nil h2;obtain⟨xs,rfl,h3⟩:=hasW_list h1;obtain⟨ns,rfl⟩:=items_int h3;have ab:ns.length<=n:=by
  unfold OpenLaw.pre at I;have F:(WTm.not (.lt (.lit (.int (n:Int))) (.len (.arg 0)))).holds [] { args:=[.list (ns.map .int)] }=true:=by
   have F:=(holds_andW I).1;rw[hn]at F;exact F
  have G:=condW_of F (w_not (w_lt w_lit (w_len_list (w_arg rfl))));rw[length_map]at G;refine Nat.le_of_not_lt λq=>?_;have S:(n:Int)<((ns.length:Nat):Int):=af
  first
   |(rw[decide_eq_true S]at G;exact absurd G av)
   |(simp at G;omega)
 cases ac with
 |cons Y U =>
  cases U;cases Y with
  |list R O=>exact⟨_,_,ns,rfl,rfl,R,kz ns _ O,ab⟩
theorem v5 (l:OpenLaw) (args:List WData):l.row.toRowW.claim.post args (.bool true) args=true :=
 postW_of (r:=l.row.toRowW) (X:=(true==true))
  (show WShape.has [] (.bool true) .bool=true by first|rfl|decide|simp[WShape.has,WShape.arms,WShape.armsAll])
  (show(WTm.eq .res (.lit (.bool true))).value [] { args:=args,res:=some (.bool true),after:=args }=some (.bool (true==true))from w_eq_bool (w_res rfl) w_lit) rfl
theorem rN {l:OpenLaw}{n:Nat}{q:Program}{loose:List Str}{N:(Str->Option Value)->Heap->Prop}{R:World->Heap->Prop}{d:DefRec}
  (hn:l.most=some n) (S:d.params.defaults=[])
  (call:∀(w:World) (s₀ F:Shared) (mg L:Str->Option Value) (I:Addr) (o:Obj) (pm cd J:Value) (a:Addr) (vs:List Value) (ns:List Int),
   Ground q loose [] N w s₀ mg L F.heap->R w F.heap ->
   F.heap.get? I=some o->o.data=.func (docDef d.name d.params d.body d.scope pm cd J)->F.heap.CodeRec cd d.name->mg d.name=some (.ref I) ->
   F.heap.get? a=some { cls:=.type "list",data:=.seq vs.toArray }->IntsAre vs ns->ns.length<=n->F.gens = #[] ->
   codeAny (model l.prog w) callerA (.call (.ref I) ⟨[.ref a],[]⟩) (λr s'=>r=.ok (.ret (.bool true))/\OldK F.heap s'.heap/\s'.os=F.os/\AllBare s'.gens) F) :
  WalkO q loose N R l.row.toRowW d [] (λf vs=>PySem.call f vs):=by
 intro w s₀ F mg L G Y I o pm cd J dV kV U hd ad O aB hg args a2 as ab a1 a0 ac a3;obtain rfl:dV=.none:=Dflts.none O S;obtain rfl:kV=.none:=Dflts.noKw O;obtain⟨a,vs,ns,rfl,rfl,ap,am,aT⟩:=wg hn ab ac;refine enter_call (codeAny_mono (call w s₀ F mg L I o pm cd J a vs ns G Y U (fd_plain hd) ad aB ap am aT hg) λr s' hq=>?_);obtain⟨rfl,h2,h3,h4⟩:=hq;exact⟨.inl ⟨.bool true,.bool true,[],rfl,λ_=>rfl,.bool true,v5 l _,λ_=>⟨List.Pairwise.nil,λ_ hm=>(nomatch hm)⟩⟩,h2,h3,h4⟩
section
variable {prog:Program}{w:World}{A:Around}{E:Value->Shared->Prop}{s:Shared}{K:Frag}
end
end Att
namespace L2
open PySem PySem.Spec PyProof.Rows
theorem ig:∀{vs:List Value}{ns:List Int},IntsAre vs ns->Vals (ns.map V.int) vs
 |_,_,.nil=>.nil
 |_,_,.cons n t h=>.cons ⟨t,rfl⟩ (ig h)
noncomputable def Cy (H:Hp):Prop:=∀b,H b=none\/∃o xs,H b=some (.frz o (.lst xs))
theorem yS {P:Program}{w:World}{K:PySem.W.Frag}{mg S:Str->Option Value}{CX:vi}{k:Nat}{R a:Addr}{fd:FuncData}{x:Str}{sp:Sp}{G:Shared}{vs:List Value}{ns:List Int}
  (KX:K.In G.heap) (ad:G.heap.Ns mainGlobals mg) (I:G.heap.Ns builtinsNs S) (a1:∀x:Str,x ≠ "__name__" -> S x=bootBuiltins x) (aB:G.heap.NoLimit) (hg:G.gens = #[])
  (L:G.heap.get? a=some { cls:=.type "list",data:=.seq vs.toArray }) (hi:IntsAre vs ns) (hl:ns.length<=sizeLine) (hr:dv k callerA)
  (F:∀base:Heap,K.In base->base.Ns mainGlobals mg->bg P w K mg base CX k R fd [x] sp) (am:∀(s:Shared) (u:Value),BindsTo s fd ⟨[u],[]⟩ [(x,u)])
  (aT:∀H:Hp,Cy H->bE K H a (ns.map V.int)->sp [.ref a] H (λv _=>v=.bl true) λ_ _ _=>False)
  (as:∀H e s',CX [] H G (λ_ _ _=>False) e s'->False) :
  codeAny (model P w) callerA (.call (.ref R) ⟨[.ref a],[]⟩) (λr s'=>r=.ok (.ret (.bool true))/\OldK G.heap s'.heap/\s'.os=G.os/\AllBare s'.gens) G:=by
 have rv:=ig hi;have a3:=hi.length;have ab:∀H:Hp,Cy H->bE K H a (ns.map V.int)->iI P w H G.heap->(∀b,H b≠none->b=a)->(H a≠none->K.lookup a=none) ->
   codeAny (model P w) callerA (.call (.ref R) ⟨[.ref a],[]⟩) (λr s'=>r=.ok (.ret (.bool true))/\OldK G.heap s'.heap/\s'.os=G.os/\AllBare s'.gens) G:=by
  intro H hO hS bG hA hK;have Y:∀{b:Addr}{o:Obj},G.heap.get? b=some o->H b=none->(nX G.heap H).get? b=some o:=λe n=>xJ e n;have ap:∀{b:Addr}{o:Obj}{es:Array DictEntry}{ep:Nat},G.heap.get? b=some o->o.data=.dict es ep->H b=none:=λ{b o es ep} e d=>by
   cases q:H b with
   |none=>rfl
   |some u =>
    have O:b=a:=hA b (by rw[q];simp);subst O;rw[L]at e;cases e;have d':Data.seq vs.toArray _=Data.dict es ep:=d;cases d'
  have N:∀{b:Addr}{m:Str->Option Value},G.heap.Ns b m->(nX G.heap H).Ns b m:=λ{b m} a0=>(by obtain⟨o,es,ep,e,d,r⟩:=a0;exact⟨o,es,ep,Y e (ap e d),d,r⟩);have ac:K.In (nX G.heap H):=λb o e=>Y (KX b o e) (by
   cases q:H b with
   |none=>rfl
   |some u =>
    have O:b=a:=hA b (by rw[q];simp);subst O;rw[hK (by rw[q];simp)]at e;cases e)
  have hM:Mod K mg (nX G.heap H):=⟨ac,N ad,⟨S,N I,a1⟩,let ⟨mc,h1,h2⟩:=aB;⟨mc,N h1,h2⟩⟩;have e0:t5 P w K mg (nX G.heap H) callerA [] G H:=⟨rfl,hM,λb o e=>zU e,Nat.le_of_eq (wL _ _),trivial,λb I=>absurd (show b∈([]:List Addr)from I) (by simp),bG,.of_eq hg⟩;refine codeAny_mono ((F _ ac (N ad)).run callerA [] G H ⟨[.ref a],[]⟩ [.ref a] [.ref a] _ _ hr e0 (am G (.ref a)) (.cons rfl .nil) (aT H hO hS)) λr s' h=>?_;cases r with
  |error e=>exact(as H e s' h).elim
  |ok fl =>
   cases fl with
   |next=>exact False.elim h
   |brk=>exact False.elim h
   |cont=>exact False.elim h
   |ret u =>
    obtain⟨v,H',os,bare,un,a2,r',q⟩:=h;have q':v=.bl true:=q;subst q';obtain rfl:u=Value.bool true:=r';refine⟨rfl,OldK.of_keep λb o e=>?_,os,bare⟩;cases q:H b with
    |none=>exact un.keep b o e q (by intro z;exact absurd (show b∈([]:List Addr)from z) (by simp)) (by simp)
    |some u =>
     rcases hO b with z|⟨ob,xs,z⟩
     .rw[q]at z;cases z
     .have z2:=un.mN b ob _ z;obtain⟨e1,_⟩:=bG b _ z;obtain⟨e2,_⟩:=a2 b _ z2;rw[e]at e1;cases e1;exact e2
 cases U:K.lookup a with
 |some o =>
  have e:=KX a o U;rw[L]at e;cases e;refine ab (λ_=>none) (λ_=>.inl rfl) (.inr ⟨_,vs.toArray,_,U,rfl,rfl,rfl,by rw[size_toArray,a3];exact hl,by simpa using rv⟩) (λb u z=>by have J:(none:Option HO)=some u:=z;cases J) (λb z=>absurd rfl z) λz=>absurd rfl z
 |none =>
  refine ab (λb=>if b=a then some (.frz { cls:=.type "list",data:=.seq vs.toArray } (.lst (ns.map V.int)))else none) (λb=>?_) (.inl (.inr ⟨{ cls:=.type "list",data:=.seq vs.toArray },if_pos rfl⟩)) (λb u z=>?_) (λb z=>?_) λ_=>U
  .by_cases I:b=a
   .exact .inr ⟨_,_,if_pos I⟩
   .exact .inl (if_neg I)
  .by_cases I:b=a
   .have J:=(if_pos I).symm.trans z;cases J;subst I;exact⟨L,by rw[length_map];exact hl,vs,_,rv,L⟩
   .have J:=(if_neg I).symm.trans z;cases J
  .by_cases I:b=a
   .exact I
   .exact absurd (if_neg I) z
theorem Ar {l:PySem.W.OpenLaw}{n k:Nat}{q:Program}{loose:List Str}{XP:(Str->Option Value)->Heap->Prop}{L:World->Heap->Prop}{d:DefRec}{K:Params->PySem.W.Frag}{CX:World->vi}{sp:World->Sp}{x:Str}
  (hn:l.most=some n) (am:n<=sizeLine) (R:d.params.defaults=[]) (O:dv k callerA)
  (hY:∀(w:World) (h:Heap),L w h->(K w.params).In h)
  (F:∀(w:World) (mg:Str->Option Value) (I:Addr) (h:Heap),(K w.params).In h->h.Ns mainGlobals mg->mg d.name=some (.ref I) ->
   ∃fd:FuncData,(∀(s:Shared) (u:Value),BindsTo s fd ⟨[u],[]⟩ [(x,u)]) /\
    ∀base:Heap,(K w.params).In base->base.Ns mainGlobals mg->bg l.prog w (K w.params) mg base (CX w) k I fd [x] (sp w))
  (as:∀(w:World) (H:Hp) (a:Addr) (ns:List Int),ns.length<=n->Cy H->bE (K w.params) H a (ns.map V.int)->sp w [.ref a] H (λv _=>v=.bl true) λ_ _ _=>False)
  (ad:∀(w:World) (H:Hp) (s:Shared) (e:Value) (s':Shared),CX w [] H s (λ_ _ _=>False) e s'->False) :
  PySem.W.WalkO q loose XP L l.row.toRowW d [] (λf vs=>PySem.call f vs):=by
 refine Att.rN hn R λw s₀ S mg mb I o pm cd aB a vs ns G Y ho hd aT ap ab ac N hg=>?_;have J:=hY w _ Y;obtain⟨fd,hb,U⟩:=F w mg I _ J G.T.g ap;exact yS J G.T.g G.T.b G.T.builtins G.T.nolimit hg ab ac (le_trans N am) O U hb (λH hO hS=>as w H a ns N hO hS) λH e s'=>ad w H S e s'
noncomputable def inClass (s:Stmt) (j:Nat):Stmt:=match s with
 |.ClassDef _ _ _ body _ _ _ _ _ _ _=>body.getD j (.Pass ⟨0,0,0,0⟩)
 |_=>.Pass ⟨0,0,0,0⟩
noncomputable def fq (s:Stmt):Arguments:=match s with
 |.FunctionDef _ a _ _ _ _ _ _ _ _=>a
 |_=>{ posonlyargs:=[],args:=[],vararg:=none,kwonlyargs:=[],kw_defaults:=[],kwarg:=none,defaults:=[] }
noncomputable def eG (s:Stmt):List Stmt:=match s with
 |.FunctionDef _ _ b _ _ _ _ _ _ _=>b
 |_=>[]
noncomputable def ar (s:Stmt):Scope:=match s with
 |.FunctionDef _ _ _ _ _ _ F _ _ _=>F
 |_=>{ kind:=.function,names:=[],isGenerator:=false,isCoroutine:=false }
noncomputable abbrev aW:vi:=λ_ _ _ _ _ _=>False
noncomputable abbrev E0:XK:=λ_ _ _=>False
theorem aw {X:Cx}:Passes aW X E0:=λ_ _ _ _ _ _ _ h=>h.elim
structure cN (K:PySem.W.Frag) (x qual:Str) (st:Stmt) (f:Addr) (fd:FuncData):Prop where
 ex:∃(oc:Value) (od:Option Addr) (kV doc pm:Value) (an:Option Addr) (cdv ct:Value) (osl:Array (Option Value)),
  fd=fnOf x qual (fq st) (eG st) (ar st) .none kV doc pm an cdv ct/\K.lookup f=some ⟨oc,od,.func fd,osl⟩/\codeIn K cdv qual=true
 kp:keepIn K (.ref f)=true
section
variable {P:Program}{w:World}{K:PySem.W.Frag}{mg:Str->Option Value}{base:Heap}
theorem cN.ok {x I:Str}{st:Stmt}{f:Addr}{fd:FuncData}{N ps:List Str}{k:Nat}{sp:Sp}(F:cN K x I st f fd) (S:aC N ps (ar st)) (len:∀vs H Q E,sp vs H Q E->vs.length=ps.length)
  (L:∀(G:Value) (A:Around) (outer:List Env) (s:Shared) (H:Hp) (vs:List V) (Q:VK) (E:XK),dv k (A.deeper (envOfC I (ar st) s.heap.objs.size f G))->sp vs H Q E ->
   ∃t,uX (vV aW P w K mg base N I (ar st) f G A outer s H E).Dk (eG st) t/\t { nx:=λ_ H'=>Q .non H',rt:=Q } (start N vs) H):bg P w K mg base aW (k+1) f fd ps sp:=by
 obtain⟨oc,od,kV,Y,pm,an,G,ct,ab,rfl,R,O⟩:=F.ex;refine D0 R O S len λA outer s H vs Q E J U=>?_;obtain⟨t,h,q⟩:=L G A outer s H vs Q E J U;exact⟨t,h.Dk,q⟩
theorem cN.binds {x J:Str}{st:Stmt}{f:Addr}{fd:FuncData}{ps:List Str}(F:cN K x J st f fd)
  (h:∀(kV G pm:Value) (an:Option Addr) (I ct:Value) (us:List Value),us.length=ps.length->bindArgs (fnOf x J (fq st) (eG st) (ar st) .none kV G pm an I ct) ⟨us,[]⟩=pure (ps.zip us)):Binds K fd ps []:=by
 obtain⟨oc,od,kV,G,pm,an,I,ct,O,rfl,N,L⟩:=F.ex;exact .all (h kV G pm an I ct)
theorem oe {x G:Str}{st:Stmt}{f:Addr}{oc:Value}{od an:Option Addr}{J:Array (Option Value)}{kV I pm F ct:Value}(l:K.lookup f=some ⟨oc,od,.func (fnOf x G (fq st) (eG st) (ar st) .none kV I pm an F ct),J⟩)
  (c:codeIn K F G=true) (k:keepIn K (.ref f)=true):cN K x G st f (fnOf x G (fq st) (eG st) (ar st) .none kV I pm an F ct):=⟨⟨oc,od,kV,I,pm,an,F,ct,J,rfl,l,c⟩,k⟩
end
theorem bh {A:Around}{k:Nat}(F:dv k A):A.units+1<cLine:=Nat.lt_of_le_of_lt (Nat.add_le_add_left (by decide:1<=64) _) F.units
section
variable {X:Cx}
theorem pv (i:Nat) {x:Str}{pos:Pos}(F:X.N[i]?=some x:=by rfl) (I:Fo X.env.scope x:=by first|exact Or.inl rfl|exact Or.inr (Or.inl rfl)|exact Or.inr (Or.inr rfl)) (hd:(x==("__debug__" : Str))=false:=by decide)
  (G:(x==("__classdict__" : Str))=false:=by decide):PE X (.Name x pos) (Ag i):=BO F I hd G
end
theorem bB {A B:Prop}(h:B):if false=true then A else B:=by
 rw[if_neg Bool.false_ne_true];exact h
theorem c6 {A B:Prop}(h:A):if true=true then A else B:=by
 rw[if_pos rfl];exact h
theorem gF {c A B:Prop} [Decidable c] (h1:c->A) (h2:¬ c->B):if c then A else B:=by
 by_cases h:c
 .rw[if_pos h];exact h1 h
 .rw[if_neg h];exact h2 h
noncomputable def aZ (H H':Hp):Prop:=∀b o,H b=some o->H' b=some o
theorem aZ.refl (H:Hp):aZ H H:=λ_ _ h=>h
theorem aZ.trans {H H1 H2:Hp}(a:aZ H H1) (b:aZ H1 H2):aZ H H2:=λc o h=>b c o (a c o h)
theorem aZ.free {H H':Hp}(e:aZ H H') {l:Addr}(h:H' l=Option.none):H l=Option.none:=by
 cases q:H l with
 |none=>rfl
 |some o =>
  rw[e l o q]at h;cases h
noncomputable def oy (X:Cx) (F:List Str) (scope:Scope) (cl:List (Str×Addr)) (C:Addr) (s₀:Shared) (H₀:Hp) (ex:List Addr):Cx where
 prog:=X.prog
 w:=X.w
 K:=X.K
 mg:=X.mg
 base:=X.base
 A:=X.A
 N:=F
 s₀:=s₀
 H₀:=H₀
 env:=compEnvC scope cl C X.env
 outer:=X.stack
 stack:=X.stack
 ex:=ex
 fn:=λ_=>false
 calm:=X.calm
 pn:=[]
 xe:=λ_ _=>False
noncomputable def fM (t:Str) (caps:List (Str×Nat)):List Str:=t::caps.map (·.1)
noncomputable def gx (caps:List (Str×Nat)) (σ:St) (v:Option V):St:=v::caps.map λp=>(σ[p.2]?).join
structure jn (X:Cx) (scope:Scope) (cl:List (Str×Addr)) (t:Str) (caps:List (Str×Nat)):Prop where
 kind:scope.kind=.function
 CP:∀y∈scope.names,y.2≠.cell
 names:∀y∈scope.names,y.2=.local->scope.names.lookup y.1=some .local
 Hs:scope.names.lookup t=some .local
 Ek:closureFor scope X.env=pure cl
 sub:∀p∈cl,X.env.cells.lookup p.1=some p.2
 has:((relabel scope X.env).names.all λy => !(y.2 == .cell||y.2 == .free)||(cl.lookup y.1).isSome)=true
 HR:∀p∈caps,X.N[p.2]?=some p.1/\(X.env.kindOf p.1=some .cell\/X.env.kindOf p.1=some .free)/\((relabel scope X.env).names.lookup p.1=some .cell\/(relabel scope X.env).names.lookup p.1=some .free)
 nd:(fM t caps).Nodup
section
variable {X:Cx}{scope:Scope}{cl:List (Str×Addr)}{t:Str}{caps:List (Str×Nat)}{pins:List (Addr×Obj)}{σ:St}{H:Hp}{s:Shared}{C:Addr}{fp:List Addr}
theorem jn.look (K:jn X scope cl t caps) {x:Str}{c:Addr}(h:cl.lookup x=some c):X.env.cells.lookup x=some c:=K.sub (x,c) (PySem.mem_of_lookup h)
theorem jn.hs (K:jn X scope cl t caps) {x:Str}(h:(relabel scope X.env).names.lookup x=some .cell\/(relabel scope X.env).names.lookup x=some .free):∃c,cl.lookup x=some c:=by
 have F:∀k,(relabel scope X.env).names.lookup x=some k->(k==NameKind.cell||k==NameKind.free)=true->∃c,cl.lookup x=some c:=λk e G=>by
  have:=List.all_eq_true.mp K.has (x,k) (PySem.mem_of_lookup e);dsimp only at this;rw[G]at this;exact Option.isSome_iff_exists.mp (by simpa using this)
 rcases h with h|h
 .exact F _ h rfl
 .exact F _ h rfl
theorem Hh (I:Inv X pins σ H s) (K:jn X scope cl t caps) (G:∀b∈fp,fK X pins H b) (N:∀b∈fp,b<s.heap.objs.size) (J:s.heap.objs.size<=C):(oy X (fM t caps) scope cl C s H fp).Ok where
 mod:=I.ok.mod
 kind:=K.kind
 glob:=I.ok.glob
 blt:=I.ok.blt
 above:=J
 inj:=λx y c h1 h2=>I.ok.inj x y c (K.look h1) (K.look h2)
 has:=λx L=>K.hs L
 Dt:=λx c h=>nomatch (show false=true from h)
 hd:=I.ok.hd
 frames:=I.ok.frames
 Eh:=.inl rfl
 Gi:=λb F=>⟨ne_of_lt (lt_of_lt_of_le (N b F) J),λx c e=>(G b F).2.2.2.2.1 x c (K.look e)⟩
 bs:=I.bs
 zO:=le_trans I.ok.zO I.sz
 wZ:=λb o e F=>by
  rcases(G b F).2.2.2.1 with z|z
  .exact I.ok.wZ b o e z
  .exact absurd (lt_of_lt_of_le (Heap.lt_size e) (le_trans I.ok.zO z)) (lt_irrefl _)
 vS:=λb F O=>by
  rcases List.mem_cons.mp (I.pL b O)with e|e
  .exact(G b F).2.1 e
  .exact(G b F).2.2.1 e
 kj:=I.stack
 BA:=I.vv
theorem FT {N:Heap}{m:Str->Option Value}{tk:Nat}(I:Inv X pins σ H s) (K:jn X scope cl t caps) (hf:∀b∈fp,fK X pins H b) (ho:∀b∈fp,b<s.heap.objs.size) (S:s.heap.objs.size<=C)
  (O:∀b o,s.heap.get? b=some o->N.get? b=some o) (ns:N.Ns C m):Inv (oy X (fM t caps) scope cl C s H fp) [] (gx caps σ none) H { s with heap:=N,toks:=tk }:=by
 have U:∀c v,s.heap.IsCell c v->N.IsCell c v:=λc v ad=>(by obtain⟨o,e,d⟩:=ad;exact⟨o,O c o e,d⟩);refine⟨Hh I K hf ho S,rfl,I.bare,Un.kept O,⟨m,ns,λi x v e1 R e3=>?_⟩,λx c e=>?_,I.bG.fresh S,λx c e=>I.gv x c (K.look e),λp F=>absurd (show p∈([]:List (Addr×Obj))from F) (by simp),I.bG.kept O,by simp[gx,fM,oy]⟩
 .cases i with
  |zero =>
   have J:some (none:Option V)=some (some v):=R;cases J
  |succ j =>
   have G:(caps.map (·.1))[j]?=some x:=e1;have J:(caps.map λp=>(σ[p.2]?).join)[j]?=some (some v):=R;rw[getElem?_map]at G J;cases F:caps[j]? with
   |none=>rw[F]at G;cases G
   |some p =>
    rw[F]at G J;have ex:p.1=x:=Option.some.inj G;have L:(σ[p.2]?).join=some v:=Option.some.inj J;have ap:σ[p.2]?=some (some v):=by
     cases q:σ[p.2]? with
     |none=>rw[q]at L;cases L
     |some z=>rw[q]at L;exact congrArg some L
    obtain⟨hN,hk,ac⟩:=K.HR p (mem_of_getElem? F);subst ex;obtain⟨m',_,hl⟩:=I.loc;have as:Fo X.env.scope p.1:=by
     rcases hk with z|z
     .exact .inr (.inl z)
     .exact .inr (.inr z)
    obtain⟨u,r,l⟩:=hl p.2 p.1 v hN ap as;obtain⟨c,Y⟩:=K.hs ac;rcases l with⟨z,_⟩|⟨_,c',ab,am⟩
    .rcases hk with y|y<;>(rw[y]at z;cases z)
    .rw[K.look Y]at ab;cases ab;exact⟨u,r,.inr ⟨ac,c,Y,U c _ am⟩⟩
 .obtain⟨v,z⟩:=I.cell x c (K.look e);exact⟨v,U c v z⟩
theorem Inv.ER {D:Addr}{ys:List V}{its:List Value}{n:Nat}(I:Inv X pins σ H s) (f:fK X pins H D) (e:s.heap.get? D=some { cls:=.type "list",data:=.seq its.toArray n }) (r:Vals ys its) (L:ys.length<=sizeLine) :
  Inv X pins σ (upd H D (.lst ys)) s:=by
 obtain⟨G,O,Y,J,S,U⟩:=f;obtain⟨N,g,d,tk,os⟩:=s;refine I.step (g':=g) (d':=d) (t':=tk) (h':=N) (ch:=[D]) (λb F=>?_) (λb o _ _ _ e _=>e) (λb o _ _ _ e _=>⟨o.slots,e⟩) (λb o F _ n=>?_) (λb o _ e=>⟨o,e⟩) (λb xs q=>?_) (λb o u q=>?_) (λb ps q=>⟨#[],?_⟩) (λm R=>R) (λb u q=>?_) I.bare
 .have z:b=D:=(by simpa using F);subst z;exact⟨J,O,S,U⟩
 .rw[ai (λz=>F (by simp[z]))];exact n
 .rw[ai (aq q G)];exact q
 .rw[ai (aq q G)];exact q
 .rw[ai (aq q G),q];simp
 .by_cases F:b=D
  .subst F;rw[ae]at q;cases q;exact⟨L,its,n,r,e⟩
  .rw[ai F]at q;exact(I.bG b u q).oO (λ_ _ _ z=>z) (λc z=>by rw[ai (aq z G)];exact z) λc xs z=>by rw[ai (aq z G)];exact z
end
noncomputable def Ft (X:Cx) (ifs:List Expr) (t:TT):Prop :=
 ∀(pins:List (Addr×Obj)) (s:Shared) (σ:St) (H:Hp) (Q:Bool->Hp->Prop),Inv X pins σ H s->t σ H Q ->
  wpAny (model X.prog X.w) X.A (forIn ifs true λc r=>if r=true then do let ok <-isTrue c X.env (eval c X.env);pure (ForInStep.yield ok)else pure (ForInStep.yield r)) (TP X pins σ Q) X.xe s
noncomputable def pz:TT:=λ_ H Q=>Q true H
theorem gg {X:Cx}:Ft X [] pz:=λ_ _ _ H _ I h=>wpAny_tests_nil ⟨H,I,h⟩
noncomputable def jD (caps:List (Str×Nat)) (tt:TT) (te:TE) (σ:St) (J:It) (Q:List V->Hp->Prop) (W:Nat->Nat->List V->Hp->Prop):Prop :=
 ∀i m ys H,W i m ys H->(J.stop i H/\Q ys H)\/(J.go i H/\∃N:List V->Hp->Prop,(∀F H',N F H'->∃G,G<m/\W (i+1) G F H')/\∀x H',J.Ao i H x H'->tt (gx caps σ (some x)) H' λb H2 =>
  if b=true then te (gx caps σ (some x)) H2 (λy I=>ys.length<sizeLine/\N (ys++[y]) I)else N ys H2)
noncomputable def Bq (caps:List (Str×Nat)) (wi:TI) (tt:TT) (te:TE):TE:=λσ H Q=>wi σ H λJ H1 =>
 ∃W:Nat->Nat->List V->Hp->Prop,(∃m,W 0 m [] H1)/\jD caps tt te σ J (λys H2=>∀p,H2 p=none->Q (.ref p) (upd H2 p (.lst ys))) W
section
variable {X:Cx}{scope:Scope}{cl:List (Str×Addr)}{t:Str}{caps:List (Str×Nat)}{elt iter:Expr}{ifs:List Expr}{px pos:Pos}{wi:TI}{tt:TT}{te:TE}
theorem lg {pins:List (Addr×Obj)}{σ:St}{H:Hp}{s:Shared}{J:It}{fp:List Addr}{it:Addr}{tn:Nat->Heap->Prop}{W:Nat->Nat->List V->Hp->Prop}{QE:List V->Hp->Prop}{E:Value->Shared->Prop}{RR:Value->Addr->Result->Shared->Prop}{m0:Nat}
  (K:jn X scope cl t caps) (hc:X.calm=true)
  (ht:∀C s₀ H₀ ex,Ft (oy X (fM t caps) scope cl C s₀ H₀ ex) ifs tt) (he:∀C s₀ H₀ ex,PE (oy X (fM t caps) scope cl C s₀ H₀ ex) elt te)
  (I:Inv X pins σ H s) (T:Turn X.prog X.w X.K (.Name t px) J fp it tn) (st:tn 0 s.heap) (U:∀b∈fp,fK X pins H b) (w0:W 0 m0 [] H) (hW:jD caps tt te σ J QE W)
  (bx:∀D C ys H' s' m,H' D=none->Inv X pins σ (upd H' D (.lst ys)) s'->s'.heap.Ns C m->fK X pins (upd H' D (.lst ys)) C->QE ys H'->RR (.ref D) C (.ok .next) s') :
  wpAny (model X.prog X.w) X.A (newList []) (λbd ac=>wpAny (model X.prog X.w) X.A (newFunctionEnv scope X.env.globals cl [] X.env.qual none .none (some X.env)) (λbi bI =>
   codeAny (model X.prog X.w) X.A (.compStart (.ListComp elt [⟨.Name t px,iter,ifs,0⟩] scope pos) 0 (.ref it) bd { bi with scope:=relabel scope X.env }) (RR bd bi.locals) bI) E ac) E s:=by
 refine wpAny_newObj_type (wpAny_newFunctionEnv K.CP (by intro y hy;simp at hy) (λap a0 am=>?_) K.kind);dsimp only at a0 am ⊢;generalize aB:s.heap.push { cls:=.type "list",dict:=none,data:=.seq ([]:List Value).toArray }=H2 at a0 am ⊢;have hC:H2.objs.size=s.heap.objs.size+1:=(by rw[<-aB,Heap.size_push]);have ad:s.heap.objs.size≠H2.objs.size:=(by rw[hC];exact ne_of_lt (Nat.lt_succ_self _));have as:s.heap.objs.size<=H2.objs.size:=(by rw[hC];exact le_succ _);have below:∀b,b<s.heap.objs.size->b≠H2.objs.size:=λb G=>(by rw[hC];exact ne_of_lt (lt_succ_of_lt G));have bc:∀b o,s.heap.get? b=some o->ap.get? b=some o:=λb o e=>am.extBut b o (below b (Heap.lt_size e)) (Heap.get?_push_of_some _ (aB▸Heap.get?_push_of_some _ e));have b6:ap.get? s.heap.objs.size=some { cls:=.type "list",data:=.seq ([]:List Value).toArray }:=am.extBut _ _ ad (Heap.get?_push_of_some _ (aB▸Heap.get?_push_size _ rfl));have ho:∀b∈fp,b<s.heap.objs.size:=λb G=>let ⟨_,e,_⟩:=T.obj 0 _ st b G;Heap.lt_size e;have bn:s.heap.objs.size∉fp:=λhm=>lt_irrefl _ (ho _ hm);have be:tn 0 ap:=T.keep 0 _ _ st λb _ o e=>bc b o e;have b2:s.heap.objs.size∉xm X.stack:=λz=>by
  rcases List.mem_cons.mp (I.pL _ z)with e|e
  .exact absurd (e▸I.lt) (lt_irrefl _)
  .exact I.EZ (le_refl _) e
 have b0:∀x c,cl.lookup x=some c->c≠s.heap.objs.size:=λx c e z=>by
  obtain⟨v,q⟩:=I.cell x c (K.look e);exact absurd (z▸q.lt) (lt_irrefl _)
 have a6:∀{pl:List (Addr×Obj)}{L:Hp},(∀b∈fp,L b=none)->(∀p∈pl,p.1∉fp)->∀b∈fp,fK (oy X (fM t caps) scope cl H2.objs.size s H fp) pl L b:=λ{pl L} hn S b G =>
  ⟨hn b G,below b (ho b G),(Hh I K U ho as).vS b G,.inl G,λx c e=>(U b G).2.2.2.2.1 x c (K.look e),λp b8 z=>by
   have b7:p∈pl:=b8;exact S p b7 (z▸G)⟩
 have ba:∀ac:Shared,ac={ s with heap:=ap,toks:=s.toks+([]:List (Str×Value)).length } ->
   codeAny (model X.prog X.w) X.A (.compLoop (.ListComp elt [⟨.Name t px,iter,ifs,0⟩] scope pos) 0 (.ref it) (.ref s.heap.objs.size) (compEnvC scope cl H2.objs.size X.env)) (RR (.ref s.heap.objs.size) H2.objs.size) ac:=by
  rintro ac rfl;refine codeAny_loop rfl (λn s'=>∃i ys its O L v0,Inv (oy X (fM t caps) scope cl H2.objs.size s H fp) [] (gx caps σ v0) L s'/\tn i s'.heap/\(∀b∈fp,L b=none)/\L s.heap.objs.size=none /\
   s'.heap.get? s.heap.objs.size=some { cls:=.type "list",data:=.seq its.toArray O }/\Vals ys its/\ys.length<=sizeLine/\W i n ys L) (λn s' hI=>?_) m0
   ⟨0,[],[],0,H,none,FT I K U ho as bc a0,be,λb G=>(U b G).1,I.bG.fresh (le_refl _),b6,.nil,zero_le _,w0⟩
  obtain⟨i,ys,its,O,L,v0,I3,bm,bv,aT,e3,r3,z3,w3⟩:=hI;show wpAny _ X.A ((compTurn (.ListComp elt [⟨.Name t px,iter,ifs,0⟩] scope pos) 0 (.ref it) (.ref s.heap.objs.size) (compEnvC scope cl H2.objs.size X.env)).onRaise (λx=>do noteFrame x (compEnvC scope cl H2.objs.size X.env);theTreesLotGoes x)) _ _ s';refine wpAny_noted ?_;rw[compTurn_list];have bl:Inv (oy X (fM t caps) scope cl H2.objs.size s H fp) [(s.heap.objs.size, { cls:=.type "list",data:=.seq its.toArray O })] (gx caps σ v0) L s':=I3.kE λp S=>by
   have ep:p=(s.heap.objs.size, { cls:=.type "list",data:=.seq its.toArray O }):=(by simpa using S);subst ep;exact⟨e3,aT,ad,b2,λv z=>by cases(show Data.seq its.toArray O=Data.cell v from z)⟩
  have pD:∀p∈[((s.heap.objs.size:Addr),({ cls:=.type "list",data:=.seq its.toArray O }:Obj))],p.1∉fp:=λp S=>by
   have ep:p=(s.heap.objs.size, { cls:=.type "list",data:=.seq its.toArray O }):=(by simpa using S);subst ep;exact bn
  rcases hW i n ys L w3 with⟨bz,q⟩|⟨go,N,hN,step⟩
  .refine wpAny_bind (wpAny_standAt (wpAny_bind (bP (T.done (oy X (fM t caps) scope cl H2.objs.size s H fp) rfl rfl rfl hc i _ s' _ L _ bl (a6 bv pD) bm bz) λr s4 b3=>?_)));obtain⟨hr,Y⟩:=b3;subst hr;refine wpAny_pure ?_;have I5:Inv X pins σ L s4:=I.Em (ch:=fp) Y.os Y.base Y.bG Y.bare λb G=>⟨(U b G).2.2.2.1,(U b G).2.1,(U b G).2.2.2.2.1,(U b G).2.2.2.2.2⟩;have e4:=(Y.pin _ (mem_append_right _ mem_cons_self)).1;have fD:fK X pins L s.heap.objs.size:=I.jz (le_refl _) aT;have I6:=I5.ER fD e4 r3 z3;obtain⟨m,hn,_⟩:=Y.loc;refine bx _ _ ys L s4 m aT I6 hn (I.jz as ?_) q;rw[ai (Ne.symm ad)];exact Y.free
  .refine wpAny_bind (wpAny_standAt (wpAny_bind (bP (T.item (oy X (fM t caps) scope cl H2.objs.size s H fp) rfl rfl rfl hc i _ s' _ L _ bl (a6 bv pD) bm go) λr s4 bY=>?_)));obtain⟨u,hr,h4⟩:=bY;subst hr;refine wpAny_bind (bP h4 λ_ s5 b4=>?_);obtain⟨x,H5,I5,r5,y5,a7,b9⟩:=b4;have ce:=(I5.pin _ (mem_append_right _ mem_cons_self)).2.1;have ca:=I5.pinned (a6 b9 pD) (T.obj _ _ a7);have Dk:∀{α:Type}{tr:Sem α}{Q:α->Shared->Prop}{E':Value->Shared->Prop}{R:Shared},wpAny (model X.prog X.w) X.A tr Q (λ_ _=>False) R->wpAny (model X.prog X.w) X.A tr Q E' R:=λh=>wpAny_mono h (λ_ _ z=>z) λ_ _ z=>z.elim;refine wpAny_bind (wpAny_assign_Name (gE (X:=oy X (fM t caps) scope cl H2.objs.size s H fp) (i:=0) (x:=t) ca K.nd rfl (.inl (lookup_relabel_local K.Hs)) r5 (λs6 I6=>?_) (.inr (lookup_relabel_local K.Hs))));have e0:(gx caps σ v0).set 0 (some x)=gx caps σ (some x):=rfl;rw[e0]at I6;refine wpAny_bind (Dk (bP (ht _ _ _ _ _ s6 _ H5 _ I6 (step x H5 y5)) λok s7 b1=>?_));obtain⟨H7,I7,q7⟩:=b1;have bb:∀{ab:St}{H':Hp}{R:Shared},Inv (oy X (fM t caps) scope cl H2.objs.size s H fp) ([(s.heap.objs.size, { cls:=.type "list",data:=.seq its.toArray O })]++my fp s5.heap) ab H' R ->
     R.heap.get? s.heap.objs.size=some { cls:=.type "list",data:=.seq its.toArray O }/\H' s.heap.objs.size=none/\tn (i+1) R.heap/\(∀b∈fp,H' b=none):=λ{ab H' R} Ix=>by
    have a:=Ix.pin _ (mem_append_right _ (mem_append_left _ mem_cons_self));refine⟨a.1,a.2.1,T.keep _ _ _ a7 λb G o e=>(Ix.pin (b,o) (mem_append_right _ (mem_append_right _ (gi G e)))).1,λb G=>?_⟩;obtain⟨o,e,d⟩:=T.obj _ _ a7 b G;exact(Ix.pin (b,o) (mem_append_right _ (mem_append_right _ (gi G e)))).2.1
   have bare:∀{pl:List (Addr×Obj)}{ab:St}{H':Hp}{R:Shared},Inv (oy X (fM t caps) scope cl H2.objs.size s H fp) pl ab H' R->Inv (oy X (fM t caps) scope cl H2.objs.size s H fp) [] ab H' R:=λIx=>Ix.kE λp S=>absurd S (by simp);cases ok with
   |false =>
    rw[if_neg Bool.false_ne_true]at q7;obtain⟨m',hm,w7⟩:=hN _ _ q7;obtain⟨a1,a2,a3,a4⟩:=bb I7;exact wpAny_pure ⟨rfl,m',hm,i+1,ys,its,O,H7,some x,bare I7,a3,a4,a2,a1,r3,z3,w7⟩
   |true =>
    rw[if_pos rfl]at q7;refine wpAny_bind (wpAny_bind (Dk (bP (he _ _ _ _ _ s7 _ H7 _ I7 q7) λy s8 b5=>?_)));obtain⟨yv,H8,I8,r8,ci,n8⟩:=b5;obtain⟨m',hm,w8⟩:=hN _ _ n8;obtain⟨a1,a2,a3,a4⟩:=bb I8;have cc:=r3.length;refine wpAny_bind (call_meets F.slot_list_append ⟨_,a1,rfl⟩ F.entry_list_append (F.args_list_append_2 _ _) (list_append s.heap.objs.size its.toArray O y (by rw[size_toArray];omega)) ⟨a1,?_⟩);obtain⟨a5,q⟩:∃a5:Nat,(s8.heap.update s.heap.objs.size (Obj.mapSeq (·.push y))).get? s.heap.objs.size=some { cls:=.type "list",data:=.seq (its++[y]).toArray a5 }:=by
     have q:=PySem.IsL.update a1 (·.push y);have ea:its.toArray.push y=(its++[y]).toArray:=(by simp);rw[ea]at q;exact⟨_,q⟩
    have I9:Inv (oy X (fM t caps) scope cl H2.objs.size s H fp) [] (gx caps σ (some x)) H8 { s8 with heap:=s8.heap.update s.heap.objs.size (Obj.mapSeq (·.push y)) }:=
     (bare I8).turned (t':=s8.toks) (λb o G e=>(Heap.get?_update_other _ _ (Ne.symm G)).trans e) a2 ad (.inr (le_refl _)) b0 (λp S=>absurd (show p∈([]:List (Addr×Obj))from S) (by simp))
    refine wpAny_pure (wpAny_pure ⟨rfl,m',hm,i+1,ys++[yv],its++[y],a5,H8,some x,I9,T.keep _ _ _ a3 λb G o e=>(Heap.get?_update_other _ _ (show s.heap.objs.size≠b from λz=>bn (by rw[z];exact G))).trans e,a4,a2,q,r3.append (.cons r8 .nil),?_,w8⟩)
    .rw[length_append,length_singleton];omega
 exact codeAny_compStart_list (ba _ rfl) (T.self _ 0 _ _ _ be (ba _ rfl))
theorem gY (K:jn X scope cl t caps) (hc:X.calm=true) (hi:PI X (.Name t px) iter wi)
  (ht:∀C s₀ H₀ ex,Ft (oy X (fM t caps) scope cl C s₀ H₀ ex) ifs tt) (he:∀C s₀ H₀ ex,PE (oy X (fM t caps) scope cl C s₀ H₀ ex) elt te)
  (hs:∀x,foldedSetIterable iter X.env x=pure x:=by intro _;rfl):PE X (.ListComp elt [⟨.Name t px,iter,ifs,0⟩] scope pos) (Bq caps wi tt te):=by
 intro pins s σ H Q I h;rw[eval_ListComp];refine wpAny_comprehension_free (use:=none) rfl hs K.Ek K.kind K.names (bP (hi pins s σ H _ I h) λv s1 h1=>bP h1 λad s2 h2=>?_);obtain⟨it,fp,tn,J,H2,e,I2,T,ab,U,W,⟨m0,S⟩,hW⟩:=h2;subst e;refine lg (RR:=λac C=>compPost (model X.prog X.w) X.A X.xe none (EP X pins σ Q) ac C) K hc ht he I2 T ab U S hW ?_;intro D C ys H' s' m hD I' N O q;refine⟨m,N,λh' Y=>?_⟩;obtain⟨F,R,c2,L,c4,G⟩:=O;exact⟨.ref D,_,I'.turned (t':=s'.toks) (λb o hb e=>(Y.2 b hb).trans e) F R L c4 G,rfl,q D hD⟩
theorem AR {i:Nat}{y:Str}{F R:Pos}(hN:X.N.Nodup) (U:X.N[i]?=some y) (hy:Loc X.env.scope y) (K:jn X scope cl t caps) (hc:X.calm=true) (hi:PI X (.Name t px) iter wi)
  (ht:∀C s₀ H₀ ex,Ft (oy X (fM t caps) scope cl C s₀ H₀ ex) ifs tt) (he:∀C s₀ H₀ ex,PE (oy X (fM t caps) scope cl C s₀ H₀ ex) elt te)
  (ap:swapsWith (.ListComp elt [⟨.Name t px,iter,ifs,0⟩] scope pos) (some (.Name y F)) R.line X.env=pure true:=by rfl)
  (hs:∀x,foldedSetIterable iter X.env x=pure x:=by intro _;rfl) (hf:X.fn y=true\/X.env.scope.names.lookup y=some .local:=by first|exact .inl rfl|exact .inr rfl|assumption) :
  PS X (.Assign [.Name y F] (.ListComp elt [⟨.Name t px,iter,ifs,0⟩] scope pos) R) (Bg (Bq caps wi tt te) (qD i)):=by
 intro pins s σ H D I h;rw[exec_Assign_Name_used _ _ _ _ ap];refine wpAny_bind (wpAny_standAt (wpAny_bind ?_));show wpAny _ X.A (do let _ <-comprehension (.ListComp elt [⟨.Name t px,iter,ifs,0⟩] scope pos) scope X.env _ (newList []) false (eval iter X.env) (some (assign (.Name y F) X.env))) _ _ s;refine wpAny_bind (bP (wpAny_comprehension_free (use:=some (assign (.Name y F) X.env)) (Q:=λ_ s'=>SP X pins D .next s') rfl hs K.Ek K.kind K.names
  (bP (hi pins s σ H _ I h) λv s1 h1=>bP h1 λaT s2 h2=>?_)) λ_ s' hq=>wpAny_pure (wpAny_pure hq))
 obtain⟨it,fp,tn,J,H2,e,I2,T,ac,f2,W,⟨m0,w0⟩,hW⟩:=h2;subst e;refine lg (RR:=λad C=>compPost (model X.prog X.w) X.A X.xe (some (assign (.Name y F) X.env)) (λ_ s'=>SP X pins D .next s') ad C) K hc ht he I2 T ac f2 w0 hW ?_;intro G C ys H' s' m hD I' hn Y q;obtain⟨S,L,c2,c3,O,c5⟩:=Y;show wpAny _ X.A (assign (.Name y F) X.env (.ref G)) _ _ s';refine wpAny_assign_Name (mT (v:=.ref G) I' hN U hy rfl (λs3 I3 am=>?_) hf);obtain⟨a,ab,ha⟩:=am;have aB:C≠a:=by
  rcases ha with z|z
  .rw[z];exact L
  .exact λw=>O y a z w.symm
 refine⟨m,hn.sameBut ab aB,λh' as=>?_⟩;exact⟨_,_,I3.turned (t':=s3.toks) (λb o hb e=>(as.2 b hb).trans e) S L c3 O c5,q G hD⟩
end
theorem sG {caps:List (Str×Nat)}{tt:TT}{te:TE}{σ:St}{H:Hp}{lo:Int}{n:Nat}{G:List V->Hp->Prop}(Pv:Nat->List V->Hp->Prop) (L:Pv 0 [] H)
  (hs:∀i ys H,i<n->Pv i ys H->tt (gx caps σ (some (.int (lo+i)))) H λb H2=>if b=true then te (gx caps σ (some (.int (lo+i)))) H2 (λy J=>ys.length<sizeLine/\Pv (i+1) (ys++[y]) J)else Pv (i+1) ys H2)
  (hd:∀ys H,Pv n ys H->G ys H):∃W:Nat->Nat->List V->Hp->Prop,(∃m,W 0 m [] H)/\jD caps tt te σ (Ap lo n) G W:=by
 refine⟨λi m ys H=>m=n-i/\i<=n/\Pv i ys H,⟨n,by simp,zero_le _,L⟩,?_⟩;rintro i m ys H ⟨rfl,hi,p⟩;by_cases F:i<n
 .refine .inr ⟨F,Pv (i+1),λN H' I=>⟨n-(i+1),af,rfl,F,I⟩,λx H' y=>?_⟩;obtain⟨e,y⟩:=y;subst e y;exact hs i ys _ F p
 .have e:i=n:=af;subst e;exact .inl ⟨le_refl _,hd ys H p⟩
theorem y6 {K:PySem.W.Frag}{a:Addr}{xs:List V}{caps:List (Str×Nat)}{tt:TT}{te:TE}{σ:St}{H:Hp}{F:List V->Hp->Prop}(Pv:Nat->List V->Hp->Prop) (N:Pv 0 [] H) (I:∀i ys H,i<=xs.length->Pv i ys H->bR K H a xs)
  (hs:∀i x ys H,xs[i]?=some x->Pv i ys H->tt (gx caps σ (some x)) H λb H2=>if b=true then te (gx caps σ (some x)) H2 (λy L=>ys.length<sizeLine/\Pv (i+1) (ys++[y]) L)else Pv (i+1) ys H2)
  (hd:∀ys H,Pv xs.length ys H->F ys H):∃W:Nat->Nat->List V->Hp->Prop,(∃m,W 0 m [] H)/\jD caps tt te σ (Ff K a) F W:=by
 refine⟨λi m ys H=>m=xs.length-i/\i<=xs.length/\Pv i ys H,⟨xs.length,by simp,zero_le _,N⟩,?_⟩;rintro i m ys H ⟨rfl,hi,p⟩;have q:=I i ys H hi p;by_cases G:i<xs.length
 .refine .inr ⟨⟨xs,xs[i],q,by simp[G]⟩,Pv (i+1),λO H' J=>⟨xs.length-(i+1),af,rfl,G,J⟩,λx H' y=>?_⟩;obtain⟨e,y⟩:=y;subst e;exact hs i x ys _ (y xs q) p
 .have e:i=xs.length:=af;subst e;exact .inl ⟨⟨xs,q,le_refl _⟩,hd ys H p⟩
theorem fm {caps:List (Str×Nat)}{te:TE}{σ:St}{H:Hp}{lo:Int}{n:Nat}{F:List V->Hp->Prop}(Pv:Nat->List V->Hp->Prop) (I:Pv 0 [] H)
  (hs:∀i ys H,i<n->Pv i ys H->te (gx caps σ (some (.int (lo+i)))) H (λy G=>ys.length<sizeLine/\Pv (i+1) (ys++[y]) G))
  (hd:∀ys H,Pv n ys H->F ys H):∃W:Nat->Nat->List V->Hp->Prop,(∃m,W 0 m [] H)/\jD caps pz te σ (Ap lo n) F W :=
 sG Pv I (λi ys H hi p=>by
  show if true=true then _ else Pv (i+1) ys H
  rw[if_pos rfl];exact hs i ys H hi p) hd
theorem wa {K:PySem.W.Frag}{a:Addr}{xs:List V}{caps:List (Str×Nat)}{te:TE}{σ:St}{H:Hp}{F:List V->Hp->Prop}(Pv:Nat->List V->Hp->Prop) (J:Pv 0 [] H) (G:∀i ys H,i<=xs.length->Pv i ys H->bR K H a xs)
  (hs:∀i x ys H,xs[i]?=some x->Pv i ys H->te (gx caps σ (some x)) H (λy I=>ys.length<sizeLine/\Pv (i+1) (ys++[y]) I))
  (hd:∀ys H,Pv xs.length ys H->F ys H):∃W:Nat->Nat->List V->Hp->Prop,(∃m,W 0 m [] H)/\jD caps pz te σ (Ff K a) F W :=
 y6 Pv J G (λi x ys H hi p=>by
  show if true=true then _ else Pv (i+1) ys H
  rw[if_pos rfl];exact hs i x ys H hi p) hd
theorem fw:bootBuiltins "list" = some (.type "list"):=ah
theorem gL:bootBuiltins "tuple" = some (.type "tuple"):=ah
theorem gJ:bootBuiltins "int" = some (.type "int"):=ah
theorem As:bootBuiltins "bool" = some (.type "bool"):=ah
theorem oz:bootBuiltins "dict" = some (.type "dict"):=ah
theorem ya:bootBuiltins "max" = some (.builtin "max"):=ah
theorem bM:bootBuiltins "isinstance" = some (.builtin "isinstance"):=ah
theorem jX:bootBuiltins "sorted" = some (.builtin "sorted"):=ah
section
variable {X:Cx}
inductive ye (x:V) (vs:List V) (H:Hp) (Q:VK):Prop
 |mk (l:Addr) (ns:List Int) (k:Int) (_:x=.ref l) (_:vs=[.int k]) (_:H l=some (.lst (ns.map V.int))) (_:k∈ns) (_:Q (.int (ns.idxOf k:Nat)) H):ye x vs H Q
theorem zk:BN X "list.index" ye:=by
 intro pins s σ H x vs v us Q I R L h;obtain⟨l,ns,k,rfl,rfl,U,hk,q⟩:=h;cases R;obtain⟨u,rfl,S⟩:=L.one;obtain⟨t,rfl⟩:=S;obtain⟨z,its,n,r,Y,e⟩:=I.mi U;have hi:=intsAre_of r;have ab:=hi.length;rw[length_map]at Y z;have hs:sizeLine=16777216:=sizeLine_eq;have G:ns.idxOf k<ns.length:=List.idxOf_lt_length_iff.mpr hk;refine call_meets PySem.F.slot_list_index ⟨_,e,rfl⟩ PySem.F.entry_list_index (PySem.F.args_list_index_2 _ _)
  (SeqAt.list_indexAt l its.toArray n none #[] (.int k t) (isInt k) (ns.idxOf k) (by simpa[ab]using G) af ?_ ?_) ⟨e,λy N=>(eq_isInt k t hi y (by simpa using N)).at _ _,⟨.int (ns.idxOf k:Nat),H,I.tok _,⟨_,rfl⟩,q⟩⟩
 .show isInt k its[ns.idxOf k]=true;rw[isInt_at k hi _ af G];simpa using List.getElem_idxOf G
 .intro j J O;show isInt k its[j]=false;rw[isInt_at k hi j (by simpa using J) af];exact ne_of_lt_idxOf O _
inductive zK (x:V) (vs:List V) (H:Hp) (Q:VK):Prop
 |mk (l:Addr) (ns:List Int) (k:Int) (_:x=.ref l) (_:vs=[.int k]) (_:H l=some (.lst (ns.map V.int))) (_:Q (.int (ns.count k:Nat)) H):zK x vs H Q
theorem zy:BN X "list.count" zK:=by
 intro pins s σ H x vs v us Q I J F h;obtain⟨l,ns,k,rfl,rfl,G,q⟩:=h;cases J;obtain⟨u,rfl,L⟩:=F.one;obtain⟨t,rfl⟩:=L;obtain⟨z,its,n,r,N,e⟩:=I.mi G;exact count_list_ints (PySem.IsL.isList e) (intsAre_of r) ⟨.int (ns.count k:Nat),H,I.tok _,⟨_,rfl⟩,q⟩
end
noncomputable def jY:List V->List V->Bool
 | [],[]=>true
 |x::xs,y::ys=>mG x y&&jY xs ys
 |_,_=>false
theorem k4:∀{xs ys:List V},xs.length≠ys.length->jY xs ys=false
 | [],[],h=>absurd rfl h
 | [],_::_,_=>rfl
 |_::_,[],_=>rfl
 |x::xs,y::ys,h=>by
  have F:=k4 (xs:=xs) (ys:=ys) λe=>h (by simp[e]);show(mG x y&&jY xs ys)=false;rw[F,Bool.and_false]
theorem iE:∀{xs ys:List V},xs.length=ys.length->(List.range xs.length).all (λj=>mG (xs.getD j .non) (ys.getD j .non))=jY xs ys
 | [],[],_=>rfl
 |x::xs,y::ys,h=>by
  have F:=iE (xs:=xs) (ys:=ys) (by simpa using h);rw[length_cons,List.range_succ_eq_map,all_cons,List.all_map];show(mG x y&&_)=(mG x y&&jY xs ys);rw[<-F];rfl
 | [],_::_,h=>by simp at h
 |_::_,[],h=>by simp at h
theorem gX (xs:List Int):(xs.map V.int).all eh=true:=by
 rw[List.all_map];exact List.all_eq_true.mpr λ_ _=>rfl
section
variable {X:Cx}
inductive E8 (K:PySem.W.Frag) (x:V) (y:V) (H:Hp) (Q:VK):Prop
 |mk (p:_) (q:_) (xs:_) (ys:_) (_:x=.ref p) (_:y=.ref q) (_:bE K H p xs) (_:bE K H q ys) (_:xs.all eh=true) (_:ys.all eh=true) (_:Q (.bl (jY xs ys)) H):E8 K x y H Q
theorem B6 (S:X.A.units<cLine):iP X (compareOp .Eq) (E8 X.K):=by
 intro pins s σ H x y v u Q I rx ry h;obtain⟨p,q,xs,ys,rfl,rfl,hx,hy,fx,fy,N⟩:=h;cases rx;cases ry;obtain⟨its,r,pl,hz⟩:=I.list hx;obtain⟨R,J,L,am⟩:=I.list hy;have O:=r.length;have ac:=J.length;by_cases e:xs.length=ys.length
 .refine SeqAt.eq_listAt (e:=λj=>mG (xs.getD j .non) (ys.getD j .non)) pl.isList L.isList (by rw[size_toArray,size_toArray];omega) S (λj h1 h2=>?_) ⟨.bl (jY xs ys),H,I,?_,N⟩
  .have G:j<xs.length:=(by rw[size_toArray]at h1;omega);have F:j<ys.length:=af;obtain⟨a,ea,ra⟩:=r.get (i:=j) (x:=xs[j]) (by simp[G]);obtain⟨b,eb,rb⟩:=J.get (i:=j) (x:=ys[j]) (by simp[F]);obtain⟨_,ab⟩:=List.getElem?_eq_some_iff.mp ea;obtain⟨_,ad⟩:=List.getElem?_eq_some_iff.mp eb;have g1:xs.getD j .non=xs[j]:=(by simp[G]);have U:ys.getD j .non=ys[j]:=(by simp[F]);show SeqAt.EqAt _ _ its.toArray[j] R.toArray[j] (mG (xs.getD j .non) (ys.getD j .non));rw[g1,U];have f1:eh xs[j]=true:=List.all_eq_true.mp fx _ (getElem_mem G);have f2:eh ys[j]=true:=List.all_eq_true.mp fy _ (getElem_mem F);have z:=pG (A:=X.A.in1) (s:=s) ra rb f1 f2;have a1:its.toArray[j]=a:=(by simpa using ab);have Y:R.toArray[j]=b:=(by simpa using ad);rw[a1,Y];exact z
  .show Value.bool _=Value.bool _;rw[size_toArray, <-O,iE e]
 .refine SeqAt.eq_list_lengthsAt pl.isList L.isList ?_ S ⟨.bl (jY xs ys),H,I,?_,N⟩
  .rw[size_toArray,size_toArray, <-O, <-ac];exact bne_iff_ne.mpr e
  .show Value.bool _=Value.bool _;rw[k4 e]
theorem rM:Ew X (AU X.K):=by
 intro pins s σ H o i ov iv Q I O U h;obtain⟨p,xs,k,z,rfl,rfl,R,he,q⟩:=h;cases O;obtain⟨t,rfl⟩:=U;obtain⟨its,r,pl,hz⟩:=I.list R;obtain⟨j,h1,h2,h3,Y,S⟩:=qr he;obtain⟨w,G,N⟩:=r.get h2;have hl:=r.length;have hn:=lZ;have J:EP X pins σ Q w s:=⟨z,H,I,N,q⟩;by_cases L:0<=k
 .have F:k.toNat=j:=by
   rw[seqIndex_of L S]at h1;exact Option.some.inj h1
  exact wpAny_getItem_list pl.isList L af (by rw[F];simpa using G) J
 .have F:(k+(its.toArray.size:Int)).toNat=j:=by
   rw[seqIndex_neg af Y]at h1;rw[size_toArray, <-hl];exact Option.some.inj h1
  exact wpAny_getItem_list_neg pl.isList af (by rw[size_toArray]<;>omega) af (by rw[F];simpa using G) J
theorem dr:di X (.builtin "isinstance") (λxs H Q=>∃x n t b,xs=[x,.ty n]/\jB X.K H x t/\kitOne X.K t (.type n)=some b/\Q (.bl b) H):=by
 intro pins s σ H xs us Q I r h;obtain⟨x,n,t,b,rfl,ty,e,q⟩:=h;obtain⟨u,c,rfl,G,F⟩:=vals2 r;obtain rfl:c=Value.type n:=F;exact wH I G ty e λtk=>⟨.bl b,H,I.tok _,rfl,q⟩
theorem CZ (K:PySem.W.Frag):kitOne K (.type "int") (.type "int")=some true:=rfl
theorem B5 (K:PySem.W.Frag):kitOne K (.type "int") (.type "bool")=some false:=by with_unfolding_all rfl
end
theorem zv:bootBuiltins "range" = some (.type "range"):=ah
section
variable {X:Cx}
end
end L2
namespace PySem.W
open PySem PySem.Spec PySem.Calls PyProof.Rows Builtin Builtin.ObjectAttr Builtin.Getset_descriptor
section
variable {prog:Program}{w:World}{A:Around}{E:Value->Shared->Prop}{s:Shared}{K:Frag}{x C:Addr}
end
end PySem.W
namespace L2
open PySem PySem.Spec PyProof.Rows PySem.W
section
variable {X:Cx}{pins:List (Addr×Obj)}{σ:St}{H H':Hp}{s s':Shared}
end
section
variable {X:Cx}{e:Expr}{te:TE}{tx:TEX}{t:TS}{ts us:TSX}{st:Stmt}{sts rest:List Stmt}{pos:Pos}
end
section
variable {X:Cx}{k:Nat}{f C:Addr}{fd:FuncData}{ps:List Str}{sp:Sp}{dvs:List V}{ds:List Value}{x m:Str}{p pos apos:Pos}{e o:Expr}{es:List Expr}{ta:TE}{t:TA}
end
section
variable {X:Cx}{pins:List (Addr×Obj)}{σ:St}{H:Hp}{s:Shared}
end
section
variable {X:Cx}{v v2:Expr}{vs:List Expr}{te:TE}{t:TJ}{pos:Pos}
end
section
variable {X:Cx}{C:Addr}{x:Str}{np cpos pos:Pos}{e₀:Expr}{es:List Expr}{t:TA}
end
section
variable {P:Program}{w:World}{K:PySem.W.Frag}{mg:Str->Option Value}{base:Heap}
end
section
variable {X:Cx}{pins:List (Addr×Obj)}{σ:St}{H:Hp}{s:Shared}
end
section
variable {X:Cx}{C:Addr}{i:Nat}{x n:Str}{np hpos pos:Pos}{body suite:List Stmt}{b₀:Stmt}{tb:TSX}{ts:TS}
end
section
variable {X:Cx}{tg:Expr}
end
section
variable {X:Cx}{C:Addr}{x:Str}{np hpos pos:Pos}{body suite:List Stmt}{b₀:Stmt}{tb:TSX}{ts:TS}
end
section
variable {t u r:TS}{D:Ends}{σ:St}{H:Hp}
noncomputable abbrev Le (u F:TS):Prop:=∀D σ H,u D σ H->F D σ H
theorem Le.rfl:Le u u:=λ_ _ _ h=>h
theorem dQ {c:TT}(k:∀t' F,Le t t'->Le u F->w9 c t' F D σ H):w9 c t u D σ H:=k t u Le.rfl Le.rfl
theorem gy {te:TE}{i:Nat}(k:∀Q:V->Hp->Prop,(∀x H1,u D (σ.set i (some x)) H1->Q x H1)->te σ H Q):mE (Bg te (qD i)) u D σ H:=k _ λ_ _ h=>h
theorem Gv {te:TE}(k:∀Q:V->Hp->Prop,(∀x H1,D.rt x H1->Q x H1)->te σ H Q):Cz te D σ H:=k _ λ_ _ h=>h
theorem bQ {A B:Hp->Prop}{Q:Bool->Hp->Prop}(e:Q=λb H1=>if b=true then A H1 else B H1):(∀H1,A H1->Q true H1)/\∀H1,B H1->Q false H1:=by
 subst e;exact⟨λ_ h=>c6 h,λ_ h=>bB h⟩
theorem bV {c:TT}(k:∀Q:Bool->Hp->Prop,(∀H1,t { D with nx:=r D } σ H1->Q true H1)->(∀H1,r D σ H1->Q false H1)->c σ H Q):mE (w9 c t rS) r D σ H:=k _ (bQ rfl).1 (bQ (A:=λH1=>t { D with nx:=r D } σ H1) rfl).2
theorem xP {c:TT}(k:∀Q:Bool->Hp->Prop,(∀H1,t D σ H1->Q true H1)->(∀H1,D.nx σ H1->Q false H1)->c σ H Q):w9 c t rS D σ H:=k _ (bQ rfl).1 (bQ (A:=λH1=>t D σ H1) rfl).2
theorem vQ {Q:Bool->Hp->Prop}{b:Bool}{H:Hp}(t:b=true->Q true H) (f:¬ b=true->Q false H):Q b H:=by
 cases b
 .exact f (by intro z;cases z)
 .exact t rfl
theorem jV {c:TT}(F:St->Hp->Prop) (mk:(∀σ H,F σ H->r D σ H)->∀Q:Bool->Hp->Prop,(∀H1,t { D with nx:=r D } σ H1->Q true H1)->(∀H1,F σ H1->Q false H1)->c σ H Q) (h:∀σ H,F σ H->r D σ H):mE (w9 c t rS) r D σ H:=mk h _ (bQ rfl).1 λH1 p=>(bQ (A:=λH1=>t { D with nx:=r D } σ H1) rfl).2 H1 (h _ _ p)
noncomputable def Ev (te:TE) (σ:St) (H:Hp) (v:V):Prop:=∀Q:V->Hp->Prop,Q v H->te σ H Q
theorem bA {i:Nat}{v:V}(h:σ[i]?=some (some v)):Ev (Ag i) σ H v:=λ_ q=>⟨_,h,q⟩
theorem bw {v:V}:Ev (tC v) σ H v:=λ_ q=>q
theorem dP {ta tb:TE}{x y:V}{Q:Bool->Hp->Prop}(a:Ev ta σ H x) (b:Ev tb σ H y) (s:AM x y=true) (n:¬ x=y) (q:Q false H):xM (Dw Gd ta tb) σ H Q:=a _ (b _ ⟨s,_,rfl,by rw[decide_eq_false n];exact q⟩)
theorem eqT {ta tb:TE}{x:V}{Q:Bool->Hp->Prop}(a:Ev ta σ H x) (b:Ev tb σ H x) (s:AM x x=true) (q:Q true H):xM (Dw Gd ta tb) σ H Q:=a _ (b _ ⟨s,_,rfl,by rw[decide_eq_true rfl];exact q⟩)
theorem share (G:St->Hp->Prop) (mk:∀F,(∀σ H,G σ H->F D σ H)->mE t F D σ H) (h:∀σ H,G σ H->u D σ H):mE t u D σ H:=mk u h
end
section
variable {κ:Type} [DecidableEq κ]
noncomputable def dC (kvs:List (κ×V)) (k:κ):Option V:=(kvs.find? λF=>decide (F.1=k)).map (·.2)
noncomputable def putK (kvs:List (κ×V)) (k:κ) (v:V):List (κ×V):=
 if (kvs.any λF=>decide (F.1=k))=true then kvs.map (λF=>if F.1=k then(F.1,v)else F)else kvs++[(k,v)]
noncomputable def lJ (kvs:List (κ×V)) (k:κ):List (κ×V):=kvs.filter λF=>decide (F.1≠k)
theorem dZ {p:κ×V}{r:List (κ×V)}{k:κ}(e:p.1=k):dC (p::r) k=some p.2:=by simp[dC,find?_cons,e]
theorem bZ {p:κ×V}{r:List (κ×V)}{k:κ}(e:¬ p.1=k):dC (p::r) k=dC r k:=by simp[dC,find?_cons,e]
theorem jH (k:κ):∀kvs:List (κ×V),(kvs.any λF=>decide (F.1=k))=(dC kvs k).isSome
 | []=>rfl
 |p::r=>by
  rw[any_cons];by_cases e:p.1=k
  .simp only[dZ e,decide_eq_true e,Bool.true_or,Option.isSome_some]
  .rw[bZ e,decide_eq_false e,Bool.false_or];exact jH k r
theorem ff (kvs:List (κ×V)) (k:κ) (v:V):(putK kvs k v).length<=kvs.length+1:=by
 unfold putK;split
 .rw[length_map];omega
 .rw[length_append,length_cons,length_nil];omega
theorem jc {kvs:List (κ×V)}{k:κ}(v:V) (h:dC kvs k=none):putK kvs k v=kvs++[(k,v)]:=by
 unfold putK;rw[jH,h];exact if_neg av
theorem fB.fU {o:Option V}{u:Option Value}(r:fB o u):o.isSome=u.isSome:=by
 cases o with
 |none=>cases u with
  |none=>rfl
  |some _=>exact(show False from r).elim
 |some _=>cases u with
  |none=>exact(show False from r).elim
  |some _=>rfl
theorem fB.getD {o:Option V}{u:Option Value}{d:V}{d':Value}(r:fB o u) (rd:RelV d d'):RelV (o.getD d) (u.getD d'):=by
 cases o with
 |none=>cases u with
  |none=>exact rd
  |some _=>exact(show False from r).elim
 |some _=>cases u with
  |none=>exact(show False from r).elim
  |some _=>exact r
theorem KV.val {kvs:List (κ×V)}{vs:List (κ×Value)}(r:KV kvs vs) (k:κ):fB (dC kvs k) (valueAt vs k):=by
 unfold KV at r
 induction r with
 |nil=>exact True.intro
 | @cons p q ps G h t I =>
  obtain⟨h1,h2⟩:=h;by_cases e:p.1=k
  .have F:q.1=k:=h1.symm.trans e;have b:valueAt (q::G) k=some q.2:=(by simp[valueAt,find?_cons,F]);rw[dZ e,b];exact h2
  .have F:¬ q.1=k:=λz=>e (h1.trans z);have b:valueAt (q::G) k=valueAt G k:=(by simp[valueAt,find?_cons,F]);rw[bZ e,b];exact I
theorem KV.any {kvs:List (κ×V)}{vs:List (κ×Value)}(r:KV kvs vs) (k:κ):(kvs.any λF=>decide (F.1=k))=vs.any λF=>decide (F.1=k):=by
 unfold KV at r
 induction r with
 |nil=>rfl
 |cons h t G=>rw[any_cons,any_cons,G,h.1]
theorem KV.Dc {kvs:List (κ×V)}{vs:List (κ×Value)}(r:KV kvs vs) (k:κ) {y:V}{u:Value}(I:RelV y u) :
  KV (kvs.map λF=>if F.1=k then(F.1,y)else F) (vs.map λF=>if F.1=k then(F.1,u)else F):=by
 unfold KV at r ⊢
 induction r with
 |nil=>exact .nil
 | @cons p q ps J h t G =>
  rw[map_cons,map_cons];refine .cons ?_ G;obtain⟨h1,h2⟩:=h;by_cases e:p.1=k
  .rw[if_pos e,if_pos (h1.symm.trans e)];exact⟨h1,I⟩
  .rw[if_neg e,if_neg (λz=>e (h1.trans z))];exact⟨h1,h2⟩
theorem KV.put {kvs:List (κ×V)}{vs:List (κ×Value)}(r:KV kvs vs) (k:κ) {y:V}{u:Value}(F:RelV y u):KV (putK kvs k y) (stored vs k u):=by
 unfold putK stored;rw[r.any k];by_cases e:(vs.any λG=>decide (G.1=k))=true
 .rw[if_pos e,if_pos e];exact r.Dc k F
 .rw[if_neg e,if_neg e];exact Paired.snoc r ⟨rfl,F⟩
theorem KV.drop {kvs:List (κ×V)}{vs:List (κ×Value)}(r:KV kvs vs) (k:κ):KV (lJ kvs k) (without vs k):=by
 unfold KV at r ⊢;unfold lJ without
 induction r with
 |nil=>exact .nil
 | @cons p q ps I h t F =>
  obtain⟨h1,h2⟩:=h;rw[filter_cons,filter_cons];by_cases e:p.1=k
  .have a:¬ decide (p.1≠k)=true:=(by simp[e]);have b:¬ decide (q.1≠k)=true:=(by simp[h1.symm.trans e]);rw[if_neg a,if_neg b];exact F
  .have G:¬ q.1=k:=λz=>e (h1.trans z);have a:decide (p.1≠k)=true:=(by simp[e]);have b:decide (q.1≠k)=true:=(by simp[G]);rw[if_pos a,if_pos b];exact .cons ⟨h1,h2⟩ F
theorem KV.keys {kvs:List (κ×V)}{vs:List (κ×Value)}(r:KV kvs vs):kvs.map (·.1)=vs.map (·.1):=by
 unfold KV at r
 induction r with
 |nil=>rfl
 |cons h t F=>rw[map_cons,map_cons,F,h.1]
theorem KV.length {kvs:List (κ×V)}{vs:List (κ×Value)}(r:KV kvs vs):kvs.length=vs.length:=Paired.length r
theorem xX (kvs:List (κ×V)) (k:κ):(lJ kvs k).length<=kvs.length:=List.length_filter_le _ _
end
theorem iA {P:Program}{w:World}{k:Key}{u:Value}(r:RelV (kV k) u):(br P w).is k u=true:=by
 cases k with
 |inl i=>obtain⟨t,e⟩:=(show ∃t,u=Value.int i t from r);subst e;exact qC P w i t
 |inr x=>obtain⟨t,e⟩:=(show ∃t,u=Value.str x t from r);subst e;exact qx P w x t
theorem ng {P:Program}{w:World}:∀{ks:List Key}{us:List Value},Vals (ks.map kV) us->ItemsAre (br P w) ks us
 | [],_,r=>by rw[map_nil]at r;cases r;exact .nil
 |k::ks,_,r=>by
  rw[map_cons]at r;cases r with
  |cons h t=>exact .cons (iA h) (ng t)
noncomputable abbrev KT (H:Hp):List (List Key×V)->List (List Key×Addr×Value)->Prop:=Paired λp q=>p.1=q.1/\H q.2.1=some (.tup (p.1.map kV))/\RelV p.2 q.2.2
theorem KT.val {H:Hp}{kvs:List (List Key×V)}{xs:List (List Key×Addr×Value)}(r:KT H kvs xs) (k:List Key):fB (dC kvs k) ((atKey xs k).map (·.2)):=by
 induction r with
 |nil=>exact True.intro
 | @cons p q ps G h t I =>
  obtain⟨h1,_,h2⟩:=h;by_cases e:p.1=k
  .have F:q.1=k:=h1.symm.trans e;have b:atKey (q::G) k=some q.2:=(by simp[atKey,find?_cons,F]);rw[dZ e,b];exact h2
  .have F:¬ q.1=k:=λz=>e (h1.trans z);have b:atKey (q::G) k=atKey G k:=(by simp[atKey,find?_cons,F]);rw[bZ e,b];exact I
theorem KT.Dc {H:Hp}{kvs:List (List Key×V)}{xs:List (List Key×Addr×Value)}(r:KT H kvs xs) (k:List Key) {y:V}{u:Value}(I:RelV y u) :
  KT H (kvs.map λF=>if F.1=k then(F.1,y)else F) (xs.map (putAt k u)):=by
 induction r with
 |nil=>exact .nil
 | @cons p q ps L h t G =>
  rw[map_cons,map_cons];refine .cons ?_ G;obtain⟨h1,h2,J⟩:=h;unfold putAt;by_cases e:p.1=k
  .rw[if_pos e,if_pos (h1.symm.trans e)];exact⟨h1,h2,I⟩
  .rw[if_neg e,if_neg (λz=>e (h1.trans z))];exact⟨h1,h2,J⟩
theorem KT.put {H:Hp}{kvs:List (List Key×V)}{xs:List (List Key×Addr×Value)}(r:KT H kvs xs) (k:List Key) {b:Addr}{y:V}{u:Value}(G:H b=some (.tup (k.map kV))) (F:RelV y u) :
  KT H (putK kvs k y) (storedH xs k b u):=by
 have e:(kvs.any λI=>decide (I.1=k))=(atKey xs k).isSome:=by
  rw[jH,(r.val k).fU,isSome_map]
 unfold putK storedH;rw[e];by_cases q:(atKey xs k).isSome=true
 .rw[if_pos q,if_pos q];exact r.Dc k F
 .rw[if_neg q,if_neg q];exact Paired.snoc r ⟨rfl,G,F⟩
theorem KT.keeps {H H':Hp}{kvs:List (List Key×V)}{xs:List (List Key×Addr×Value)}(r:KT H kvs xs) (F:∀b ys,H b=some (.tup ys)->H' b=some (.tup ys)):KT H' kvs xs :=
 Paired.y0 r λ_ _ z=>⟨z.1,F _ _ z.2.1,z.2.2⟩
section
variable {P:Program}{w:World}{H:Hp}{h:Heap}{a:Addr}
theorem Bl {u:HO}(ok:iI P w H h) (e:Rd H a u):bT P w H h a u:=e.ok ok
theorem iX {kvs:List (Key×V)}(ok:iI P w H h) (e:Rd H a (.dK kvs)):kvs.length<=sizeLine/\(a==sysModules)=false/\∃vs,KV kvs vs/\h.DictOf (br P w) a vs :=
 show bT P w H h a (.dK kvs)from Bl ok e
theorem gr {kvs:List (Key×V)}(ok:iI P w H h) (e:H a=some (.dK kvs)):kvs.length<=sizeLine/\(a==sysModules)=false/\∃vs,KV kvs vs/\h.DictOf (br P w) a vs:=iX ok (.inl e)
theorem iL {ks:List Key}(ok:iI P w H h) (e:H a=some (.tup (ks.map kV))):(tupleKind (br P w)).is h ks a:=by
 obtain⟨_,its,r,o,h1,h2,n,F⟩:=(show bT P w H h a (.tup (ks.map kV))from ok a _ e);exact⟨o,its.toArray,n,h1,h2,F,by simpa using ng r⟩
theorem kq {kvs:List (List Key×V)}(ok:iI P w H h) (e:Rd H a (.dT kvs)):kvs.length<=sizeLine/\(a==sysModules)=false /\
  ∃xs,KT H kvs xs/\h.DictOfH (tupleKind (br P w)) a xs:=by
 obtain⟨z,y,xs,r,o,es,ep,h1,h2,N,J,L⟩:=(show bT P w H h a (.dT kvs)from Bl ok e);refine⟨z,y,xs,r,o,es,ep,h1,h2,N,J,λx F=>?_,L⟩;have all:∀{l:List (List Key×V)}{m:List (List Key×Addr×Value)},KT H l m->∀x∈m,(tupleKind (br P w)).is h x.1 x.2.1:=by
  intro l m q
  induction q with
  |nil=>intro x F;exact nomatch F
  | @cons p q ps O G t I =>
   intro x F;rcases List.mem_cons.mp F with e|F
   .subst e;exact iL ok (by rw[<-G.1];exact G.2.1)
   .exact I x F
 exact all r x F
theorem E6 {kvs:List (List Key×V)}(ok:iI P w H h) (e:H a=some (.dT kvs)):kvs.length<=sizeLine/\(a==sysModules)=false /\
  ∃xs,KT H kvs xs/\h.DictOfH (tupleKind (br P w)) a xs:=kq ok (.inl e)
end
noncomputable def dq (H:Hp) (a:Addr) (y:V) (r:Option V):Prop :=
 (∃kvs k,Rd H a (.dK kvs)/\y=kV k/\r=dC kvs k)\/∃kvs k b,Rd H a (.dT kvs)/\y=.ref b/\H b=some (.tup (k.map kV))/\r=dC kvs k
noncomputable def fQ (H:Hp) (a:Addr) (y v:V) (H':Hp):Prop :=
 (∃kvs k,H a=some (.dK kvs)/\y=kV k/\kvs.length<sizeLine/\H'=upd H a (.dK (putK kvs k v))) \/
 ∃kvs k b,H a=some (.dT kvs)/\y=.ref b/\H b=some (.tup (k.map kV))/\kvs.length<sizeLine/\H'=upd H a (.dT (putK kvs k v))
theorem dq.k {H:Hp}{a:Addr}{kvs:List (Key×V)}{k:Key}(e:H a=some (.dK kvs)):dq H a (kV k) (dC kvs k):=.inl ⟨kvs,k,.inl e,rfl,rfl⟩
theorem fQ.k {H:Hp}{a:Addr}{kvs:List (Key×V)}{k:Key}{v:V}(e:H a=some (.dK kvs)) (F:kvs.length<sizeLine):fQ H a (kV k) v (upd H a (.dK (putK kvs k v))):=.inl ⟨kvs,k,e,rfl,F,rfl⟩
section
variable {X:Cx}{pins:List (Addr×Obj)}{σ:St}{H:Hp}{s:Shared}{a:Addr}{y v:V}{u r:Value}{o:Option V}{A:Around}{E:Value->Shared->Prop}
theorem Inv.big (I:Inv X pins σ H s):sysModules<s.heap.objs.size:=by
 have h:mainGlobals<s.heap.objs.size:=(I.mod.glob.keeps I.bk).lt;exact Nat.lt_trans av h
theorem wU {Q:Value->Shared->Prop}(hu:A.units+1<cLine) (I:Inv X pins σ H s) (g:dq H a y (some v)) (R:RelV y u) (h:∀F s',Inv X pins σ H s'->RelV v F->Q F s') :
  wpAny (model X.prog X.w) A (getItem (.ref a) u) Q E s:=by
 rcases g with⟨kvs,k,e,O,l⟩|⟨kvs,k,b,e,O,S,l⟩
 .subst O;obtain⟨z,hd,vs,G,N⟩:=iX I.bG e;obtain⟨F,J,L⟩:=fB.some_of (v:=v) (o:=valueAt vs k) (by rw[l];exact G.val k);exact wpAny_getItem_of (iA R) N.mapOf J (h F _ (I.tok _) L)
 .subst O;cases(show u=Value.ref b from R);obtain⟨z,hd,xs,G,N⟩:=kq I.bG e;obtain⟨F,J,L⟩:=fB.some_of (v:=v) (o:=(atKey xs k).map (·.2)) (by rw[l];exact G.val k);obtain⟨p,Y,U⟩:=Option.map_eq_some_iff.mp J;refine wpAny_getItem_heap (tupleKind_room_in1 hu) (iL I.bG S) N Y ?_;rw[U];exact h F _ (I.tok _) L
theorem FH {Q:Value->Shared->Prop}(O:A.units+1<cLine) (I:Inv X pins σ H s) (g:dq H a y o) (L:RelV y u) (h:∀s',Inv X pins σ H s'->Q (.bool o.isSome) s') :
  wpAny (model X.prog X.w) A (compareOp .In u (.ref a)) Q E s:=by
 rcases g with⟨kvs,k,e,J,l⟩|⟨kvs,k,b,e,J,N,l⟩
 .subst J;obtain⟨z,hd,vs,F,G⟩:=iX I.bG e;refine wpAny_in_of (iA L) hd G.mapOf ?_;rw[<-(F.val k).fU, <-l];exact h _ (I.tok _)
 .subst J;cases(show u=Value.ref b from L);obtain⟨z,hd,xs,F,G⟩:=kq I.bG e;refine wpAny_in_heap (tupleKind_room_in1 O) (iL I.bG N) hd G ?_;have q:=(F.val k).fU;rw[isSome_map]at q;rw[<-q, <-l];exact h _ (I.tok _)
theorem zW {Q:Value->Shared->Prop}(O:A.units+1<cLine) (I:Inv X pins σ H s) (g:dq H a y o) (L:RelV y u) (h:∀s',Inv X pins σ H s'->Q (.bool (!o.isSome)) s') :
  wpAny (model X.prog X.w) A (compareOp .NotIn u (.ref a)) Q E s:=by
 rcases g with⟨kvs,k,e,J,l⟩|⟨kvs,k,b,e,J,N,l⟩
 .subst J;obtain⟨z,hd,vs,F,G⟩:=iX I.bG e;refine wpAny_notIn_of (iA L) hd G.mapOf ?_;rw[<-(F.val k).fU, <-l];exact h _ (I.tok _)
 .subst J;cases(show u=Value.ref b from L);obtain⟨z,hd,xs,F,G⟩:=kq I.bG e;refine wpAny_notIn_heap (tupleKind_room_in1 O) (iL I.bG N) hd G ?_;have q:=(F.val k).fU;rw[isSome_map]at q;rw[<-q, <-l];exact h _ (I.tok _)
theorem iV {h':Heap}{t':Nat}{F:HO}(I:Inv X pins σ H s) (J:E4 (H a)) (hs:Heap.SameBut a s.heap h') (L:∃q,h'.get? a=some q) (new:bT X.prog X.w (upd H a F) h' a F) :
  Inv X pins σ (upd H a F) { s with heap:=h',toks:=t' }:=
 I.write (x:=a) (e:=a) J (.inl rfl) (λb q G z=>(hs.2 b G).trans z) L new
theorem lI {P:Program}{w:World}{H':Hp}{h':Heap}{kvs:List (Key×V)}{vs:List (Key×Value)}(z:kvs.length<=sizeLine) (hd:(a==sysModules)=false) (F:KV kvs vs) (G:h'.DictOf (br P w) a vs) :
  bT P w H' h' a (.dK kvs):=⟨z,hd,vs,F,G⟩
theorem nA {H':Hp}{Q:Unit->Shared->Prop}(hu:A.units+1<cLine) (I:Inv X pins σ H s) (g:fQ H a y v H') (ry:RelV y u) (Y:RelV v r) (h:∀s',Inv X pins σ H' s'->Q () s') :
  wpAny (model X.prog X.w) A (setItem (.ref a) u r) Q E s:=by
 rcases g with⟨kvs,k,e,O,l,R⟩|⟨kvs,k,b,e,O,U,l,R⟩
 .subst O R;obtain⟨z,hd,vs,F,L⟩:=gr I.bG e;have N:vs.length<=sizeLine:=(by rw[<-F.length];exact z);have S:(putK kvs k v).length<=sizeLine:=(by have:=ff kvs k v;omega);refine wpAny_setItem_pairs (hsz:=N) (iA ry) L λh' J hs=>h _ ?_;have he:∃q,h'.get? a=some q:=let ⟨q,_,_,G,_⟩:=J;⟨q,G⟩;exact iV I (by rw[e];exact True.intro) hs he (lI S hd (F.put k Y) J)
 .subst O R;cases(show u=Value.ref b from ry);obtain⟨z,hd,xs,F,L⟩:=E6 I.bG e;have N:xs.length<=sizeLine:=(by rw[<-Paired.length F];exact z);have S:(putK kvs k v).length<=sizeLine:=(by have:=ff kvs k v;omega);refine wpAny_setItem_heap (hsz:=N) (tupleKind_room_in1 hu) (iL I.bG U) L λh' J hs=>h _ ?_;obtain⟨q,es,ep,G,h2,h3,h4,_,h5⟩:=J;refine iV I (by rw[e];exact True.intro) hs ⟨q,G⟩ ⟨S,hd,_,(F.put k U Y).keeps λc ys ec=>?_,q,es,ep,G,h2,h3,h4,h5⟩;rw[ai (cB ec e (λz=>nomatch z))];exact ec
end
section
variable {X:Cx}{pins:List (Addr×Obj)}{σ:St}{H:Hp}{s:Shared}{a:Addr}{kvs:List (Key×V)}{k:Key}{u:Value}{A:Around}{E:Value->Shared->Prop}
theorem EV {v:V}{G:List Value}{Q:Value->Shared->Prop}(I:Inv X pins σ H s) (e:H a=some (.dK kvs)) (N:RelV (kV k) u) (l:dC kvs k=some v) (R:G=[]\/∃x,G=[x])
  (h:∀J s',Inv X pins σ (upd H a (.dK (lJ kvs k))) s'->RelV v J->Q J s'):wpAny (model X.prog X.w) A (call (.builtin "dict.pop") (.ref a::u::G)) Q E s:=by
 obtain⟨z,hd,vs,L,O⟩:=gr I.bG e;obtain⟨J,U,Y⟩:=fB.some_of (v:=v) (o:=valueAt vs k) (by rw[<-l];exact L.val k);have hp:(keyPart u).isSome=true:=by
  cases k with
  |inl i=>obtain⟨t,q⟩:=(show ∃t,u=Value.int i t from N);subst q;rfl
  |inr x=>obtain⟨t,q⟩:=(show ∃t,u=Value.str x t from N);subst q;rfl
 have ha:argsOk "dict.pop" ⟨.ref a::u::G,[]⟩:=by
  rcases R with q|⟨x,q⟩
  .subst q;exact PySem.F.args_dict_pop_2 _ _
  .subst q;exact PySem.F.args_dict_pop_3 _ _ _
 refine call_meetsIn PySem.F.slot_dict_pop O.typeIs PySem.F.entry_dict_pop ha (meets_dict_pop_there (br X.prog X.w) a (iA N) G R hp)
  ⟨vs,J,O,by rw[<-L.length];exact z,U,λh' S hs=>h J _ ?_ Y⟩
 have he:∃q,h'.get? a=some q:=let ⟨q,_,_,hq,_⟩:=S;⟨q,hq⟩;exact iV I (by rw[e];exact True.intro) hs he (lI (le_trans (xX kvs k) z) hd (L.drop k) S)
theorem Es {Q:Value->Shared->Prop}(I:Inv X pins σ H s) (e:Rd H a (.dK kvs)) (h:∀t s',Inv X pins σ H s'->Q (.int kvs.length t) s'):wpAny (model X.prog X.w) A (call (.builtin "len") [.ref a]) Q E s:=by
 obtain⟨z,hd,vs,F,G⟩:=iX I.bG e;refine call_len_dict hd G (by rw[<-F.length];rw[sizeLine_eq]at z;omega) ?_;rw[<-F.length];exact h _ _ (I.tok _)
end
noncomputable def EX (i:Expr):Prop:=∀ov F,subscripted i false ov F=operate [ov,F] (getItem ov F)
theorem zQ {prog:Program}{w:World}{A:Around}{E:Value->Shared->Prop}{s:Shared}{env:Env}{value G:Expr}{pos:Pos}{T id:String}{Q:Value->Shared->Prop}
  (S:typeLookup (.type T) "__getitem__" = pure (some (.builtin id))) (hs:EX G)
  (h:wpAny (model prog w) A (eval value env) (λo L=>wpAny (model prog w) A (eval G env) (λi F=>F.TypeIs o T/\wpAny (model prog w) A (getItem o i) Q E F) E L) E s) :
  wpAny (model prog w) A (eval (.Subscript value G pos) env) Q E s:=by
 refine Subscript_ (wpAny_mono h (λo L U=>wpAny_mono U (λi F I=>?_) λ_ _ x=>x) λ_ _ x=>x);obtain⟨O,I⟩:=I;unfold subscriptTail;refine wpAny_bind ?_;rw[getitemInPython_of_ne O.not_modules];refine wpAny_bind (wpAny_specialOf O S ?_);have J:wpAny (model prog w) A (subscripted G false o i) (λr N=>wpAny (model prog w) A (letTemporaryGo value o r>>=λ_=>pure r) Q E N) E F:=by
  rw[hs o i];exact wpAny_operating (wpAny_mono I (λr N R=>wpAny_bind (wpAny_letTemporaryGo (wpAny_pure R))) λ_ _ x=>x)
 first
  |exact wpAny_pure (wpAny_bind J)
  |exact wpAny_bind (wpAny_pure (wpAny_bind J))
  |exact wpAny_bind J
theorem rO {X:Cx}{pins:List (Addr×Obj)}{σ:St}{H:Hp}{s:Shared}{a:Addr}{y:V}{o:Option V}(I:Inv X pins σ H s) (g:dq H a y o):s.TypeIs (.ref a) "dict" := by
 rcases g with⟨kvs,k,e,_,_⟩|⟨kvs,k,b,e,_,_,_⟩
 .obtain⟨_,_,vs,_,F⟩:=iX I.bG e;exact F.typeIs
 .obtain⟨_,_,xs,_,F⟩:=kq I.bG e;exact F.typeIs
inductive yg (td ty:TE) (Q:VK) (x:V) (y:V) (H2:Hp):Prop
 |mk (a:_) (v:_) (_:x=.ref a) (_:dq H2 a y (some v)) (_:Q v H2):yg td ty Q x y H2
noncomputable def DF (td ty:TE):TE:=λσ H Q=>td σ H λx H1=>ty σ H1 λy H2=>yg td ty Q x y H2
inductive Bp (ty td:TE) (Q:VK) (y:V) (x:V) (H2:Hp):Prop
 |mk (a:_) (o:_) (_:x=.ref a) (_:dq H2 a y o) (_:Q (.bl o.isSome) H2):Bp ty td Q y x H2
noncomputable def FO (ty td:TE):TE:=λσ H Q=>ty σ H λy H1=>td σ H1 λx H2=>Bp ty td Q y x H2
inductive qO (ty td:TE) (Q:VK) (y:V) (x:V) (H2:Hp):Prop
 |mk (a:_) (o:_) (_:x=.ref a) (_:dq H2 a y o) (_:Q (.bl (!o.isSome)) H2):qO ty td Q y x H2
noncomputable def AF (ty td:TE):TE:=λσ H Q=>ty σ H λy H1=>td σ H1 λx H2=>qO ty td Q y x H2
noncomputable def DW (td ty tv:TE):TS:=λD σ H=>tv σ H λv H1=>td σ H1 λx H2=>ty σ H2 λy G=>wX λa F=>qv (x=.ref a) (fQ G a y v F) (D.nx σ F)
section
variable {X:Cx}{o i e value:Expr}{pos pos' tpos:Pos}{td ty tv:TE}
theorem bq (hu:X.A.units+1<cLine) (J:PE X o td) (hi:PE X i ty) (hs:EX i):PE X (.Subscript o i pos) (DF td ty):=by
 intro pins s σ H Q I h;refine zQ PySem.F.slot_dict_getitem.lookup hs (bP (J pins s σ H _ I h) λu O R=>?_);obtain⟨x,H1,S,rx,q1⟩:=R;refine bP (hi pins O σ H1 _ S q1) λiv s2 ab=>?_;obtain⟨y,H2,G,Y,a,v,ex,g,N⟩:=ab;subst ex;obtain rfl:u=Value.ref a:=rx;exact⟨rO G g,wU hu G g Y λw' s3 U L=>⟨v,H2,U,L,N⟩⟩
theorem ma (hu:X.A.units+1<cLine) (hi:PE X i ty) (F:PE X o td):PC X .In i o (FO ty td):=by
 intro pins s σ H Q I h;refine bP (hi pins s σ H _ I h) λiv N J=>?_;obtain⟨y,H1,Y,S,U⟩:=J;refine bP (F pins N σ H1 _ Y U) λu s2 O=>?_;obtain⟨x,H2,R,rx,a,ov,ex,g,G⟩:=O;subst ex;obtain rfl:u=Value.ref a:=rx;exact FH hu R g S λs3 L=>⟨.bl ov.isSome,H2,L,rfl,G⟩
theorem eT (hu:X.A.units+1<cLine) (hi:PE X i ty) (G:PE X o td):PC X .NotIn i o (AF ty td):=by
 intro pins s σ H Q I h;refine bP (hi pins s σ H _ I h) λiv N Y=>?_;obtain⟨y,H1,U,R,S⟩:=Y;refine bP (G pins N σ H1 _ U S) λu s2 F=>?_;obtain⟨x,H2,O,rx,a,ov,ex,g,J⟩:=F;subst ex;obtain rfl:u=Value.ref a:=rx;exact zW hu O g R λs3 L=>⟨.bl (!ov.isSome),H2,L,rfl,J⟩
theorem jk (hu:X.A.units+1<cLine) (J:PE X o td) (hi:PE X i ty) (hv:PE X value tv) (hs:swapsWith value (some (.Subscript o i pos')) pos.line X.env=pure false) :
  PS X (.Assign [.Subscript o i pos'] value pos) (DW td ty tv):=by
 intro pins s σ H D I h;refine wpAny_Assign_Subscript (bP (hv pins s σ H _ I h) λr N ab=>?_) hs;obtain⟨v,H1,O,R,q1⟩:=ab;refine bP (J pins N σ H1 _ O q1) λu s2 ac=>?_;obtain⟨x,H2,U,rx,L⟩:=ac;refine bP (hi pins s2 σ H2 _ U L) λiv s3 F=>?_;obtain⟨y,H3,S,Y,a,H4,ex,g,G⟩:=F;subst ex;obtain rfl:u=Value.ref a:=rx;exact nA hu S g Y R λs4 I4=>⟨σ,H4,I4,G⟩
end
theorem rV {P:Program}{w:World}{H:Hp}(h:Heap) (F:sysModules<h.objs.size):bT P w H (h.push { cls:=.type "dict",data:=.dict #[] }) h.objs.size (.dK []):=
 ⟨zero_le _,beq_eq_false_iff_ne.mpr (Ne.symm (ne_of_lt F)),[],.nil,Heap.DictOf.new h⟩
noncomputable def BV:TE:=λ_ H Q=>∀p,H p=none->Q (.ref p) (upd H p (.dK []))
section
variable {X:Cx}{pos:Pos}
theorem cZ:PE X (.Dict [] [] pos) BV:=λpins s σ H Q I h =>
 wpAny_Dict_empty ⟨.ref s.heap.objs.size,_,I.laid (a:=s.heap.objs.size) (o:=.dK []) (t':=s.toks) (λ_ _ q=>Heap.get?_push_of_some _ q) (le_refl _) (rV s.heap I.big),rfl,h _ (I.bG.fresh (le_refl _))⟩
end
noncomputable def uL:List (TE×TE)->St->Hp->(List (V×V)->Hp->Prop)->Prop
 | [],_,H,Q=>Q [] H
 |(tk,tv)::r,σ,H,Q=>tk σ H λx H1=>tv σ H1 λy H2=>uL r σ H2 λps F=>Q ((x,y)::ps) F
noncomputable abbrev VV:List (V×V)->List (Value×Value)->Prop:=Paired λp q=>RelV p.1 q.1/\RelV p.2 q.2
noncomputable def Fu (X:Cx) (pos:Pos) (keys:List (Option Expr)) (values:List Expr) (F:List (TE×TE)):Prop :=
 ∀(pins:List (Addr×Obj)) (s:Shared) (σ:St) (H:Hp) (Q:List (V×V)->Hp->Prop),Inv X pins σ H s->uL F σ H Q ->
  wpAny (model X.prog X.w) X.A (evalPairs (pairTrees keys values X.env pos)) (λvs s'=>∃ps H',Inv X pins σ H' s'/\VV ps vs/\Q ps H') X.xe s
theorem Ba {X:Cx}{pos:Pos}:Fu X pos [] [] []:=λpins s σ H Q I h=>pairTrees_nil_walk ⟨[],H,I,.nil,h⟩
theorem iZ {X:Cx}{pos:Pos}{k v:Expr}{ks:List (Option Expr)}{vs:List Expr}{tk tv:TE}{F:List (TE×TE)}(hk:PE X k tk) (hv:PE X v tv) (G:Fu X pos ks vs F) :
  Fu X pos (some k::ks) (v::vs) ((tk,tv)::F):=λpins s σ H Q I h =>
 pairTrees_cons_walk (bP (hk pins s σ H _ I h) λu O ⟨x,H1,R,rx,q1⟩=>bP (hv pins O σ H1 _ R q1) λw2 s2 ⟨y,H2,Y,ry,N⟩ =>
  bP (G pins s2 σ H2 _ Y N) λws s3 S=>by obtain⟨ps,H3,U,L,J⟩:=S;exact⟨(x,y)::ps,H3,U,.cons ⟨rx,ry⟩ L,J⟩)
noncomputable def kg (kvs G:List (Key×V)):List (Key×V):=G.foldl (λI F=>putK I F.1 F.2) kvs
theorem KV.merge:∀{G:List (Key×V)}{F:List (Key×Value)}{kvs:List (Key×V)}{vs:List (Key×Value)},KV G F->KV kvs vs->KV (kg kvs G) (merged vs F):=by
 intro G F kvs vs r;unfold KV at r
 induction r generalizing kvs vs with
 |nil=>intro q;exact q
 | @cons p q ps L h t J =>
  intro I;have e:KV (putK kvs p.1 p.2) (stored vs q.1 q.2):=by
   have:=I.put p.1 h.2;rw[<-h.1];exact this
  exact J e
theorem iB:∀(F kvs:List (Key×V)),(kg kvs F).length<=kvs.length+F.length
 | [],kvs=>by show kvs.length<=kvs.length+0;omega
 |p::r,kvs=>by
  have h1:=iB r (putK kvs p.1 p.2);have h2:=ff kvs p.1 p.2;show(kg (putK kvs p.1 p.2) r).length<=_;rw[length_cons];omega
theorem lF {P:Program}{w:World}:∀{kvs:List (Key×V)}{ws:List (Value×Value)},VV (kvs.map λG=>(kV G.1,G.2)) ws->∃F,Carries (br P w) ws F/\KV kvs F
 | [],_,r=>by rw[map_nil]at r;cases r;exact⟨[],True.intro,.nil⟩
 |p::kvs,_,r=>by
  rw[map_cons]at r;cases r with
  | @cons a b L bs h t =>
   obtain⟨F,c,q⟩:=lF (P:=P) (w:=w) t;obtain⟨J,I⟩:=b;exact⟨(p.1,I)::F,⟨iA h.1,rfl,c⟩,.cons ⟨rfl,h.2⟩ q⟩
noncomputable def En (G:List (TE×TE)):TE:=λσ H Q=>∀p,H p=none->uL G σ (upd H p (.dK [])) λps H2=>H2 p=some (.dK [])/\∃kvs:List (Key×V),ps=kvs.map (λF=>(kV F.1,F.2))/\kvs.length<=15/\Q (.ref p) (upd H2 p (.dK (kg [] kvs)))
theorem zS {X:Cx}{pos:Pos}{keys:List (Option Expr)}{values:List Expr}{F:List (TE×TE)}(h:Fu X pos keys values F) (L:keys.all (·.isSome)=true) (hl:keys.length=values.length) (h0:keys≠[])
  (R:keys.length<=15):PE X (.Dict keys values pos) (En F):=by
 intro pins s σ H Q I q;have hn:=I.bG.fresh (le_refl s.heap.objs.size);have I1:=I.laid (a:=s.heap.objs.size) (o:=.dK []) (h':=s.heap.push { cls:=.type "dict",data:=.dict #[] }) (t':=s.toks) (λ_ _ q=>Heap.get?_push_of_some _ q) (le_refl _) (rV s.heap I.big);refine wpAny_Dict_walk (knd:=br X.prog X.w) L hl h0 R (bP (h pins _ σ _ _ I1 (q _ hn)) λws s2 ab=>?_);obtain⟨ps,H2,G,N,e,kvs,ep,lk,O⟩:=ab;subst ep;obtain⟨rs,c,rk⟩:=lF (P:=X.prog) (w:=X.w) N;obtain⟨z,hd,ac,Y,S⟩:=gr G.bG e;cases Y;refine⟨rs,c,S,λh' J hs=>⟨.ref s.heap.objs.size,_,?_,rfl,O⟩⟩;have U:(kg [] kvs).length<=sizeLine:=by
  have h1:=iB kvs [];rw[length_nil]at h1;rw[sizeLine_eq];omega
 have he:∃q,h'.get? s.heap.objs.size=some q:=let ⟨q,_,_,hq,_⟩:=J;⟨q,hq⟩;exact iV G (by rw[e];exact True.intro) hs he (lI U hd (rk.merge .nil) J)
structure M1 (X:Cx) (o:Expr) (m:Str) (apos:Pos) (e:Expr) (cpos:Pos):Prop where
 base:attributeBase o m X.env (eval o X.env)=eval o X.env
 DQ:((backTo cpos (starEach [e] X.env)).all (λx => !x.1)&&(backToKw cpos (keywordEach [] X.env)).all (λx=>x.1.isSome)
  && decide (([e]:List Expr).length+([]:List Keyword).length+(if ([]:List Keyword).isEmpty then 0 else 1)<30))=true
 line:(apos.endLine==cpos.line)=true
 trees:backTo cpos (starEach [e] X.env)=[(false,eval e X.env)]
structure M2 (X:Cx) (o:Expr) (m:Str) (apos:Pos) (e f:Expr) (cpos:Pos):Prop where
 base:attributeBase o m X.env (eval o X.env)=eval o X.env
 DQ:((backTo cpos (starEach [e,f] X.env)).all (λx => !x.1)&&(backToKw cpos (keywordEach [] X.env)).all (λx=>x.1.isSome)
  && decide (([e,f]:List Expr).length+([]:List Keyword).length+(if ([]:List Keyword).isEmpty then 0 else 1)<30))=true
 line:(apos.endLine==cpos.line)=true
 trees:backTo cpos (starEach [e,f] X.env)=[(false,eval e X.env),(false,eval f X.env)]
noncomputable def Ea (H:Hp) (a:Addr):Prop:=(∃kvs,Rd H a (.dK kvs))\/∃kvs,Rd H a (.dT kvs)
theorem j6 {X:Cx}{pins:List (Addr×Obj)}{σ:St}{H:Hp}{s:Shared}{a:Addr}(I:Inv X pins σ H s) (d:Ea H a) :
  s.TypeIs (.ref a) "dict" /\ (∀b,Value.ref a=.ref b->∃F,s.heap.get? b=some F/\F.dict=none)/\(a==sysModules)=false:=by
 rcases d with⟨kvs,e⟩|⟨kvs,e⟩
 .obtain⟨_,hd,vs,_,G⟩:=iX I.bG e;refine⟨G.typeIs,λb q=>?_,hd⟩;cases q;obtain⟨F,_,_,h1,h2,_⟩:=G;exact⟨F,h1,h2.2.1⟩
 .obtain⟨_,hd,xs,_,G⟩:=kq I.bG e;refine⟨G.typeIs,λb q=>?_,hd⟩;cases q;obtain⟨F,_,_,h1,h2,_⟩:=G;exact⟨F,h1,h2.2.1⟩
section
variable {X:Cx}{pins:List (Addr×Obj)}{σ:St}{H:Hp}{s:Shared}{a:Addr}{y d:V}{u r:Value}{o:Option V}{A:Around}{E:Value->Shared->Prop}
theorem CD {Q:Value->Shared->Prop}(S:A.units+1<cLine) (I:Inv X pins σ H s) (g:dq H a y o) (N:RelV y u) (h:∀O s',Inv X pins σ H s'->RelV (o.getD .non) O->Q O s') :
  wpAny (model X.prog X.w) A (call (.builtin "dict.get") [.ref a,u]) Q E s:=by
 rcases g with⟨kvs,k,e,L,l⟩|⟨kvs,k,b,e,L,R,l⟩
 .subst L;obtain⟨z,hd,vs,J,G⟩:=iX I.bG e;refine call_meetsIn slot_dict_get G.typeIs entry_dict_get (PySem.F.args_dict_get_2 _ _) (meets_dict_get (br X.prog X.w) a (iA N) hd) ⟨_,G.mapOf,h _ _ (I.tok _) ?_⟩;rw[l];exact(J.val k).getD rfl
 .subst L;cases(show u=Value.ref b from N);obtain⟨z,hd,xs,J,G⟩:=kq I.bG e;refine call_meetsIn slot_dict_get G.typeIs entry_dict_get (PySem.F.args_dict_get_2 _ _) (meetsH_dict_get (tupleKind (br X.prog X.w)) a b hd) ⟨tupleKind_room_in1 S,k,xs,iL I.bG R,G,h _ _ (I.tok _) ?_⟩;rw[l];exact(J.val k).getD rfl
theorem B0 {Q:Value->Shared->Prop}(S:A.units+1<cLine) (I:Inv X pins σ H s) (g:dq H a y o) (N:RelV y u) (rd:RelV d r) (h:∀O s',Inv X pins σ H s'->RelV (o.getD d) O->Q O s') :
  wpAny (model X.prog X.w) A (call (.builtin "dict.get") [.ref a,u,r]) Q E s:=by
 rcases g with⟨kvs,k,e,L,l⟩|⟨kvs,k,b,e,L,R,l⟩
 .subst L;obtain⟨z,hd,vs,J,G⟩:=iX I.bG e;refine call_meetsIn slot_dict_get G.typeIs entry_dict_get (PySem.F.args_dict_get_3 _ _ _) (meets_dict_get_default (br X.prog X.w) a (iA N) hd r) ⟨_,G.mapOf,h _ _ (I.tok _) ?_⟩;rw[l];exact(J.val k).getD rd
 .subst L;cases(show u=Value.ref b from N);obtain⟨z,hd,xs,J,G⟩:=kq I.bG e;refine call_meetsIn slot_dict_get G.typeIs entry_dict_get (PySem.F.args_dict_get_3 _ _ _) (meetsH_dict_get_default (tupleKind (br X.prog X.w)) a b hd r) ⟨tupleKind_room_in1 S,k,xs,iL I.bG R,G,h _ _ (I.tok _) ?_⟩;rw[l];exact(J.val k).getD rd
end
inductive uT (td ty:TE) (σ:St) (Q:VK) (x:V) (H1:Hp):Prop
 |mk (a:_) (_:x=.ref a) (_:Ea H1 a) (_:ty σ H1 λy H2=>∃o,dq H2 a y o/\Q (o.getD .non) H2):uT td ty σ Q x H1
noncomputable def Dj (td ty:TE):TE:=λσ H Q=>td σ H λx H1=>uT td ty σ Q x H1
inductive vG (td ty tx:TE) (σ:St) (Q:VK) (x:V) (H1:Hp):Prop
 |mk (a:_) (_:x=.ref a) (_:Ea H1 a) (_:ty σ H1 λy H2=>tx σ H2 λz H3=>∃o,dq H3 a y o/\Q (o.getD z) H3):vG td ty tx σ Q x H1
noncomputable def BK (td ty tx:TE):TE:=λσ H Q=>td σ H λx H1=>vG td ty tx σ Q x H1
inductive u9 (td ty:TE) (σ:St) (Q:VK) (x:V) (H1:Hp):Prop
 |mk (a:_) (_:x=.ref a) (_:Ea H1 a) (_:ty σ H1 λy H2=>∃kvs k v,H2 a=some (.dK kvs)/\y=kV k/\dC kvs k=some v/\Q v (upd H2 a (.dK (lJ kvs k)))):u9 td ty σ Q x H1
noncomputable def BL (td ty:TE):TE:=λσ H Q=>td σ H λx H1=>u9 td ty σ Q x H1
section
variable {X:Cx}{o e f:Expr}{apos cpos:Pos}{td ty tx:TE}
theorem yG (hu:X.A.units+1<cLine) (L:PE X o td) (he:PE X e ty) (m:M1 X o "get" apos e cpos):PE X (.Call (.Attribute o "get" apos) [e] [] cpos) (Dj td ty):=by
 intro pins s σ H Q I h;refine wpAny_Call_method m.base m.DQ m.line plainAttrs_dict slot_dict_get PySem.F.type_dict_get (bP (L pins s σ H _ I h) λu R J=>?_);obtain⟨x,H1,G,rx,a,ex,d,q1⟩:=J;subst ex;obtain rfl:u=Value.ref a:=rx;obtain⟨t1,S,_⟩:=j6 G d;refine⟨t1,S,?_⟩;rw[m.trees];refine Calls.callWith_builtin rfl (Calls.evalArgs_plain (Calls.spliced_cons (bP (he pins R σ H1 _ G q1) λiv s2 U=>?_)));obtain⟨y,H2,I2,ry,ov,g,O⟩:=U;refine Calls.spliced_nil ?_;exact CD hu I2 g ry λw' s3 Y N=>⟨_,H2,Y,N,O⟩
theorem rR (hu:X.A.units+1<cLine) (L:PE X o td) (he:PE X e ty) (hf:PE X f tx) (m:M2 X o "get" apos e f cpos):PE X (.Call (.Attribute o "get" apos) [e,f] [] cpos) (BK td ty tx):=by
 intro pins s σ H Q I h;refine wpAny_Call_method m.base m.DQ m.line plainAttrs_dict slot_dict_get PySem.F.type_dict_get (bP (L pins s σ H _ I h) λu S Y=>?_);obtain⟨x,H1,G,rx,a,ex,d,q1⟩:=Y;subst ex;obtain rfl:u=Value.ref a:=rx;obtain⟨t1,U,_⟩:=j6 G d;refine⟨t1,U,?_⟩;rw[m.trees];refine Calls.callWith_builtin rfl (Calls.evalArgs_plain (Calls.spliced_cons (bP (he pins S σ H1 _ G q1) λiv s2 ⟨y,H2,I2,ry,N⟩ =>
  Calls.spliced_cons (bP (hf pins s2 σ H2 _ I2 N) λfv s3 ⟨z,H3,I3,O,ov,g,J⟩=>Calls.spliced_nil ?_))))
 exact B0 hu I3 g ry O λw' s4 I4 R=>⟨_,H3,I4,R,J⟩
theorem dX (J:PE X o td) (he:PE X e ty) (m:M1 X o "pop" apos e cpos):PE X (.Call (.Attribute o "pop" apos) [e] [] cpos) (BL td ty):=by
 intro pins s σ H Q I h;refine wpAny_Call_method m.base m.DQ m.line plainAttrs_dict PySem.F.slot_dict_pop PySem.F.type_dict_pop (bP (J pins s σ H _ I h) λu R O=>?_);obtain⟨x,H1,G,rx,a,ex,d,q1⟩:=O;subst ex;obtain rfl:u=Value.ref a:=rx;obtain⟨t1,U,_⟩:=j6 G d;refine⟨t1,U,?_⟩;rw[m.trees];refine Calls.callWith_builtin rfl (Calls.evalArgs_plain (Calls.spliced_cons (bP (he pins R σ H1 _ G q1) λiv s2 Y=>?_)));obtain⟨y,H2,I2,ry,kvs,k,v,ea,S,l,N⟩:=Y;refine Calls.spliced_nil ?_;subst S;exact EV I2 ea ry l (.inl rfl) λw' s3 I3 L=>⟨v,_,I3,L,N⟩
end
section
variable {X:Cx}{pins:List (Addr×Obj)}{σ:St}{H:Hp}{s:Shared}{a:Addr}{kvs:List (Key×V)}{A:Around}{E:Value->Shared->Prop}
end
section
variable {X:Cx}{pins:List (Addr×Obj)}{σ:St}{H:Hp}{s:Shared}{a:Addr}{y:V}{u:Value}{A:Around}{E:Value->Shared->Prop}
end
section
variable {X:Cx}
theorem jL:di X (.builtin "len") (λxs H Q=>∃a kvs,xs=[V.ref a]/\H a=some (.dK kvs)/\Q (.int kvs.length) H):=by
 intro pins s σ H xs us Q I r h;obtain⟨a,kvs,rfl,J,q⟩:=h;obtain⟨u,rfl,G⟩:=vals1 r;cases G;exact Es I (.inl J) λt s' F=>⟨.int kvs.length,H,F,⟨t,rfl⟩,q⟩
end
section
variable {κ:Type} [DecidableEq κ]
theorem fZ:∀{l:List κ}{k:κ},l.Nodup->¬ k∈l->(l++[k]).Nodup
 | [],k,_,_=>by simp
 |a::r,k,h,F=>by
  obtain⟨h1,h2⟩:=List.nodup_cons.mp h;show(a::(r++[k])).Nodup;refine List.nodup_cons.mpr ⟨λm=>?_,fZ h2 λm=>F (List.mem_cons.mpr (Or.inr m))⟩;rcases List.mem_append.mp m with q|q
  .exact h1 q
  .exact F (List.mem_cons.mpr (Or.inl (List.mem_singleton.mp q).symm))
end
section
variable {X:Cx}{pins:List (Addr×Obj)}{σ:St}{H:Hp}{s:Shared}{a:Addr}{kvs:List (Key×V)}{k:Key}{u r:Value}{d:V}{A:Around}{E:Value->Shared->Prop}
theorem BQ {Q:Value->Shared->Prop}(I:Inv X pins σ H s) (e:H a=some (.dK kvs)) (Y:RelV (kV k) u) (rd:RelV d r) (hl:kvs.length<sizeLine)
  (h1:∀v J s',dC kvs k=some v->Inv X pins σ H s'->RelV v J->Q J s') (h2:∀s',dC kvs k=none->Inv X pins σ (upd H a (.dK (putK kvs k d))) s'->Q r s') :
  wpAny (model X.prog X.w) A (call (.builtin "dict.setdefault") [.ref a,u,r]) Q E s:=by
 obtain⟨z,hd,vs,G,R⟩:=gr I.bG e;refine call_meetsIn PySem.F.slot_dict_setdefault R.typeIs PySem.F.entry_dict_setdefault (PySem.F.args_dict_setdefault_3 _ _ _) (kt_meets_setdefault (br X.prog X.w) a (iA Y) hd r)
  ⟨vs,R,by rw[<-G.length];exact z,λv L=>?_,λU h' N hs=>?_⟩
 .have q:=G.val k;cases l:dC kvs k with
  |none=>rw[l]at q;rw[fB.none_of q]at L;cases L
  |some y =>
   rw[l]at q;obtain⟨J,O,S⟩:=fB.some_of q;rw[L]at O;cases O;exact h1 y v _ l (I.tok _) S
 .have l:dC kvs k=none:=by
   cases l:dC kvs k with
   |none=>rfl
   |some y =>
    have q:=G.val k;rw[l,U]at q;cases q
  have he:∃q,h'.get? a=some q:=let ⟨q,_,_,hq,_⟩:=N;⟨q,hq⟩;exact h2 _ l (iV I (by rw[e];exact True.intro) hs he (lI (by have:=ff kvs k d;omega) hd (G.put k rd) N))
end
inductive vt (td ty tx:TE) (σ:St) (Q:VK) (x:V) (H1:Hp):Prop
 |mk (a:_) (_:x=.ref a) (_:Ea H1 a) (_:ty σ H1 λy H2=>tx σ H2 λz H3=>∃kvs k,H3 a=some (.dK kvs)/\y=kV k/\kvs.length<sizeLine/\(∀v,dC kvs k=some v->Q v H3)/\(dC kvs k=none->Q z (upd H3 a (.dK (putK kvs k z))))):vt td ty tx σ Q x H1
noncomputable def Cu (td ty tx:TE):TE:=λσ H Q=>td σ H λx H1=>vt td ty tx σ Q x H1
section
variable {X:Cx}{o e f:Expr}{apos cpos:Pos}{td ty tx:TE}
theorem yK (R:PE X o td) (he:PE X e ty) (hf:PE X f tx) (m:M2 X o "setdefault" apos e f cpos):PE X (.Call (.Attribute o "setdefault" apos) [e,f] [] cpos) (Cu td ty tx):=by
 intro pins s σ H Q I h;refine wpAny_Call_method m.base m.DQ m.line plainAttrs_dict PySem.F.slot_dict_setdefault PySem.F.type_dict_setdefault (bP (R pins s σ H _ I h) λu Y ab=>?_);obtain⟨x,H1,L,rx,a,ex,d,q1⟩:=ab;subst ex;obtain rfl:u=Value.ref a:=rx;obtain⟨t1,t2,_⟩:=j6 L d;refine⟨t1,t2,?_⟩;rw[m.trees];refine Calls.callWith_builtin rfl (Calls.evalArgs_plain (Calls.spliced_cons (bP (he pins Y σ H1 _ L q1) λiv s2 ⟨y,H2,I2,ry,S⟩ =>
  Calls.spliced_cons (bP (hf pins s2 σ H2 _ I2 S) λfv s3 ⟨z,H3,I3,J,kvs,k,ea,ey,hl,O,N⟩=>Calls.spliced_nil ?_))))
 subst ey;exact BQ I3 ea ry J hl (λv w' s4 l G U=>⟨v,_,G,U,O v l⟩) λs4 l G=>⟨z,_,G,J,N l⟩
end
section
variable {X:Cx}{pins:List (Addr×Obj)}{σ:St}{H:Hp}{s:Shared}{a:Addr}{o:Obj}{u:HO}{kvs:List (Key×V)}
theorem Inv.swap {w:HO}(I:Inv X pins σ H s) (h:H a=some u) (h1:∀o G,X.H₀ a≠some (.frz o G)) (h2:∀xs,u≠.tup xs) (h3:∀ps,u≠.tbl ps) (U:∀x,u≠.own x) (new:bT X.prog X.w (upd H a w) s.heap a w):Inv X pins σ (upd H a w) s:=by
 have F:∀b,H b=none->b≠a:=λb q z=>(by rw[z,h]at q;cases q);refine⟨I.ok,I.os,I.bare,⟨I.base.keep,I.base.slot,λb o q S O=>?_,I.base.there,λb xs q=>?_,λb o G q=>?_,λb ps q=>?_⟩,I.loc,I.cell,?_,λy c q=>?_,λp Y=>?_,λb v q=>?_,I.len⟩
 .have z:=I.base.free b o q S O;rw[ai (F b z)];exact z
 .have z:=I.base.pW b xs q;rw[ai (λe=>h2 xs (by rw[e,h]at z;exact Option.some.inj z))];exact z
 .have z:=I.base.mN b o G q;rw[ai (λe=>h1 o G (by rw[<-e];exact q))];exact z
 .obtain⟨R,z⟩:=I.base.pY b ps q;exact⟨R,by rw[ai (λe=>h3 _ (by rw[e,h]at z;exact Option.some.inj z))];exact z⟩
 .rw[ai (F _ I.free)];exact I.free
 .rw[ai (F _ (I.gv y c q))];exact I.gv y c q
 .obtain⟨a1,L,N⟩:=I.pin p Y;exact⟨a1,by rw[ai (F _ L)];exact L,N⟩
 .by_cases J:b=a
  .subst J;rw[ae]at q;cases q;exact new
  .rw[ai J]at q;exact(I.bG b v q).oO (λ_ _ _ z=>z) (λc z=>by rw[ai (λe=>U b (by rw[e,h]at z;exact Option.some.inj z))];exact z) λc xs z=>by rw[ai (λe=>h2 xs (by rw[e,h]at z;exact Option.some.inj z))];exact z
theorem Inv.freeze (I:Inv X pins σ H s) (h:H a=some (.dK kvs)) (F:s.heap.get? a=some o) (h1:∀o G,X.H₀ a≠some (.frz o G)):Inv X pins σ (upd H a (.frz o (.dK kvs))) s :=
 I.swap h h1 (λ_ z=>nomatch z) (λ_ z=>nomatch z) (λ_ z=>nomatch z) ⟨F,(show bT X.prog X.w H s.heap a (.dK kvs)from I.bG a _ h)⟩
theorem Inv.Dh (I:Inv X pins σ H s) (h:H a=some (.frz o (.dK kvs))) (h1:∀o F,X.H₀ a≠some (.frz o F)):Inv X pins σ (upd H a (.dK kvs)) s :=
 I.swap h h1 (λ_ z=>nomatch z) (λ_ z=>nomatch z) (λ_ z=>nomatch z) (show bT X.prog X.w H s.heap a (.frz o (.dK kvs))from I.bG a _ h).2
end
noncomputable def xn (o:Obj):Nat:=match o.data with
 |.dict _ ep=>ep
 |_=>0
noncomputable def Dg (a:Addr) (o:Obj) (kvs:List (Key×V)):It :=
 ⟨λi H=>H a=some (.frz o (.dK kvs))/\i<kvs.length,λi H x H'=>H'=H/\∃k v,kvs[i]?=some (k,v)/\x=kV k,λi H=>H a=some (.frz o (.dK kvs))/\kvs.length<=i⟩
theorem oq {P:Program}{w:World}{k:Key}{u:Value}(h:(br P w).is k u=true):RelV (kV k) u:=by
 rcases cg (show l9 k u=true from h)with⟨i,t,rfl,rfl⟩|⟨x,t,rfl,rfl⟩
 .exact⟨t,rfl⟩
 .exact⟨t,rfl⟩
theorem jR {P:Program}{w:World}{H:Hp}{h:Heap}{a:Addr}{o:Obj}{kvs:List (Key×V)}(ok:iI P w H h) (e:H a=some (.frz o (.dK kvs))):(a==sysModules)=false/\∃vs,KV kvs vs/\h.DictAt (br P w) a vs (xn o):=by
 obtain⟨F,_,hd,vs,r,o',es,ep,h1,h2,G,I⟩:=(show bT P w H h a (.frz o (.dK kvs))from ok a _ e);rw[F]at h1;cases h1;have J:xn o=ep:=(by unfold xn;rw[G]);exact⟨hd,vs,r,o,es,F,h2,by rw[J];exact G,I⟩
theorem wN {P:Program}{w:World}{K:PySem.W.Frag}{tg:Expr}(a F:Addr) (aT:a≠F) (o:Obj) (kvs:List (Key×V)):Turn P w K tg (Dg a o kvs) [F] F (λi h=>h.IsKeyIter F a i kvs.length (xn o)) where
 mem:=by simp
 obj:=λi h st b G=>by
  have e:b=F:=(by simpa using G);subst e;obtain⟨ob,h1,_,U⟩:=st;exact⟨ob,h1,λv z=>by rw[U]at z;cases z⟩
 keep:=λi h h' st k=>st.at λo e=>k F (by simp) o e
 item:=by
  intro X hP N Y hc i pins s σ H E I J st hg;subst hP N Y;obtain⟨O,ad⟩:=hg;obtain⟨S,R,f2,L,f4,f5⟩:=J F (by simp);obtain⟨hd,vs,r,da⟩:=jR I.bG O;have ab:=r.length;obtain⟨⟨k,x⟩,hx⟩:∃p,vs[i]?=some p:=⟨vs[i]'af,by simp⟩;have am:∃v,kvs[i]?=some (k,v):=by
   have hi:i<kvs.length:=ad;refine⟨(kvs[i]).2,?_⟩;have e:=r.keys;have e1:(kvs.map (·.1))[i]?=(vs.map (·.1))[i]?:=(by rw[e]);rw[getElem?_map,getElem?_map,hx,getElem?_eq_getElem hi]at e1;have e2:kvs[i].1=k:=Option.some.inj e1;rw[getElem?_eq_getElem hi, <-e2]
  obtain⟨v,hv⟩:=am;rw[ab]at st ⊢;refine wpAny_pyNext_dict_item st da hx λaB h' ap ac as=>?_;have I1:Inv X pins σ H { s with heap:=h',toks:=s.toks }:=I.turned (λb o G e=>(as.2 b G).trans e) S R L f4 f5;obtain⟨ob,h1,h2,U⟩:=id ac;exact⟨_,rfl,nJ (s:={ s with heap:=h' }) (n := "dict_keyiterator") h1 h2 U av ⟨kV k,H,I1,oq ap,⟨rfl,k,v,hv,rfl⟩,ac,λb G=>(J b G).1⟩⟩
 done:=by
  intro X hP N Y hc i pins s σ H E I J st hg;subst hP N Y;obtain⟨O,ad⟩:=hg;obtain⟨S,R,f2,L,f4,f5⟩:=J F (by simp);obtain⟨hd,vs,r,da⟩:=jR I.bG O;have ab:=r.length;rw[ab]at st;exact wpAny_pyNext_dict_end (I.ok.hd hc) st da (by simp;omega) λh' eb=>⟨rfl,I.turned (t':=s.toks) (λb o G e=>eb b o G e) S R L f4 f5⟩
 self:=λ_ _ _ _ _ st h=>wpAny_pyIter_keyiter st h
noncomputable def D9 (H₀:Hp) (td:TE):TI:=λσ H R=>td σ H λx H1=>wX λa kvs=>Du (x=.ref a) (H1 a=some (.dK kvs)) ((∀o F,H₀ a≠some (.frz o F))) (∀o,R (Dg a o kvs) (upd H1 a (.frz o (.dK kvs))))
section
variable {X:Cx}{tg:Expr}
theorem oj {l:Expr}{td:TE}(hl:PE X l td):PI X tg l (D9 X.H₀ td):=by
 intro pins s σ H R I h;refine bP (hl pins s σ H _ I h) λv F U=>?_;obtain⟨x,H1,L,r1,a,kvs,e,N,Y,q⟩:=U;subst e;cases r1;obtain⟨_,hd,vs,O,S⟩:=gr L.bG N;obtain⟨G,es,ep,h1,h2,h3,h4⟩:=id S;have J:=L.freeze N h1 Y;have lt:a<F.heap.objs.size:=Heap.lt_size h1;have da:F.heap.DictAt (br X.prog X.w) a vs (xn G):=⟨G,es,h1,h2,by unfold xn;rw[h3],h4⟩;refine wpAny_pyIter_dict hd da ?_;refine⟨F.heap.objs.size,[F.heap.objs.size],_,Dg a G kvs,_,rfl,J.kept (t':=F.toks) λb o e=>Heap.get?_push_of_some _ e,wN a _ (ne_of_lt lt) G kvs,⟨_,Heap.get?_push_size _ rfl,rfl,?_⟩,λb hb=>?_,q G⟩
 .rw[O.length];rfl
 .have e:b=F.heap.objs.size:=(by simpa using hb);subst e;exact J.jz (le_refl _) (J.bG.fresh (le_refl _))
noncomputable def DJ (H₀:Hp) (t:TS):TS:=λD σ H=>t { D with
 nx:=λG H'=>∃a o kvs,H' a=some (.frz o (.dK kvs))/\(∀o F,H₀ a≠some (.frz o F))/\D.nx G (upd H' a (.dK kvs))
 rt:=λv H'=>∃a o kvs,H' a=some (.frz o (.dK kvs))/\(∀o F,H₀ a≠some (.frz o F))/\D.rt v (upd H' a (.dK kvs)) } σ H
theorem kC {st:Stmt}{t:TS}(h:PS X st t):PS X st (DJ X.H₀ t):=by
 intro pins s σ H D I q;refine bP (h pins s σ H _ I q) λf R F=>?_;cases f with
 |next =>
  obtain⟨G,H',N,a,o,kvs,O,L,J⟩:=F;exact⟨G,_,N.Dh O L,J⟩
 |ret u =>
  obtain⟨v,G,H',N,r,a,o,kvs,O,L,J⟩:=F;exact⟨v,G,_,N.Dh O L,r,J⟩
 |brk=>exact F
 |cont=>exact F
end
theorem rP {a:Addr}{o:Obj}{kvs:List (Key×V)}{g:TG}{tb:TS}{D:Ends}{σ:St}{H:Hp}(Pv:Nat->St->Hp->Prop) (O:Pv 0 σ H) (R:∀i σ H,i<=kvs.length->Pv i σ H->H a=some (.frz o (.dK kvs)))
  (hs:∀i k v σ H,kvs[i]?=some (k,v)->Pv i σ H->g (kV k) σ H λG H2=>tb { D with nx:=Pv (i+1),ct:=Pv (i+1),bk:=D.nx } G H2) (hd:∀σ H,Pv kvs.length σ H->D.nx σ H) :
  ∃W:Nat->Nat->St->Hp->Prop,(∃m,W 0 m σ H)/\∀i m σ H,W i m σ H ->
   ((Dg a o kvs).stop i H/\D.nx σ H)\/((Dg a o kvs).go i H/\∃N:St->Hp->Prop,(∀F H',N F H'->∃I,I<m/\W (i+1) I F H')/\∀x H',(Dg a o kvs).Ao i H x H'->g x σ H' λG H2=>tb { D with nx:=N,ct:=N,bk:=D.nx } G H2):=by
 refine⟨λi m σ H=>m=kvs.length-i/\i<=kvs.length/\Pv i σ H,⟨kvs.length,by simp,zero_le _,O⟩,?_⟩;rintro i m σ H ⟨rfl,hi,p⟩;have q:=R i σ H hi p;by_cases J:i<kvs.length
 .refine .inr ⟨⟨q,J⟩,Pv (i+1),λF H' L=>⟨kvs.length-(i+1),af,rfl,J,L⟩,λx H' y=>?_⟩;obtain⟨e,k,v,S,ex⟩:=y;subst e ex;exact hs i k v σ _ S p
 .have e:i=kvs.length:=af;subst e;exact .inl ⟨⟨q,le_refl _⟩,hd σ H p⟩
section
variable {X:Cx}
end
noncomputable def CK (lo st:Int) (n:Nat):It:=⟨λi _=>i<n,λi H x H'=>H'=H/\x=.int (lo+i*st),λi _=>n<=i⟩
theorem qX {P:Program}{w:World}{K:PySem.W.Frag}{tg:Expr}(F:Addr) (lo st:Int) (n:Nat):Turn P w K tg (CK lo st n) [F] F (λi h=>IsRangeIter h F (lo+(i:Nat)*st) ((n:Int)-(i:Nat)) st) where
 mem:=by simp
 obj:=λi h st b G=>by
  have e:b=F:=(by simpa using G);subst e;exact⟨_,st,λv z=>by
   have z':Data.fields _=Data.cell v:=z;cases z'⟩
 keep:=λi h h' st k=>k F (by simp) _ st
 item:=by
  intro X hP N U hc i pins s σ H E I J S hg;subst hP N U;obtain⟨R,O,f2,L,f4,Y⟩:=J F (by simp);have W:=Walks.range (prog:=X.prog) (w:=X.w) (I.ok.hd hc) F lo st n;refine W.item i s _ _ hg S λv h' tk hv ab kk=>?_;obtain⟨t,rfl⟩:=hv;have I1:Inv X pins σ H { s with heap:=h',toks:=tk }:=I.turned (λb o G e=>kk b o (by simpa using G) e) R O L f4 Y;exact⟨_,rfl,nJ (s:={ s with heap:=h',toks:=tk }) (n := "range_iterator") ab rfl rfl av ⟨.int (lo+i*st),H,I1,⟨t,rfl⟩,⟨rfl,rfl⟩,ab,λb G=>(J b G).1⟩⟩
 done:=by
  intro X hP N U hc i pins s σ H E I J S hg;subst hP N U;obtain⟨R,O,f2,L,f4,Y⟩:=J F (by simp);exact wpAny_pyNext_range_end (I.ok.hd hc) S (by have:n<=i:=hg;omega) λh' eb=>⟨rfl,I.turned (t':=s.toks) (λb o G e=>eb b o G e) R O L f4 Y⟩
 self:=λ_ _ _ _ _ st h=>wpAny_pyIter_rangeiter st h
noncomputable def DB (ta:TA):TI:=λσ H R=>ta σ H λvs H1=>∃(i j st:Int) (n:Nat),vs=[.int i,.int j,.int st]/\Builtin.Range.small i j st=true/\Builtin.Range.rangeSize i j st=(n:Int)/\st≠0/\Builtin.divisionGoesByPylong (j-i) st=false/\R (CK i st n) H1
section
variable {X:Cx}{tg:Expr}
theorem wJ {a b c:Expr}{ta:TA}{p pos:Pos}(hg:Gl X "range") (hm:X.mg "range" = none) (ha:PA X [a,b,c] ta) (hs:starEach [a,b,c] X.env=[(false,eval a X.env),(false,eval b X.env),(false,eval c X.env)]:=by rfl) (N:starEach [b,c] X.env=[(false,eval b X.env),(false,eval c X.env)]:=by rfl) :
  PI X tg (.Call (.Name "range" p) [a,b,c] [] pos) (DB ta):=by
 intro pins s σ H R I h;refine Call_ (gH I hg hm boot_range (PyProof.Rows.callWith_type1 (bP (ha pos pins s σ H _ I h) λus G ⟨vs,H1,I1,r1,L⟩=>?_) (by rw[hs,N]) (by rw[N];rfl)));obtain⟨i,j,st,n,e,L,Y,S,O,q⟩:=L;subst e;cases r1 with
 |cons r F =>
  cases F with
  |cons r' F =>
   cases F with
   |cons ac F =>
    cases F;obtain⟨t,rfl⟩:=r;obtain⟨t',rfl⟩:=r';obtain⟨ab,rfl⟩:=ac;refine call_range_3 S ?_ (.inl O);refine wpAny_pyIter_range (IsRange.new ..) L ?_;have J:Inv X pins σ H1 { G with heap:=G.heap.push { cls:=.type "range",data:=.fields #[.int i t,.int j t',.int st ab] },toks:=G.toks }:=I1.kept λb o e=>Heap.get?_push_of_some _ e;refine⟨_,[_],_,_,H1,rfl,J.kept (t':=G.toks) λb o e=>Heap.get?_push_of_some _ e,qX _ i st n,?_,λb hb=>?_,q⟩
    .have e1:i+((0:Nat):Int)*st=i:=(by simp);have U:(n:Int)-((0:Nat):Int)=Builtin.Range.rangeSize i j st:=(by rw[Y];omega);show IsRangeIter _ _ (i+((0:Nat):Int)*st) ((n:Int)-((0:Nat):Int)) st;rw[e1,U];exact Heap.get?_push_size _ rfl
    .have e:=List.mem_singleton.mp hb;subst e;exact J.jz (le_refl _) (J.bG.fresh (le_refl _))
end
theorem yz (K:PySem.W.Frag):kitOne K (.type "int") (.type "tuple")=some false:=by with_unfolding_all rfl
theorem zb (K:PySem.W.Frag):kitOne K (.type "int") (.type "list")=some false:=by with_unfolding_all rfl
theorem yM (K:PySem.W.Frag):kitOne K (.type "int") (.type "dict")=some false:=by with_unfolding_all rfl
theorem zJ (K:PySem.W.Frag):kitOne K (.type "str") (.type "tuple")=some false:=by with_unfolding_all rfl
theorem zm (K:PySem.W.Frag):kitOne K (.type "str") (.type "list")=some false:=by with_unfolding_all rfl
theorem za (K:PySem.W.Frag):kitOne K (.type "str") (.type "dict")=some false:=by with_unfolding_all rfl
theorem zj (K:PySem.W.Frag):kitOne K (.type "NoneType") (.type "tuple")=some false:=by with_unfolding_all rfl
theorem zF (K:PySem.W.Frag):kitOne K (.type "NoneType") (.type "list")=some false:=by with_unfolding_all rfl
theorem zz (K:PySem.W.Frag):kitOne K (.type "NoneType") (.type "dict")=some false:=by with_unfolding_all rfl
theorem uu (K:PySem.W.Frag):kitOne K (.type "tuple") (.type "tuple")=some true:=rfl
end L2
namespace Srt
open PySem PyProof.Rows
structure SI (a₀:Array Keyed) (st:SortSt):Prop where
 perm:(arrOf st).Perm a₀
 kind:kindOf st=oneType'
 failed:failedOf st=none
structure Ks (a₀:Array Keyed):Prop where
 ik:IntKeys a₀
 nd:(a₀.toList.map λp=>numOf p.1).Nodup
noncomputable def jP (xs:Array Keyed) (lo hi:Nat):Prop:=∀i j,lo<=i->i<=j->j<hi->K xs i<=K xs j
theorem SI.size {a₀:Array Keyed}{st:SortSt}(h:SI a₀ st):(arrOf st).size=a₀.size:=h.perm.size_eq
theorem tW {a₀ xs:Array Keyed}(F:xs.Perm a₀) (k:Ks a₀) {i:Nat}(hi:i<xs.size):∃t q,xs[i]?=some (.int (K xs i) t,q):=by
 have I:xs[i]∈a₀.toList:=(Array.perm_iff_toList_perm.mp F).mem_iff.mp (by simp);obtain⟨n,t,J⟩:=k.ik _ I;have e:xs[i]?=some xs[i]:=getElem?_pos _ i hi;have G:xs[i]=(.int n t,xs[i].2):=Prod.ext J rfl;refine⟨t,xs[i].2,?_⟩;unfold K;rw[e,G];rfl
theorem key_ne {a₀ xs:Array Keyed}(G:xs.Perm a₀) (k:Ks a₀) {i j:Nat}(hi:i<j) (F:j<xs.size):K xs i≠K xs j:=by
 have I:=(Array.perm_iff_toList_perm.mp G).map λp:Keyed=>numOf p.1;have J:(xs.toList.map λp=>numOf p.1).Nodup:=I.nodup_iff.mpr k.nd;have h1:i<xs.size:=af;have a:=List.pairwise_iff_getElem.mp J i j (by simpa using h1) (by simpa using F) hi;unfold K;rw[getElem?_pos xs i h1,getElem?_pos xs j F];simpa using a
theorem SI.setArr {a₀:Array Keyed}{st:SortSt}(h:SI a₀ st) {xs:Array Keyed}(F:xs.Perm (arrOf st)):SI a₀ (setArr st xs):=⟨F.trans h.perm,h.kind,h.failed⟩
section
variable {prog:Program}{w:World}{A:Around}{E:Value->Shared->Prop}{s:Shared}{a₀:Array Keyed}
theorem oZ {st:SortSt}{x y:Keyed}{a b:Int}{t u:Tok}{Q:Option Bool->SortSt->Prop}(G:kindOf st=oneType') (F:x.1=.int a t) (I:y.1=.int b u) (h:Q (some (decide (a<b))) st) :
  wpS (model prog w) A E s (lt' x y) Q st:=by
 rw[lt'_eq];refine wpS_bind (wpS_get ?_);rw[G,keyLt'_oneType,F,I];exact wpS_bind (wpS_lift (wpAny_attempt (oneLt_int ⟨rfl,wpS_pure h⟩)))
theorem bt {st:SortSt}{xs:Array Keyed}{i:Nat}{p:Keyed}{Q:Keyed->SortSt->Prop}(hi:xs[i]?=some p) (h:Q p st):wpS (model prog w) A E s (elem' xs i) Q st:=by
 rw[elem'_eq,hi];exact wpS_pure h
theorem mU {st:SortSt}{i j:Nat}{Q:Option Bool->SortSt->Prop}(S:SI a₀ st) (k:Ks a₀) (hi:i<a₀.size) (G:j<a₀.size) (h:Q (some (decide (K (arrOf st) i<K (arrOf st) j))) st) :
  wpS (model prog w) A E s (ltAt' i j) Q st:=by
 obtain⟨t,p,I⟩:=tW S.perm k (by rw[S.size];exact hi);obtain⟨u,q,F⟩:=tW S.perm k (by rw[S.size];exact G);exact wpS_ltAt S.kind I F h
structure Cut (a₀:Array Keyed) (st st':SortSt) (lo:Nat):Prop where
 S:SI a₀ st'
 pre:∀i,i<lo->(arrOf st')[i]?=(arrOf st)[i]?
 pend:pendingOf st'=pendingOf st
theorem ym {st:SortSt}{lo nrem:Nat}{Q:Option Nat->SortSt->Prop}(S:SI a₀ st) (k:Ks a₀) (hn:lo+nrem<=a₀.size) (h1:1<=nrem)
  (h:∀m F,Cut a₀ st F lo->1<=m->m<=nrem->jP (arrOf F) lo (lo+m)->Q (some m) F):wpS (model prog w) A E s (countRun' lo nrem) Q st:=by
 rw[countRun'_eq];refine wpS_bind (wpS_mono (wpS_forRange (I:=λx c F=>qv (F=st) (c=(none,x)) (jP (arrOf st) lo (lo+x))) (Q:=λc F=>F=st/\∃n,c=(none,n)/\1<=n/\n<=nrem/\jP (arrOf st) lo (lo+n)/\(n=nrem\/K (arrOf st) (lo+n)<K (arrOf st) (lo+n-1))) ?_ ?_ ?_) ?_)
 .rintro x c F Y ab ⟨rfl,rfl,hs⟩;dsimp only;refine wpS_bind (mU S k af af ?_);by_cases c:K (arrOf F) (lo+x)<K (arrOf F) (lo+x-1)
  .simp only[c,decide_true,if_true];exact wpS_pure ⟨rfl,x,rfl,Y,af,hs,.inr c⟩
  .simp only[c,decide_false,Bool.false_eq_true,if_false];refine wpS_pure ⟨rfl,rfl,λi j hi L O=>?_⟩;by_cases z:j<lo+x
   .exact hs i j hi L z
   .by_cases R:i=j
    .rw[R];exact Int.le_refl _
    .have:=hs i (lo+x-1) hi af af;have N:j=lo+x:=af;rw[N];lia
 .rintro c F ⟨rfl,rfl,hs⟩;rw[show max 1 nrem=nrem by lia]at hs ⊢;exact⟨rfl,nrem,rfl,h1,le_refl _,hs,.inl rfl⟩
 .exact⟨rfl,rfl,λi j hi L O=>by rw[show i=j by lia];exact Int.le_refl _⟩
 .rintro c F ⟨rfl,n,rfl,n1,n2,hs,ap⟩;dsimp only;by_cases e:n=nrem
  .rw[if_pos (by simpa using e)];exact wpS_pure (h n F ⟨S,λ_ _=>rfl,rfl⟩ n1 n2 hs)
  .rw[if_neg (by simpa using e)];have am:=ap.resolve_left e;by_cases g:n>1
   .rw[if_pos g];refine wpS_bind (mU S k af af ?_);have r:K (arrOf F) lo<K (arrOf F) (lo+n-1):=by
     have a:=hs lo (lo+n-1) (le_refl _) af (by omega +splitNatSub);have b:=key_ne S.perm k (i:=lo) (j:=lo+n-1) (by omega +splitNatSub) (by rw[S.size];lia);lia
    simp only[r,decide_true,if_true];exact wpS_pure (h n F ⟨S,λ_ _=>rfl,rfl⟩ n1 n2 hs)
   .rw[if_neg g];have e1:n=1:=af;subst e1;refine wpS_bind (wpS_lift (wpAny_rule ⟨rfl,?_⟩));have ad:∀i j,lo<=i->i<=j->j<lo+2->K (arrOf F) j<=K (arrOf F) i:=λi j hi L O=>by
     by_cases z:i=j
     .rw[z];exact Int.le_refl _
     .have ei:i=lo:=af;have N:j=lo+1:=af;rw[ei,N];exact Int.le_of_lt am
    refine wpS_bind (wpS_mono (wpS_forRange (I:=λx c G=>qv (G=F) (c=(none,x,0)) (∀i j,lo<=i->i<=j->j<lo+x->K (arrOf F) j<=K (arrOf F) i)) (Q:=λc G=>G=F/\∃n,c=(none,n,0)/\2<=n/\n<=nrem/\∀i j,lo<=i->i<=j->j<lo+n->K (arrOf F) j<=K (arrOf F) i) ?_ ?_ ?_) ?_)
    .rintro x c G Y ab ⟨rfl,rfl,hd⟩;dsimp only;refine wpS_bind (mU S k af af ?_);by_cases c:K (arrOf G) (lo+x)<K (arrOf G) (lo+x-1)
     .simp only[c,decide_true,if_true];rw[if_neg af];refine wpS_pure ⟨rfl,rfl,λi j hi L O=>?_⟩;by_cases z:j<lo+x
      .exact hd i j hi L z
      .by_cases R:i=j
       .rw[R];exact Int.le_refl _
       .have:=hd i (lo+x-1) hi af af;have N:j=lo+x:=af;rw[N];lia
     .simp only[c,decide_false,Bool.false_eq_true,if_false];refine wpS_bind (mU S k af af ?_);have r:K (arrOf G) (lo+x-1)<K (arrOf G) (lo+x):=by
       have b:=key_ne S.perm k (i:=lo+x-1) (j:=lo+x) (by omega +splitNatSub) (by rw[S.size];lia);lia
      simp only[r,decide_true,if_true];exact wpS_pure ⟨rfl,x,rfl,Y,af,hd⟩
    .rintro c G ⟨rfl,rfl,hd⟩;rw[show max (1+1) nrem=nrem by lia]at hd ⊢;exact⟨rfl,nrem,rfl,af,le_refl _,hd⟩
    .exact⟨rfl,rfl,ad⟩
    .rintro c G ⟨rfl,n,rfl,m1,m2,hd⟩;dsimp only;rw[if_neg af];refine wpS_bind (wpS_reverse ?_);have hsz:lo+n<=(arrOf G).size:=(by rw[S.size];lia);have S3:=S.setArr (mirror_perm (arrOf G) lo (lo+n) ((lo+n-lo)/2));have C3:Cut a₀ G (setArr G (mirror (arrOf G) lo (lo+n) ((lo+n-lo)/2))) lo:=by
      refine⟨S3,λi hi=>?_,rfl⟩;show(mirror (arrOf G) lo (lo+n) ((lo+n-lo)/2))[i]?=_;rw[getElem?_mirror_all hsz,if_neg af]
     have ac:jP (arrOf (setArr G (mirror (arrOf G) lo (lo+n) ((lo+n-lo)/2)))) lo (lo+n):=λi j hi L O=>by
      show K (mirror (arrOf G) lo (lo+n) ((lo+n-lo)/2)) i<=K (mirror (arrOf G) lo (lo+n) ((lo+n-lo)/2)) j;rw[K_mirror hsz,K_mirror hsz,if_pos af,if_pos af];exact hd _ _ (by omega +splitNatSub) (by omega +splitNatSub) (by omega +splitNatSub)
     generalize setArr G (mirror (arrOf G) lo (lo+n) ((lo+n-lo)/2))=U at S3 C3 ac ⊢;refine wpS_bind (wpS_mono (wpS_forRange (I:=λx c J=>qv (J=U) (c=(none,x)) (jP (arrOf U) lo (lo+x))) (Q:=λc J=>J=U/\∃m,c=(none,m)/\1<=m/\m<=nrem/\jP (arrOf U) lo (lo+m)) ?_ ?_ ?_) ?_)
     .rintro x c J Y ab ⟨rfl,rfl,hs⟩;dsimp only;refine wpS_bind (mU S3 k af af ?_);by_cases c:K (arrOf J) (lo+x)<K (arrOf J) (lo+x-1)
      .simp only[c,decide_true,if_true];exact wpS_pure ⟨rfl,x,rfl,af,af,hs⟩
      .simp only[c,decide_false,Bool.false_eq_true,if_false];refine wpS_pure ⟨rfl,rfl,λi j hi L O=>?_⟩;by_cases z:j<lo+x
       .exact hs i j hi L z
       .by_cases R:i=j
        .rw[R];exact Int.le_refl _
        .have:=hs i (lo+x-1) hi af af;have N:j=lo+x:=af;rw[N];lia
     .rintro c J ⟨rfl,rfl,hs⟩;rw[show max n nrem=nrem by lia]at hs ⊢;exact⟨rfl,nrem,rfl,h1,le_refl _,hs⟩
     .exact⟨rfl,rfl,ac⟩
     .rintro c J ⟨rfl,m,rfl,q1,q2,hs⟩;exact wpS_pure (h m J C3 q1 q2 hs)
theorem yt {st:SortSt}{lo n ok:Nat}{Q:Bool->SortSt->Prop}(S:SI a₀ st) (k:Ks a₀) (hn:lo+n<=a₀.size) (h1:1<=ok) (bG:ok<=n) (hs:jP (arrOf st) lo (lo+ok))
  (h:∀F,Cut a₀ st F lo->jP (arrOf F) lo (lo+n)->Q true F):wpS (model prog w) A E s (binarySort' lo n ok) Q st:=by
 rw[binarySort'_eq];refine wpS_bind (wpS_mono (wpS_forRange (I:=λx c F=>qv (c=(none,())) (Cut a₀ st F lo) (jP (arrOf F) lo (lo+x))) (Q:=λc F=>qv (c=(none,())) (Cut a₀ st F lo) (jP (arrOf F) lo (lo+n))) ?_ ?_ ?_) ?_)
 .rintro x c F aB am ⟨rfl,C,J⟩;have R:lo+x<(arrOf F).size:=(by rw[C.S.size];lia);refine wpS_bind (wpS_mono (wpS_forRange (I:=λy c G=>G=F/\∃l r,c=(none,l,r)/\l<=r/\r<=x/\r-l<=x-y/\(∀i,lo<=i->i<lo+l->K (arrOf F) i<=K (arrOf F) (lo+x))/\∀i,lo+r<=i->i<lo+x->K (arrOf F) (lo+x)<K (arrOf F) i)
   (Q:=λc G=>G=F/\∃l,c=(none,l,l)/\l<=x/\(∀i,lo<=i->i<lo+l->K (arrOf F) i<=K (arrOf F) (lo+x))/\∀i,lo+l<=i->i<lo+x->K (arrOf F) (lo+x)<K (arrOf F) i) ?_ ?_ ?_) ?_)
  .rintro y c G ap as ⟨rfl,l,r,rfl,lr,U,hm,N,L⟩;dsimp only;by_cases g:l>=r
   .rw[if_pos g];obtain rfl:l=r:=af;exact wpS_pure ⟨rfl,l,rfl,U,N,L⟩
   .rw[if_neg g];refine wpS_bind (mU C.S k af af ?_);by_cases c:K (arrOf G) (lo+x)<K (arrOf G) (lo+(l+r)/2)
    .simp only[c,decide_true,if_true];refine wpS_pure ⟨rfl,l,(l+r)/2,rfl,af,af,by omega +splitNatSub,N,λi hi ac=>?_⟩;have:=J (lo+(l+r)/2) i af hi (by omega +splitNatSub);lia
    .simp only[c,decide_false,Bool.false_eq_true,if_false];refine wpS_pure ⟨rfl,(l+r)/2+1,r,rfl,af,by omega +splitNatSub,by omega +splitNatSub,λi hi ac=>?_,L⟩;have:=J i (lo+(l+r)/2) hi af af;lia
  .rintro c G ⟨rfl,l,r,rfl,lr,U,hm,N,L⟩;obtain rfl:l=r:=af;exact⟨rfl,l,rfl,U,N,L⟩
  .exact⟨rfl,0,x,rfl,af,af,af,λi hi ab=>by lia,λi hi ab=>by lia⟩
  .rintro c G ⟨rfl,l,rfl,lx,N,L⟩;dsimp only;rw[moveDown'_eq];refine wpS_bind (wpS_modify (wpS_pure ⟨rfl,⟨C.S.setArr (bubble_perm _ _ _),λi hi=>?_,C.pend⟩,λi j hi ad hj=>?_⟩))
   .show(bubble (arrOf G) (lo+x) (lo+x-(lo+l)))[i]?=_;rw[getElem?_bubble R _ (by omega +splitNatSub),if_neg (by omega +splitNatSub),if_neg (by omega +splitNatSub)];exact C.pre i hi
   .show K (bubble (arrOf G) (lo+x) (lo+x-(lo+l))) i<=K (bubble (arrOf G) (lo+x) (lo+x-(lo+l))) j;rw[K_bubble R af,K_bubble R af,show lo+x-(lo+x-(lo+l))=lo+l by lia];by_cases c1:i=lo+l
    .rw[if_pos c1];by_cases O:j=lo+l
     .rw[if_pos O];exact Int.le_refl _
     .rw[if_neg O,if_pos af];have:=L (j-1) af af;lia
    .rw[if_neg c1];by_cases O:j=lo+l
     .rw[if_pos O,if_neg af];exact N i hi af
     .rw[if_neg O];by_cases Y:lo+l<i/\i<=lo+x
      .rw[if_pos Y,if_pos af];exact J _ _ af (by omega +splitNatSub) (by omega +splitNatSub)
      .rw[if_neg Y];by_cases c4:lo+l<j/\j<=lo+x
       .rw[if_pos c4];exact J _ _ (by omega +splitNatSub) af af
       .rw[if_neg c4];exact J _ _ (by omega +splitNatSub) (by omega +splitNatSub) af
 .rintro c F ⟨rfl,C,J⟩;rw[show max (max ok 1) n=n by lia]at J;exact⟨rfl,C,J⟩
 .rw[show max ok 1=ok by lia];exact⟨rfl,⟨S,λ_ _=>rfl,rfl⟩,hs⟩
 .rintro c F ⟨rfl,C,J⟩;exact wpS_pure (h F C J)
end
noncomputable def Av:Bool->Keyed->Array Keyed->Nat->Nat->Nat->StateT SortSt Sem (Option Nat):=sortPriv% PySem.Builtin.gallop
noncomputable def fE (left:Bool) (a:Int) (xs:Array Keyed) (base i:Nat):Bool:=if left then decide (K xs (base+i)<a)else !decide (a<K xs (base+i))
section
variable {prog:Program}{w:World}{A:Around}{E:Value->Shared->Prop}{s:Shared}{a₀:Array Keyed}
noncomputable def pO (left:Bool) (F:Keyed) (xs:Array Keyed) (base i:Nat):StateT SortSt Sem (Option Bool):=
 bind (elem' xs (base+i)) λx=>ite (left=true) (lt' x F) (bind (lt' F x) λr=>pure (Option.map (λb => !b) r))
theorem Cp {st:SortSt}{left:Bool}{I:Keyed}{a:Int}{t u:Tok}{q:Value}{xs:Array Keyed}{base i:Nat}{Q:Option Bool->SortSt->Prop}(G:kindOf st=oneType') (F:I.1=.int a t) (J:xs[base+i]?=some (.int (K xs (base+i)) u,q))
  (h:Q (some (fE left a xs base i)) st):wpS (model prog w) A E s (pO left I xs base i) Q st:=by
 unfold pO;refine wpS_bind (bt J ?_);unfold fE at h;cases left with
 |true=>exact oZ G rfl F h
 |false=>exact wpS_bind (oZ G F rfl (wpS_pure h))
theorem gQ {left:Bool}{a:Int}{xs:Array Keyed}{base n i j:Nat}(hs:jP xs base (base+n)) (F:i<=j) (G:j<n) (h:fE left a xs base j=true):fE left a xs base i=true:=by
 have:=hs (base+i) (base+j) af af af;unfold fE at h ⊢;cases left with
 |true =>
  have z:K xs (base+j)<a:=of_decide_eq_true h;exact decide_eq_true af
 |false =>
  have z:¬ a<K xs (base+j):=of_decide_eq_false (by simpa using h);show(!decide (a<K xs (base+i)))=true;rw[decide_eq_false af];rfl
theorem ij {left:Bool}{a:Int}{xs:Array Keyed}{base n i j:Nat}(hs:jP xs base (base+n)) (F:i<=j) (G:j<n) (h:fE left a xs base i=false):fE left a xs base j=false:=by
 cases e:fE left a xs base j with
 |false=>rfl
 |true=>rw[gQ hs F G e]at h;cases h
theorem dy {st:SortSt}{left:Bool}{ad:Keyed}{a:Int}{t:Tok}{xs:Array Keyed}{base n hint:Nat}{Q:Option Nat->SortSt->Prop}(hk:kindOf st=oneType') (aB:ad.1=.int a t) (hx:∀i,i<n->∃t q,xs[base+i]?=some (.int (K xs (base+i)) t,q))
  (hs:jP xs base (base+n)) (hh:hint<n) (h:∀r,r<=n->(∀i,i<r->fE left a xs base i=true)->(∀i,r<=i->i<n->fE left a xs base i=false)->Q (some r) st) :
  wpS (model prog w) A E s (Av left ad xs base n hint) Q st:=by
 have B:∀{i:Nat}{Q:Option Bool->SortSt->Prop},i<n->Q (some (fE left a xs base i)) st->wpS (model prog w) A E s (pO left ad xs base i) Q st:=λhi q=>by
  obtain⟨u,v,e⟩:=hx _ hi;exact Cp hk aB e q
 refine wpS_bind (B hh ?_);cases c:fE left a xs base hint with
 |true =>
  dsimp only;rw[if_pos rfl];refine wpS_bind (wpS_mono (wpS_forRange (I:=λx c F=>F=st/\∃l o,c=(none,l,o)/\l<o/\x+1<=o/\hint+l<n/\fE left a xs base (hint+l)=true) (Q:=λc F=>F=st/\∃l o,c=(none,l,o)/\l<o/\hint+l<n/\fE left a xs base (hint+l)=true/\(n-hint<=o\/(hint+o<n/\fE left a xs base (hint+o)=false))) ?_ ?_ ?_) ?_)
  .rintro x c F as ab ⟨rfl,l,o,rfl,lo,xo,R,O⟩;dsimp only;by_cases g:o>=n-hint
   .rw[if_pos g];exact wpS_pure ⟨rfl,l,o,rfl,lo,R,O,.inl g⟩
   .rw[if_neg g];refine wpS_bind (B (i:=hint+o) af ?_);cases S:fE left a xs base (hint+o)with
    |true=>exact wpS_pure ⟨rfl,o,2*o+1,rfl,af,af,af,S⟩
    |false=>exact wpS_pure ⟨rfl,l,o,rfl,lo,R,O,.inr ⟨af,S⟩⟩
  .rintro c F ⟨rfl,l,o,rfl,lo,xo,R,O⟩;exact⟨rfl,l,o,rfl,lo,R,O,.inl af⟩
  .exact⟨rfl,0,1,rfl,af,af,hh,c⟩
  .rintro c F ⟨rfl,l,o,rfl,lo,R,O,ap⟩;dsimp only;have f1:∀i,i<hint+l+1->fE left a xs base i=true:=λi hi=>gQ hs (j:=hint+l) af R O;have f2:∀i,hint+min o (n-hint)<=i->i<n->fE left a xs base i=false:=λi hi Y=>by
    rcases ap with g|⟨g1,g2⟩
    .omega +splitNatSub
    .exact ij hs (i:=hint+o) af Y g2
   have U:hint+l+1<=hint+min o (n-hint):=(by omega +splitNatSub);have f4:hint+min o (n-hint)<=n:=(by omega +splitNatSub);generalize hint+l+1=am at f1 U ⊢;generalize hint+min o (n-hint)=ac at f2 U f4 ⊢;refine wpS_bind (wpS_mono (wpS_forRange (I:=λx c L=>L=F/\∃l r,c=(none,l,r)/\l<=r/\r<=n/\r-l<=n-x/\(∀i,i<l->fE left a xs base i=true)/\∀i,r<=i->i<n->fE left a xs base i=false) (Q:=λc L=>L=F/\∃r,c=(none,r,r)/\r<=n/\(∀i,i<r->fE left a xs base i=true)/\∀i,r<=i->i<n->fE left a xs base i=false) ?_ ?_ ?_) ?_)
   .rintro x c L as ab ⟨rfl,l,r,rfl,lr,G,hm,N,J⟩;dsimp only;by_cases g:l>=r
    .rw[if_pos g];obtain rfl:l=r:=af;exact wpS_pure ⟨rfl,l,rfl,G,N,J⟩
    .rw[if_neg g];refine wpS_bind (B (i:=l+(r-l)/2) af ?_);cases S:fE left a xs base (l+(r-l)/2)with
     |true=>exact wpS_pure ⟨rfl,l+(r-l)/2+1,r,rfl,af,G,by omega +splitNatSub,λi hi=>gQ hs (j:=l+(r-l)/2) af af S,J⟩
     |false=>exact wpS_pure ⟨rfl,l,l+(r-l)/2,rfl,af,af,af,N,λi hi Y=>ij hs hi Y S⟩
   .rintro c L ⟨rfl,l,r,rfl,lr,G,hm,N,J⟩;obtain rfl:l=r:=af;exact⟨rfl,l,rfl,G,N,J⟩
   .exact⟨rfl,am,ac,rfl,U,f4,af,f1,f2⟩
   .rintro c L ⟨rfl,r,rfl,G,N,J⟩;exact wpS_pure (h r G N J)
 |false =>
  dsimp only;rw[if_neg av];refine wpS_bind (wpS_mono (wpS_forRange (I:=λx c F=>F=st/\∃l o,c=(none,l,o)/\l<o/\x+1<=o/\l<=hint/\fE left a xs base (hint-l)=false) (Q:=λc F=>F=st/\∃l o,c=(none,l,o)/\l<o/\l<=hint/\fE left a xs base (hint-l)=false/\(hint+1<=o\/(o<=hint/\fE left a xs base (hint-o)=true))) ?_ ?_ ?_) ?_)
  .rintro x c F as ab ⟨rfl,l,o,rfl,lo,xo,R,O⟩;dsimp only;by_cases g:o>=hint+1
   .rw[if_pos g];exact wpS_pure ⟨rfl,l,o,rfl,lo,R,O,.inl g⟩
   .rw[if_neg g];refine wpS_bind (B (i:=hint-o) af ?_);cases S:fE left a xs base (hint-o)with
    |true=>exact wpS_pure ⟨rfl,l,o,rfl,lo,R,O,.inr ⟨af,S⟩⟩
    |false=>exact wpS_pure ⟨rfl,o,2*o+1,rfl,af,af,af,S⟩
  .rintro c F ⟨rfl,l,o,rfl,lo,xo,R,O⟩;exact⟨rfl,l,o,rfl,lo,R,O,.inl af⟩
  .exact⟨rfl,0,1,rfl,af,af,zero_le _,c⟩
  .rintro c F ⟨rfl,l,o,rfl,lo,R,O,ap⟩;dsimp only;have f1:∀i,i<hint+1-min o (hint+1)->fE left a xs base i=true:=λi hi=>by
    rcases ap with g|⟨g1,g2⟩
    .omega +splitNatSub
    .exact gQ hs (j:=hint-o) (by omega +splitNatSub) (by omega +splitNatSub) g2
   have f2:∀i,hint-l<=i->i<n->fE left a xs base i=false:=λi hi Y=>ij hs hi Y O;have U:hint+1-min o (hint+1)<=hint-l:=(by omega +splitNatSub);have f4:hint-l<=n:=af;generalize hint+1-min o (hint+1)=am at f1 U ⊢;generalize hint-l=ac at f2 U f4 ⊢;refine wpS_bind (wpS_mono (wpS_forRange (I:=λx c L=>L=F/\∃l r,c=(none,l,r)/\l<=r/\r<=n/\r-l<=n-x/\(∀i,i<l->fE left a xs base i=true)/\∀i,r<=i->i<n->fE left a xs base i=false) (Q:=λc L=>L=F/\∃r,c=(none,r,r)/\r<=n/\(∀i,i<r->fE left a xs base i=true)/\∀i,r<=i->i<n->fE left a xs base i=false) ?_ ?_ ?_) ?_)
   .rintro x c L as ab ⟨rfl,l,r,rfl,lr,G,hm,N,J⟩;dsimp only;by_cases g:l>=r
    .rw[if_pos g];obtain rfl:l=r:=af;exact wpS_pure ⟨rfl,l,rfl,G,N,J⟩
    .rw[if_neg g];refine wpS_bind (B (i:=l+(r-l)/2) af ?_);cases S:fE left a xs base (l+(r-l)/2)with
     |true=>exact wpS_pure ⟨rfl,l+(r-l)/2+1,r,rfl,af,G,by omega +splitNatSub,λi hi=>gQ hs (j:=l+(r-l)/2) af af S,J⟩
     |false=>exact wpS_pure ⟨rfl,l,l+(r-l)/2,rfl,af,af,af,N,λi hi Y=>ij hs hi Y S⟩
   .rintro c L ⟨rfl,l,r,rfl,lr,G,hm,N,J⟩;obtain rfl:l=r:=af;exact⟨rfl,l,rfl,G,N,J⟩
   .exact⟨rfl,am,ac,rfl,U,f4,af,f1,f2⟩
   .rintro c L ⟨rfl,r,rfl,G,N,J⟩;exact wpS_pure (h r G N J)
end
noncomputable def le (p q:Keyed):Prop:=numOf p.1<=numOf q.1
structure Up (a:Array Keyed):Prop where
 ik:IntKeys a
 up:a.toList.Pairwise le
theorem Up.at {a:Array Keyed}(u:Up a) {i:Nat}(hi:i<a.size):∃t q,a[i]?=some (.int (K a i) t,q):=by
 obtain⟨n,t,G⟩:=u.ik a[i] (by simp);have e:a[i]?=some a[i]:=getElem?_pos _ i hi;have F:a[i]=(.int n t,a[i].2):=Prod.ext G rfl;refine⟨t,a[i].2,?_⟩;unfold K;rw[e,F];rfl
theorem Up.Fv {a:Array Keyed}(u:Up a):jP a 0 a.size:=λi j _ G F=>by
 by_cases e:i=j
 .rw[e];exact Int.le_refl _
 .have hi:i<a.size:=af;have z:=List.pairwise_iff_getElem.mp u.up i j (by simpa using hi) (by simpa using F) af;rw[K_eq hi,K_eq F];simpa[le]using z
theorem jP.sub {a:Array Keyed}{lo hi F G:Nat}(h:jP a lo hi) (h1:lo<=F) (h2:G<=hi):jP a F G:=λi j hi I J=>h i j af I af
structure MI (a b out:Array Keyed) (ia ib:Nat):Prop where
 la:ia<=a.size
 lb:ib<=b.size
 pm:(out.toList++a.toList.drop ia++b.toList.drop ib).Perm (a.toList++b.toList)
 up:out.toList.Pairwise le
 ba:∀p∈out.toList,∀q∈a.toList.drop ia,le p q
 bb:∀p∈out.toList,∀q∈b.toList.drop ib,le p q
theorem MI.sz {a b out:Array Keyed}{F G:Nat}(m:MI a b out F G):out.size+(a.size-F)+(b.size-G)=a.size+b.size:=by
 have:=m.pm.length_eq;simp at this;lia
theorem MI.qG {a b out R:Array Keyed}{F L:Nat}(m:MI a b out F L) (ua:Up a) {k:Nat}(Y:F+k<=a.size) (J:R.toList=out.toList++(a.toList.drop F).take k) (h:∀p∈(a.toList.drop F).take k,∀q∈b.toList.drop L,le p q):MI a b R (F+k) L:=by
 have hd:a.toList.drop (F+k)=(a.toList.drop F).drop k:=(by rw[List.drop_drop]);have N:(a.toList.drop F).Pairwise le:=ua.up.sublist (drop_sublist _ _);have O:=N;rw[<-take_append_drop k (a.toList.drop F)]at O;obtain⟨S,p2,U⟩:=List.pairwise_append.mp O;refine⟨Y,m.lb,?_,?_,λp I q G=>?_,λp I q G=>?_⟩
 .rw[J,hd,append_assoc out.toList,take_append_drop];exact m.pm
 .rw[J,pairwise_append];exact⟨m.up,S,λp N q G=>m.ba p N q (List.mem_of_mem_take G)⟩
 .rw[hd]at G;rw[J]at I;rcases List.mem_append.mp I with z|z
  .exact m.ba p z q (List.mem_of_mem_drop G)
  .exact U p z q G
 .rw[J]at I;rcases List.mem_append.mp I with z|z
  .exact m.bb p z q G
  .exact h p z q G
theorem MI.qA {a b out R:Array Keyed}{N F:Nat}(m:MI a b out N F) (S:Up b) {k:Nat}(hk:F+k<=b.size) (J:R.toList=out.toList++(b.toList.drop F).take k) (h:∀p∈(b.toList.drop F).take k,∀q∈a.toList.drop N,le p q):MI a b R N (F+k):=by
 have hd:b.toList.drop (F+k)=(b.toList.drop F).drop k:=(by rw[List.drop_drop]);have L:(b.toList.drop F).Pairwise le:=S.up.sublist (drop_sublist _ _);have O:=L;rw[<-take_append_drop k (b.toList.drop F)]at O;obtain⟨U,p2,Y⟩:=List.pairwise_append.mp O;refine⟨m.la,hk,?_,?_,λp I q G=>?_,λp I q G=>?_⟩
 .refine List.Perm.trans ?_ m.pm;rw[J,hd];have e:b.toList.drop F=(b.toList.drop F).take k++(b.toList.drop F).drop k:=(take_append_drop _ _).symm
  conv=>rhs;rw[e]
  generalize (b.toList.drop F).take k=T;generalize (b.toList.drop F).drop k=D;rw[append_assoc,append_assoc,append_assoc];refine List.Perm.append_left _ ?_;rw[<-append_assoc, <-append_assoc];exact List.Perm.append_right _ perm_append_comm
 .rw[J,pairwise_append];exact⟨m.up,U,λp L q G=>m.bb p L q (List.mem_of_mem_take G)⟩
 .rw[J]at I;rcases List.mem_append.mp I with z|z
  .exact m.ba p z q G
  .exact h p z q G
 .rw[hd]at G;rw[J]at I;rcases List.mem_append.mp I with z|z
  .exact m.bb p z q (List.mem_of_mem_drop G)
  .exact Y p z q G
noncomputable def Good (a b R:Array Keyed):Prop:=R.toList.Perm (a.toList++b.toList)/\R.toList.Pairwise le
theorem dB {a:Array Keyed}{i:Nat}{q:Keyed}(h:q∈a.toList.drop i):∃j,i<=j/\j<a.size/\numOf q.1=K a j:=by
 obtain⟨n,F,e⟩:=List.mem_iff_getElem.mp h;have G:i+n<a.size:=by
  rw[length_drop]at F;simp at F;omega +splitNatSub
 refine⟨i+n,af,G,?_⟩;rw[K_eq G, <-e,List.getElem_drop];simp
theorem dA {a:Array Keyed}{i k:Nat}{q:Keyed}(h:q∈(a.toList.drop i).take k):∃j,j<k/\i+j<a.size/\numOf q.1=K a (i+j):=by
 obtain⟨n,G,e⟩:=List.mem_iff_getElem.mp h;rw[length_take,length_drop]at G;simp at G;have F:i+n<a.size:=(by omega +splitNatSub);refine⟨n,by omega +splitNatSub,F,?_⟩;rw[K_eq F, <-e,getElem_take,List.getElem_drop];simp
theorem MI.gu {a b out:Array Keyed}{F G:Nat}(m:MI a b out F G) (R:Up a) (U:Up b) (hi:F<a.size) {p:Keyed}(I:a[F]?=some p) (h:∀j,G<=j->j<b.size->K a F<=K b j):MI a b (out.push p) (F+1) G:=by
 have ep:a[F]=p:=(by rw[getElem?_pos a F hi]at I;exact Option.some.inj I);refine m.qG R (k:=1) af ?_ λx J q O=>?_
 .rw[toList_push,drop_eq_getElem_cons (by simpa using hi)];simp[ep]
 .obtain⟨j,Y,_,e⟩:=dA J;obtain⟨N,h2,S,L⟩:=dB O;have:j=0:=af;subst this;show numOf x.1<=numOf q.1;rw[e,L];exact h N h2 S
theorem MI.kl {a b out:Array Keyed}{G F:Nat}(m:MI a b out G F) (Y:Up a) (L:Up b) (hi:F<b.size) {p:Keyed}(I:b[F]?=some p) (h:∀j,G<=j->j<a.size->K b F<=K a j):MI a b (out.push p) G (F+1):=by
 have ep:b[F]=p:=(by rw[getElem?_pos b F hi]at I;exact Option.some.inj I);refine m.qA L (k:=1) af ?_ λx J q R=>?_
 .rw[toList_push,drop_eq_getElem_cons (by simpa using hi)];simp[ep]
 .obtain⟨j,U,_,e⟩:=dA J;obtain⟨O,h2,S,N⟩:=dB R;have:j=0:=af;subst this;show numOf x.1<=numOf q.1;rw[e,N];exact h O h2 S
theorem qR {a:Array Keyed}{i k:Nat}:(a.extract i (i+k)).toList=(a.toList.drop i).take k:=by
 rw[toList_extract,List.extract_eq_take_drop];congr 1;lia
theorem ju {a:Array Keyed}{i:Nat}:(a.extract i a.size).toList=a.toList.drop i:=by
 rw[toList_extract,List.extract_eq_take_drop];refine take_of_length_le ?_;rw[length_drop];simp
theorem MI.mX {a b out:Array Keyed}{G F:Nat}(m:MI a b out G F) (L:Up a) (h:F=b.size):Good a b (out++a.extract G a.size++b.extract F b.size):=by
 have e:(out++a.extract G a.size++b.extract F b.size).toList=out.toList++a.toList.drop G++b.toList.drop F:=by
  rw[toList_append,toList_append,ju,ju]
 refine⟨by rw[e];exact m.pm,?_⟩;rw[e,h,List.drop_of_length_le (l:=b.toList) (by simp),append_nil,pairwise_append];exact⟨m.up,L.up.sublist (drop_sublist _ _),λp I q J=>m.ba p I q J⟩
theorem MI.last {a b out:Array Keyed}{F G:Nat}(m:MI a b out F G) (S:Up a) (L:Up b) (hi:F+1=a.size) (h:∀j,G<=j->j<b.size->K b j<=K a F):Good a b (out++b.extract G b.size++a.extract F a.size):=by
 have e:(out++b.extract G b.size++a.extract F a.size).toList=out.toList++b.toList.drop G++a.toList.drop F:=by
  rw[toList_append,toList_append,ju,ju]
 refine⟨?_,?_⟩
 .rw[e];refine List.Perm.trans ?_ m.pm;rw[append_assoc,append_assoc];exact List.Perm.append_left _ perm_append_comm
 .rw[e,pairwise_append,pairwise_append];refine⟨⟨m.up,L.up.sublist (drop_sublist _ _),λp J q I=>m.bb p J q I⟩,S.up.sublist (drop_sublist _ _),λp J q I=>?_⟩;rcases List.mem_append.mp J with z|z
  .exact m.ba p z q I
  .obtain⟨j,h1,h2,R⟩:=dB z;obtain⟨O,Y,U,N⟩:=dB I;have:O=F:=af;subst this;show numOf p.1<=numOf q.1;rw[R,N];exact h j h1 h2
theorem MI.CB {a b out:Array Keyed}{F G:Nat}(m:MI a b out F G) (S:Up a) {k:Nat}(R:F+k<=a.size) (h:∀i j,i<k->G<=j->j<b.size->K a (F+i)<=K b j):MI a b (out++a.extract F (F+k)) (F+k) G :=
 m.qG S R (by rw[toList_append,qR]) λp O q Y=>by
  obtain⟨j,h1,h2,L⟩:=dA O;obtain⟨J,U,N,I⟩:=dB Y;show numOf p.1<=numOf q.1;rw[L,I];exact h j J h1 U N
theorem MI.zx {a b out:Array Keyed}{G F:Nat}(m:MI a b out G F) (I:Up b) {k:Nat}(S:F+k<=b.size) (h:∀i j,i<k->G<=j->j<a.size->K b (F+i)<=K a j):MI a b (out++b.extract F (F+k)) G (F+k):=
 m.qA I S (by rw[toList_append,qR]) λp R q Y=>by
  obtain⟨j,h1,h2,N⟩:=dA R;obtain⟨L,U,O,J⟩:=dB Y;show numOf p.1<=numOf q.1;rw[N,J];exact h j L h1 U O
theorem zp {a:Int}{xs:Array Keyed}{base n r:Nat}(G:∀i,i<r->fE false a xs base i=true) (F:∀i,r<=i->i<n->fE false a xs base i=false):(∀i,i<r->K xs (base+i)<=a)/\∀j,base+r<=j->j<base+n->a<K xs j:=by
 refine⟨λi hi=>?_,λj J I=>?_⟩
 .have:=G i hi;unfold fE at this;simpa using this
 .have:=F (j-base) af af;unfold fE at this;rw[show base+(j-base)=j by lia]at this;simpa using this
theorem qS {a:Int}{xs:Array Keyed}{base n r:Nat}(G:∀i,i<r->fE true a xs base i=true) (F:∀i,r<=i->i<n->fE true a xs base i=false):(∀i,i<r->K xs (base+i)<a)/\∀j,base+r<=j->j<base+n->a<=K xs j:=by
 refine⟨λi hi=>?_,λj J I=>?_⟩
 .have:=G i hi;unfold fE at this;simpa using this
 .have:=F (j-base) af af;unfold fE at this;rw[show base+(j-base)=j by lia]at this;simpa using this
theorem MI.grow {a b out O:Array Keyed}{J G I B:Nat}(m:MI a b out J G) (F:MI a b O I B) (h1:J<=I) (h2:G<=B):out.size<=O.size:=by
 have L:=m.sz;have N:=F.sz;have:=F.la;have:=F.lb;lia
noncomputable def y7:Array Keyed->Array Keyed->StateT SortSt Sem (Array Keyed):=sortPriv% PySem.Builtin.mergeLo
structure rX (st st':SortSt):Prop where
 arr:arrOf st'=arrOf st
 kind:kindOf st'=kindOf st
 failed:failedOf st'=failedOf st
 pend:pendingOf st'=pendingOf st
section
variable {prog:Program}{w:World}{A:Around}{E:Value->Shared->Prop}{s:Shared}{a₀:Array Keyed}
theorem aP {α:Type}{c:Prop} [Decidable c] {m n:StateT SortSt Sem α}{Q:α->SortSt->Prop}{st:SortSt}(h1:c->wpS (model prog w) A E s m Q st) (h2:¬ c->wpS (model prog w) A E s n Q st):wpS (model prog w) A E s (if c then m else n) Q st:=by
 by_cases z:c
 .rw[if_pos z];exact h1 z
 .rw[if_neg z];exact h2 z
noncomputable def C9:Nat->StateT SortSt Sem Unit:=sortPriv% PySem.Builtin.setMinGallop
theorem u5 {F st:SortSt}{g:Nat}{Q:Unit->SortSt->Prop}(k:rX F st) (h:∀G,rX F G->Q () G):wpS (model prog w) A E s (C9 g) Q st :=
 wpS_modify (h _ ⟨k.arr,k.kind,k.failed,k.pend⟩)
theorem sV {st:SortSt}{a b:Array Keyed}{Q:Array Keyed->SortSt->Prop}(hk:kindOf st=oneType') (J:Up a) (L:Up b) (na:1<=a.size) (nb:1<=b.size) (h0:K b 0<K a 0) (hl:∀j,j<b.size->K b j<K a (a.size-1))
  (h:∀R ab,Good a b R->rX st ab->Q R ab):wpS (model prog w) A E s (y7 a b) Q st:=by
 refine wpS_bind (wpS_lift (wpAny_rule ⟨rfl,?_⟩));obtain⟨t0,q0,e0⟩:=L.at (i:=0) (by((try dsimp only at *);omega));refine wpS_bind (bt e0 ?_);have sa:=J.Fv;have sb:=L.Fv;have M0:MI a b #[(Value.int (K b 0) t0,q0)] 0 1:=by
  have M:MI a b #[] 0 0:=⟨zero_le _,zero_le _,by simp,List.Pairwise.nil,(λp hp=>by cases hp),(λp hp=>by cases hp)⟩;exact M.kl J L (by((try dsimp only at *);omega)) e0 λj _ hj=>by
   have:=sa 0 j (by((try dsimp only at *);omega)) (by((try dsimp only at *);omega)) hj
   ((try dsimp only at *);omega)
 refine aP (λg=>?_) (λg=>?_)
 .exact wpS_pure (h _ _ (M0.mX J (by simpa using g)) ⟨rfl,rfl,rfl,rfl⟩)
 have g1:¬ 1=b.size:=(by simpa using g);refine aP (λg=>?_) (λg=>?_)
 .have g':0+1=a.size:=(by simpa using g);refine wpS_pure (h _ _ (M0.last J L g' λj _ hj=>?_) ⟨rfl,rfl,rfl,rfl⟩);have:=hl j hj;rw[<-g']at this;exact Int.le_of_lt this
 have g2:¬ 0+1=a.size:=(by simpa using g);refine wpS_bind (wpS_get ?_);refine wpS_bind (wpS_mono (wpS_forRange (I:=λx c ab=>Fw λout F G mg=>r9 (c=(none,out,F,G,mg)) (MI a b out F G) (F+1<a.size) (G<b.size) (x+1<=out.size) (rX st ab)) (Q:=λc ab=>∃R,qv (Good a b R) (c.1=some R) (rX st ab)) ?_ ?_ ?_) ?_)
 .rintro x c a2 bx bm ⟨out,F,G,mg,rfl,M,la,U,lo,K1⟩;refine wpS_bind (wpS_mono (wpS_forRange (I:=λy c ab=>zL λO F G ac bc=>r9 (c=(none,O,F,G,ac,bc)) (MI a b O F G) (F+1<a.size) (G<b.size) (out.size+y<=O.size) (rX st ab))
   (Q:=λc ab=>rX st ab/\((∃R,Good a b R/\c.1=some R)\/(zL λO F G ac bc=>Cs (c=(none,O,F,G,ac,bc)) (MI a b O F G) (F+1<a.size) (G<b.size) (out.size+1<=O.size)))) ?_ ?_ ?_) ?_)
  .rintro y c aB ba bb ⟨O,F,G,ac,bc,rfl,M,la,U,a6,K2⟩;have bi:kindOf aB=oneType':=K2.kind.trans hk;obtain⟨tb,qb,eb⟩:=L.at U;obtain⟨ta,qa,ea⟩:=J.at (i:=F) (by((try dsimp only at *);omega));refine wpS_bind (bt eb (wpS_bind (bt ea (wpS_bind (oZ bi rfl rfl ?_)))));by_cases c:K b G<K a F
   .rw[decide_eq_true c];refine wpS_bind (bt eb ?_);have M2:=M.kl J L U eb λj h1 h2=>by
     have:=sa F j (by((try dsimp only at *);omega)) h1 h2
     ((try dsimp only at *);omega)
    refine aP (λg=>?_) (λg=>?_)
    .exact wpS_pure ⟨K2,.inl ⟨_,M2.mX J (by simpa using g),rfl⟩⟩
    .have g':¬ G+1=b.size:=(by simpa using g);have sz:(O.push (Value.int (K b G) tb,qb)).size=O.size+1:=size_push ..;refine aP (λg=>?_) (λg=>?_)
     .exact wpS_pure ⟨K2,.inr ⟨O.push (Value.int (K b G) tb,qb),F,G+1,_,_,rfl,M2,la,by((try dsimp only at *);omega),by((try dsimp only at *);omega)⟩⟩
     .exact wpS_pure ⟨O.push (Value.int (K b G) tb,qb),F,G+1,_,_,rfl,M2,la,by((try dsimp only at *);omega),by((try dsimp only at *);omega),K2⟩
   .rw[decide_eq_false c];refine wpS_bind (bt ea ?_);have M2:=M.gu J L (by((try dsimp only at *);omega)) ea λj h1 h2=>by
     have:=sb G j (by((try dsimp only at *);omega)) h1 h2
     ((try dsimp only at *);omega)
    refine aP (λg=>?_) (λg=>?_)
    .have g':F+1+1=a.size:=(by simpa using g);refine wpS_pure ⟨K2,.inl ⟨_,M2.last J L g' (λj h1 h2=>?_),rfl⟩⟩;have:=hl j h2;rw[show a.size-1=F+1 by((try dsimp only at *);omega)]at this;exact Int.le_of_lt this
    .have g':¬ F+1+1=a.size:=(by simpa using g);have sz:(O.push (Value.int (K a F) ta,qa)).size=O.size+1:=size_push ..;refine aP (λg=>?_) (λg=>?_)
     .exact wpS_pure ⟨K2,.inr ⟨O.push (Value.int (K a F) ta,qa),F+1,G,_,_,rfl,M2,by((try dsimp only at *);omega),U,by((try dsimp only at *);omega)⟩⟩
     .exact wpS_pure ⟨O.push (Value.int (K a F) ta,qa),F+1,G,_,_,rfl,M2,by((try dsimp only at *);omega),U,by((try dsimp only at *);omega),K2⟩
  .rintro c aB ⟨O,F,G,ac,bc,rfl,M,la,U,a6,K2⟩;exact⟨K2,.inr ⟨_,_,_,_,_,rfl,M,la,U,by((try dsimp only at *);omega)⟩⟩
  .exact⟨out,F,G,_,_,rfl,M,la,U,by((try dsimp only at *);omega),K1⟩
  .rintro c aB ⟨K2,⟨R,hR,e⟩|⟨O,F,G,ac,bc,rfl,M,la,U,a6⟩⟩
   .obtain⟨c1,c2⟩:=c;cases e;exact wpS_pure ⟨R,hR,rfl,K2⟩
   .refine wpS_bind (wpS_lift (wpAny_rule ⟨rfl,?_⟩));refine wpS_bind (wpS_mono (wpS_forRange (I:=λy c ab=>Dv λap F G mg ac bc=>r9 (c=(none,ap,F,G,mg,ac,bc)) (MI a b ap F G) (F+1<a.size) (G<b.size) (O.size<=ap.size) (rX st ab))
     (Q:=λc ab=>rX st ab/\((∃R,Good a b R/\c.1=some R)\/(Dv λap F G mg ac bc=>Cs (c=(none,ap,F,G,mg,ac,bc)) (MI a b ap F G) (F+1<a.size) (G<b.size) (O.size<=ap.size)))) ?_ ?_ ?_) ?_)
    .rintro y c a7 ba bb ⟨ap,F,G,a4,ac,bc,rfl,M,la,U,am,K3⟩;refine aP (λg=>?_) (λg=>?_)
     all_goals
      refine wpS_bind (u5 K3 λa5 S=>?_);have aT:kindOf a5=oneType':=S.kind.trans hk;obtain⟨tb,qb,eb⟩:=L.at U;refine wpS_bind (bt eb (wpS_bind (dy (base:=F) (n:=a.size-F) (hint:=0) aT rfl (λi hi=>J.at (by((try dsimp only at *);omega))) (sa.sub (zero_le _) (by((try dsimp only at *);omega))) (by((try dsimp only at *);omega)) λr hr r1 r2=>?_)));obtain⟨R1,R2⟩:=zp r1 r2;rw[show F+(a.size-F)=a.size by((try dsimp only at *);omega)]at R2;have bn:F+r<a.size:=by
       by_cases z:F+r<a.size
       .exact z
       .have a1:=R1 (a.size-1-F) (by((try dsimp only at *);omega));rw[show F+(a.size-1-F)=a.size-1 by((try dsimp only at *);omega)]at a1;have:=hl G U
        ((try dsimp only at *);omega)
      have M1:=M.CB J (k:=r) (by((try dsimp only at *);omega)) λi j hi h1 h2=>Int.le_trans (R1 i hi) (sb G j (zero_le _) h1 h2);refine aP (λg2=>?_) (λg2=>?_)
      .refine aP (λg3=>?_) (λg3=>?_)
       .have g':F+r+1=a.size:=(by simpa using g3);refine wpS_pure ⟨S,.inl ⟨_,M1.last J L g' (λj h1 h2=>?_),rfl⟩⟩;have:=hl j h2;rw[show a.size-1=F+r by((try dsimp only at *);omega)]at this;exact Int.le_of_lt this
       .have bv:¬ F+r+1=a.size:=(by simpa using g3);refine aP (λg4=>?_) (λg4=>?_)
        .have g':F+r=a.size:=by simpa using g4
         ((try dsimp only at *);omega)
        .clear g4;have M2:=M1.kl J L U eb λj h1 h2=>Int.le_of_lt (R2 j (by((try dsimp only at *);omega)) h2);refine wpS_bind (bt eb ?_);refine aP (λg5=>wpS_pure ⟨S,.inl ⟨_,M2.mX J (by simpa using g5),rfl⟩⟩) (λg5=>?_);have bd:¬ G+1=b.size:=(by simpa using g5);obtain⟨ta,qa,ea⟩:=J.at (i:=F+r) (by((try dsimp only at *);omega));refine wpS_bind (bt ea (wpS_bind (dy (base:=G+1) (n:=b.size-(G+1)) (hint:=0) aT rfl (λi hi=>L.at (by((try dsimp only at *);omega))) (sb.sub (zero_le _) (by((try dsimp only at *);omega))) (by((try dsimp only at *);omega)) λr' bl a3 a0=>?_)));obtain⟨T1,T2⟩:=qS a3 a0;rw[show G+1+(b.size-(G+1))=b.size by((try dsimp only at *);omega)]at T2;have M3:=M2.zx L (k:=r') (by((try dsimp only at *);omega)) λi j hi h1 h2=>Int.le_of_lt (Int.lt_of_lt_of_le (T1 i hi) (sa _ j (zero_le _) h1 h2));refine aP (λg6=>?_) (λg6=>?_)
         .refine aP (λg7=>wpS_pure ⟨S,.inl ⟨_,M3.mX J (by simpa using g7),rfl⟩⟩) (λg7=>?_);have be:¬ G+1+r'=b.size:=(by simpa using g7);refine wpS_bind (bt ea ?_);have N:=M3.gu J L (by((try dsimp only at *);omega)) ea λj h1 h2=>T2 j (by((try dsimp only at *);omega)) h2;refine aP (λY=>?_) (λY=>?_)
          .have ad:F+r+1+1=a.size:=(by simpa using Y);refine wpS_pure ⟨S,.inl ⟨_,N.last J L ad (λj h1 h2=>?_),rfl⟩⟩;have:=hl j h2;rw[show a.size-1=F+r+1 by((try dsimp only at *);omega)]at this;exact Int.le_of_lt this
          .have ad:¬ F+r+1+1=a.size:=(by simpa using Y);refine aP (λg9=>wpS_pure ⟨S,.inr ⟨_,F+r+1,G+1+r',_,_,_,rfl,N,by((try dsimp only at *);omega),by((try dsimp only at *);omega),le_trans am (M.grow N (by((try dsimp only at *);omega)) (by((try dsimp only at *);omega)))⟩⟩) (λg9=>wpS_pure ⟨_,F+r+1,G+1+r',_,_,_,rfl,N,by((try dsimp only at *);omega),by((try dsimp only at *);omega),le_trans am (M.grow N (by((try dsimp only at *);omega)) (by((try dsimp only at *);omega))),S⟩)
         .have as:r'=0:=(by((try dsimp only at *);omega));subst as;refine wpS_bind (bt ea ?_);have N:=M2.gu J L (by((try dsimp only at *);omega)) ea λj h1 h2=>T2 j (by((try dsimp only at *);omega)) h2;refine aP (λY=>?_) (λY=>?_)
          .have ad:F+r+1+1=a.size:=(by simpa using Y);refine wpS_pure ⟨S,.inl ⟨_,N.last J L ad (λj h1 h2=>?_),rfl⟩⟩;have:=hl j h2;rw[show a.size-1=F+r+1 by((try dsimp only at *);omega)]at this;exact Int.le_of_lt this
          .have ad:¬ F+r+1+1=a.size:=(by simpa using Y);refine aP (λg9=>wpS_pure ⟨S,.inr ⟨_,F+r+1,G+1,_,_,_,rfl,N,by((try dsimp only at *);omega),by((try dsimp only at *);omega),le_trans am (M.grow N (by((try dsimp only at *);omega)) (by((try dsimp only at *);omega)))⟩⟩) (λg9=>wpS_pure ⟨_,F+r+1,G+1,_,_,_,rfl,N,by((try dsimp only at *);omega),by((try dsimp only at *);omega),le_trans am (M.grow N (by((try dsimp only at *);omega)) (by((try dsimp only at *);omega))),S⟩)
      .have r0:r=0:=(by((try dsimp only at *);omega));subst r0;have M2:=M.kl J L U eb λj h1 h2=>Int.le_of_lt (R2 j (by((try dsimp only at *);omega)) h2);refine wpS_bind (bt eb ?_);refine aP (λg5=>wpS_pure ⟨S,.inl ⟨_,M2.mX J (by simpa using g5),rfl⟩⟩) (λg5=>?_);have bd:¬ G+1=b.size:=(by simpa using g5);obtain⟨ta,qa,ea⟩:=J.at (i:=F) (by((try dsimp only at *);omega));refine wpS_bind (bt ea (wpS_bind (dy (base:=G+1) (n:=b.size-(G+1)) (hint:=0) aT rfl (λi hi=>L.at (by((try dsimp only at *);omega))) (sb.sub (zero_le _) (by((try dsimp only at *);omega))) (by((try dsimp only at *);omega)) λr' bl a3 a0=>?_)));obtain⟨T1,T2⟩:=qS a3 a0;rw[show G+1+(b.size-(G+1))=b.size by((try dsimp only at *);omega)]at T2;have M3:=M2.zx L (k:=r') (by((try dsimp only at *);omega)) λi j hi h1 h2=>Int.le_of_lt (Int.lt_of_lt_of_le (T1 i hi) (sa _ j (zero_le _) h1 h2));refine aP (λg6=>?_) (λg6=>?_)
       .refine aP (λg7=>wpS_pure ⟨S,.inl ⟨_,M3.mX J (by simpa using g7),rfl⟩⟩) (λg7=>?_);have be:¬ G+1+r'=b.size:=(by simpa using g7);refine wpS_bind (bt ea ?_);have N:=M3.gu J L (by((try dsimp only at *);omega)) ea λj h1 h2=>T2 j (by((try dsimp only at *);omega)) h2;refine aP (λY=>?_) (λY=>?_)
        .have ad:F+1+1=a.size:=(by simpa using Y);refine wpS_pure ⟨S,.inl ⟨_,N.last J L ad (λj h1 h2=>?_),rfl⟩⟩;have:=hl j h2;rw[show a.size-1=F+1 by((try dsimp only at *);omega)]at this;exact Int.le_of_lt this
        .have ad:¬ F+1+1=a.size:=(by simpa using Y);refine aP (λg9=>wpS_pure ⟨S,.inr ⟨_,F+1,G+1+r',_,_,_,rfl,N,by((try dsimp only at *);omega),by((try dsimp only at *);omega),le_trans am (M.grow N (by((try dsimp only at *);omega)) (by((try dsimp only at *);omega)))⟩⟩) (λg9=>wpS_pure ⟨_,F+1,G+1+r',_,_,_,rfl,N,by((try dsimp only at *);omega),by((try dsimp only at *);omega),le_trans am (M.grow N (by((try dsimp only at *);omega)) (by((try dsimp only at *);omega))),S⟩)
       .have as:r'=0:=(by((try dsimp only at *);omega));subst as;refine wpS_bind (bt ea ?_);have N:=M2.gu J L (by((try dsimp only at *);omega)) ea λj h1 h2=>T2 j (by((try dsimp only at *);omega)) h2;refine aP (λY=>?_) (λY=>?_)
        .have ad:F+1+1=a.size:=(by simpa using Y);refine wpS_pure ⟨S,.inl ⟨_,N.last J L ad (λj h1 h2=>?_),rfl⟩⟩;have:=hl j h2;rw[show a.size-1=F+1 by((try dsimp only at *);omega)]at this;exact Int.le_of_lt this
        .have ad:¬ F+1+1=a.size:=(by simpa using Y);refine aP (λg9=>wpS_pure ⟨S,.inr ⟨_,F+1,G+1,_,_,_,rfl,N,by((try dsimp only at *);omega),by((try dsimp only at *);omega),le_trans am (M.grow N (by((try dsimp only at *);omega)) (by((try dsimp only at *);omega)))⟩⟩) (λg9=>wpS_pure ⟨_,F+1,G+1,_,_,_,rfl,N,by((try dsimp only at *);omega),by((try dsimp only at *);omega),le_trans am (M.grow N (by((try dsimp only at *);omega)) (by((try dsimp only at *);omega))),S⟩)
    .rintro c a7 ⟨ap,F,G,a4,ac,bc,rfl,M,la,U,am,K3⟩;exact⟨K3,.inr ⟨_,_,_,_,_,_,rfl,M,la,U,am⟩⟩
    .exact⟨O,F,G,_,_,_,rfl,M,la,U,le_refl _,K2⟩
    .rintro c a7 ⟨K3,⟨R,hR,e⟩|⟨ap,F,G,a4,ac,bc,rfl,M,la,U,am⟩⟩
     .obtain⟨c1,c2⟩:=c;cases e;exact wpS_pure ⟨R,hR,rfl,K3⟩
     .refine wpS_bind (u5 K3 λa5 S=>?_);exact wpS_pure ⟨ap,F,G,_,rfl,M,la,U,by((try dsimp only at *);omega),S⟩
 .rintro c a2 ⟨out,F,G,mg,rfl,M,la,U,lo,K1⟩;exfalso;have:=M.sz
  ((try dsimp only at *);omega)
 .exact⟨_,_,_,_,rfl,M0,by((try dsimp only at *);omega),by((try dsimp only at *);omega),le_refl _,⟨rfl,rfl,rfl,rfl⟩⟩
 .rintro c a2 ⟨R,hR,e,K1⟩;obtain⟨c1,c2⟩:=c;cases e;exact wpS_pure (h R a2 hR K1)
end
noncomputable def seg (a:Array Keyed) (k n:Nat):List Keyed:=(a.toList.drop k).take (n-k)
theorem ie {a:Array Keyed}{k n:Nat}(h:k<=n):a.toList.take n=a.toList.take k++seg a k n:=by
 unfold seg;have e:a.toList.take k=(a.toList.take n).take k:=(by rw[List.take_take,min_eq_left h]);rw[e, <-List.drop_take,take_append_drop]
theorem kI {a:Array Keyed}{k n:Nat}{q:Keyed}(h:q∈seg a k n):∃j,k<=j/\j<n/\j<a.size/\numOf q.1=K a j:=by
 obtain⟨j,h1,h2,e⟩:=dA h;exact⟨k+j,af,af,h2,e⟩
theorem kM {a:Array Keyed}{n:Nat}{q:Keyed}(h:q∈a.toList.take n):∃j,j<n/\j<a.size/\numOf q.1=K a j:=by
 have:q∈(a.toList.drop 0).take n:=(by rw[List.drop_zero];exact h);obtain⟨j,h1,h2,e⟩:=dA this;rw[zero_add]at h2 e;exact⟨j,h1,h2,e⟩
theorem gn {a:Array Keyed}{k n:Nat}:(a.extract k n).toList=seg a k n:=by
 unfold seg;rw[toList_extract,List.extract_eq_take_drop]
theorem kF {a:Array Keyed}{n:Nat}:(a.extract 0 n).toList=a.toList.take n:=by
 rw[toList_extract,List.extract_eq_take_drop];simp
theorem vF {a:Array Keyed}{k:Nat}(h:k<a.size):seg a k (k+1)=[a[k]]:=by
 unfold seg;rw[drop_eq_getElem_cons (by simpa using h)];simp
structure MH (a b out:Array Keyed) (na nb:Nat):Prop where
 la:na<=a.size
 lb:nb<=b.size
 pm:(a.toList.take na++b.toList.take nb++out.toList.reverse).Perm (a.toList++b.toList)
 up:out.toList.reverse.Pairwise le
 ab:∀p∈a.toList.take na,∀q∈out.toList,le p q
 bb:∀p∈b.toList.take nb,∀q∈out.toList,le p q
theorem MH.sz {a b out:Array Keyed}{F G:Nat}(m:MH a b out F G):out.size+F+G=a.size+b.size:=by
 have:=m.pm.length_eq;have h1:=m.la;have h2:=m.lb;simp at this;omega
theorem MH.grow {a b out O:Array Keyed}{G F I B:Nat}(m:MH a b out G F) (J:MH a b O I B) (h1:I<=G) (h2:B<=F):out.size<=O.size:=by
 have L:=m.sz;have N:=J.sz;omega
theorem kR {out:Array Keyed}{l r:List Keyed}{q:Keyed}(h:out.toList.reverse=l++r.reverse) (F:q∈out.toList):q∈l\/q∈r:=by
 have:q∈out.toList.reverse:=List.mem_reverse.mpr F;rw[h]at this;rcases List.mem_append.mp this with z|z
 .exact .inl z
 .exact .inr (List.mem_reverse.mp z)
theorem MH.qG {a b out R:Array Keyed}{F N k:Nat}(m:MH a b out F N) (ua:Up a) (hk:k<=F) (J:R.toList.reverse=seg a k F++out.toList.reverse) (h:∀i j,i<N->i<b.size->k<=j->j<F->K b i<=K a j):MH a b R k N:=by
 have O:=ie (a:=a) hk;have L:(a.toList.take F).Pairwise le:=ua.up.sublist (take_sublist _ _);rw[O]at L;obtain⟨p1,p2,p3⟩:=List.pairwise_append.mp L;have ac:=m.la;refine⟨af,m.lb,?_,?_,λp I q G=>?_,λp I q G=>?_⟩
 .refine List.Perm.trans ?_ m.pm;rw[J,O];generalize seg a k F=T;generalize a.toList.take k=D;generalize b.toList.take N=B;rw[append_assoc,append_assoc,append_assoc];refine List.Perm.append_left _ ?_;rw[<-append_assoc, <-append_assoc];exact List.Perm.append_right _ perm_append_comm
 .rw[J,pairwise_append];refine⟨p2,m.up,λp L q G=>m.ab p ?_ q (List.mem_reverse.mp G)⟩;rw[O];exact mem_append_right _ L
 .rcases kR J G with z|z
  .exact p3 p I q z
  .refine m.ab p ?_ q z;rw[O];exact mem_append_left _ I
 .rcases kR J G with z|z
  .obtain⟨i,i1,S,e1⟩:=kM I;obtain⟨j,j1,Y,j3,U⟩:=kI z;show numOf p.1<=numOf q.1;rw[e1,U];exact h i j i1 S j1 Y
  .exact m.bb p I q z
theorem MH.qA {a b out R:Array Keyed}{L F k:Nat}(m:MH a b out L F) (U:Up b) (hk:k<=F) (J:R.toList.reverse=seg b k F++out.toList.reverse) (h:∀i j,i<L->i<a.size->k<=j->j<F->K a i<=K b j):MH a b R L k:=by
 have O:=ie (a:=b) hk;have N:(b.toList.take F).Pairwise le:=U.up.sublist (take_sublist _ _);rw[O]at N;obtain⟨p1,p2,p3⟩:=List.pairwise_append.mp N;have ac:=m.lb;refine⟨m.la,af,?_,?_,λp I q G=>?_,λp I q G=>?_⟩
 .refine List.Perm.trans ?_ m.pm;rw[J,O];generalize seg b k F=T;generalize b.toList.take k=D;generalize a.toList.take L=B;rw[append_assoc,append_assoc,append_assoc]
 .rw[J,pairwise_append];refine⟨p2,m.up,λp N q G=>m.bb p ?_ q (List.mem_reverse.mp G)⟩;rw[O];exact mem_append_right _ N
 .rcases kR J G with z|z
  .obtain⟨i,i1,S,e1⟩:=kM I;obtain⟨j,j1,j2,j3,Y⟩:=kI z;show numOf p.1<=numOf q.1;rw[e1,Y];exact h i j i1 S j1 j2
  .exact m.ab p I q z
 .rcases kR J G with z|z
  .exact p3 p I q z
  .refine m.bb p ?_ q z;rw[O];exact mem_append_left _ I
theorem MH.gu {a b out:Array Keyed}{F G:Nat}(m:MH a b out F G) (J:Up a) (N:1<=F) {p:Keyed}(I:a[F-1]?=some p) (h:∀i,i<G->i<b.size->K b i<=K a (F-1)):MH a b (out.push p) (F-1) G:=by
 have L:=m.la;have hi:F-1<a.size:=af;have ep:a[F-1]=p:=(by rw[getElem?_pos a _ hi]at I;exact Option.some.inj I);refine m.qG J af ?_ λi j h1 h2 R O=>?_
 .have:=vF hi;rw[show F-1+1=F by omega]at this;rw[this,toList_push,reverse_append,ep];rfl
 .rw[show j=F-1 by omega];exact h i h1 h2
theorem MH.kl {a b out:Array Keyed}{G F:Nat}(m:MH a b out G F) (J:Up b) (N:1<=F) {p:Keyed}(I:b[F-1]?=some p) (h:∀i,i<G->i<a.size->K a i<=K b (F-1)):MH a b (out.push p) G (F-1):=by
 have L:=m.lb;have hi:F-1<b.size:=af;have ep:b[F-1]=p:=(by rw[getElem?_pos b _ hi]at I;exact Option.some.inj I);refine m.qA J af ?_ λi j h1 h2 R O=>?_
 .have:=vF hi;rw[show F-1+1=F by omega]at this;rw[this,toList_push,reverse_append,ep];rfl
 .rw[show j=F-1 by omega];exact h i h1 h2
theorem MH.CB {a b out:Array Keyed}{F G k:Nat}(m:MH a b out F G) (J:Up a) (I:k<=F) (h:∀i j,i<G->i<b.size->k<=j->j<F->K b i<=K a j):MH a b (out++(a.extract k F).reverse) k G :=
 m.qG J I (by rw[toList_append,reverse_append,toList_reverse,List.reverse_reverse,gn]) h
theorem MH.zx {a b out:Array Keyed}{G F k:Nat}(m:MH a b out G F) (I:Up b) (J:k<=F) (h:∀i j,i<G->i<a.size->k<=j->j<F->K a i<=K b j):MH a b (out++(b.extract k F).reverse) G k :=
 m.qA I J (by rw[toList_append,reverse_append,toList_reverse,List.reverse_reverse,gn]) h
theorem MH.done {a b out:Array Keyed}{G F:Nat}(m:MH a b out G F) (N:Up a) (L:Up b) (h:G=0\/F=0):Good a b (a.extract 0 G++b.extract 0 F++out.reverse):=by
 have e:(a.extract 0 G++b.extract 0 F++out.reverse).toList=a.toList.take G++b.toList.take F++out.toList.reverse:=by
  rw[toList_append,toList_append,kF,kF,toList_reverse]
 refine⟨by rw[e];exact m.pm,?_⟩;rw[e];rcases h with h|h
 .rw[h,take_zero,List.nil_append,pairwise_append];exact⟨L.up.sublist (take_sublist _ _),m.up,λp I q J=>m.bb p I q (List.mem_reverse.mp J)⟩
 .rw[h,take_zero,append_nil,pairwise_append];exact⟨N.up.sublist (take_sublist _ _),m.up,λp I q J=>m.ab p I q (List.mem_reverse.mp J)⟩
theorem MH.first {a b out:Array Keyed}{G F:Nat}(m:MH a b out G F) (S:Up a) (L:Up b) (hn:F=1) (h:∀j,j<a.size->K b 0<=K a j):Good a b (b.extract 0 F++a.extract 0 G++out.reverse):=by
 have e:(b.extract 0 F++a.extract 0 G++out.reverse).toList=b.toList.take F++a.toList.take G++out.toList.reverse:=by
  rw[toList_append,toList_append,kF,kF,toList_reverse]
 refine⟨?_,?_⟩
 .rw[e];exact(List.Perm.append_right _ perm_append_comm).trans m.pm
 .rw[e,pairwise_append,pairwise_append];refine⟨⟨L.up.sublist (take_sublist _ _),S.up.sublist (take_sublist _ _),λp J q I=>?_⟩,m.up,λp J q I=>?_⟩
  .obtain⟨i,Y,U,R⟩:=kM J;obtain⟨j,j1,O,N⟩:=kM I;show numOf p.1<=numOf q.1;rw[R,N,show i=0 by omega];exact h j O
  .rcases List.mem_append.mp J with z|z
   .exact m.bb p z q (List.mem_reverse.mp I)
   .exact m.ab p z q (List.mem_reverse.mp I)
noncomputable def xY:Array Keyed->Array Keyed->StateT SortSt Sem (Array Keyed):=sortPriv% PySem.Builtin.mergeHi
section
variable {prog:Program}{w:World}{A:Around}{E:Value->Shared->Prop}{s:Shared}{a₀:Array Keyed}
theorem tS {st:SortSt}{a b:Array Keyed}{Q:Array Keyed->SortSt->Prop}(hk:kindOf st=oneType') (J:Up a) (L:Up b) (G:1<=a.size) (F:1<=b.size) (h0:K b 0<K a 0) (hl:∀j,j<b.size->K b j<K a (a.size-1))
  (h:∀R ab,Good a b R->rX st ab->Q R ab):wpS (model prog w) A E s (xY a b) Q st:=by
 refine wpS_bind (wpS_lift (wpAny_rule ⟨rfl,?_⟩));have sa:=J.Fv;have sb:=L.Fv;have as:∀j,j<a.size->K b 0<=K a j:=λj hj=>by
  have:=sa 0 j (zero_le _) (zero_le _) hj
  ((try dsimp only at *);lia)
 obtain⟨t0,q0,e0⟩:=J.at (i:=a.size-1) (by omega +splitNatSub);refine wpS_bind (bt e0 ?_);have M0:MH a b #[(Value.int (K a (a.size-1)) t0,q0)] (a.size-1) b.size:=by
  have M:MH a b #[] a.size b.size:=⟨le_refl _,le_refl _,(by rw[take_of_length_le (l:=a.toList) (by simp),take_of_length_le (l:=b.toList) (by simp)];simp),List.Pairwise.nil,(λp _ q hq=>by cases hq),(λp _ q hq=>by cases hq)⟩;exact M.gu J G e0 λi h1 h2=>Int.le_of_lt (hl i h2)
 refine aP (λg=>wpS_pure (h _ _ (M0.done J L (.inl (by simpa using g))) ⟨rfl,rfl,rfl,rfl⟩)) (λg=>?_);have g1:¬ a.size-1=0:=(by simpa using g);refine aP (λg=>wpS_pure (h _ _ (M0.first J L (by simpa using g) as) ⟨rfl,rfl,rfl,rfl⟩)) (λg=>?_);have g2:¬ b.size=1:=(by simpa using g);refine wpS_bind (wpS_get ?_);refine wpS_bind (wpS_mono (wpS_forRange (I:=λx c ab=>Fw λG F out mg=>r9 (c=(none,G,F,out,mg)) (MH a b out G F) (1<=G) (2<=F) (x+1<=out.size) (rX st ab)) (Q:=λc ab=>∃R,qv (Good a b R) (c.1=some R) (rX st ab)) ?_ ?_ ?_) ?_)
 .rintro x c a3 bI bx ⟨G,F,out,mg,rfl,M,la,lb,lo,K1⟩;refine wpS_bind (wpS_mono (wpS_forRange (I:=λy c ab=>zL λG F S ac bc=>r9 (c=(none,G,F,S,ac,bc)) (MH a b S G F) (1<=G) (2<=F) (out.size+y<=S.size) (rX st ab))
   (Q:=λc ab=>rX st ab/\((∃R,Good a b R/\c.1=some R)\/(zL λG F S ac bc=>Cs (c=(none,G,F,S,ac,bc)) (MH a b S G F) (1<=G) (2<=F) (out.size+1<=S.size)))) ?_ ?_ ?_) ?_)
  .rintro y c a0 bb bd ⟨G,F,S,ac,bc,rfl,M,la,lb,a7,K2⟩;have bl:kindOf a0=oneType':=K2.kind.trans hk;have lA:=M.la;have lB:=M.lb;obtain⟨tb,qb,eb⟩:=L.at (i:=F-1) (by((try dsimp only at *);lia));obtain⟨ta,qa,ea⟩:=J.at (i:=G-1) (by((try dsimp only at *);lia));refine wpS_bind (bt eb (wpS_bind (bt ea (wpS_bind (oZ bl rfl rfl ?_)))));by_cases c:K b (F-1)<K a (G-1)
   .rw[decide_eq_true c];refine wpS_bind (bt ea ?_);have M2:=M.gu J (by omega +splitNatSub) ea λi h1 h2=>Int.le_of_lt (Int.lt_of_le_of_lt (sb i (F-1) (zero_le _) (by((try dsimp only at *);lia)) (by((try dsimp only at *);lia))) c);refine aP (λg=>wpS_pure ⟨K2,.inl ⟨_,M2.done J L (.inl (by simpa using g)),rfl⟩⟩) (λg=>?_);have g':¬ G-1=0:=(by simpa using g);have sz:(S.push (Value.int (K a (G-1)) ta,qa)).size=S.size+1:=size_push ..;exact aP (λg=>wpS_pure ⟨K2,.inr ⟨G-1,F,S.push (Value.int (K a (G-1)) ta,qa),_,_,rfl,M2,by((try dsimp only at *);lia),lb,by((try dsimp only at *);lia)⟩⟩) (λg=>wpS_pure ⟨G-1,F,S.push (Value.int (K a (G-1)) ta,qa),_,_,rfl,M2,by((try dsimp only at *);lia),lb,by((try dsimp only at *);lia),K2⟩)
   .rw[decide_eq_false c];refine wpS_bind (bt eb ?_);have M2:=M.kl L (by((try dsimp only at *);lia)) eb λi h1 h2=>Int.le_trans (sa i (G-1) (zero_le _) (by((try dsimp only at *);lia)) (by((try dsimp only at *);lia))) (Int.not_lt.mp c);refine aP (λg=>wpS_pure ⟨K2,.inl ⟨_,M2.first J L (by simpa using g) as,rfl⟩⟩) (λg=>?_);have g':¬ F-1=1:=(by simpa using g);have sz:(S.push (Value.int (K b (F-1)) tb,qb)).size=S.size+1:=size_push ..;exact aP (λg=>wpS_pure ⟨K2,.inr ⟨G,F-1,S.push (Value.int (K b (F-1)) tb,qb),_,_,rfl,M2,la,by((try dsimp only at *);lia),by((try dsimp only at *);lia)⟩⟩) (λg=>wpS_pure ⟨G,F-1,S.push (Value.int (K b (F-1)) tb,qb),_,_,rfl,M2,la,by((try dsimp only at *);lia),by((try dsimp only at *);lia),K2⟩)
  .rintro c a0 ⟨G,F,S,ac,bc,rfl,M,la,lb,a7,K2⟩;exact⟨K2,.inr ⟨G,F,S,_,_,rfl,M,la,lb,by((try dsimp only at *);lia)⟩⟩
  .exact⟨G,F,out,_,_,rfl,M,la,lb,by((try dsimp only at *);lia),K1⟩
  .rintro c a0 ⟨K2,⟨R,hR,e⟩|⟨G,F,S,ac,bc,rfl,M,la,lb,a7⟩⟩
   .obtain⟨c1,c2⟩:=c;cases e;exact wpS_pure ⟨R,hR,rfl,K2⟩
   .refine wpS_bind (wpS_lift (wpAny_rule ⟨rfl,?_⟩));refine wpS_bind (wpS_mono (wpS_forRange (I:=λy c ab=>Dv λG F ad mg ac bc=>r9 (c=(none,G,F,ad,mg,ac,bc)) (MH a b ad G F) (1<=G) (2<=F) (S.size<=ad.size) (rX st ab))
     (Q:=λc ab=>rX st ab/\((∃R,Good a b R/\c.1=some R)\/(Dv λG F ad mg ac bc=>Cs (c=(none,G,F,ad,mg,ac,bc)) (MH a b ad G F) (1<=G) (2<=F) (S.size<=ad.size)))) ?_ ?_ ?_) ?_)
    .rintro y c ba bb bd ⟨G,F,ad,a5,ac,bc,rfl,M,la,lb,am,K3⟩;refine aP (λg=>?_) (λg=>?_)
     all_goals
      refine wpS_bind (u5 K3 λa6 O=>?_);have a1:kindOf a6=oneType':=O.kind.trans hk;have lA:=M.la;have lB:=M.lb;obtain⟨tb,qb,eb⟩:=L.at (i:=F-1) (by((try dsimp only at *);lia));refine wpS_bind (bt eb (wpS_bind (dy (base:=0) (n:=G) (hint:=G-1) a1 rfl (λi hi=>J.at (by((try dsimp only at *);lia))) (sa.sub (zero_le _) (by((try dsimp only at *);lia))) (by((try dsimp only at *);lia)) λr hr r1 r2=>?_)));obtain⟨R1,R2⟩:=zp r1 r2;simp only[zero_add]at R1 R2;have M1:=M.CB J (k:=r) (by omega +splitNatSub) λi j h1 h2 h3 h4=>Int.le_of_lt (Int.lt_of_le_of_lt (sb i (F-1) (zero_le _) (by((try dsimp only at *);lia)) (by((try dsimp only at *);lia))) (R2 j h3 h4));refine aP (λg2=>?_) (λg2=>?_)
      .refine aP (λg3=>wpS_pure ⟨O,.inl ⟨_,M1.done J L (.inl (by simpa using g3)),rfl⟩⟩) (λg3=>?_);have bG:¬ r=0:=(by simpa using g3);have M2:=M1.kl L (by((try dsimp only at *);lia)) eb λi h1 h2=>R1 i (by omega +splitNatSub);refine wpS_bind (bt eb ?_);refine aP (λg5=>wpS_pure ⟨O,.inl ⟨_,M2.first J L (by simpa using g5) as,rfl⟩⟩) (λg5=>?_);have be:¬ F-1=1:=(by simpa using g5);obtain⟨ta,qa,ea⟩:=J.at (i:=r-1) (by((try dsimp only at *);lia));refine wpS_bind (bt ea (wpS_bind (dy (base:=0) (n:=F-1) (hint:=F-1-1) a1 rfl (λi hi=>L.at (by((try dsimp only at *);lia))) (sb.sub (zero_le _) (by((try dsimp only at *);lia))) (by((try dsimp only at *);lia)) λU bn a4 a2=>?_)));obtain⟨T1,T2⟩:=qS a4 a2;simp only[zero_add]at T1 T2;have M3:=M2.zx L (k:=U) (by omega +splitNatSub) λi j h1 h2 h3 h4=>Int.le_trans (sa i (r-1) (zero_le _) (by((try dsimp only at *);lia)) (by((try dsimp only at *);lia))) (T2 j h3 h4);refine aP (λg6=>?_) (λg6=>?_)
       .refine aP (λg7=>wpS_pure ⟨O,.inl ⟨_,M3.first J L (by simpa using g7) as,rfl⟩⟩) (λg7=>?_);have bi:¬ U=1:=(by simpa using g7);refine aP (λap=>wpS_pure ⟨O,.inl ⟨_,M3.done J L (.inr (by simpa using ap)),rfl⟩⟩) (λap=>?_);have bm:¬ U=0:=(by simpa using ap);refine wpS_bind (bt ea ?_);have N:=M3.gu J (by((try dsimp only at *);lia)) ea λi h1 h2=>Int.le_of_lt (T1 i (by omega +splitNatSub));refine aP (λY=>wpS_pure ⟨O,.inl ⟨_,N.done J L (.inl (by simpa using Y)),rfl⟩⟩) (λY=>?_);have aB:¬ r-1=0:=(by simpa using Y);exact aP (λg9=>wpS_pure ⟨O,.inr ⟨r-1,U,_,_,_,_,rfl,N,by((try dsimp only at *);lia),by((try dsimp only at *);lia),le_trans am (M.grow N (by((try dsimp only at *);lia)) (by((try dsimp only at *);lia)))⟩⟩) (λg9=>wpS_pure ⟨r-1,U,_,_,_,_,rfl,N,by((try dsimp only at *);lia),by((try dsimp only at *);lia),le_trans am (M.grow N (by((try dsimp only at *);lia)) (by((try dsimp only at *);lia))),O⟩)
       .have bv:¬ F-1-U>0:=g6;have aT:U=F-1:=(by((try dsimp only at *);lia));subst aT;refine wpS_bind (bt ea ?_);have N:=M2.gu J (by((try dsimp only at *);lia)) ea λi h1 h2=>Int.le_of_lt (T1 i (by omega +splitNatSub));refine aP (λY=>wpS_pure ⟨O,.inl ⟨_,N.done J L (.inl (by simpa using Y)),rfl⟩⟩) (λY=>?_);have aB:¬ r-1=0:=(by simpa using Y);exact aP (λg9=>wpS_pure ⟨O,.inr ⟨r-1,F-1,_,_,_,_,rfl,N,by((try dsimp only at *);lia),by((try dsimp only at *);lia),le_trans am (M.grow N (by((try dsimp only at *);lia)) (by((try dsimp only at *);lia)))⟩⟩) (λg9=>wpS_pure ⟨r-1,F-1,_,_,_,_,rfl,N,by((try dsimp only at *);lia),by((try dsimp only at *);lia),le_trans am (M.grow N (by((try dsimp only at *);lia)) (by((try dsimp only at *);lia))),O⟩)
      .have bz:¬ G-r>0:=g2;have r0:r=G:=(by((try dsimp only at *);lia));subst r0;have M2:=M.kl L (by((try dsimp only at *);lia)) eb λi h1 h2=>R1 i (by omega +splitNatSub);refine wpS_bind (bt eb ?_);refine aP (λg5=>wpS_pure ⟨O,.inl ⟨_,M2.first J L (by simpa using g5) as,rfl⟩⟩) (λg5=>?_);have be:¬ F-1=1:=(by simpa using g5);obtain⟨ta,qa,ea⟩:=J.at (i:=r-1) (by((try dsimp only at *);lia));refine wpS_bind (bt ea (wpS_bind (dy (base:=0) (n:=F-1) (hint:=F-1-1) a1 rfl (λi hi=>L.at (by((try dsimp only at *);lia))) (sb.sub (zero_le _) (by((try dsimp only at *);lia))) (by((try dsimp only at *);lia)) λU bn a4 a2=>?_)));obtain⟨T1,T2⟩:=qS a4 a2;simp only[zero_add]at T1 T2;have M3:=M2.zx L (k:=U) (by omega +splitNatSub) λi j h1 h2 h3 h4=>Int.le_trans (sa i (r-1) (zero_le _) (by((try dsimp only at *);lia)) (by((try dsimp only at *);lia))) (T2 j h3 h4);refine aP (λg6=>?_) (λg6=>?_)
       .refine aP (λg7=>wpS_pure ⟨O,.inl ⟨_,M3.first J L (by simpa using g7) as,rfl⟩⟩) (λg7=>?_);have bi:¬ U=1:=(by simpa using g7);refine aP (λap=>wpS_pure ⟨O,.inl ⟨_,M3.done J L (.inr (by simpa using ap)),rfl⟩⟩) (λap=>?_);have bm:¬ U=0:=(by simpa using ap);refine wpS_bind (bt ea ?_);have N:=M3.gu J (by omega +splitNatSub) ea λi h1 h2=>Int.le_of_lt (T1 i (by omega +splitNatSub));refine aP (λY=>wpS_pure ⟨O,.inl ⟨_,N.done J L (.inl (by simpa using Y)),rfl⟩⟩) (λY=>?_);have aB:¬ r-1=0:=(by simpa using Y);exact aP (λg9=>wpS_pure ⟨O,.inr ⟨r-1,U,_,_,_,_,rfl,N,by((try dsimp only at *);lia),by((try dsimp only at *);lia),le_trans am (M.grow N (by((try dsimp only at *);lia)) (by((try dsimp only at *);lia)))⟩⟩) (λg9=>wpS_pure ⟨r-1,U,_,_,_,_,rfl,N,by((try dsimp only at *);lia),by((try dsimp only at *);lia),le_trans am (M.grow N (by((try dsimp only at *);lia)) (by((try dsimp only at *);lia))),O⟩)
       .have bv:¬ F-1-U>0:=g6;have aT:U=F-1:=(by((try dsimp only at *);lia));subst aT;refine wpS_bind (bt ea ?_);have N:=M2.gu J (by omega +splitNatSub) ea λi h1 h2=>Int.le_of_lt (T1 i (by omega +splitNatSub));refine aP (λY=>wpS_pure ⟨O,.inl ⟨_,N.done J L (.inl (by simpa using Y)),rfl⟩⟩) (λY=>?_);have aB:¬ r-1=0:=(by simpa using Y);exact aP (λg9=>wpS_pure ⟨O,.inr ⟨r-1,F-1,_,_,_,_,rfl,N,by((try dsimp only at *);lia),by((try dsimp only at *);lia),le_trans am (M.grow N (by((try dsimp only at *);lia)) (by((try dsimp only at *);lia)))⟩⟩) (λg9=>wpS_pure ⟨r-1,F-1,_,_,_,_,rfl,N,by((try dsimp only at *);lia),by((try dsimp only at *);lia),le_trans am (M.grow N (by((try dsimp only at *);lia)) (by((try dsimp only at *);lia))),O⟩)
    .rintro c ba ⟨G,F,ad,a5,ac,bc,rfl,M,la,lb,am,K3⟩;exact⟨K3,.inr ⟨G,F,ad,_,_,_,rfl,M,la,lb,am⟩⟩
    .exact⟨G,F,S,_,_,_,rfl,M,la,lb,le_refl _,K2⟩
    .rintro c ba ⟨K3,⟨R,hR,e⟩|⟨G,F,ad,a5,ac,bc,rfl,M,la,lb,am⟩⟩
     .obtain⟨c1,c2⟩:=c;cases e;exact wpS_pure ⟨R,hR,rfl,K3⟩
     .refine wpS_bind (u5 K3 λa6 O=>?_);exact wpS_pure ⟨G,F,ad,_,rfl,M,la,lb,by((try dsimp only at *);lia),O⟩
 .rintro c a3 ⟨G,F,out,mg,rfl,M,la,lb,lo,K1⟩;exfalso;have:=M.sz
  ((try dsimp only at *);lia)
 .exact⟨_,_,_,_,rfl,M0,by((try dsimp only at *);lia),by((try dsimp only at *);lia),le_refl _,⟨rfl,rfl,rfl,rfl⟩⟩
 .rintro c a3 ⟨R,hR,e,K1⟩;obtain⟨c1,c2⟩:=c;cases e;exact wpS_pure (h R a3 hR K1)
end
noncomputable def putAll (a:Array Keyed) (o n:Nat) (l:List Keyed):Array Keyed:=(l.zipIdx n).foldl (λa (p,j)=>a.setIfInBounds (o+j) p) a
theorem iC (o:Nat):∀(l:List Keyed) (n:Nat) (a:Array Keyed),o+n+l.length<=a.size->∀i,(putAll a o n l)[i]?=if o+n<=i/\i<o+n+l.length then l[i-(o+n)]? else a[i]?
 | [],n,a,_,i=>by
  rw[if_neg (by rw[length_nil];omega)];rfl
 |p::l,n,a,h,i=>by
  rw[length_cons]at h;show(putAll (a.setIfInBounds (o+n) p) o (n+1) l)[i]?=_;rw[iC o l (n+1) _ (by rw[Array.size_setIfInBounds];omega),length_cons,Array.getElem?_setIfInBounds];by_cases c:o+(n+1)<=i/\i<o+(n+1)+l.length
  .rw[if_pos c,if_pos af,show i-(o+n)=(i-(o+(n+1)))+1 by omega];simp
  .rw[if_neg c];by_cases d:o+n=i
   .rw[if_pos d,if_pos af,if_pos af, <-d];simp
   .rw[if_neg d,if_neg af]
theorem qy {a:Array Keyed}{o:Nat}{l:List Keyed}(h:o+l.length<=a.size):(putAll a o 0 l).toList=a.toList.take o++l++a.toList.drop (o+l.length):=by
 apply List.ext_getElem?;intro i;have e:=iC o l 0 a af i;rw[getElem?_toList,e,append_assoc];by_cases G:i<o
 .rw[if_neg af,List.getElem?_append_left (by rw[length_take];simp;omega),List.getElem?_take];simp[G]
 .rw[List.getElem?_append_right (by rw[length_take];omega)];have F:(a.toList.take o).length=o:=(by rw[length_take];simp;omega);rw[F];by_cases I:i<o+l.length
  .rw[if_pos af,List.getElem?_append_left af];rfl
  .rw[if_neg af,List.getElem?_append_right af,List.getElem?_drop,getElem?_toList];congr 1;omega
theorem qT {a:Array Keyed}{lo hi i:Nat}(h:i<hi-lo) (hs:hi<=a.size):K (a.extract lo hi) i=K a (lo+i):=by
 refine K_congr ?_;rw[Array.getElem?_extract];rw[if_pos af]
theorem kZ {a:Array Keyed}{lo hi:Nat}(hs:hi<=a.size):(a.extract lo hi).size=hi-lo:=by
 rw[Array.size_extract];omega
theorem yQ {a₀ a:Array Keyed}(N:a.Perm a₀) (k:Ks a₀) {lo hi:Nat}(hs:hi<=a.size) (h:jP a lo hi):Up (a.extract lo hi):=by
 refine⟨λp G=>k.ik p ((Array.perm_iff_toList_perm.mp N).mem_iff.mp ?_),List.pairwise_iff_getElem.mpr λi j O J S=>?_⟩
 .rw[gn]at G;exact List.mem_of_mem_drop (List.mem_of_mem_take G)
 .have sz:=kZ (a:=a) (lo:=lo) hs;have L:i<(a.extract lo hi).size:=(by rw[<-length_toList];exact O);have R:j<(a.extract lo hi).size:=(by rw[<-length_toList];exact J);have I:=K_eq L;have F:=K_eq R;rw[qT af hs]at I F;have z:=h (lo+i) (lo+j) af af af;rw[I,F]at z;simpa[le]using z
theorem parts {a:Array Keyed}{lo mid hi:Nat}(h1:lo<=mid) (h2:mid<=hi):a.toList=a.toList.take lo++(seg a lo mid++seg a mid hi)++a.toList.drop hi:=by
 have F:=ie (a:=a) h1;have G:=ie (a:=a) h2;rw[<-append_assoc, <-F, <-G,take_append_drop]
theorem u6 {a R:Array Keyed}{lo mid hi:Nat}(h1:lo<=mid) (h2:mid<=hi) (h3:hi<=a.size) (G:Good (a.extract lo mid) (a.extract mid hi) R) :
  R.size=hi-lo/\(putAll a lo 0 R.toList).Perm a/\(∀i,¬ (lo<=i/\i<hi)->(putAll a lo 0 R.toList)[i]?=a[i]?)/\jP (putAll a lo 0 R.toList) lo hi/\∀i,lo<=i->i<hi->∃j,lo<=j/\j<hi/\K (putAll a lo 0 R.toList) i=K a j:=by
 obtain⟨J,g2⟩:=G;have sz:R.size=hi-lo:=by
  have:=J.length_eq;simp only[length_append,length_toList]at this;rw[kZ af,kZ h3]at this;omega
 have hl:R.toList.length=hi-lo:=(by rw[length_toList];exact sz);have get:=iC lo R.toList 0 a af;have I:∀i,lo<=i->i<hi->∃(h:i-lo<R.size),K (putAll a lo 0 R.toList) i=numOf (R[i-lo]).1:=λi L U=>by
  have O:i-lo<R.size:=af;refine⟨O,?_⟩;have e:=get i;rw[if_pos af]at e;unfold K;rw[e,getElem?_toList,Nat.add_zero,getElem?_pos R (i-lo) O]
 refine⟨sz,?_,λi hi=>?_,λi j hi ab hj=>?_,λi L U=>?_⟩
 .rw[Array.perm_iff_toList_perm,qy af]
  conv=>rhs;rw[parts (a:=a) h1 h2]
  rw[hl,show lo+(hi-lo)=hi by omega];refine List.Perm.append_right _ (List.Perm.append_left _ ?_);rw[<-gn, <-gn];exact J
 .rw[get i,if_neg af]
 .obtain⟨S,F⟩:=I i hi af;obtain⟨a2,e2⟩:=I j af hj;rw[F,e2];by_cases z:i=j
  .subst z;exact Int.le_refl _
  .have:=List.pairwise_iff_getElem.mp g2 (i-lo) (j-lo) (by simpa using S) (by simpa using a2) af;simpa[le]using this
 .obtain⟨S,F⟩:=I i L U;have hm:R[i-lo]∈(a.extract lo mid).toList++(a.extract mid hi).toList:=J.mem_iff.mp (by simp);rw[F];rcases List.mem_append.mp hm with z|z
  .rw[gn]at z;obtain⟨j,Y,N,j3,e⟩:=kI z;exact⟨j,Y,af,e⟩
  .rw[gn]at z;obtain⟨j,Y,N,j3,e⟩:=kI z;exact⟨j,af,N,e⟩
structure Ce (a₀:Array Keyed) (st st':SortSt) (i lo n:Nat) (pw:Nat):Prop where
 S:SI a₀ st'
 out:∀j,¬ (lo<=j/\j<lo+n)->(arrOf st')[j]?=(arrOf st)[j]?
 up:jP (arrOf st') lo (lo+n)
 pend:pendingOf st'=((pendingOf st).setIfInBounds i (lo,n,pw)).eraseIdxIfInBounds (i+1)
section
variable {prog:Program}{w:World}{A:Around}{E:Value->Shared->Prop}{s:Shared}{a₀:Array Keyed}
theorem CO {st x:SortSt}{Q:PUnit->SortSt->Prop}(h:Q ⟨⟩ x):wpS (model prog w) A E s (set x:StateT SortSt Sem PUnit) Q st:=by
 unfold wpS;rw[StateT.run_set];exact wpAny_pure ⟨rfl,h⟩
theorem yI {st:SortSt}{i F I pw nb ap:Nat}{Q:Bool->SortSt->Prop}(S:SI a₀ st) (k:Ks a₀) (h1:(pendingOf st)[i]?=some (F,I,pw)) (h2:(pendingOf st)[i+1]?=some (F+I,nb,ap)) (n1:1<=I) (n2:1<=nb) (hsz:F+I+nb<=a₀.size)
  (Y:jP (arrOf st) F (F+I)) (u2:jP (arrOf st) (F+I) (F+I+nb)) (h:∀ac,Ce a₀ st ac i F (I+nb) pw->Q true ac):wpS (model prog w) A E s (mergeAt' i) Q st:=by
 refine wpS_bind (wpS_get ?_);have hs:=S.size;have ka:∀{j:Nat},j<(arrOf st).size->∃t q,(arrOf st)[j]?=some (.int (K (arrOf st) j) t,q):=λU=>tW S.perm k U;rw[h1,h2];refine wpS_bind (CO ?_);obtain⟨tb,qb,eb⟩:=ka (j:=F+I) af;refine wpS_bind (bt eb (wpS_bind (dy (base:=F) (n:=I) (hint:=0) S.kind rfl (λi hi=>ka af) Y af λr hr r1 r2=>?_)));obtain⟨R1,R2⟩:=zp r1 r2;refine aP (λg=>?_) (λg=>?_)
 .have g':I-r=0:=(by simpa using g);refine wpS_pure (h _ ⟨⟨S.perm,S.kind,S.failed⟩,λ_ _=>rfl,λi j hi L U=>?_,rfl⟩);show K (arrOf st) i<=K (arrOf st) j;by_cases c1:j<F+I
  .exact Y i j hi L c1
  .by_cases N:i<F+I
   .have O:=R1 (i-F) af;rw[show F+(i-F)=i by omega]at O;exact Int.le_trans O (u2 (F+I) j (le_refl _) af af)
   .exact u2 i j af L af
 have g':¬ I-r=0:=(by simpa using g);obtain⟨ta,qa,ea⟩:=ka (j:=F+r+(I-r)-1) af;refine wpS_bind (bt ea (wpS_bind (dy (base:=F+I) (n:=nb) (hint:=nb-1) S.kind rfl (λi hi=>ka af) u2 af λJ aB am ad=>?_)));obtain⟨T1,T2⟩:=qS am ad;refine aP (λg=>?_) (λg=>?_)
 .have as:J=0:=(by simpa using g);refine wpS_pure (h _ ⟨⟨S.perm,S.kind,S.failed⟩,λ_ _=>rfl,λi j hi L U=>?_,rfl⟩);show K (arrOf st) i<=K (arrOf st) j;by_cases c1:j<F+I
  .exact Y i j hi L c1
  .by_cases N:i<F+I
   .exact Int.le_trans (Y i (F+r+(I-r)-1) hi af af) (T2 j af af)
   .exact u2 i j af L af
 have g2:¬ J=0:=(by simpa using g);have ux:Up ((arrOf st).extract (F+r) (F+I)):=yQ S.perm k af λi j hi L U=>Y i j af L U;have uy:Up ((arrOf st).extract (F+I) (F+I+J)):=yQ S.perm k af λi j hi L U=>u2 i j hi L af;have sx:((arrOf st).extract (F+r) (F+I)).size=I-r:=(by rw[kZ af];omega);have sy:((arrOf st).extract (F+I) (F+I+J)).size=J:=(by rw[kZ af];omega);have x0:K ((arrOf st).extract (F+I) (F+I+J)) 0<K ((arrOf st).extract (F+r) (F+I)) 0:=by
  rw[qT af af,qT af af];exact R2 (F+r) (le_refl _) af
 have xl:∀j,j<((arrOf st).extract (F+I) (F+I+J)).size->K ((arrOf st).extract (F+I) (F+I+J)) j<K ((arrOf st).extract (F+r) (F+I)) (((arrOf st).extract (F+r) (F+I)).size-1):=λj U=>by
  rw[qT af af,qT af af,sx,show F+r+(I-r-1)=F+r+(I-r)-1 by omega];exact T1 j af
 refine aP (λg=>?_) (λg=>?_)
 .refine wpS_bind (sV S.kind ux uy (by rw[sx];omega) (by rw[sy];omega) x0 xl λR stC G KC=>?_);obtain⟨z1,z2,z3,z4,z5⟩:=u6 (a:=arrOf st) (lo:=F+r) (mid:=F+I) (hi:=F+I+J) af af af G;refine wpS_bind (wpS_modify (wpS_bind (wpS_get (wpS_pure ?_))));have hf:failedOf stC=none:=KC.failed.trans S.failed;have hc:arrOf stC=arrOf st:=KC.arr;show Q (failedOf stC).isNone (SortSt.mk' (kindOf stC) (putAll (arrOf stC) (F+r) 0 R.toList) (pendingOf stC) (gallopOf stC) (failedOf stC));rw[hf,hc];refine h _ ⟨⟨z2.trans S.perm,KC.kind.trans S.kind,rfl⟩,λj U=>z3 j af,λi j hi L U=>?_,KC.pend⟩;show K (putAll (arrOf st) (F+r) 0 R.toList) i<=K (putAll (arrOf st) (F+r) 0 R.toList) j;have out:∀i,¬ (F+r<=i/\i<F+I+J)->K (putAll (arrOf st) (F+r) 0 R.toList) i=K (arrOf st) i:=λi hi=>K_congr (z3 i hi);by_cases c1:i<F+r
  .rw[out i af];have ab:∀j,F+r<=j->j<F+I+nb->K (arrOf st) i<=K (arrOf st) j:=λj h1 h2=>by
    by_cases c:j<F+I
    .exact Y i j hi af c
    .have O:=R1 (i-F) af;rw[show F+(i-F)=i by omega]at O;exact Int.le_trans O (u2 (F+I) j (le_refl _) af h2)
   by_cases N:F+r<=j/\j<F+I+J
   .obtain⟨j',q1,q2,e⟩:=z5 j N.1 N.2;rw[e];exact ab j' q1 af
   .rw[out j N];by_cases c3:j<F+r
    .exact Y i j hi L af
    .exact ab j af af
  .by_cases N:i<F+I+J
   .by_cases c3:j<F+I+J
    .exact z4 i j af L c3
    .rw[out j af];obtain⟨i',q1,q2,e⟩:=z5 i af N;rw[e];by_cases c4:i'<F+I
     .have O:=T2 j af af;exact Int.le_trans (Y i' (F+r+(I-r)-1) af af af) O
     .exact u2 i' j af af af
   .rw[out i af,out j af];exact u2 i j af L af
 .refine wpS_bind (tS S.kind ux uy (by rw[sx];omega) (by rw[sy];omega) x0 xl λR stC G KC=>?_);obtain⟨z1,z2,z3,z4,z5⟩:=u6 (a:=arrOf st) (lo:=F+r) (mid:=F+I) (hi:=F+I+J) af af af G;refine wpS_bind (wpS_modify (wpS_bind (wpS_get (wpS_pure ?_))));have hf:failedOf stC=none:=KC.failed.trans S.failed;have hc:arrOf stC=arrOf st:=KC.arr;show Q (failedOf stC).isNone (SortSt.mk' (kindOf stC) (putAll (arrOf stC) (F+r) 0 R.toList) (pendingOf stC) (gallopOf stC) (failedOf stC));rw[hf,hc];refine h _ ⟨⟨z2.trans S.perm,KC.kind.trans S.kind,rfl⟩,λj U=>z3 j af,λi j hi L U=>?_,KC.pend⟩;show K (putAll (arrOf st) (F+r) 0 R.toList) i<=K (putAll (arrOf st) (F+r) 0 R.toList) j;have out:∀i,¬ (F+r<=i/\i<F+I+J)->K (putAll (arrOf st) (F+r) 0 R.toList) i=K (arrOf st) i:=λi hi=>K_congr (z3 i hi);by_cases c1:i<F+r
  .rw[out i af];have ab:∀j,F+r<=j->j<F+I+nb->K (arrOf st) i<=K (arrOf st) j:=λj h1 h2=>by
    by_cases c:j<F+I
    .exact Y i j hi af c
    .have O:=R1 (i-F) af;rw[show F+(i-F)=i by omega]at O;exact Int.le_trans O (u2 (F+I) j (le_refl _) af h2)
   by_cases N:F+r<=j/\j<F+I+J
   .obtain⟨j',q1,q2,e⟩:=z5 j N.1 N.2;rw[e];exact ab j' q1 af
   .rw[out j N];by_cases c3:j<F+r
    .exact Y i j hi L af
    .exact ab j af af
  .by_cases N:i<F+I+J
   .by_cases c3:j<F+I+J
    .exact z4 i j af L c3
    .rw[out j af];obtain⟨i',q1,q2,e⟩:=z5 i af N;rw[e];by_cases c4:i'<F+I
     .have O:=T2 j af af;exact Int.le_trans (Y i' (F+r+(I-r)-1) af af af) O
     .exact u2 i' j af af af
   .rw[out i af,out j af];exact u2 i j af L af
end
noncomputable def Chain (xs:Array Keyed):Nat->List (Nat×Nat×Nat)->Nat->Prop
 |s,[],e=>s=e
 |s,(t,n,_)::r,e=>t=s/\1<=n/\jP xs s (s+n)/\Chain xs (s+n) r e
theorem Chain.le {xs:Array Keyed}:∀{s:Nat}{l:List (Nat×Nat×Nat)}{e:Nat},Chain xs s l e->s+l.length<=e
 |s,[],e,h=>Nat.le_of_eq h
 |s,(t,n,p)::r,e,⟨_,h2,_,F⟩=>by
  have:=Chain.le F;rw[length_cons];omega
theorem Chain.app {xs:Array Keyed}:∀{s:Nat}{l F:List (Nat×Nat×Nat)}{e:Nat},Chain xs s (l++F) e↔∃m,Chain xs s l m/\Chain xs m F e
 |s,[],F,e=>⟨λh=>⟨s,rfl,h⟩,λ⟨m,h1,h2⟩=>by rw[show s=m from h1];exact h2⟩
 |s,(t,n,p)::r,F,e=>by
  constructor
  .rintro⟨h1,h2,J,L⟩;obtain⟨m,I,G⟩:=Chain.app.mp L;exact⟨m,⟨h1,h2,J,I⟩,G⟩
  .rintro⟨m,⟨h1,h2,J,I⟩,G⟩;exact⟨h1,h2,J,Chain.app.mpr ⟨m,I,G⟩⟩
theorem jP.congr {xs ys:Array Keyed}{lo hi:Nat}(h:jP xs lo hi) (e:∀i,lo<=i->i<hi->ys[i]?=xs[i]?):jP ys lo hi:=λi j hi G F=>by
 rw[K_congr (e i hi af),K_congr (e j af F)];exact h i j hi G F
theorem Chain.congr {xs ys:Array Keyed}:∀{s:Nat}{l:List (Nat×Nat×Nat)}{e:Nat},Chain xs s l e->(∀i,s<=i->i<e->ys[i]?=xs[i]?)->Chain ys s l e
 |s,[],e,h,_=>h
 |s,(t,n,p)::r,e,⟨h1,h2,G,F⟩,q=>by
  have:=Chain.le F;exact⟨h1,h2,G.congr λi a b=>q i a af,F.congr λi a b=>q i af b⟩
structure RI (a₀:Array Keyed) (st:SortSt) (lo:Nat):Prop where
 S:SI a₀ st
 ch:Chain (arrOf st) 0 (pendingOf st).toList lo
 le:lo<=a₀.size
theorem Dr {α:Type}{l:List α}{i:Nat}(h:i+1<l.length):∃F x y G,l=F++x::y::G/\F.length=i:=by
 refine⟨l.take i,l[i],l[i+1],l.drop (i+2),?_,?_⟩
 .rw[<-drop_eq_getElem_cons af, <-drop_eq_getElem_cons af,take_append_drop]
 .rw[length_take];omega
theorem m4 {p:Array (Nat×Nat×Nat)}{F G:List (Nat×Nat×Nat)}{x y z:Nat×Nat×Nat}{i:Nat}(h:p.toList=F++x::y::G) (hi:F.length=i):((p.setIfInBounds i z).eraseIdxIfInBounds (i+1)).toList=F++z::G:=by
 obtain⟨l⟩:=p;subst h;subst hi;simp;rw[List.eraseIdx_append_of_length_le af];simp
theorem AW {c:Bool}{n:Nat}(h:¬ n<=1):(if c=true then n-2-1 else n-2)+1<n:=by
 cases c
 .rw[if_neg av];omega
 .rw[if_pos rfl];omega
theorem sI {α F:Type}{l:List α}{i:Nat}{f:α->α}{g:α->F}(h:∀x,g (f x)=g x):(l.modify i f).map g=l.map g:=by
 apply List.ext_getElem?;intro j;rw[getElem?_map,getElem?_map,List.getElem?_modify];cases l[j]? with
 |none=>rfl
 |some x =>
  by_cases c:i=j
  .simp[c,h]
  .simp[c]
theorem Chain.same {xs:Array Keyed}:∀{s:Nat}{l F:List (Nat×Nat×Nat)}{e:Nat},Chain xs s l e->F.map (λx=>(x.1,x.2.1))=l.map (λx=>(x.1,x.2.1))->Chain xs s F e
 |s,[],F,e,h,q=>by
  cases F with
  |nil=>exact h
  |cons x r=>cases q
 |s,(t,n,p)::r,F,e,⟨h1,h2,R,O⟩,q=>by
  cases F with
  |nil=>cases q
  |cons x U =>
   obtain⟨t',J,S⟩:=x;rw[map_cons,map_cons]at q;obtain⟨N,L⟩:=List.cons.inj q;obtain⟨I,G⟩:=Prod.mk.inj N;have I:t'=t:=I;have G:J=n:=G;subst I;subst G;exact⟨h1,h2,R,O.same L⟩
theorem RI.push {a₀:Array Keyed}{st:SortSt}{lo n p:Nat}(R:RI a₀ st lo) (G:1<=n) (F:lo+n<=a₀.size) (u:jP (arrOf st) lo (lo+n)):RI a₀ (setPending st ((pendingOf st).push (lo,n,p))) (lo+n):=by
 refine⟨⟨R.S.perm,R.S.kind,R.S.failed⟩,?_,F⟩;show Chain (arrOf st) 0 ((pendingOf st).push (lo,n,p)).toList (lo+n);rw[toList_push];exact Chain.app.mpr ⟨lo,R.ch,rfl,G,u,rfl⟩
theorem RI.last {a₀:Array Keyed}{st:SortSt}{lo:Nat}(R:RI a₀ st lo) {f:Nat×Nat×Nat->Nat×Nat×Nat}(F:∀x,((f x).1,(f x).2.1)=(x.1,x.2.1)) (i:Nat):RI a₀ (setPending st ((pendingOf st).modify i f)) lo:=by
 refine⟨⟨R.S.perm,R.S.kind,R.S.failed⟩,?_,R.le⟩;show Chain (arrOf st) 0 ((pendingOf st).modify i f).toList lo;refine R.ch.same ?_;rw[Array.toList_modify];exact sI F
section
variable {prog:Program}{w:World}{A:Around}{E:Value->Shared->Prop}{s:Shared}{a₀:Array Keyed}
theorem iK {st:SortSt}{lo i:Nat}{Q:Bool->SortSt->Prop}(R:RI a₀ st lo) (k:Ks a₀) (hi:i+1<(pendingOf st).size)
  (h:∀I,RI a₀ I lo->(∀j,lo<=j->(arrOf I)[j]?=(arrOf st)[j]?)->(pendingOf I).size+1=(pendingOf st).size->Q true I):wpS (model prog w) A E s (mergeAt' i) Q st:=by
 obtain⟨l1,x,y,l2,e,L⟩:=Dr (l:=(pendingOf st).toList) (i:=i) (by simpa using hi);obtain⟨F,G,N⟩:=x;obtain⟨sb,J,O⟩:=y;have ch:=R.ch;rw[e]at ch;obtain⟨m,Y,e1,n1,u1,e2,n2,u2,c2⟩:=Chain.app.mp ch;subst e1;subst e2;have b1:=Y.le;have b2:=c2.le;have ab:=R.le;have g1:(pendingOf st)[i]?=some (F,G,N):=by
  rw[<-getElem?_toList,e, <-L];simp
 have g2:(pendingOf st)[i+1]?=some (F+G,J,O):=by
  rw[<-getElem?_toList,e, <-L];simp
 refine yI R.S k g1 g2 n1 n2 af u1 u2 λI M=>h I ⟨M.S,?_,R.le⟩ (λj U=>M.out j af) ?_
 .rw[M.pend,m4 e L];refine Chain.app.mpr ⟨F,Y.congr λj _ U=>M.out j af,rfl,af,M.up,?_⟩;rw[show F+(G+J)=F+G+J by omega];exact c2.congr λj U _=>M.out j af
 .have p1:(pendingOf I).toList.length=(l1++(F,G+J,N)::l2).length:=(by rw[M.pend,m4 e L]);have p2:(pendingOf st).toList.length=(l1++(F,G,N)::(F+G,J,O)::l2).length:=(by rw[e]);simp only[length_toList,length_append,length_cons]at p1 p2;omega
theorem vM {st:SortSt}{Q:Unit->SortSt->Prop}(k:Ks a₀) (S:SI a₀ st) (hp:pendingOf st = #[]) (h2:2<=a₀.size) (h:∀N,(arrOf N).Perm a₀->failedOf N=none->SortedTo (arrOf N) a₀.size->Q () N):wpS (model prog w) A E s sortRuns' Q st:=by
 rw[sortRuns'_eq];refine wpS_bind (wpS_get ?_);have hsz:=S.size;have a1:(arrOf st).size=a₀.size:=hsz;dsimp only;rw[hsz];refine wpS_bind (wpS_mono (wpS_forRange (I:=λx c N=>∃lo,qv (c=(none,lo)) (RI a₀ N lo) (x<=lo)) (Q:=λc N=>c=(none,a₀.size)/\RI a₀ N a₀.size) ?_ ?_ ?_) ?_)
 .rintro x c a3 a0 ap ⟨lo,rfl,R,hx⟩;have ac:=R.le;refine aP (λg=>?_) (λg=>?_)
  .have g':a₀.size<=lo:=g;obtain rfl:lo=a₀.size:=af;exact wpS_pure ⟨rfl,R⟩
  have g':¬ a₀.size<=lo:=g;refine wpS_bind (ym R.S k (lo:=lo) (nrem:=a₀.size-lo) af af λm G C m1 m2 us=>?_);dsimp only;refine aP (λgm=>?_) (λgm=>?_)
  .refine wpS_bind (wpS_lift (wpAny_rule ⟨rfl,?_⟩));generalize hf:min (a₀.size-lo) (minRun' a₀.size a₀.size 0)=n;refine wpS_bind (yt C.S k (lo:=lo) (n:=n) (ok:=m) af m1 af us λab C3 ad=>?_);have U:RI a₀ ab lo:=⟨C3.S,by
    rw[C3.pend,C.pend];exact R.ch.congr λi _ hi=>(C3.pre i hi).trans (C.pre i hi),R.le⟩
   refine wpS_bind (wpS_get ?_);cases e:(pendingOf ab).back? with
   |none=>exact wpS_bind (wpS_modify (wpS_pure ⟨lo+n,rfl,U.push af af ad,af⟩))
   |some t =>
    obtain⟨s1,Y,p1⟩:=t;refine wpS_bind (wpS_mono (wpS_forRange (I:=λy c F=>qv (c=(none,())) (RI a₀ F lo) (∀j,lo<=j->(arrOf F)[j]?=(arrOf ab)[j]?)) (Q:=λc F=>qv (c=(none,())) (RI a₀ F lo) (∀j,lo<=j->(arrOf F)[j]?=(arrOf ab)[j]?)) ?_ ?_ ?_) ?_)
    .rintro y c F as aB ⟨rfl,L,J⟩;refine wpS_bind (wpS_get ?_);by_cases g:(pendingOf F).size>1
     .rw[if_pos g,getElem?_pos (pendingOf F) ((pendingOf F).size-2) af];refine aP (λ_=>wpS_pure ⟨rfl,L,J⟩) (λ_=>?_);exact wpS_bind (iK L k af λaT R5 o5 _=>wpS_pure ⟨rfl,R5,λj O=>(o5 j O).trans (J j O)⟩)
     .rw[if_neg g];exact wpS_pure ⟨rfl,L,J⟩
    .exact λc F q=>q
    .exact⟨rfl,U,λ_ _=>rfl⟩
    .rintro c F ⟨rfl,L,J⟩;refine wpS_bind (wpS_modify (wpS_bind (wpS_modify (wpS_pure ⟨lo+n,rfl,?_,af⟩))));exact RI.push (L.last (f:=λx=>(x.fst,x.2.fst,power' a₀.size (2*s1+Y) (2*s1+Y+Y+n) a₀.size)) (λx=>rfl) _) af af (ad.congr λi h1 _=>J i h1)
  .have U:RI a₀ G lo:=⟨C.S,by
    rw[C.pend];exact R.ch.congr λi _ hi=>C.pre i hi,R.le⟩
   refine wpS_bind (wpS_get ?_);cases e:(pendingOf G).back? with
   |none=>exact wpS_bind (wpS_modify (wpS_pure ⟨lo+m,rfl,U.push af af us,af⟩))
   |some t =>
    obtain⟨s1,Y,p1⟩:=t;refine wpS_bind (wpS_mono (wpS_forRange (I:=λy c F=>qv (c=(none,())) (RI a₀ F lo) (∀j,lo<=j->(arrOf F)[j]?=(arrOf G)[j]?)) (Q:=λc F=>qv (c=(none,())) (RI a₀ F lo) (∀j,lo<=j->(arrOf F)[j]?=(arrOf G)[j]?)) ?_ ?_ ?_) ?_)
    .rintro y c F as aB ⟨rfl,L,J⟩;refine wpS_bind (wpS_get ?_);by_cases g:(pendingOf F).size>1
     .rw[if_pos g,getElem?_pos (pendingOf F) ((pendingOf F).size-2) af];refine aP (λ_=>wpS_pure ⟨rfl,L,J⟩) (λ_=>?_);exact wpS_bind (iK L k af λaT R5 o5 _=>wpS_pure ⟨rfl,R5,λj O=>(o5 j O).trans (J j O)⟩)
     .rw[if_neg g];exact wpS_pure ⟨rfl,L,J⟩
    .exact λc F q=>q
    .exact⟨rfl,U,λ_ _=>rfl⟩
    .rintro c F ⟨rfl,L,J⟩;refine wpS_bind (wpS_modify (wpS_bind (wpS_modify (wpS_pure ⟨lo+m,rfl,?_,af⟩))));exact RI.push (L.last (f:=λx=>(x.fst,x.2.fst,power' a₀.size (2*s1+Y) (2*s1+Y+Y+m) a₀.size)) (λx=>rfl) _) af af (us.congr λi h1 _=>J i h1)
 .rintro c N ⟨lo,rfl,R,hx⟩;have:=R.le;obtain rfl:lo=a₀.size:=af;exact⟨rfl,R⟩
 .exact⟨0,rfl,⟨S,by rw[hp];rfl,zero_le _⟩,le_refl _⟩
 .rintro c N ⟨rfl,R⟩;dsimp only;refine wpS_bind (wpS_mono (wpS_forRange (I:=λx c G=>qv (c=(none,())) (RI a₀ G a₀.size) ((pendingOf G).size+x<=a₀.size)) (Q:=λc G=>qv (c=(none,())) (RI a₀ G a₀.size) ((pendingOf G).size<=1)) ?_ ?_ ?_) ?_)
  .rintro x c G a0 ap ⟨rfl,R2,ac⟩;refine wpS_bind (wpS_get ?_);refine aP (λg=>wpS_pure ⟨rfl,R2,g⟩) (λg=>?_);refine wpS_bind (iK R2 k ?_ λab U _ a2=>?_)
   .exact AW g
   .exact wpS_pure ⟨rfl,U,af⟩
  .rintro c G ⟨rfl,R2,ac⟩;exact⟨rfl,R2,af⟩
  .refine⟨rfl,R,?_⟩;have:=R.ch.le;simpa using this
  .rintro c G ⟨rfl,R2,ac⟩;refine wpS_pure (h G R2.S.perm R2.S.failed ?_);have ch:=R2.ch;cases e:(pendingOf G).toList with
   |nil =>
    rw[e]at ch;have:0=a₀.size:=ch;omega
   |cons x r =>
    have hr:r=[]:=by
     have z:(pendingOf G).toList.length=r.length+1:=(by rw[e];rfl);rw[length_toList]at z;exact List.length_eq_zero_iff.mp af
    subst hr;obtain⟨t,n,p⟩:=x;rw[e]at ch;obtain⟨_,_,u,e2⟩:=ch;have e3:0+n=a₀.size:=e2;rw[e3]at u;exact λi j am O=>u i j (zero_le _) am O
end
theorem DR {vs:List Value}{ns:List Int}(F:IntsAre vs ns) (G:ns.Nodup):Ks (pairsOf vs):=by
 refine⟨F.intKeys,?_⟩;have e:((pairsOf vs).toList.map λp=>numOf p.1)=ns:=by
  rw[pairsOf_toList, <-F.nums]
  conv=>rhs;rw[<-List.map_fst_zip (l₁:=vs) (l₂:=vs) (le_refl _)]
  rw[map_map];rfl
 rw[e];exact G
section
variable {prog:Program}{w:World}{A:Around}{E:Value->Shared->Prop}{s:Shared}
theorem mY {a:Addr}{vs:List Value}{ns:List Int}{n:Nat}{P:Fin->Shared->Prop}(O:s.heap.get? a=some (seqObj "list" vs.toArray n)) (S:IntsAre vs ns) (hn:ns.Nodup) (hz:vs.length<=1000)
  (k:∀(out:Array Value) (ns':List Int),IntsAre out.toList ns'->ns'.Perm ns->ns'.Pairwise (· <= ·)->P (.done (.ret .none)) { s with heap:=sortedHeap s.heap a vs out }):wpAny (model prog w) A (Builtin.«list.sort» ⟨[.ref a],[]⟩) P E s:=by
 have lz:sizeLine=16777216:=sizeLine_eq;rw[list_sort_plain];have lt:=Heap.lt_size O;refine wpAny_bind (listItems_at O rfl (wpAny_bind (listUpdate_at O rfl ?_ (by simp only[size_toArray];omega))));obtain⟨ep,U⟩:∃ep,(s.heap.update a (Obj.mapSeq λ_ => #[])).get? a=some (seqObj "list" #[] ep):=⟨_,get?_update_seq O λ_ => #[]⟩;refine wpAny_bind (seqEpoch_at U rfl (wpAny_bind (wpAny_newTuple (wpAny_bind (wpAny_newList (wpAny_holding ?_))))));have at2:(((s.heap.update a (Obj.mapSeq λ_ => #[])).push (seqObj "tuple" vs.toArray 0)).push (seqObj "list" #[] 0)).get? a=some (seqObj "list" #[] ep):=by
  have l1:a<((s.heap.update a (Obj.mapSeq λ_ => #[])).push (seqObj "tuple" vs.toArray 0)).objs.size:=(by rw[size_push',Heap.size_update];exact lt_succ_of_lt lt);rw[Heap.get?_push_ne _ _ _ (ne_of_lt l1),Heap.get?_push_ne _ _ _ (by rw[Heap.size_update];exact ne_of_lt lt)];exact U
 have done:∀F:SortSt,(arrOf F).Perm (pairsOf vs)->SortedTo (arrOf F) (pairsOf vs).size->P (.done (.ret .none)) { s with heap:=sortedHeap s.heap a vs ((arrOf F).map (·.2)) }:=λF L N=>by
  obtain⟨ns',w1,w2,Y⟩:=sorted_out S L N;exact k _ ns' w1 w2 Y
 show wpAny (model prog w) A _ P E { s with heap:=((s.heap.update a (Obj.mapSeq λ_ => #[])).push (seqObj "tuple" vs.toArray 0)).push (seqObj "list" #[] 0) };dsimp only;by_cases J:vs.toArray.size<2
 .rw[if_pos J,if_pos J];refine wpAny_bind (wpAny_pure ?_);rw[StateT.run_pure];refine wpAny_bind (wpAny_pure (wpAny_bind (seqEpoch_at at2 rfl (wpAny_bind (listUpdate_at at2 rfl ?_ (zero_le _) ?_)))))
  .simp only[bne_self_eq_false,Bool.false_eq_true,if_false];refine wpAny_pure (done (SortSt.mk' general' (vs.toArray.zip vs.toArray) #[] 7 none) (Array.Perm.refl _) λi j ab hj=>?_);rw[pairsOf_size]at hj;rw[size_toArray]at J;rw[show i=j by omega];exact Int.le_refl _
  .show(Array.map (λx:Keyed=>x.2) (vs.toArray.zip vs.toArray)).size<=sizeLine+1;rw[Array.size_map];show(pairsOf vs).size<=sizeLine+1;rw[pairsOf_size];omega
 .rw[if_neg J,if_neg J];rw[size_toArray]at J;obtain⟨I,v2,G,rfl⟩:∃I v2 G,vs=I::v2::G:=by
   match vs,J with
   | [],z=>exact absurd av z
   | [_],z=>exact absurd (by rw[length_singleton];decide) z
   |I::v2::G,_=>exact⟨I,v2,G,rfl⟩
  rw[keyKind_ints S];have sr:=vM (prog:=prog) (w:=w) (A:=A) (E:=E) (s:={ s with heap:=((s.heap.update a (Obj.mapSeq λ_ => #[])).push (seqObj "tuple" (I::v2::G).toArray 0)).push (seqObj "list" #[] 0) }) (DR S hn)
   (st:=SortSt.mk' oneType' (pairsOf (I::v2::G)) #[] 7 none) (Q:=λ_ F=>qv ((arrOf F).Perm (pairsOf (I::v2::G))) (failedOf F=none) (SortedTo (arrOf F) (pairsOf (I::v2::G)).size)) ⟨Array.Perm.refl _,rfl,rfl⟩ rfl (by rw[pairsOf_size];omega) λF L N R=>⟨L,N,R⟩
  refine wpAny_bind (wpAny_pure (wpAny_bind (wpAny_mono sr ?_ λ_ _ e=>e)));rintro⟨⟨⟩,F⟩ s' ⟨rfl,L,N,R⟩;dsimp only;refine wpAny_bind (seqEpoch_at at2 rfl (wpAny_bind (listUpdate_at at2 rfl ?_ (zero_le _) ?_)))
  .rw[N];simp only[bne_self_eq_false,Bool.false_eq_true,if_false];exact wpAny_pure (done F L R)
  .show(Array.map (λx:Keyed=>x.2) (arrOf F)).size<=sizeLine+1;rw[Array.size_map,L.size_eq,pairsOf_size];omega
theorem tX {l:Addr}{vs:List Value}{ns:List Int}{Q:Value->Shared->Prop}(J:s.heap.IsList l vs.toArray) (S:IntsAre vs ns) (R:ns.Nodup) (L:vs.length<=1000)
  (k:∀(out:Array Value) (ns':List Int),IntsAre out.toList ns'->ns'.Perm ns->ns'.Pairwise (· <= ·)->Q (.ref (s.heap.objs.size+1)) { s with heap:=sortedAll s.heap vs out }):wpAny (model prog w) A (call (.builtin "sorted") [.ref l]) Q E s:=by
 have U:sizeLine=16777216:=sizeLine_eq;refine Calls.call_function_entry kind_sorted plain_sorted entry_sorted (args_sorted1 _) ?_;refine wpAny_bind (m:=checkCount "sorted" 1 1 _) (wpAny_pure (wpAny_bind (collect_list J (wpAny_bind (wpAny_newList ?_)) af)));have G:((s.heap.push (seqObj "list" #[] 0)).update s.heap.objs.size (Obj.mapSeq (· ++ vs.toArray))).objs.size=s.heap.objs.size+1:=(by rw[Heap.size_update,size_push']);have F:=Heap.get?_push_size ((s.heap.push (seqObj "list" #[] 0)).update s.heap.objs.size (Obj.mapSeq (· ++ vs.toArray))) (o:=seqObj "list" vs.toArray 0) rfl;rw[G]at F;show wpAny _ _ _ _ _ { s with heap:=((s.heap.push (seqObj "list" #[] 0)).update s.heap.objs.size (Obj.mapSeq (· ++ vs.toArray))).push (seqObj "list" vs.toArray 0) };rw[G];refine wpAny_bind (wpAny_holding (wpAny_call_entry slot_list_sort ⟨_,F,rfl⟩ entry_list_sort (mY F S R L λout ns' O N I=>⟨_,rfl,wpAny_pure ⟨_,rfl,k out ns' O N I⟩⟩) (args_list_sort _)))
end
theorem vC:∀{vs:List Value}{ns:List Int},vs.length=ns.length->(∀(j:Nat) (v:Value),vs[j]?=some v->∃(m:Int) (t:Tok),ns[j]?=some m/\v=.int m t)->IntsAre vs ns
 | [],[],_,_=>.nil
 |v::vs,n::ns,F,h=>by
  obtain⟨m,t,e,rfl⟩:=h 0 v rfl;cases e;exact .cons n t (vC (by simpa using F) λj u G=>by simpa using h (j+1) u (by simpa using G))
 | [],_::_,F,_=>by simp at F
 |_::_,[],F,_=>by simp at F
section
variable {prog:Program}{w:World}{A:Around}{E:Value->Shared->Prop}{s:Shared}{T:String}{r d:Addr}{n:Nat}{P:Nat->Value->Prop}{OK:Heap->Prop}
theorem sf {ns:List Int}{Q:Value->Shared->Prop}(S:KdlSrc prog w T r d n P OK) (hh:A.handled=none) (bG:OK s.heap) (hP:∀(i:Nat) (v:Value),P i v->∃(m:Int) (t:Tok),ns[i]?=some m/\v=.int m t) (hl:ns.length=n) (O:ns.Nodup) (hz:n<=1000)
  (k:∀(h1 h':Heap) (tk:Nat) (out:Array Value) (ns':List Int) (e:Nat),(∀b o,s.heap.get? b=some o->h1.get? b=some o)->(∀b o,h1.get? b=some o->h'.get? b=some o)->h'.get? h1.objs.size=some (seqObj "list" out e)->IntsAre out.toList ns'->ns'.Perm ns->ns'.Pairwise (· <= ·)->Q (.ref h1.objs.size) { s with heap:=h',toks:=tk }) :
  wpAny (model prog w) A (call (.builtin "sorted") [.ref r]) Q E s:=by
 have lz:sizeLine=16777216:=sizeLine_eq;refine Calls.call_function_entry kind_sorted plain_sorted entry_sorted (args_sorted1 _) ?_;refine wpAny_bind (m:=checkCount "sorted" 1 1 _) (wpAny_pure (wpAny_bind (PySem.W.kdu_collect (A:=A.in1) S hh bG af λh1 tk F R I=>?_)));have ln:F.toList.length=n:=(by rw[length_toList];exact I.1);refine wpAny_bind (wpAny_newList ?_ af);have U:IntsAre F.toList ns:=vC af λj v e=>hP j v (I.2 j v (by rw[<-getElem?_toList];exact e));have G:=Heap.get?_push_size h1 (o:=seqObj "list" F.toList.toArray 0) rfl;show wpAny _ _ _ _ _ { s with heap:=h1.push (seqObj "list" F.toList.toArray 0),toks:=tk };refine wpAny_bind (wpAny_holding (wpAny_call_entry slot_list_sort ⟨_,G,rfl⟩ entry_list_sort (mY G U O af λout ns' N Y L=>⟨_,rfl,wpAny_pure ⟨_,rfl,?_⟩⟩) (args_list_sort _)));obtain⟨e,he⟩:=sortedHeap_at (vs:=F.toList) (out:=out) G;refine k h1 _ tk out ns' e R (λb o J=>?_) he N Y L;have lt:=Heap.lt_size J;rw[sortedHeap_old (ne_of_lt lt) (by rw[size_push'];exact lt_succ_of_lt lt),Heap.get?_push_ne _ _ _ (ne_of_lt lt)];exact J
end
end Srt
namespace L2
open PySem PySem.Spec PyProof.Rows
section
variable {X:Cx}
theorem oM:di X (.builtin "sorted") (λxs H Q=>∃(p:Addr) (ns:List Int),xs=[.ref p]/\bE X.K H p (ns.map V.int)/\ns.Nodup/\ns.length<=1000/\∀(l:Addr) (ns':List Int),H l=none->ns'.Perm ns->ns'.Pairwise (· <= ·)->Q (.ref l) (upd H l (.lst (ns'.map V.int)))):=by
 intro pins s σ H xs us Q I r h;obtain⟨p,ns,rfl,O,L,hn,q⟩:=h;obtain⟨u,rfl,Y⟩:=vals1 r;cases Y;obtain⟨its,F,pl,hz⟩:=I.list O;have U:=intsAre_of F;have N:=F.length;rw[length_map]at N;refine Srt.tX pl.isList U L af λout ns' R G J=>?_;obtain⟨e,S⟩:=sortedAll_at s.heap its out;have hs:sizeLine=16777216:=sizeLine_eq;refine⟨.ref (s.heap.objs.size+1),_,I.laid (t':=s.toks) (λb o e=>sortedAll_old e) (le_succ _) (show bT X.prog X.w _ _ _ (.lst (ns'.map V.int))from⟨by rw[length_map,G.length_eq];omega,out.toList,e,ig R,by simpa using S⟩),rfl,q _ ns' (I.bG.fresh (le_succ _)) G J⟩
end
end L2
namespace Srt
open PySem PyProof.Rows
theorem qE {prog:Program}{w:World}{A:Around}{I:Addr}{fp wr:List Addr}{G:Array GenState->Array GenState->Prop}{n:Nat}{P:Nat->Value->Prop}{St:Nat->Shared->Prop}(W:WalksS prog w A I fp wr G n P St) (m:Nat) (O:Nat->Value->Prop) :
  WalksS prog w A I fp wr G (m+n) (λj v=>(j<m/\O j v)\/(m<=j/\P (j-m) v)) (λi s=>m<=i/\St (i-m) s) where
 sub:=W.sub
 grefl:=W.grefl
 gtrans:=W.gtrans
 frame:=λi s h' tk st L F=>⟨st.1,W.frame (i-m) s h' tk st.2 L F⟩
 item:=λi s Q E hi st h=>W.item (i-m) s Q E (by have:=st.1;omega) st.2 λv s' N R J=>h v s' (.inr ⟨st.1,N⟩) ⟨by have:=st.1;omega,by rw[show i+1-m=i-m+1 by have:=st.1;omega];exact R⟩ J
 done:=λs Q E st h=>W.done s Q E (by have:=st.2;rwa [show m+n-m=n by omega]at this) h
 self:=λi s Q E st h=>W.self (i-m) s Q E st.2 h
section
variable {prog:Program}{w:World}{A:Around}{s:Shared}{T:String}{r d:Addr}{n:Nat}{P:Nat->Value->Prop}{OK:Heap->Prop}
theorem tF {R:Result->Shared->Prop}(Z:KdlSrc prog w T r d n P OK) (hh:A.handled=none) (bG:OK s.heap) (S:Addr) (sr:S≠r) (sd:S≠d) (res:Value) (G:Array Value) (c:Nat) (hS:s.heap.get? S=some { cls:=.type "list",data:=.seq G c }) (hz:G.size+n<sizeLine)
  (k:∀h' tk N J,(∀b o,b≠S->s.heap.get? b=some o->h'.get? b=some o)->h'.get? S=some { cls:=.type "list",data:=.seq N J }->ItemsOf (λj v=>(j<G.size/\G[j]?=some v)\/(G.size<=j/\P (j-G.size) v)) N (G.size+n)->R (.ok (.ret res)) { s with heap:=h',toks:=tk }) :
  wpAny (model prog w) A.in1 (Builtin.List.listExtendWith (.ref S) (.ref r) res) (λas s'=>match as with|.done f=>R (.ok f) s' |.again J=>J.quiet=true/\codeAny (model prog w) A J R s') (λe s'=>R (.error e) s') s:=by
 have nI:S≠s.heap.objs.size:=ne_of_lt (Heap.lt_size hS);obtain⟨oI,St,ap,W,ad⟩:=Z.iter A.in1 s hh bG;have ab:S∉[s.heap.objs.size,d]:=λz=>by
  rcases List.mem_cons.mp z with e|z
  .exact nI e
  .exact sd (List.mem_singleton.mp z)
 have am:∀(h:Heap) (Y tk:Nat),St 0 h->(∀b o,b≠S->s.heap.get? b=some o->h.get? b=some o)->h.get? S=some { cls:=.type "list",data:=.seq G Y } ->
   codeAny (model prog w) A (.builtin "list.extend.loop" ⟨[.ref S,.ref s.heap.objs.size,res],[]⟩) R { s with heap:=h,toks:=tk }:=by
  intro h Y tk q0 O L;have WS:=qE W.toS G.size λj v=>G[j]?=some v;refine codeAny_extend_loopS WS (le_of_lt hz) S ab res n G.size _ G Y af af ⟨le_refl _,by rw[Nat.sub_self];exact q0⟩ L ⟨rfl,λj v e=>.inl ⟨?_,e⟩⟩ λs' N J mv e1 e2=>?_
  .exact(Array.getElem?_eq_some_iff.mp e).1
  .rw[Moved.eq_with mv];refine k s'.heap s'.toks N J (λb o I e=>mv.heap b o (λz=>?_) (O b o I e)) e1 e2;rcases List.mem_cons.mp z with z|z
   .exact I z
   .exact lt_irrefl _ (List.mem_singleton.mp z▸Heap.lt_size e)
 unfold Builtin.List.listExtendWith;refine wpAny_bind (wpAny_typeOf (T:=T) (Z.type s bG) ?_);have ns:Builtin.List.listSameRef (.ref S) (.ref r)=false:=(by simp[Builtin.List.listSameRef,sr]);simp only[ns,Z.notList,Z.notTuple,Bool.or_false,Bool.false_eq_true,if_false];refine wpAny_bind (ap _ _ ?_);have U:=Heap.get?_push_of_some oI hS;refine wpAny_bind (wpAny_holding (Z.hint _ _ _ _ (Z.keep _ _ bG λb _ o e=>Heap.get?_push_of_some _ e) ?_));refine wpAny_ite_split (λ_=>?_) (λ_=>wpAny_pure ⟨plainId_quiet PySem.F.plain_extend_loop _,am _ c _ ad (λb o _ e=>Heap.get?_push_of_some _ e) U⟩);refine wpAny_bind (wpAny_rule (wpAny_bind ?_));show wpAny _ _ (updateSeq S (·.push .none)>>=λ_=>updateSeq S (·.pop)) _ _ _;have O:=PySem.IsL.update U (·.push Value.none);have L:=PySem.IsL.update O (·.pop);have ep:(G.push Value.none).pop=G:=Array.pop_push ..;refine wpAny_bind (wpAny_updateSeq U rfl (wpAny_updateSeq O rfl (wpAny_pure ⟨plainId_quiet PySem.F.plain_extend_loop _,?_⟩) ?_ ?_) ?_ ?_)
 .rw[ep]at L;refine am _ _ _ (W.frame 0 _ _ ad λb I o e=>?_) (λb o I e=>?_) L
  .have ac:b≠S:=λz=>ab (z▸I);exact(Heap.get?_update_other _ _ (Ne.symm ac)).trans ((Heap.get?_update_other _ _ (Ne.symm ac)).trans e)
  .exact(Heap.get?_update_other _ _ (Ne.symm I)).trans ((Heap.get?_update_other _ _ (Ne.symm I)).trans (Heap.get?_push_of_some _ e))
 .show(G.push Value.none).size<=sizeLine;rw[size_push];omega
 .show((G.push Value.none).pop).size<=sizeLine+1;rw[ep];omega
 .omega
 .show(G.push Value.none).size<=sizeLine+1;rw[size_push];omega
end
end Srt
namespace L2
open PySem PySem.Spec PyProof.Rows
theorem pV:∀{xs:List V}{vs:List Value},xs.length=vs.length->(∀(j:Nat) (x:V) (v:Value),xs[j]?=some x->vs[j]?=some v->RelV x v)->Vals xs vs
 | [],[],_,_=>.nil
 |x::xs,v::vs,F,h=>.cons (h 0 x v rfl rfl) (pV (by simpa using F) λj a b I G=>h (j+1) a b (by simpa using I) (by simpa using G))
 | [],_::_,F,_=>by simp at F
 |_::_,[],F,_=>by simp at F
section
variable {X:Cx}
inductive qN (x:V) (vs:List V) (H:Hp) (Q:VK):Prop
 |mk (l:_) (d:_) (xs:_) (kvs:_) (_:x=.ref l) (_:vs=[.ref d]) (_:H l=some (.lst xs)) (_:H d=some (.dK kvs)) (_:xs.length+kvs.length<sizeLine) (_:Q .non (upd H l (.lst (xs++kvs.map λkv=>kV kv.1)))):qN x vs H Q
theorem tH (hc:X.calm=true):BN X "list.extend" qN:=by
 intro pins s σ H x vs v us Q I rx rv h;obtain⟨l,d,xs,kvs,rfl,rfl,O,hD,hz,q⟩:=h;cases rx;obtain⟨u,rfl,ru⟩:=rv.one;cases ru;obtain⟨z,its,n,r,hl,e⟩:=I.mi O;obtain⟨_,hd,vs,U,dd⟩:=gr I.bG hD;obtain⟨ep,ac⟩:=dd.dictAt;have am:=U.length;have ab:l≠d:=λz=>(by rw[z,hD]at O;cases O);refine wpAny_call (codeAny_call_builtin PySem.F.slot_list_extend.plain PySem.F.entry_list_extend (PySem.F.slot_list_extend.check _ _ _ _ _ _ _ _ ⟨_,e,rfl⟩ (PySem.F.args_list_extend_2 _ _) ?_));show wpAny _ _ (Builtin.List.listExtendWith (.ref l) (.ref d) .none) _ _ s;refine Srt.tF (R:=λr s'=>match r with|.ok (.ret v)=>EP X pins σ Q v s' |.ok _=>False|.error e=>X.xe e s') (kdl_dict (knd:=br X.prog X.w) (kvs:=vs) (ep:=ep) hd) (I.ok.hd hc) ac l ab ab .none its.toArray n e (by rw[size_toArray];omega) λh' tk J c' k1 k2 k3=>⟨.non,_,?_,rfl,q⟩;obtain⟨sz,it⟩:=k3;have sz:J.size=its.length+vs.length:=(by rw[sz,size_toArray]);refine I.write (x:=l) (e:=l) (by rw[O];exact trivial) (.inl rfl) k1 ⟨_,k2⟩ (show bT X.prog X.w _ _ _ (.lst _)from⟨?_,J.toList,c',pV ?_ λj x v G hv=>?_,by simpa using k2⟩)
 .rw[length_append,length_map];omega
 .have al:J.toList.length=J.size:=length_toList;rw[length_append,length_map];omega
 .have ad:J[j]?=some v:=(by rw[<-getElem?_toList];exact hv);rcases it j v ad with⟨S,N⟩|⟨S,N⟩
  .rw[size_toArray]at S;rw[List.getElem?_append_left af]at G;obtain⟨b,eb,rb⟩:=r.get G;have:its[j]?=some v:=(by simpa using N);rw[this]at eb;cases eb;exact rb
  .rw[size_toArray]at S N;obtain⟨k,y,e1,e2⟩:=N;rw[List.getElem?_append_right af,getElem?_map]at G;have L:(vs.map (·.1))[j-its.length]?=some k:=(by rw[getElem?_map,e1];rfl);rw[<-U.keys,getElem?_map]at L;rw[show j-xs.length=j-its.length by omega]at G;cases Y:kvs[j-its.length]? with
   |none=>rw[Y]at L;cases L
   |some kv =>
    rw[Y]at L G;obtain rfl:kv.1=k:=Option.some.inj L;obtain rfl:kV kv.1=x:=Option.some.inj G;exact oq e2
noncomputable def FN (K:PySem.W.Frag):R2:=λx y H Q=>∃p q xs ys,x=.ref p/\y=.ref q/\bR K H p xs/\bR K H q ys/\xs.all eh=true/\ys.all eh=true/\Q (.bl (jY xs ys)) H
theorem mS:∀{xs ys:List V},((List.range (min xs.length ys.length)).all (λj=>mG (xs.getD j .non) (ys.getD j .non))&&xs.length==ys.length)=jY xs ys:=by
 intro xs ys;by_cases e:xs.length=ys.length
 .rw[e,Nat.min_self,beq_self_eq_true,Bool.and_true, <-iE e,e]
 .rw[k4 e,beq_eq_false_iff_ne.mpr e,Bool.and_false]
theorem pf (hu:X.A.units<cLine):iP X (compareOp .Eq) (FN X.K):=by
 intro pins s σ H x y v u Q I rx ry h;obtain⟨p,q,xs,ys,rfl,rfl,hx,hy,fx,U,S⟩:=h;cases rx;cases ry;obtain⟨its,r,pl,hz⟩:=I.tuple hx;obtain⟨L,J,O,am⟩:=I.tuple hy;have hl:=r.length;have ac:=J.length;refine SeqAt.eq_tupleAt (e:=λj=>mG (xs.getD j .non) (ys.getD j .non)) pl O hu (λj h1 h2=>?_) ⟨.bl (jY xs ys),H,I,?_,S⟩
 .rw[size_toArray]at h1 h2;have G:j<xs.length:=af;have F:j<ys.length:=af;obtain⟨a,ea,ra⟩:=r.get (i:=j) (x:=xs[j]) (by simp[G]);obtain⟨b,Y,rb⟩:=J.get (i:=j) (x:=ys[j]) (by simp[F]);obtain⟨_,ab⟩:=List.getElem?_eq_some_iff.mp ea;obtain⟨_,ad⟩:=List.getElem?_eq_some_iff.mp Y;have g1:xs.getD j .non=xs[j]:=(by simp[G]);have N:ys.getD j .non=ys[j]:=(by simp[F]);show SeqAt.EqAt _ _ its.toArray[j] L.toArray[j] (mG (xs.getD j .non) (ys.getD j .non));have a1:its.toArray[j]=a:=(by simpa using ab);have R:L.toArray[j]=b:=(by simpa using ad);rw[g1,N,a1,R];exact pG ra rb (List.all_eq_true.mp fx _ (getElem_mem G)) (List.all_eq_true.mp U _ (getElem_mem F))
 .show Value.bool _=Value.bool _;rw[size_toArray,size_toArray, <-hl, <-ac,mS]
end
section
variable {X:Cx}{pins:List (Addr×Obj)}{σ:St}{H:Hp}{s:Shared}
end
section
variable {X:Cx}
end
end L2
namespace PySem
open PySem.Sem (wp)
section
variable {prog:Program}{w:World}{A:Around}{E:Value->Shared->Prop}{h:Heap}{g:Array GenState}{d:Drawn}{t:Nat}{os:OsState}{a:Addr}{its:Array Value}{n:Nat}
end
open PyProof.Rows
namespace F
end F
section
variable {prog:Program}{w:World}{K:Type} [DecidableEq K] {knd:KeyKind prog w K}{A:Around}{E:Value->Shared->Prop}
end
end PySem
namespace L2
open PySem PySem.Spec PyProof.Rows
section
variable {X:Cx}{scope:Scope}{cl:List (Str×Addr)}{t:Str×Str}{caps:List (Str×Nat)}{pins:List (Addr×Obj)}{σ:St}{H:Hp}{s:Shared}{C:Addr}{fp:List Addr}
end
section
variable {X:Cx}{scope:Scope}{cl:List (Str×Addr)}{t:Str×Str}{caps:List (Str×Nat)}{elt iter:Expr}{ifs:List Expr}{px pos:Pos}{es:List Expr}{kx:Nat}{g:TG}{wi:TI}{tt:TT}{te:TE}
end
theorem Cn:bootBuiltins "zip" = some (.type "zip"):=ah
theorem pP:bootBuiltins "enumerate" = some (.type "enumerate"):=ah
theorem zI:bootBuiltins "all" = some (.builtin "all"):=ah
theorem C5:bootBuiltins "min" = some (.builtin "min"):=ah
section
variable {X:Cx}{pins:List (Addr×Obj)}{σ:St}{H:Hp}{s:Shared}{h':Heap}
theorem Inv.jF {t':Nat}{ch:List Addr}(I:Inv X pins σ H s) (k:∀b o,b∉ch->s.heap.get? b=some o->h'.get? b=some o) (G:∀b∈ch,fK X pins H b):Inv X pins σ H { s with heap:=h',toks:=t' }:=by
 have J:∀b u,H b=some u->b∉ch:=λb u e z=>(by rw[(G b z).1]at e;cases e);refine I.step (g':=s.gens) (d':=s.drawn) (ch:=ch) (λb R=>?_) (λb o _ _ F e _=>k b o F e) (λb o _ _ F e _=>⟨o.slots,k b o F e⟩) (λ_ _ _ _ n=>n)
  (λb o F e=>⟨o,k b o F e⟩) (λ_ _ e=>e) (λ_ _ _ e=>e) (λb ps e=>⟨#[],by rw[e];simp⟩) (λm U=>?_) (λb u e=>?_) I.bare
 .obtain⟨_,S,f2,L,O,Y⟩:=G b R;exact⟨L,S,O,Y⟩
 .obtain⟨o,es,ep,N,r⟩:=U;exact⟨o,es,ep,k _ o (λz=>(G _ z).2.1 rfl) N,r⟩
 .refine(I.bG b u e).oO (λc v F q=>k c v ?_ q) (λ_ q=>q) λ_ _ q=>q;rcases F with z|z
  .rw[z];exact J b u e
  .exact J c _ z
theorem Inv.tm {D:Addr}{ys:List V}{its:List Value}(I:Inv X pins σ H s) (f:fK X pins H D) (e:IsTup s.heap D its.toArray) (r:Vals ys its) (L:ys.length<=sizeLine) :
  Inv X pins σ (upd H D (.tup ys)) s:=by
 obtain⟨G,O,Y,J,S,U⟩:=f;obtain⟨N,g,d,tk,os⟩:=s;refine I.step (g':=g) (d':=d) (t':=tk) (h':=N) (ch:=[D]) (λb F=>?_) (λb o _ _ _ e _=>e) (λb o _ _ _ e _=>⟨o.slots,e⟩) (λb o F _ n=>?_) (λb o _ e=>⟨o,e⟩) (λb xs q=>?_) (λb o u q=>?_) (λb ps q=>⟨#[],?_⟩) (λm R=>R) (λb u q=>?_) I.bare
 .have z:b=D:=(by simpa using F);subst z;exact⟨J,O,S,U⟩
 .rw[ai (λz=>F (by simp[z]))];exact n
 .rw[ai (aq q G)];exact q
 .rw[ai (aq q G)];exact q
 .rw[ai (aq q G),q];simp
 .by_cases F:b=D
  .subst F;rw[ae]at q;cases q;exact⟨L,its,r,e⟩
  .rw[ai F]at q;exact(I.bG b u q).oO (λ_ _ _ z=>z) (λc z=>by rw[ai (aq z G)];exact z) λc xs z=>by rw[ai (aq z G)];exact z
end
noncomputable def Eu (K:PySem.W.Frag) (F G:Addr):It :=
 ⟨λi H=>∃xs ys x y,bE K H F xs/\bE K H G ys/\xs[i]?=some x/\ys[i]?=some y,
  λi H v H'=>∃T x y,v=.ref T/\H T=none/\H'=upd H T (.tup [x,y])/\(∀xs,bE K H F xs->xs[i]?=some x)/\∀ys,bE K H G ys->ys[i]?=some y,
  λi H=>∃xs ys,bE K H F xs/\bE K H G ys/\(xs.length<=i\/ys.length<=i)⟩
noncomputable def HS (z TI TO G F I J:Addr) (i:Nat) (h:Heap):Prop:=IsZip h z TI TO .none/\IsPair h TI (.ref G) (.ref F)/\(∃a b,IsPair h TO a b)/\h.IsListIter G I i/\h.IsListIter F J i
theorem sH:2<=sizeLine:=by rw[sizeLine_eq];decide
theorem xw {P:Program}{w:World}{K:PySem.W.Frag}{es:List Expr}{kx:Nat}{px:Pos}{z TI TO O J l1 l2:Addr}(D:ZipApart z TI TO O J l1 l2):Turn P w K (.Tuple es kx px) (Eu K l1 l2) [z,TI,TO,O,J] z (HS z TI TO O J l1 l2) where
 mem:=by simp
 obj:=by
  rintro i h ⟨N,G,⟨a,b',L⟩,h1,h2⟩ b F;simp only[mem_cons,not_mem_nil,or_false]at F;rcases F with rfl|rfl|rfl|rfl|rfl
  .exact⟨_,N,λv q=>by cases(show Data.fields _=Data.cell v from q)⟩
  .exact⟨_,G,λv q=>by cases(show Data.seq _ _=Data.cell v from q)⟩
  .exact⟨_,L,λv q=>by cases(show Data.seq _ _=Data.cell v from q)⟩
  .obtain⟨o,e,c,d⟩:=h1;exact⟨o,e,λv q=>by rw[d]at q;cases q⟩
  .obtain⟨o,e,c,d⟩:=h2;exact⟨o,e,λv q=>by rw[d]at q;cases q⟩
 keep:=λi h h' ⟨N,G,⟨a,b,L⟩,h1,h2⟩ k=>⟨k z (by simp) _ N,k TI (by simp) _ G,⟨a,b,k TO (by simp) _ L⟩,h1.at λo e=>k O (by simp) o e,h2.at λo e=>k J (by simp) o e⟩
 item:=by
  intro X hP hw hK hc i pins s σ H E I S st hg;subst hP hw hK;obtain⟨N,G,⟨a,b,L⟩,h1,h2⟩:=st;obtain⟨xs,ys,x,y,q1,Y,e1,e2⟩:=hg;obtain⟨am,ab,p1,_⟩:=I.list q1;obtain⟨a0,ac,p2,_⟩:=I.list Y;obtain⟨u1,a4,aT⟩:=ab.get e1;obtain⟨u2,a3,aB⟩:=ac.get e2;have f4:∀b∈[z,TO,O,J],fK X pins H b:=λb F=>S b (by simp only[mem_cons,not_mem_nil,or_false]at F ⊢;rcases F with h|h|h|h<;>simp[h]);refine wpAny_pyNext_zip_item D N G L h1 h2 p1.isList p2.isList (x:=u1) (y:=u2) (by simpa using a4) (by simpa using a3) λh' z' as a1 a2 pT sz kk=>?_;have I1:Inv X pins σ H { s with heap:=h' }:=I.jF (t':=s.toks) (ch:=[z,TO,O,J]) (λb o F e=>kk b o (λq=>F (by simp[q])) (λq=>F (by simp[q])) (λq=>F (by simp[q])) (λq=>F (by simp[q])) e) f4;refine⟨_,rfl,wpAny_letOwnedTupleGo_zip z' λU z2 R=>?_⟩;replace R:Heap.SameBut z h' U:=R;have I2:Inv X pins σ H { s with heap:=U }:=I1.jF (s:={ s with heap:=h' }) (h':=U) (t':=s.toks) (ch:=[z]) (λb o F e=>(R.2 b (λq=>F (by simp[q]))).trans e) λb F=>S b (by simp only[mem_singleton]at F;simp[F]);have fT:fK X pins H s.heap.objs.size:=I.jz (le_refl _) (I.bG.fresh (le_refl _));have nz:s.heap.objs.size≠z:=ne_of_gt (Heap.lt_size N);have ap:IsPair U s.heap.objs.size u1 u2:=R.extBut _ _ nz pT;have I3:Inv X pins σ (upd H s.heap.objs.size (.tup [x,y])) { s with heap:=U }:=I2.tm (its:=[u1,u2]) fT ⟨_,ap,rfl,_,rfl⟩ (.cons aT (.cons aB .nil)) sH;refine⟨.ref s.heap.objs.size,_,I3,rfl,⟨_,x,y,rfl,fT.1,rfl,λzs ad=>by rw[I.jf ad q1];exact e1,λzs ad=>by rw[I.jf ad Y];exact e2⟩,⟨z2,R.extBut _ _ D.TIz (kk _ _ D.TIz D.TITO D.TIi1 D.TIi2 G),⟨_,_,R.extBut _ _ D.TOz as⟩,a1.extBut R.extBut D.i1z,a2.extBut R.extBut D.i2z⟩,λb F=>?_⟩;have nb:b≠s.heap.objs.size:=by
   intro q;simp only[mem_cons,not_mem_nil,or_false]at F;obtain⟨o1,g1,_⟩:=h1;obtain⟨o2,g2,_⟩:=h2;rcases F with e|e|e|e|e<;>rw[e]at q
   .exact nz q.symm
   .exact ne_of_lt (Heap.lt_size G) q
   .exact ne_of_lt (Heap.lt_size L) q
   .exact ne_of_lt (Heap.lt_size g1) q
   .exact ne_of_lt (Heap.lt_size g2) q
  rw[ai nb];exact(S b F).1
 done:=by
  intro X hP hw hK hc i pins s σ H E I S st hg;subst hP hw hK;obtain⟨N,G,⟨a,b,L⟩,h1,h2⟩:=st;obtain⟨xs,ys,q1,Y,e⟩:=hg;obtain⟨am,ab,p1,_⟩:=I.list q1;obtain⟨a0,ac,p2,_⟩:=I.list Y;have a5:=ab.length;have a6:=ac.length;have f4:∀b∈[z,TO,O,J],fK X pins H b:=λb F=>S b (by simp only[mem_cons,not_mem_nil,or_false]at F ⊢;rcases F with h|h|h|h<;>simp[h]);refine wpAny_pyNext_zip_end (I.ok.hd hc) D N G L h1 h2 p1.isList p2.isList (e.elim (λe=>.inl (by simp;omega)) λe=>.inr (by simp;omega)) λh' kk=>⟨rfl,I.jF (t':=s.toks) (ch:=[z,TO,O,J]) (λb o F e=>kk b o (λq=>F (by simp[q])) (λq=>F (by simp[q])) (λq=>F (by simp[q])) (λq=>F (by simp[q])) e) f4⟩
 self:=λ_ _ _ _ _ st h=>wpAny_pyIter_zip st.1 h
section
variable {X:Cx}
noncomputable def Gg (K:PySem.W.Frag) (ta:TA):TI:=λσ H R=>ta σ H λvs H1=>wX λF G=>Du (vs=[.ref F,.ref G]) ((∃xs,bE K H1 F xs)) ((∃ys,bE K H1 G ys)) (R (Eu K F G) H1)
theorem CL {es:List Expr}{kx:Nat}{px:Pos}{a b:Expr}{ta:TA}{p pos:Pos}(hg:Gl X "zip") (hm:X.mg "zip" = none) (ha:PA X [a,b] ta) (hs:starEach [a,b] X.env=[(false,eval a X.env),(false,eval b X.env)]:=by rfl) (S:starEach [b] X.env=[(false,eval b X.env)]:=by rfl) :
  PI X (.Tuple es kx px) (.Call (.Name "zip" p) [a,b] [] pos) (Gg X.K ta):=by
 intro pins s σ H R I h;refine Call_ (gH I hg hm Cn (PyProof.Rows.callWith_type1 (bP (ha pos pins s σ H _ I h) λus F ⟨vs,H1,G,r1,q1⟩=>?_) (by rw[hs,S]) (by rw[S];rfl)));obtain⟨L,U,rfl,⟨xs,g1⟩,⟨ys,g2⟩,q⟩:=q1;obtain⟨u1,u2,rfl,e1,e2⟩:=vals2 r1;obtain rfl:u1=Value.ref L:=e1;obtain rfl:u2=Value.ref U:=e2;obtain⟨as,aB,N,_⟩:=G.list g1;obtain⟨a0,aT,p2,_⟩:=G.list g2;have am:L<F.heap.objs.size:=let ⟨_,e,_⟩:=N.isList;Heap.lt_size e;have ap:U<F.heap.objs.size:=let ⟨_,e,_⟩:=p2.isList;Heap.lt_size e;refine call_zip_2 N.isList p2.isList λh' J ab ad Y ac hsz hk=>?_;refine wpAny_pyIter_zip J ?_;refine⟨F.heap.objs.size+4,[F.heap.objs.size+4,F.heap.objs.size+2,F.heap.objs.size+3,F.heap.objs.size,F.heap.objs.size+1],_,_,H1,rfl,G.kept (t':=F.toks) hk,xw (zipApart_new am ap),⟨J,ab,⟨_,_,ad⟩,Y,ac⟩,λb O=>?_,q⟩;have le:F.heap.objs.size<=b:=by
  simp only[mem_cons,not_mem_nil,or_false]at O;rcases O with e|e|e|e|e<;>rw[e]<;>first|exact le_refl _|exact Nat.le_add_right _ _
 exact G.jz le (G.bG.fresh le)
noncomputable def DE (K:PySem.W.Frag) (l:Addr):It :=
 ⟨λi H=>∃xs x,bE K H l xs/\xs[i]?=some x,
  λi H v H'=>∃T x,v=.ref T/\H T=none/\H'=upd H T (.tup [.int i,x])/\∀xs,bE K H l xs->xs[i]?=some x,
  λi H=>∃xs,bE K H l xs/\xs.length<=i⟩
noncomputable def HP (e F l:Addr) (i:Nat) (h:Heap):Prop:=(∃G,IsEnum h e F i G)/\h.IsListIter F l i
theorem vO {P:Program}{w:World}{K:PySem.W.Frag}{es:List Expr}{kx:Nat}{px:Pos}{e J l:Addr}(D:e≠J):Turn P w K (.Tuple es kx px) (DE K l) [e,J] e (HP e J l) where
 mem:=by simp
 obj:=by
  rintro i h ⟨⟨O,G⟩,h1⟩ b F;simp only[mem_cons,not_mem_nil,or_false]at F;rcases F with rfl|rfl
  .exact⟨_,G,λv q=>by cases(show Data.fields _=Data.cell v from q)⟩
  .obtain⟨o,e,c,d⟩:=h1;exact⟨o,e,λv q=>by rw[d]at q;cases q⟩
 keep:=λi h h' ⟨⟨O,G⟩,h1⟩ k=>⟨⟨O,k e (by simp) _ G⟩,h1.at λo q=>k J (by simp) o q⟩
 item:=by
  intro X hP U hK hc i pins s σ H E I L st hg;subst hP U hK;obtain⟨⟨O,G⟩,h1⟩:=st;obtain⟨xs,x,S,e1⟩:=hg;obtain⟨ab,Y,p1,_⟩:=I.list S;obtain⟨u1,ap,ad⟩:=Y.get e1;refine wpAny_pyNext_enum_item G h1 p1.isList (x:=u1) (by simpa using ap) D λh' eo a1 pT sz kk=>?_;have I1:Inv X pins σ H { s with heap:=h',toks:=s.toks+1 }:=I.jF (t':=s.toks+1) (ch:=[e,J]) (λb o F q=>kk b o (λz=>F (by simp[z])) (λz=>F (by simp[z])) q) L;refine⟨_,rfl,wpAny_letOwnedTupleGo_enum eo λR e2 N=>?_⟩;replace N:Heap.SameBut e h' R:=N;have I2:Inv X pins σ H { s with heap:=R,toks:=s.toks+1 }:=I1.jF (s:={ s with heap:=h',toks:=s.toks+1 }) (h':=R) (t':=s.toks+1) (ch:=[e]) (λb o F q=>(N.2 b (λz=>F (by simp[z]))).trans q) λb F=>L b (by simp only[mem_singleton]at F;simp[F]);have fT:fK X pins H s.heap.objs.size:=I.jz (le_refl _) (I.bG.fresh (le_refl _));have ne:s.heap.objs.size≠e:=ne_of_gt (Heap.lt_size G);have ac:=N.extBut _ _ ne pT;have I3:Inv X pins σ (upd H s.heap.objs.size (.tup [.int i,x])) { s with heap:=R,toks:=s.toks+1 }:=I2.tm (its:=[.int i s.toks,u1]) fT ⟨_,ac,rfl,_,rfl⟩ (.cons ⟨_,rfl⟩ (.cons ad .nil)) sH;refine⟨.ref s.heap.objs.size,_,I3,rfl,⟨_,x,rfl,fT.1,rfl,λzs am=>by rw[I.jf am S];exact e1⟩,⟨⟨u1,?_⟩,a1.extBut N.extBut (Ne.symm D)⟩,λb F=>?_⟩
  .have ec:((i+1:Nat):Int)=(i:Int)+1:=(by push_cast;rfl);rw[ec];exact e2
  .have nb:b≠s.heap.objs.size:=by
    intro q;simp only[mem_cons,not_mem_nil,or_false]at F;obtain⟨o1,g1,_⟩:=h1;rcases F with z|z<;>rw[z]at q
    .exact ne q.symm
    .exact ne_of_lt (Heap.lt_size g1) q
   rw[ai nb];exact(L b F).1
 done:=by
  intro X hP U hK hc i pins s σ H E I L st hg;subst hP U hK;obtain⟨⟨O,G⟩,h1⟩:=st;obtain⟨xs,S,e1⟩:=hg;obtain⟨ab,Y,p1,_⟩:=I.list S;have as:=Y.length;obtain⟨f0,f1,f2,f3,f4,f5⟩:=L J (by simp);exact wpAny_pyNext_enum_end (I.ok.hd hc) G h1 p1.isList (by simp;omega) λh' eb=>⟨rfl,I.turned (t':=s.toks) (λb o F q=>eb b o F q) f0 f1 f3 f4 f5⟩
 self:=λ_ _ _ _ _ st h=>let ⟨⟨_,G⟩,_⟩:=st;wpAny_pyIter_enum G h
noncomputable def Ej (K:PySem.W.Frag) (ta:TA):TI:=λσ H R=>ta σ H λvs H1=>∃l,vs=[.ref l]/\(∃xs,bE K H1 l xs)/\R (DE K l) H1
theorem Aa {es:List Expr}{kx:Nat}{px:Pos}{a:Expr}{ta:TA}{p pos:Pos}(hg:Gl X "enumerate") (O:X.mg "enumerate" = none) (S:PA X [a] ta) (hs:starEach [a] X.env=[(false,eval a X.env)]:=by rfl) :
  PI X (.Tuple es kx px) (.Call (.Name "enumerate" p) [a] [] pos) (Ej X.K ta):=by
 intro pins s σ H R I h;refine Call_ (gH I hg O pP (PyProof.Rows.callWith_type1 (bP (S pos pins s σ H _ I h) λus F ab=>?_) hs rfl));obtain⟨vs,H1,G,U,q1⟩:=ab;obtain⟨l,rfl,⟨xs,g1⟩,q⟩:=q1;obtain⟨u1,rfl,Y⟩:=vals1 U;obtain rfl:u1=Value.ref l:=Y;obtain⟨ac,ad,N,_⟩:=G.list g1;refine call_enumerate_list N.isList λh' L hi hsz hk=>?_;refine wpAny_pyIter_enum L ?_;refine⟨F.heap.objs.size+1,[F.heap.objs.size+1,F.heap.objs.size],_,_,H1,rfl,G.kept (t':=F.toks) hk,vO (l:=l) (Nat.succ_ne_self _),⟨⟨_,L⟩,hi⟩,λb J=>?_,q⟩;have le:F.heap.objs.size<=b:=by
  simp only[mem_cons,not_mem_nil,or_false]at J;rcases J with e|e<;>rw[e]<;>first|exact le_refl _|exact Nat.le_add_right _ _
 exact G.jz le (G.bG.fresh le)
theorem oJ:∀{bs:List Bool}{its:List Value},Vals (bs.map V.bl) its->its=bs.map Value.bool
 | [],_,.nil=>rfl
 |b::bs,_,.cons r t=>by rw[oJ t,show _=Value.bool b from r];rfl
theorem nu (hc:X.calm=true):di X (.builtin "all") (λxs H Q=>∃(l:Addr) (bs:List Bool),xs=[.ref l]/\bE X.K H l (bs.map V.bl)/\Q (.bl (bs.all id)) H):=by
 intro pins s σ H xs us Q I r h;obtain⟨l,bs,rfl,hl,q⟩:=h;obtain⟨u,rfl,U⟩:=vals1 r;obtain rfl:u=Value.ref l:=U;obtain⟨its,O,p,_⟩:=I.list hl;have N:=oJ O;subst N;have J:=p.isList;have R:l<s.heap.objs.size:=let ⟨_,e,_⟩:=J;Heap.lt_size e;refine call_all_walk (wpAny_pyIter_list J ?_);refine⟨s.heap.objs.size,[s.heap.objs.size,l],[s.heap.objs.size],(bs.map Value.bool).toArray.size,_,_,λi=>(bs[i]?).getD true,rfl,Walks.list (A:=X.A.in1) (I.ok.hd hc) _ l (ne_of_lt R) (bs.map Value.bool).toArray,
  ⟨⟨_,Heap.get?_push_size _ rfl,rfl,rfl⟩,J.push _⟩,λi v s' Q' E' S L=>?_,λh' tk hk=>?_⟩
 .have Y:(bs.map Value.bool).toArray[i]?=some v:=S;have F:(bs.map Value.bool)[i]?=some v:=(by simpa using Y);rw[getElem?_map]at F;cases G:bs[i]? with
  |none=>rw[G]at F;cases F
  |some b =>
   rw[G]at F;have e2:Value.bool b=v:=Option.some.inj F;subst e2;simp only[G,getD_some]at L;exact wpAny_truthy_bool L
 .have e:((List.range (bs.map Value.bool).toArray.size).all λi=>(bs[i]?).getD true)=bs.all id:=by
   rw[size_toArray,length_map];exact LSm.range_all bs
  rw[e];exact⟨.bl _,H,I.kept (LSm.kept_iter hk),rfl,q⟩
end
theorem zg {K:PySem.W.Frag}{a:Addr}{xs:List V}{g:TG}{tb:TS}{D:Ends}{σ:St}{H:Hp}(Pv:Nat->St->Hp->Prop) (S:Pv 0 σ H) (U:∀i σ H,i<=xs.length->Pv i σ H->bE K H a xs)
  (hs:∀i x σ H T,xs[i]?=some x->H T=none->Pv i σ H->g (.ref T) σ (upd H T (.tup [.int i,x])) λI H2=>tb { D with nx:=Pv (i+1),ct:=Pv (i+1),bk:=D.nx } I H2) (hd:∀σ H,Pv xs.length σ H->D.nx σ H) :
  ∃W:Nat->Nat->St->Hp->Prop,(∃m,W 0 m σ H)/\∀i m σ H,W i m σ H ->
   ((DE K a).stop i H/\D.nx σ H)\/((DE K a).go i H/\∃N:St->Hp->Prop,(∀F H',N F H'->∃J,J<m/\W (i+1) J F H')/\∀x H',(DE K a).Ao i H x H'->g x σ H' λI H2=>tb { D with nx:=N,ct:=N,bk:=D.nx } I H2):=by
 refine⟨λi m σ H=>m=xs.length-i/\i<=xs.length/\Pv i σ H,⟨xs.length,by simp,zero_le _,S⟩,?_⟩;rintro i m σ H ⟨rfl,hi,p⟩;have G:=U i σ H hi p;by_cases L:i<xs.length
 .refine .inr ⟨⟨xs,xs[i],G,by simp[L]⟩,Pv (i+1),λF H' O=>⟨xs.length-(i+1),af,rfl,L,O⟩,?_⟩;rintro v H' ⟨T,x,rfl,R,rfl,Y⟩;exact hs i x σ H T (Y xs G) R p
 .have e:i=xs.length:=af;subst e;exact .inl ⟨⟨xs,G,le_refl _⟩,hd σ H p⟩
section
variable {X:Cx}
theorem jy (hc:X.calm=true):di X (.builtin "sorted") (λxs H Q=>∃(a:Addr) (kvs:List (Key×V)) (ns:List Int),xs=[.ref a]/\H a=some (.dK kvs)/\kvs.map (·.1)=ns.map Sum.inl/\ns.Nodup/\ns.length<=1000 /\
  ∀(l:Addr) (ns':List Int),H l=none->ns'.Perm ns->ns'.Pairwise (· <= ·)->Q (.ref l) (upd H l (.lst (ns'.map V.int)))):=by
 intro pins s σ H xs us Q I r h;obtain⟨a,kvs,ns,rfl,ha,hk,O,hn,q⟩:=h;obtain⟨u,rfl,ru⟩:=vals1 r;cases ru;obtain⟨_,hd,vs,S,Y⟩:=gr I.bG ha;obtain⟨ep,ab⟩:=Y.dictAt;have N:vs.map (·.1)=ns.map Sum.inl:=(by rw[<-S.keys];exact hk);have ll:ns.length=vs.length:=by
  have:=congrArg List.length N;simpa using this.symm
 have hs:sizeLine=16777216:=sizeLine_eq;refine Srt.sf (kdl_dict (knd:=br X.prog X.w) (kvs:=vs) (ep:=ep) (d:=a) hd) (I.ok.hd hc) ab (ns:=ns) (λi w' U=>?_) ll O af λh1 h' tk out ns' e k1 k2 he a1 J a3=>?_
 .obtain⟨k,x,e1,R⟩:=U;have F:(vs.map (·.1))[i]?=some k:=(by rw[getElem?_map,e1];rfl);rw[N,getElem?_map]at F;cases L:ns[i]? with
  |none=>rw[L]at F;cases F
  |some m =>
   rw[L]at F;obtain rfl:Sum.inl m=k:=Option.some.inj F;obtain⟨t,rfl⟩:=oq R;exact⟨m,t,rfl,rfl⟩
 .have G:Inv X pins σ H { s with heap:=h1,toks:=tk }:=I.kept k1;exact⟨.ref h1.objs.size,_,G.laid (t':=tk) k2 (le_refl _) (show bT X.prog X.w _ _ _ (.lst (ns'.map V.int))from⟨by rw[length_map,J.length_eq];omega,out.toList,e,ig a1,by simpa using he⟩),rfl,q _ ns' (G.bG.fresh (le_refl _)) J a3⟩
inductive vo (H₀:Hp) (t:TE) (Q:VK) (v:V) (H':Hp):Prop
 |mk (a:_) (o:_) (kvs:_) (_:H' a=some (.frz o (.dK kvs))) (_:(∀o u',H₀ a≠some (.frz o u'))) (_:Q v (upd H' a (.dK kvs))):vo H₀ t Q v H'
noncomputable def B8 (H₀:Hp) (t:TE):TE:=λσ H Q=>t σ H λv H'=>vo H₀ t Q v H'
theorem vh {e:Expr}{t:TE}(h:PE X e t):PE X e (B8 X.H₀ t):=by
 intro pins s σ H Q I q;refine bP (h pins s σ H _ I q) λu O L=>?_;obtain⟨v,H',J,r,a,o,kvs,N,G,F⟩:=L;exact⟨v,_,J.Dh N G,r,F⟩
end
theorem lG:entryFor table "dict_itemiterator.__iter__" = some Builtin.«dict_keyiterator.__iter__» :=
 entryFor_alias (id' := "dict_keyiterator.__iter__") (by kernel_rfl) (by first|rfl|decide +kernel|(unfold String.splitOn;simp +decide [String.splitOnAux])) ah (by kernel_rfl)
theorem gw {prog:Program}{w:World}{A:Around}{E:Value->Shared->Prop}{s:Shared}{G d:Addr}{i n ep:Nat}{ok ov:Value}{Q:Value->Shared->Prop}(J:IsItemIter s.heap G d i n ep ok ov) (h:Q (.ref G) s):wpAny (model prog w) A (pyIter (.ref G)) Q E s:=by
 have I:s.TypeIs (.ref G) "dict_itemiterator" := ⟨_,J,rfl⟩;refine wpAny_pyIter_slot I PySem.F.slot_dict_itemiterator_iter (wpAny_call_entry PySem.F.slot_dict_itemiterator_iter I lG ?_ (PySem.F.args_dict_itemiterator_iter_1 _));show wpAny _ _ (ret (.ref G)) _ _ s;exact wpAny_pure ⟨_,rfl,"dict_itemiterator",_,I,PySem.F.slot_dict_itemiterator_next.lookup,h⟩
noncomputable def Dx (a:Addr) (o:Obj) (kvs:List (Key×V)):It :=
 ⟨λi H=>H a=some (.frz o (.dK kvs))/\i<kvs.length,λi H x H'=>∃T k v,x=.ref T/\H T=none/\kvs[i]?=some (k,v)/\H'=upd H T (.tup [kV k,v]),λi H=>H a=some (.frz o (.dK kvs))/\kvs.length<=i⟩
theorem zi:∀{kvs:List (Key×V)}{vs:List (Key×Value)},Paired (λ(p:Key×V) (q:Key×Value)=>p.1=q.1/\RelV p.2 q.2) kvs vs->∀{i:Nat},i<kvs.length->∃k v x,kvs[i]?=some (k,v)/\vs[i]?=some (k,x)/\RelV v x
 |_,_,.nil,_,h=>by simp at h
 |p::_,G::_,.cons q _,0,_=>⟨p.1,p.2,G.2,rfl,by rw[q.1];rfl,q.2⟩
 |_::_,_::_,.cons _ t,i+1,h=>by
  obtain⟨k,v,x,I,F,J⟩:=zi t (i:=i) (by simpa using h);exact⟨k,v,x,by simpa using I,by simpa using F,J⟩
theorem Bk {kvs:List (Key×V)}{vs:List (Key×Value)}(r:KV kvs vs) {i:Nat}(hi:i<kvs.length):∃k v x,kvs[i]?=some (k,v)/\vs[i]?=some (k,x)/\RelV v x:=zi r hi
theorem uj {P:Program}{w:World}{K:PySem.W.Frag}{es:List Expr}{kx:Nat}{px:Pos}(a G:Addr) (aB:a≠G) (o:Obj) (kvs:List (Key×V)):Turn P w K (.Tuple es kx px) (Dx a o kvs) [G] G (λi h=>∃ok ov,IsItemIter h G a i kvs.length (xn o) ok ov) where
 mem:=by simp
 obj:=λi h st b F=>by
  have e:b=G:=(by simpa using F);subst e;obtain⟨ok,ov,st⟩:=st;exact⟨_,st,λv q=>by cases(show Data.fields _=Data.cell v from q)⟩
 keep:=λi h h' st k=>let ⟨ok,ov,st⟩:=st;⟨ok,ov,k G (by simp) _ st⟩
 item:=by
  intro X hP hw hK hc i pins s σ H E I N st hg;subst hP hw hK;obtain⟨ab,ad⟩:=hg;obtain⟨R,L,f2,J,O,U⟩:=N G (by simp);obtain⟨hd,vs,r,da⟩:=jR I.bG ab;have ac:=r.length;obtain⟨k,v,x,e1,e2,e3⟩:=Bk r ad;obtain⟨ok,ov,st⟩:=st;rw[ac]at st ⊢;refine wpAny_pyNext_items_item st da e2 λap h' as ho hT hsz hk=>?_;have I1:Inv X pins σ H { s with heap:=h',toks:=s.toks }:=I.turned (λb o F e=>hk b o F e) R L J O U;refine⟨_,rfl,wpAny_letOwnedTupleGo_items ho λS e4 Y=>?_⟩;replace Y:Heap.SameBut G h' S:=Y;have I2:Inv X pins σ H { s with heap:=S,toks:=s.toks }:=I1.turned (s:={ s with heap:=h',toks:=s.toks }) (h':=S) (t':=s.toks) (λb o F e=>(Y.2 b F).trans e) R L J O U;have fT:fK X pins H s.heap.objs.size:=I.jz (le_refl _) (I.bG.fresh (le_refl _));have ne:s.heap.objs.size≠G:=ne_of_gt (Heap.lt_size st);have am:=Y.extBut _ _ ne hT;have I3:Inv X pins σ (upd H s.heap.objs.size (.tup [kV k,v])) { s with heap:=S,toks:=s.toks }:=I2.tm (its:=[ap,x]) fT ⟨_,am,rfl,_,rfl⟩ (.cons (oq as) (.cons e3 .nil)) sH;refine⟨.ref s.heap.objs.size,_,I3,rfl,⟨_,k,v,rfl,fT.1,e1,rfl⟩,⟨_,_,e4⟩,λb F=>?_⟩;have nb:b≠s.heap.objs.size:=λq=>ne (by rw[<-q];simpa using F);rw[ai nb];exact(N b F).1
 done:=by
  intro X hP hw hK hc i pins s σ H E I N st hg;subst hP hw hK;obtain⟨ab,ad⟩:=hg;obtain⟨R,L,f2,J,O,U⟩:=N G (by simp);obtain⟨hd,vs,r,da⟩:=jR I.bG ab;have ac:=r.length;obtain⟨ok,ov,st⟩:=st;rw[ac]at st;exact wpAny_pyNext_items_end (I.ok.hd hc) st da (by simp;omega) λh' eb=>⟨rfl,I.turned (t':=s.toks) (λb o F e=>eb b o F e) R L J O U⟩
 self:=λ_ _ _ _ _ st h=>by
  obtain⟨ok,ov,st⟩:=st;exact gw st h
section
variable {X:Cx}
noncomputable def CF (H₀:Hp) (td:TE):TI:=λσ H R=>td σ H λx H1=>wX λa kvs=>Du (x=.ref a) (H1 a=some (.dK kvs)) ((∀o F,H₀ a≠some (.frz o F))) (∀o,R (Dx a o kvs) (upd H1 a (.frz o (.dK kvs))))
theorem qF {es:List Expr}{kx:Nat}{px:Pos}{o:Expr}{apos cpos:Pos}{td:TE}(ho:PE X o td) (am:attributeBase o "items" X.env (eval o X.env)=eval o X.env:=by rfl) (ac:(apos.endLine==cpos.line)=true:=by rfl):PI X (.Tuple es kx px) (.Call (.Attribute o "items" apos) [] [] cpos) (CF X.H₀ td):=by
 intro pins s σ H R I h;refine wpAny_Call_method0_late am ac (bP (ho pins s σ H _ I h) λu G ap=>?_);obtain⟨x,H1,N,rx,a,kvs,ex,L,hn,q⟩:=ap;subst ex;obtain rfl:u=Value.ref a:=rx;obtain⟨t1,t2,hd⟩:=j6 N (.inl ⟨kvs,.inl L⟩);obtain⟨_,_,vs,aB,U⟩:=gr N.bG L;refine⟨"dict","dict.items",plainAttrs_dict,PySem.F.slot_dict_items,PySem.F.type_dict_items,t1,t2,Calls.callWith_builtin rfl (PySem.evalArgs_none ?_)⟩;refine call_meetsIn PySem.F.slot_dict_items U.typeIs PySem.F.entry_dict_items (PySem.F.args_dict_items_1 _) (meets_dict_items (br X.prog X.w) a hd) ⟨⟨vs,U⟩,?_⟩;have nw:=Heap.get?_push_size G.heap (o:={ cls:=.type "dict_items",data:=.fields #[.ref a] }) rfl;have Y:Inv X pins σ H1 { G with heap:=G.heap.push { cls:=.type "dict_items",data:=.fields #[.ref a] },toks:=G.toks }:=N.kept λb o e=>Heap.get?_push_of_some _ e;obtain⟨_,aT,ab,as,wG⟩:=gr Y.bG L;obtain⟨J,ad,ep,S,g2,g3,g4⟩:=id wG;have O:=Y.freeze L S hn;have lt:a<(G.heap.push { cls:=.type "dict_items",data:=.fields #[.ref a] }).objs.size:=Heap.lt_size S;have da:(G.heap.push { cls:=.type "dict_items",data:=.fields #[.ref a] }).DictAt (br X.prog X.w) a ab (xn J):=⟨J,ad,S,g2,by unfold xn;rw[g3],g4⟩;refine wpAny_pyIter_items ⟨_,nw,rfl,rfl⟩ da ?_;refine⟨(G.heap.push { cls:=.type "dict_items",data:=.fields #[.ref a] }).objs.size,[(G.heap.push { cls:=.type "dict_items",data:=.fields #[.ref a] }).objs.size],_,Dx a J kvs,_,rfl,O.kept (t':=G.toks) λb o e=>Heap.get?_push_of_some _ e,uj a _ (ne_of_lt lt) J kvs,⟨.none,.none,?_⟩,λb hb=>?_,q J⟩
 .rw[as.length];exact Heap.get?_push_size _ rfl
 .have e:b=(G.heap.push { cls:=.type "dict_items",data:=.fields #[.ref a] }).objs.size:=(by simpa using hb);subst e;exact O.jz (le_refl _) (O.bG.fresh (le_refl _))
end
noncomputable def Fe (a:Addr) (o:Obj) (kvs:List (Key×V)):It :=
 ⟨λi H=>H a=some (.frz o (.dK kvs))/\i<kvs.length,λi H x H'=>H'=H/\∃k,kvs[i]?=some (k,x),λi H=>H a=some (.frz o (.dK kvs))/\kvs.length<=i⟩
theorem vL {P:Program}{w:World}{K:PySem.W.Frag}{tg:Expr}(a F:Addr) (ap:a≠F) (o:Obj) (kvs:List (Key×V)):Turn P w K tg (Fe a o kvs) [F] F (λi h=>h.IsValIter F a i kvs.length (xn o)) where
 mem:=by simp
 obj:=λi h st b G=>by
  have e:b=F:=(by simpa using G);subst e;obtain⟨L,h1,_,J⟩:=st;exact⟨L,h1,λv z=>by rw[J]at z;cases z⟩
 keep:=λi h h' ⟨L,h1,h2,J⟩ k=>⟨L,k F (by simp) _ h1,h2,J⟩
 item:=by
  intro X hP R hK hc i pins s σ H E I N st hg;subst hP R hK;obtain⟨S,ad⟩:=hg;obtain⟨Y,U,f2,O,f4,f5⟩:=N F (by simp);obtain⟨hd,vs,r,da⟩:=jR I.bG S;have ab:=r.length;obtain⟨k,v,x,e1,e2,e3⟩:=Bk r ad;rw[ab]at st ⊢;refine wpAny_pyNext_values_item st da e2 λh' ac am=>?_;have I1:Inv X pins σ H { s with heap:=h',toks:=s.toks }:=I.turned (λb o G e=>(am.2 b G).trans e) Y U O f4 f5;obtain⟨L,h1,h2,J⟩:=id ac;exact⟨_,rfl,nJ (s:={ s with heap:=h' }) (n := "dict_valueiterator") h1 h2 J av ⟨v,H,I1,e3,⟨rfl,k,e1⟩,ac,λb G=>(N b G).1⟩⟩
 done:=by
  intro X hP R hK hc i pins s σ H E I N st hg;subst hP R hK;obtain⟨S,ad⟩:=hg;obtain⟨Y,U,f2,O,f4,f5⟩:=N F (by simp);obtain⟨hd,vs,r,da⟩:=jR I.bG S;have ab:=r.length;rw[ab]at st;exact wpAny_pyNext_values_end (I.ok.hd hc) st da (by simp;omega) λh' eb=>⟨rfl,I.turned (t':=s.toks) (λb o G e=>eb b o G e) Y U O f4 f5⟩
 self:=λ_ _ _ _ _ st h=>wpAny_pyIter_valiter st h
section
variable {X:Cx}{tg:Expr}
noncomputable def DN (H₀:Hp) (td:TE):TI:=λσ H R=>td σ H λx H1=>wX λa kvs=>Du (x=.ref a) (H1 a=some (.dK kvs)) ((∀o F,H₀ a≠some (.frz o F))) (∀o,R (Fe a o kvs) (upd H1 a (.frz o (.dK kvs))))
theorem Be {o:Expr}{apos cpos:Pos}{td:TE}(ho:PE X o td) (am:attributeBase o "values" X.env (eval o X.env)=eval o X.env:=by rfl) (ac:(apos.endLine==cpos.line)=true:=by rfl):PI X tg (.Call (.Attribute o "values" apos) [] [] cpos) (DN X.H₀ td):=by
 intro pins s σ H R I h;refine wpAny_Call_method0_late am ac (bP (ho pins s σ H _ I h) λu G as=>?_);obtain⟨x,H1,N,rx,a,kvs,ex,L,hn,q⟩:=as;subst ex;obtain rfl:u=Value.ref a:=rx;obtain⟨t1,t2,hd⟩:=j6 N (.inl ⟨kvs,.inl L⟩);obtain⟨_,_,vs,aB,U⟩:=gr N.bG L;refine⟨"dict","dict.values",plainAttrs_dict,PySem.F.slot_dict_values,PySem.F.type_dict_values,t1,t2,Calls.callWith_builtin rfl (PySem.evalArgs_none ?_)⟩;refine call_meetsIn PySem.F.slot_dict_values U.typeIs PySem.F.entry_dict_values (PySem.F.args_dict_values_1 _) (meets_dict_values (br X.prog X.w) a hd) ⟨⟨vs,U⟩,?_⟩;have nw:=Heap.get?_push_size G.heap (o:={ cls:=.type "dict_values",data:=.fields #[.ref a] }) rfl;have Y:Inv X pins σ H1 { G with heap:=G.heap.push { cls:=.type "dict_values",data:=.fields #[.ref a] },toks:=G.toks }:=N.kept λb o e=>Heap.get?_push_of_some _ e;obtain⟨_,aT,ab,ap,wG⟩:=gr Y.bG L;obtain⟨J,ad,ep,S,g2,g3,g4⟩:=id wG;have O:=Y.freeze L S hn;have lt:a<(G.heap.push { cls:=.type "dict_values",data:=.fields #[.ref a] }).objs.size:=Heap.lt_size S;have da:(G.heap.push { cls:=.type "dict_values",data:=.fields #[.ref a] }).DictAt (br X.prog X.w) a ab (xn J):=⟨J,ad,S,g2,by unfold xn;rw[g3],g4⟩;refine wpAny_pyIter_values ⟨_,nw,rfl,rfl⟩ da ?_;refine⟨(G.heap.push { cls:=.type "dict_values",data:=.fields #[.ref a] }).objs.size,[(G.heap.push { cls:=.type "dict_values",data:=.fields #[.ref a] }).objs.size],_,Fe a J kvs,_,rfl,O.kept (t':=G.toks) λb o e=>Heap.get?_push_of_some _ e,vL a _ (ne_of_lt lt) J kvs,?_,λb hb=>?_,q J⟩
 .rw[ap.length];exact⟨_,Heap.get?_push_size _ rfl,rfl,rfl⟩
 .have e:b=(G.heap.push { cls:=.type "dict_values",data:=.fields #[.ref a] }).objs.size:=(by simpa using hb);subst e;exact O.jz (le_refl _) (O.bG.fresh (le_refl _))
end
end L2
namespace Srt
open PySem PyProof.Rows
section
variable {prog:Program}{w:World}{A:Around}{E:Value->Shared->Prop}{s:Shared}{a₀:Array Keyed}
end
section
variable {prog:Program}{w:World}{A:Around}{E:Value->Shared->Prop}{s:Shared}
end
section
variable {prog:Program}{w:World}{A:Around}{E:Value->Shared->Prop}{s:Shared}{T:String}{r d:Addr}{n:Nat}{P:Nat->Value->Prop}{OK:Heap->Prop}
end
end Srt
namespace L2
open PySem PySem.Spec PyProof.Rows
section
variable {X:Cx}
end
end L2
namespace Sp
open PySem PySem.StrLaws PySem.Builtin PySem.Builtin.Str
end Sp
namespace L2
open PySem PySem.Spec PyProof.Rows PySem.Builtin PySem.Builtin.Str
section
variable {X:Cx}
theorem lS (J:X.calm=true):di X (.builtin "sum") (λxs H Q=>∃(p:Addr) (ns:List Int),xs=[.ref p]/\bE X.K H p (ns.map V.int)/\Q (.int ns.sum) H):=by
 intro pins s σ H xs us Q I r h;obtain⟨p,ns,rfl,O,q⟩:=h;obtain⟨u,rfl,S⟩:=vals1 r;cases S;obtain⟨its,L,pl,U⟩:=I.list O;have G:=intsAre_of L;have N:=G.numsOf;obtain⟨ys,e⟩:=G.allInts.items;have F:=pl.isList;rw[e]at F;refine sum_intListG (I.ok.hd J) F λh' tk t' R=>?_;have hs:preSum (numAt ys) ys.size=ns.sum:=by
  rw[preSum_eq,take_of_length_le (by simp), <-nums_intItems, <-e];rw[show its.toArray.toList=its from rfl,N]
 exact⟨.int ns.sum,H,I.kept R,⟨_,by rw[hs]⟩,q⟩
end
section
variable {X:Cx}
theorem wt:di X (.type "range") (λxs H Q=>∃i j:Int,xs=[.int i,.int j]/\∀p,H p=none->Q (.ref p) (upd H p (.rng i j))):=by
 intro pins s σ H xs us Q I r h;obtain⟨i,j,rfl,q⟩:=h;obtain⟨u,F,rfl,⟨t,rfl⟩,⟨t',rfl⟩⟩:=vals2 r;refine call_range_2 ⟨.ref s.heap.objs.size,_,I.laid (λb o e=>Heap.get?_push_of_some _ e) (le_refl _) ?_,rfl,q _ (I.bG.fresh (le_refl _))⟩;exact⟨_,_,_,Heap.get?_push_size s.heap rfl⟩
end
section
variable {X:Cx}
noncomputable def vE (K:PySem.W.Frag):List V->Hp->VK->Prop:=λxs H Q=>∃p ys,xs=[.ref p]/\(bE K H p ys\/bR K H p ys)/\Q (.int (ys.length:Nat)) H
theorem vK:di X (.builtin "len") (vE X.K):=bC
end
section
variable {X:Cx}
theorem lM (N:X.calm=true):di X (.type "list") (λxs H Q=>∃(p:Addr) (i:Int) (n:Nat),xs=[.ref p]/\H p=some (.rng i (i+n))/\n<=1000 /\ -1000<=i/\i<=1000/\∀l,H l=none->Q (.ref l) (upd H l (.lst ((List.range n).map λk:Nat=>V.int (i+k))))):=by
 intro pins s σ H xs us Q I r h;obtain⟨p,i,n,rfl,L,hn,i0,i1,q⟩:=h;obtain⟨u,rfl,ru⟩:=vals1 r;cases ru;have hs:sizeLine=16777216:=sizeLine_eq;obtain⟨t,u,v,e⟩:=(show bT X.prog X.w H s.heap p (.rng i (i+n))from I.bG p _ L);refine call_list_range (n:=n) (I.ok.hd N) e (small_one af af af af) (by rw[rangeSize_one];split<;>omega) af λh' tk G J U R S=>?_;have O:Vals ((List.range n).map λk:Nat=>V.int (i+k)) G.toList:=by
  obtain⟨h1,h2⟩:=S;refine pV ?_ λj x v F hv=>?_
  .rw[length_map,length_range];simpa using h1.symm
  .rw[getElem?_map]at F;obtain⟨k,hk,rfl⟩:=Option.map_eq_some_iff.mp F;have Y:k=j:=by
    have:=List.getElem?_eq_some_iff.mp hk;obtain⟨_,e⟩:=this;simpa using e.symm
   obtain⟨t,e⟩:=h2 j v (by simpa using hv);exact⟨t,by rw[e,Y];congr 1;omega⟩
 refine⟨.ref s.heap.objs.size,_,I.laid U (le_refl _) (show bT X.prog X.w _ h' _ (.lst ((List.range n).map λk:Nat=>V.int (i+k)))from⟨by rw[length_map,length_range];omega,G.toList,J,O,by simpa using R⟩),rfl,q _ (I.bG.fresh (le_refl _))⟩
end
theorem uq {a:Addr}{o:Obj}{kvs:List (Key×V)}{caps:List (Str×Nat)}{te:TE}{σ:St}{H:Hp}{F:List V->Hp->Prop}(Pv:Nat->List V->Hp->Prop) (R:Pv 0 [] H)
  (J:∀i zs H,i<=kvs.length->Pv i zs H->H a=some (.frz o (.dK kvs)))
  (hs:∀i k v zs H,kvs[i]?=some (k,v)->Pv i zs H->te (gx caps σ (some (kV k))) H (λz N=>zs.length<sizeLine/\Pv (i+1) (zs++[z]) N))
  (hd:∀zs H,Pv kvs.length zs H->F zs H):∃W:Nat->Nat->List V->Hp->Prop,(∃m,W 0 m [] H)/\jD caps pz te σ (Dg a o kvs) F W:=by
 refine⟨λi m zs H=>m=kvs.length-i/\i<=kvs.length/\Pv i zs H,⟨kvs.length,by simp,zero_le _,R⟩,?_⟩;rintro i m zs H ⟨rfl,hi,p⟩;have I:=J i zs H hi p;by_cases G:i<kvs.length
 .refine .inr ⟨⟨I,G⟩,Pv (i+1),λS H' L=>⟨kvs.length-(i+1),af,rfl,G,L⟩,?_⟩;rintro x H' ⟨rfl,k,v,O,rfl⟩;unfold pz;dsimp only;rw[if_pos rfl];exact hs i k v zs _ O p
 .have e:i=kvs.length:=af;subst e;exact .inl ⟨⟨I,le_refl _⟩,hd zs H p⟩
theorem pX {caps:List (Str×Nat)}{te:TE}{σ:St}{H:Hp}{lo st:Int}{n:Nat}{G:List V->Hp->Prop}(Pv:Nat->List V->Hp->Prop) (L:Pv 0 [] H)
  (hs:∀i ys H,i<n->Pv i ys H->te (gx caps σ (some (.int (lo+i*st)))) H (λy J=>ys.length<sizeLine/\Pv (i+1) (ys++[y]) J))
  (hd:∀ys H,Pv n ys H->G ys H):∃W:Nat->Nat->List V->Hp->Prop,(∃m,W 0 m [] H)/\jD caps pz te σ (CK lo st n) G W:=by
 refine⟨λi m ys H=>m=n-i/\i<=n/\Pv i ys H,⟨n,by simp,zero_le _,L⟩,?_⟩;rintro i m ys H ⟨rfl,hi,p⟩;by_cases F:i<n
 .refine .inr ⟨F,Pv (i+1),λN H' I=>⟨n-(i+1),af,rfl,F,I⟩,λx H' y=>?_⟩;obtain⟨e,y⟩:=y;subst e y;unfold pz;dsimp only;rw[if_pos rfl];exact hs i ys _ F p
 .have e:i=n:=af;subst e;exact .inl ⟨le_refl _,hd ys H p⟩
theorem Ac {K:PySem.W.Frag}{a b:Addr}{xs ys:List V}{g:TG}{tb:TS}{D:Ends}{σ:St}{H:Hp}(Pv:Nat->St->Hp->Prop) (Y:Pv 0 σ H) (he:xs.length=ys.length)
  (hl:∀i σ H,i<=xs.length->Pv i σ H->bE K H a xs/\bE K H b ys)
  (hs:∀i x y σ H T,xs[i]?=some x->ys[i]?=some y->H T=none->Pv i σ H->g (.ref T) σ (upd H T (.tup [x,y])) λJ H2=>tb { D with nx:=Pv (i+1),ct:=Pv (i+1),bk:=D.nx } J H2)
  (hd:∀σ H,Pv xs.length σ H->D.nx σ H) :
  ∃W:Nat->Nat->St->Hp->Prop,(∃m,W 0 m σ H)/\∀i m σ H,W i m σ H ->
   ((Eu K a b).stop i H/\D.nx σ H)\/((Eu K a b).go i H/\∃N:St->Hp->Prop,(∀F H',N F H'->∃L,L<m/\W (i+1) L F H')/\∀x H',(Eu K a b).Ao i H x H'->g x σ H' λJ H2=>tb { D with nx:=N,ct:=N,bk:=D.nx } J H2):=by
 refine⟨λi m σ H=>m=xs.length-i/\i<=xs.length/\Pv i σ H,⟨xs.length,by simp,zero_le _,Y⟩,?_⟩;rintro i m σ H ⟨rfl,hi,p⟩;obtain⟨I,G⟩:=hl i σ H hi p;by_cases O:i<xs.length
 .have ab:i<ys.length:=af;refine .inr ⟨⟨xs,ys,xs[i],ys[i],I,G,by simp[O],by simp[ab]⟩,Pv (i+1),λF H' R=>⟨xs.length-(i+1),af,rfl,O,R⟩,?_⟩;rintro v H' ⟨T,x,y,rfl,U,rfl,e1,S⟩;exact hs i x y σ H T (e1 _ I) (S _ G) U p
 .have e:i=xs.length:=af;subst e;exact .inl ⟨⟨xs,ys,I,G,.inl (le_refl _)⟩,hd σ H p⟩
inductive Md (P:Program) (w:World) (K:PySem.W.Frag) (mg:Str->Option Value) (base:Heap) (cx:vi) (k:Nat) (C:Addr) (m:Str) (sp:Sp):Prop
 |mk (f:Addr) (fd:FuncData) (ps:List Str) (_:bg P w K mg base cx k f fd ps sp) (_:Binds K fd ps []) (_:Meth K C m f):Md P w K mg base cx k C m sp
inductive Df (P:Program) (w:World) (K:PySem.W.Frag) (mg:Str->Option Value) (base:Heap) (cx:vi) (k:Nat) (x:Str) (sp:Sp):Prop
 |mk (f:Addr) (fd:FuncData) (ps:List Str) (_:bg P w K mg base cx k f fd ps sp) (_:Binds K fd ps []) (_:mg x=some (.ref f)) (_:keepIn K (.ref f)=true):Df P w K mg base cx k x sp
section
variable {X:Cx}{CX:vi}{k j:Nat}{C:Addr}{sp:Sp}{E:XK}{x m:Str}{p pos apos:Pos}{e o:Expr}{es:List Expr}{ta:TE}{t:TA}
theorem pm {pl:Sem Bool}(L:PE X o ta) (c:qt X.K C) (F:Md X.prog X.w X.K X.mg X.base CX k C m sp) (G:dv j X.A) (N:Passes CX X E) (S:PA X (e::es) t) (O:k<=j:=by decide)
  (J:starEach (e::es) X.env=(false,eval e X.env)::starEach es X.env:=by rfl) (I:(backTo pos (starEach es X.env)).any (·.1)=false:=by rfl)
  (R:eval (.Call (.Attribute o m apos) (e::es) [] pos) X.env=(do
   let ov <-eval o X.env
   standAt apos.atName
   let (f,first) <-holding [ov] (getMethod ov m pl)
   callWith pos f first (backTo pos (starEach (e::es) X.env)) (backToKw pos (keywordEach [] X.env))):=by rfl) :
  PE X (.Call (.Attribute o m apos) (e::es) [] pos) (uU C m sp [] E ta t):=by
 obtain⟨f,fd,_,g,b,q⟩:=F;exact Af L c q g (G.mono O) b .nil N S J I R
theorem wK {pl:Sem Bool}(I:PE X o ta) (c:qt X.K C) (F:Md X.prog X.w X.K X.mg X.base CX k C m sp) (G:dv j X.A) (J:Passes CX X E) (L:k<=j:=by decide)
  (N:eval (.Call (.Attribute o m apos) [] [] pos) X.env=(do
   let ov <-eval o X.env
   standAt apos.atName
   let (f,first) <-holding [ov] (getMethod ov m pl)
   callWith pos f first (backTo pos (starEach [] X.env)) (backToKw pos (keywordEach [] X.env))):=by rfl) :
  PE X (.Call (.Attribute o m apos) [] [] pos) (uU C m sp [] E ta Ax):=by
 obtain⟨f,fd,_,g,b,q⟩:=F;exact yE I c q g (G.mono L) b .nil J N
theorem pc (F:Df X.prog X.w X.K X.mg X.base CX k x sp) (G:dv j X.A) (L:Passes CX X E) (R:PA X (e::es) t) (hg:Gl X x:=by rfl) (O:k<=j:=by decide)
  (J:(x==("__debug__" : Str))=false:=by decide) (N:starEach (e::es) X.env=(false,eval e X.env)::starEach es X.env:=by rfl) (I:(backTo pos (starEach es X.env)).any (·.1)=false:=by rfl) :
  PE X (.Call (.Name x p) (e::es) [] pos) (BB sp [] E t):=by
 obtain⟨f,fd,_,g,b,q,r⟩:=F;exact Aq g (G.mono O) hg q r b .nil L R J N I
end
end L2
namespace St
open PySem L2
noncomputable def top (i:Nat):Stmt:=PySem.Challenge.pw_ownroom_k13_blank_pages.main.body.getD i (.Pass ⟨0,0,0,0⟩)
noncomputable abbrev lL:Stmt:=inClass (top 10) 0
noncomputable abbrev xQ:Stmt:=inClass (top 10) 1
noncomputable abbrev yc:Stmt:=inClass (top 10) 3
noncomputable abbrev yj:Stmt:=inClass (top 10) 2
noncomputable abbrev yH:Stmt:=inClass (top 10) 7
noncomputable abbrev sN:Stmt:=inClass (top 10) 4
noncomputable abbrev tJ:Stmt:=inClass (top 10) 5
noncomputable abbrev Ck:Stmt:=inClass (top 10) 6
noncomputable abbrev pF:Stmt:=inClass (top 10) 8
theorem kc:¬ (("owners" : Str) = "contents"):=ah
noncomputable def jm (ow co:Addr):List (Str×V):=bj "contents" (.ref co) (bj "owners" (.ref ow) [])
theorem fb (ow co:Addr):(jm ow co).lookup ("owners" : Str)=some (.ref ow):=by
 unfold jm;rw[aD,if_neg kc,aD,if_pos rfl]
theorem qf (ow co:Addr):(jm ow co).lookup ("contents" : Str)=some (.ref co):=by
 unfold jm;rw[aD,if_pos rfl]
theorem aV (ow co:Addr) {m:Str}(h1:¬ m = "contents") (h2:¬ m = "owners"):(jm ow co).lookup m=none:=by
 unfold jm;rw[aD,if_neg h1,aD,if_neg h2]
 all_goals rfl
noncomputable def dG (H:Hp) (M:Addr->Prop):V->Option (List Int)->Prop
 |.non,none=>True
 |.ref a,some ns=>¬ M a/\H a=some (.lst (ns.map V.int))
 |_,_=>False
structure aQ (C:Addr) (H:Hp) (M:Addr->Prop) (p ow co:Addr) (os:List Int) (pg:List (Option (List Int))):Prop where
 ob:∃dx,H p=some (.ins C dx (jm ow co))
 hw:H ow=some (.lst (os.map V.int))
 hc:∃cs,H co=some (.lst cs)/\Paired (dG H M) cs pg
noncomputable def Off (B:Addr->Prop) (H H':Hp):Prop:=∀b o,H b=some o->¬ B b->H' b=some o
theorem dG.off {B M:Addr->Prop}{H H':Hp}(h:Off B H H') (F:∀b,B b->M b):∀{v:V}{x:Option (List Int)},dG H M v x->dG H' M v x
 |.non,none,_=>trivial
 |.ref a,some ns,⟨h1,h2⟩=>⟨h1,h a _ h2 λz=>h1 (F a z)⟩
theorem hJ {B M:Addr->Prop}{H H':Hp}(h:Off B H H') (F:∀b,B b->M b) {cs:List V}{pg:List (Option (List Int))}(q:Paired (dG H M) cs pg):Paired (dG H' M) cs pg :=
 Paired.y0 q λ_ _ z=>z.off h F
theorem mC {α G:Type}{F:α->G->Prop}:∀{xs:List α}{ys:List G}{i:Nat}{y:G},Paired F xs ys->ys[i]?=some y->∃x,xs[i]?=some x/\F x y
 |_,_,_,_,.nil,e=>by simp at e
 |_,_,0,_,.cons r _,e=>by simp at e;subst e;exact⟨_,rfl,r⟩
 |_,_,i+1,y,.cons _ t,e=>by
  obtain⟨u,h1,h2⟩:=mC (i:=i) (y:=y) t (by simpa using e);exact⟨u,by simpa using h1,h2⟩
theorem iJ {α G:Type}{F:α->G->Prop}{x:α}{y:G}(r:F x y):∀{xs:List α}{ys:List G}(i:Nat),Paired F xs ys->Paired F (xs.set i x) (ys.set i y)
 |_,_,_,.nil=>.nil
 |_,_,0,.cons _ t=>.cons r t
 |_,_,i+1,.cons q t=>.cons q (iJ r i t)
theorem mq {α G:Type}{F:α->G->Prop}{x:α}{y:G}(r:F x y):∀n:Nat,Paired F (replicate n x) (replicate n y)
 |0=>.nil
 |n+1=>.cons r (mq r n)
structure Txt (K:PySem.W.Frag) (mg:Str->Option Value) (C:Addr):Prop where
 cl:qt K C
 nO:cR K C "owners"
 nC:cR K C "contents"
 len:mg "len" = none
 list:mg "list" = none
 pc:∃u,mg "PAGE_CELLS" = some u/\RelV (.int 8) u
inductive gz (C:Addr) (vs:List V) (H:Hp) (Q:VK) (e3:XK):Prop
 |mk (p dx:Addr) (n:Nat) (_:vs=[.ref p,.int n]) (_:n<=60) (_:H p=some (.ins C dx [])) (_:∀(ow co:Addr) (H':Hp),H ow=none->H co=none->ow≠co->(∀M,aQ C H' M p ow co (replicate n 0) (replicate n none))->Off (· = p) H H'->Q .non H'):gz C vs H Q e3
noncomputable def dJ (os:List Int) (n:Int):Int:=if n<0\/(os.length:Int)<=n then 0 else os.getD n.toNat 0
theorem kL {os:List Int}{n:Int}(h:dJ os n≠0):0<=n/\n.toNat<os.length/\n<os.length/\n=(n.toNat:Int):=by
 unfold dJ at h;by_cases z:n<0\/(os.length:Int)<=n
 .rw[if_pos z]at h;exact absurd rfl h
 .omega
theorem sW {os:List Int}{j:Nat}(h:j<os.length):dJ os (j:Int)=os.getD j 0:=by
 unfold dJ;rw[if_neg af];simp
inductive gj (C:Addr) (vs:List V) (H:Hp) (Q:VK) (e3:XK):Prop
 |mk (p ow co:Addr) (M:Addr->Prop) (os:List Int) (pg:List (Option (List Int))) (n:Int) (_:vs=[.ref p,.int n]) (_:aQ C H M p ow co os pg) (_:os.length<=60) (_:Q (.int (dJ os n)) H):gj C vs H Q e3
inductive fN (C:Addr) (vs:List V) (H:Hp) (Q:VK) (e3:XK):Prop
 |mk (p ow co:Addr) (M:Addr->Prop) (os:List Int) (pg:List (Option (List Int))) (n:Int) (_:vs=[.ref p,.int n]) (_:aQ C H M p ow co os pg) (_:os.length<=60) (_:dJ os n≠0) (_:Q .non H):fN C vs H Q e3
inductive uC (C:Addr) (vs:List V) (H:Hp) (Q:VK) (e3:XK):Prop
 |mk (p ow co:Addr) (M:Addr->Prop) (os:List Int) (pg:List (Option (List Int))) (_:vs=[.ref p]) (_:aQ C H M p ow co os pg) (_:M ow) (_:M co) (_:(∀b,M b->H b≠none)) (_:ow≠co) (_:os.length=pg.length) (_:os.length<=60) (_:(¬ (0:Int)∈os->Q .non H)) (_:((0:Int)∈os->∀H',aQ C H' M p ow co (os.set (os.idxOf 0) 1) (pg.set (os.idxOf 0) (some (replicate 8 0)))->Off (λb=>b=ow\/b=co) H H'->Q (.int (os.idxOf 0:Nat)) H')):uC C vs H Q e3
inductive oT (C:Addr) (vs:List V) (H:Hp) (Q:VK) (e3:XK):Prop
 |mk (p ow co:Addr) (M:Addr->Prop) (os:List Int) (pg:List (Option (List Int))) (n:Int) (_:vs=[.ref p,.int n]) (_:aQ C H M p ow co os pg) (_:M ow) (_:M co) (_:ow≠co) (_:os.length<=60) (_:dJ os n≠0) (_:∀H',aQ C H' M p ow co (os.set n.toNat (dJ os n-1)) pg->Off (λb=>b=ow\/b=co) H H'->Q .non H'):oT C vs H Q e3
inductive oQ (C:Addr) (vs:List V) (H:Hp) (Q:VK) (e3:XK):Prop
 |mk (p ow co:Addr) (M:Addr->Prop) (os:List Int) (pg:List (Option (List Int))) (n:Int) (_:vs=[.ref p,.int n]) (_:aQ C H M p ow co os pg) (_:M ow) (_:M co) (_:ow≠co) (_:os.length<=60) (_:dJ os n≠0) (_:∀H',aQ C H' M p ow co (os.set n.toNat (dJ os n+1)) pg->Off (λb=>b=ow\/b=co) H H'->Q .non H'):oQ C vs H Q e3
inductive pN (C:Addr) (vs:List V) (H:Hp) (Q:VK) (e3:XK):Prop
 |mk (p ow co:Addr) (M:Addr->Prop) (os:List Int) (pg:List (Option (List Int))) (_:vs=[.ref p]) (_:aQ C H M p ow co os pg) (_:Q (.int (os.count 0:Nat)) H):pN C vs H Q e3
inductive kO (C:Addr) (vs:List V) (H:Hp) (Q:VK) (e3:XK):Prop
 |mk (p ow co:Addr) (M:Addr->Prop) (os:List Int) (pg:List (Option (List Int))) (n:Int) (ns:List Int) (_:vs=[.ref p,.int n]) (_:aQ C H M p ow co os pg) (_:os.length<=60) (_:dJ os n≠0) (_:pg[n.toNat]?=some (some ns)) (_:∀l,H l=none->Q (.ref l) (upd H l (.lst (ns.map V.int)))):kO C vs H Q e3
inductive vk (K:PySem.W.Frag) (C:Addr) (vs:List V) (H:Hp) (Q:VK) (e3:XK):Prop
 |mk (p ow co c:Addr) (M:Addr->Prop) (os:List Int) (pg:List (Option (List Int))) (n:Int) (ns:List Int) (_:vs=[.ref p,.int n,.ref c]) (_:aQ C H M p ow co os pg) (_:M ow) (_:M co) (_:(∀b,M b->H b≠none)) (_:ow≠co) (_:os.length=pg.length) (_:os.length<=60) (_:dJ os n≠0) (_:bE K H c (ns.map V.int)) (_:∀H',aQ C H' M p ow co os (pg.set n.toNat (some ns))->Off (λb=>b=ow\/b=co) H H'->Q .non H'):vk K C vs H Q e3
section
variable {P:Program}{w:World}{K:PySem.W.Frag}{mg:Str->Option Value}{base:Heap}
theorem rep1 {α:Type}(x:α) (n:Nat):(replicate n [x]).flatten=replicate n x:=by
 induction n with
 |zero=>rfl
 |succ n F=>rw[replicate_succ,flatten_cons,F,replicate_succ];rfl
theorem Gk:aC ["self","many"] ["self","many"] (ar lL):=⟨rfl,rfl,rfl,ah,rfl,ah,ah⟩
theorem oX {f C:Addr}{fd:FuncData}(F:cN K "__init__" "Store.__init__" lL f fd) (T:Txt K mg C):bg P w K mg base aW 1 f fd ["self","many"] (gz C):=by
 refine F.ok Gk (λvs H Q E h=>?_) (λa0 A outer s H vs Q E hr h=>?_)
 .obtain⟨p,dx,n,rfl,_⟩:=h;rfl
 .obtain⟨p,dx,n,rfl,hn,R,k⟩:=h;refine⟨_,ag (eV (pv 0) (ay j4 (bU (aa ak aj)) (pv 1)) rfl) (ao (eV (pv 0) (ay j4 (bU (aa lW aj)) (pv 1)) rfl)),?_⟩
  try dsimp only[cxK]
  have hs:sizeLine=16777216:=sizeLine_eq;refine⟨av,λL ac=>?_⟩;have aB:p≠L:=aq R ac;refine⟨_,rfl,L,n,_,rfl,rfl,ae,af,af,by rw[length_singleton];omega,λow J=>?_⟩;have ap:ow≠L:=λz=>(by rw[z,ae]at J;cases J);rw[ai ap]at J;have O:p≠ow:=aq R J;refine⟨_,rfl,p,C,dx,[],rfl,by rw[ai O,ai aB];exact R,T.cl,T.nO,av,?_⟩;refine⟨av,λN I=>?_⟩;have Y:N≠p:=λz=>(by rw[z,ae]at I;cases I);rw[ai Y]at I;have ad:N≠ow:=λz=>(by rw[z,ae]at I;cases I);rw[ai ad]at I;have aT:N≠L:=λz=>(by rw[z,ae]at I;cases I);rw[ai aT]at I;refine⟨_,rfl,N,n,_,rfl,rfl,ae,af,af,by rw[length_singleton];omega,λco G=>?_⟩;have am:co≠N:=λz=>(by rw[z,ae]at G;cases G);rw[ai am]at G;have U:co≠p:=λz=>(by rw[z,ae]at G;cases G);rw[ai U]at G;have S:co≠ow:=λz=>(by rw[z,ae]at G;cases G);rw[ai S]at G;have as:co≠L:=λz=>(by rw[z,ae]at G;cases G);rw[ai as]at G;refine⟨_,rfl,p,C,dx,_,rfl,by rw[ai (Ne.symm U),ai (Ne.symm Y),ae],T.cl,T.nC,by show 1<1000;decide,?_⟩;rw[show((n:Int)).toNat=n by omega,rep1,rep1];refine k ow co _ J G (Ne.symm S) (λM=>⟨⟨dx,ae⟩,?_,⟨_,?_,mq (show dG _ M .non none from trivial) n⟩⟩) λb o e hb=>?_
  .rw[ai (Ne.symm O),ai (Ne.symm S),ai (Ne.symm ad),ai (Ne.symm O),ae,List.map_replicate]
  .rw[ai U,ae]
  .have ab:b≠p:=hb;rw[ai ab,ai (aq e G),ai (aq e I),ai ab,ai (aq e J),ai (aq e ac)];exact e
theorem Fs:aC ["self","n"] ["self","n"] (ar sN):=⟨rfl,rfl,rfl,ah,rfl,ah,ah⟩
theorem xy {f C:Addr}{fd:FuncData}(F:cN K "count" "Store.count" sN f fd) (T:Txt K mg C):bg P w K mg base aW 1 f fd ["self","n"] (gj C):=by
 refine F.ok Fs (λvs H Q E h=>?_) (λO A outer s H vs Q E L h=>?_)
 .obtain⟨p,ow,co,M,os,pg,n,rfl,_⟩:=h;rfl
 .obtain⟨p,ow,co,M,os,pg,n,rfl,S,N,k⟩:=h;obtain⟨⟨dx,h1⟩,I,_⟩:=id S;refine⟨_,ag (aS (gp (az fV (pv 1) ak (aG _)) (gh (az E3 (pv 1) (aN bC (by rfl) T.len boot_len (aa (aJ (pv 0) rfl) aj)) (aG _)))).pt (ao (aE ak)) aF)
   (ao (aE (aY cm (aJ (pv 0) rfl) (pv 1) (λ_ _=>rfl)))),?_⟩
  try dsimp only[cxK]
  refine⟨_,rfl,_,_,rfl,rfl,_,rfl,?_⟩;refine gF (λc=>?_) (λc=>?_)
  .refine c6 ?_;have J:n<0:=(by simpa using c);unfold dJ at k;rw[if_pos (.inl J)]at k;exact k
  .have J:¬ n<0:=(by simpa using c);refine⟨_,rfl,_,rfl,p,C,dx,_,_,rfl,h1,T.cl,T.nO,fb _ _,ow,_,rfl,.inl (bE.of I),_,_,rfl,rfl,_,rfl,?_⟩;refine gF (λd=>?_) (λd=>?_)
   .have d':(os.length:Int)<=n:=(by simpa using d);unfold dJ at k;rw[if_pos (.inr d')]at k;exact k
   .have d':¬ (os.length:Int)<=n:=(by simpa using d);obtain⟨j,rfl⟩:∃j:Nat,n=j:=⟨n.toNat,af⟩;have G:j<os.length:=af;rw[sW G]at k;refine⟨_,rfl,p,C,dx,_,_,rfl,h1,T.cl,T.nO,fb _ _,_,rfl,ow,_,j,.int (os.getD j 0),rfl,rfl,bE.of I,jx ?_,k⟩;rw[getElem?_map,getElem?_eq_getElem G];simp[G]
theorem HU:aC ["self","n"] ["self","n"] (ar pF):=⟨rfl,rfl,rfl,ah,rfl,ah,ah⟩
theorem wV {f C:Addr}{fd:FuncData}(F:cN K "refuse_free" "Store.refuse_free" pF f fd) (T:Txt K mg C) (I:Md P w K mg base aW 1 C "count" (gj C)) :
  bg P w K mg base aW 2 f fd ["self","n"] (fN C):=by
 refine F.ok HU (λvs H Q E h=>?_) (λO A outer s H vs Q E G h=>?_)
 .obtain⟨p,ow,co,M,os,pg,n,rfl,_⟩:=h;rfl
 .obtain⟨p,ow,co,M,os,pg,n,rfl,S,L,J,k⟩:=h;obtain⟨⟨dx,h1⟩,N,_⟩:=id S;refine⟨_,ao (aS (az bN (pm (pv 0) T.cl I G aw (aa (pv 1) aj)) ak (aG _)) (cO) aF),?_⟩
  try dsimp only[cxK]
  refine⟨_,rfl,p,dx,_,rfl,h1,aV _ _ ah ah,_,rfl,p,ow,co,M,os,pg,n,rfl,S,L,rfl,_,rfl,?_⟩;refine gF (λc=>?_) (λc=>?_)
  .exact absurd (by simpa using c) J
  .exact k
theorem Fm:aC ["self","n"] ["self","n"] (ar yc):=⟨rfl,rfl,rfl,ah,rfl,ah,ah⟩
theorem fO {H:Hp}{M:Addr->Prop}{a:Addr}{o:HO}{cs:List V}{pg:List (Option (List Int))}(G:M a) (q:Paired (dG H M) cs pg):Paired (dG (upd H a o) M) cs pg :=
 hJ (B:=(· = a)) (λb u e F=>by rw[ai (show b≠a from F)];exact e) (λb z=>by rw[show b=a from z];exact G) q
theorem kf {H:Hp}{M:Addr->Prop}{a:Addr}{o:HO}{cs:List V}{pg:List (Option (List Int))}(F:H a=none) (q:Paired (dG H M) cs pg):Paired (dG (upd H a o) M) cs pg :=
 hJ (B:=λ_=>False) (λb u e _=>by rw[ai (aq e F)];exact e) (λb z=>z.elim) q
theorem hV {H:Hp}{p a C dx:Addr}{fs:List (Str×V)}{xs:List V}(h:H p=some (.ins C dx fs)) (h':H a=some (.lst xs)):p≠a:=cB h h' (by intro z;cases z)
theorem AA {f C:Addr}{fd:FuncData}(F:cN K "less" "Store.less" yc f fd) (T:Txt K mg C) (R:Md P w K mg base aW 2 C "refuse_free" (fN C)) :
  bg P w K mg base aW 3 f fd ["self","n"] (oT C):=by
 refine F.ok Fm (λvs H Q E h=>?_) (λac A outer s H vs Q E L h=>?_)
 .obtain⟨p,ow,co,M,os,pg,n,rfl,_⟩:=h;rfl
 .obtain⟨p,ow,co,M,os,pg,n,rfl,S,U,mc,ab,Y,J,k⟩:=h;obtain⟨⟨dx,h1⟩,G,cs,N,O⟩:=id S;refine⟨_,ag (aL (pm (pv 0) T.cl R L aw (aa (pv 1) aj)))
   (ao (vA (aJ (pv 0) rfl) (pv 1) (rM) ak Cd set_list)),?_⟩
  try dsimp only[cxK]
  refine⟨_,rfl,p,dx,_,rfl,h1,aV _ _ ah ah,_,rfl,p,ow,co,M,os,pg,n,rfl,S,Y,J,?_⟩;obtain⟨h0,I,hn,en⟩:=kL J;generalize n.toNat=j at *;subst en;refine⟨_,rfl,p,C,dx,_,_,rfl,h1,T.cl,T.nO,fb _ _,_,rfl,ow,_,j,.int (os.getD j 0),rfl,rfl,bE.of G,jx (by rw[getElem?_map,getElem?_eq_getElem I];simp[I]),_,_,rfl,rfl,ow,_,j,j,rfl,rfl,G,?_,?_⟩
  .unfold u4;rw[length_map,if_pos af,if_pos af];simp
  .rw[sW I]at k;refine k _ ⟨⟨dx,by rw[ai (hV h1 G)];exact h1⟩,?_,⟨cs,by rw[ai (Ne.symm ab)];exact N,fO U O⟩⟩ λb o e hb=>?_
   .rw[ae,map_set]
   .rw[ai (λz=>hb (.inl z))];exact e
theorem HE:aC ["self","n"] ["self","n"] (ar tJ):=⟨rfl,rfl,rfl,ah,rfl,ah,ah⟩
theorem zq {f C:Addr}{fd:FuncData}(F:cN K "cells" "Store.cells" tJ f fd) (T:Txt K mg C) (N:Md P w K mg base aW 2 C "refuse_free" (fN C)) :
  bg P w K mg base aW 3 f fd ["self","n"] (kO C):=by
 refine F.ok HE (λvs H Q E h=>?_) (λab A outer s H vs Q E I h=>?_)
 .obtain⟨p,ow,co,M,os,pg,n,ns,rfl,_⟩:=h;rfl
 .obtain⟨p,ow,co,M,os,pg,n,ns,rfl,S,R,G,hg,k⟩:=h;obtain⟨⟨dx,h1⟩,hw,cs,J,L⟩:=id S;refine⟨_,ag (aL (pm (pv 0) T.cl N I aw (aa (pv 1) aj)))
   (ao (aE (bO dN (by rfl) T.list fw (aa (aY cm (aJ (pv 0) rfl) (pv 1) (λ_ _=>rfl)) aj)))),?_⟩
  try dsimp only[cxK]
  refine⟨_,rfl,p,dx,_,rfl,h1,aV _ _ ah ah,_,rfl,p,ow,co,M,os,pg,n,rfl,S,R,G,?_⟩;obtain⟨h0,hj,hn,U⟩:=kL G;generalize n.toNat=j at *;subst U;obtain⟨v,Y,cv⟩:=mC L hg;obtain⟨a,rfl,O⟩:∃a,v=.ref a/\H a=some (.lst (ns.map V.int)):=by
   cases v with
   |ref a=>exact⟨a,rfl,cv.2⟩
   |_=>exact False.elim cv
  refine⟨_,rfl,p,C,dx,_,_,rfl,h1,T.cl,T.nC,qf _ _,_,rfl,co,cs,j,_,rfl,rfl,bE.of J,jx Y,a,_,rfl,.inl (bE.of O),k⟩
theorem Ed:aC ["self","n","cells"] ["self","n","cells"] (ar Ck):=⟨rfl,rfl,rfl,ah,rfl,ah,ah⟩
theorem iG {α G:Type}{F:α->G->Prop}:∀{xs:List α}{ys:List G},Paired F xs ys->xs.length=ys.length
 |_,_,.nil=>rfl
 |_,_,.cons _ t=>by rw[length_cons,length_cons,iG t]
theorem BS {f C:Addr}{fd:FuncData}(F:cN K "put" "Store.put" Ck f fd) (T:Txt K mg C) (U:Md P w K mg base aW 2 C "refuse_free" (fN C)) :
  bg P w K mg base aW 3 f fd ["self","n","cells"] (vk K C):=by
 refine F.ok Ed (λvs H Q E h=>?_) (λad A outer s H vs Q E R h=>?_)
 .obtain⟨p,ow,co,c,M,os,pg,n,ns,rfl,_⟩:=h;rfl
 .obtain⟨p,ow,co,c,M,os,pg,n,ns,rfl,S,mw,mc,mt,ab,am,hl,O,Y,k⟩:=h;obtain⟨⟨dx,h1⟩,L,cs,I,N⟩:=id S;refine⟨_,ag (aL (pm (pv 0) T.cl U R aw (aa (pv 1) aj)))
   (ao (cI (bO dN (by rfl) T.list fw (aa (pv 2) aj)) (dS (aJ (pv 0) rfl) (pv 1) set_list))),?_⟩
  try dsimp only[cxK]
  refine⟨_,rfl,p,dx,_,rfl,h1,aV _ _ ah ah,_,rfl,p,ow,co,M,os,pg,n,rfl,S,hl,O,?_⟩;obtain⟨h0,hj,hn,en⟩:=kL O;generalize n.toNat=j at *;subst en;have ac:=iG N;refine⟨_,rfl,c,_,rfl,.inl Y,λl J=>?_⟩;have G:∀{b:Addr}{o:HO},H b=some o->b≠l:=λe=>aq e J;refine⟨_,rfl,p,C,dx,_,_,rfl,by rw[ai (G h1)];exact h1,T.cl,T.nC,qf _ _,_,rfl,co,cs,j,j,rfl,rfl,by rw[ai (G I)];exact I,?_,?_⟩
  .unfold u4;rw[if_pos af,if_pos af];simp
  .have hM:¬ M l:=λz=>mt l z J;refine k _ ⟨⟨dx,by rw[ai (hV h1 I),ai (G h1)];exact h1⟩,by rw[ai ab,ai (G L)];exact L,⟨_,ae,fO mc (iJ ⟨hM,ae⟩ j (kf J N))⟩⟩ λb o e hb=>?_;rw[ai (λz=>hb (.inr z)),ai (G e)];exact e
theorem Hc:aC ["self","n"] ["self"] (ar xQ):=⟨rfl,rfl,rfl,ah,rfl,ah,ah⟩
theorem Hv (os:List Int):Bx (.int 0) (os.map V.int)=decide ((0:Int)∈os):=by
 unfold Bx;rw[List.any_map,Bool.eq_iff_iff,List.any_eq_true,decide_eq_true_iff];constructor
 .rintro⟨x,F,e⟩;have G:x=0:=by
   have:(x==(0:Int))=true:=e;simpa using this
  subst G;exact F
 .intro h;exact⟨0,h,rfl⟩
theorem Ab {f C:Addr}{fd:FuncData}(F:cN K "take" "Store.take" xQ f fd) (T:Txt K mg C):bg P w K mg base aW 1 f fd ["self"] (uC C):=by
 refine F.ok Hc (λvs H Q E h=>?_) (λac A outer s H vs Q E hr h=>?_)
 .obtain⟨p,ow,co,M,os,pg,rfl,_⟩:=h;rfl
 .obtain⟨p,ow,co,M,os,pg,rfl,S,mw,mc,mt,U,ad,hl,k0,k1⟩:=h;obtain⟨⟨dx,h1⟩,I,cs,O,R⟩:=id S;obtain⟨u8,m8,r8⟩:=T.pc;have hs:sizeLine=16777216:=sizeLine_eq;refine⟨_,ag (aS (az gf ak (aJ (pv 0) rfl) (by with_unfolding_all rfl)) (ao (aE lW)) aF)
   (ag (aK (i:=1) Hc.nd rfl (Or.inl rfl) (gS plainAttrs_list PySem.F.slot_list_index PySem.F.type_list_index zk (aJ (pv 0) rfl) (aa ak aj)))
   (ag (cI ak (dS (aJ (pv 0) rfl) (pv 1) set_list))
   (ag (cI (ay j4 (bU (aa ak aj)) (cf (by rfl) m8 r8)) (dS (aJ (pv 0) rfl) (pv 1) set_list))
   (ao (aE (pv 1)))))),?_⟩
  try dsimp only[cxK]
  refine⟨_,rfl,p,C,dx,_,_,rfl,h1,T.cl,T.nO,fb _ _,ow,_,rfl,.inl (bE.of I),rfl,gX _,_,rfl,?_⟩;show if (!Bx (.int 0) (os.map V.int))=true then _ else _
  rw[Hv];by_cases c:(0:Int)∈os
  .rw[decide_eq_true c];refine bB ?_;have hj:os.idxOf 0<os.length:=List.idxOf_lt_length_iff.mpr c;have ab:=iG R;refine⟨_,rfl,p,C,dx,_,_,rfl,h1,T.cl,T.nO,fb _ _,.inl ⟨rfl,_,bE.of I⟩,ow,os,0,rfl,rfl,I,c,?_⟩;have k2:=k1 c;generalize os.idxOf 0=j at *;refine⟨_,rfl,p,C,dx,_,_,rfl,h1,T.cl,T.nO,fb _ _,_,rfl,ow,_,j,j,rfl,rfl,I,?_,?_⟩
   .unfold u4;rw[length_map,if_pos af,if_pos af];simp
   .refine⟨av,λl L=>?_⟩;have lw:l≠ow:=λz=>(by rw[z,ae]at L;cases L);rw[ai lw]at L;refine⟨l,8,_,rfl,rfl,ae,af,af,by rw[length_singleton];omega,λq G=>?_⟩;have ql:q≠l:=λz=>(by rw[z,ae]at G;cases G);rw[ai ql]at G;have Y:q≠ow:=λz=>(by rw[z,ae]at G;cases G);rw[ai Y]at G;have N:∀{b:Addr}{o:HO},H b=some o->b≠l:=λe=>aq e L;have J:∀{b:Addr}{o:HO},H b=some o->b≠q:=λe=>aq e G;refine⟨_,rfl,p,C,dx,_,_,rfl,by rw[ai (J h1),ai (N h1),ai (hV h1 I)];exact h1,T.cl,T.nC,qf _ _,_,rfl,co,cs,j,j,rfl,rfl,by rw[ai (J O),ai (N O),ai (Ne.symm U)];exact O,?_,?_⟩
    .unfold u4;rw[if_pos af,if_pos af];simp
    .refine⟨_,rfl,?_⟩;have hM:¬ M q:=λz=>mt q z G;refine k2 _ ⟨⟨dx,by rw[ai (hV h1 O),ai (J h1),ai (N h1),ai (hV h1 I)];exact h1⟩,?_,⟨_,ae,fO mc (iJ ⟨hM,by rw[ae];rfl⟩ j (kf (by rw[ai ql,ai Y];exact G) (kf (by rw[ai lw];exact L) (fO mw R))))⟩⟩ λb o e hb=>?_
     .rw[ai U,ai (J I),ai (N I),ae,map_set]
     .rw[ai (λz=>hb (.inr z)),ai (J e),ai (N e),ai (λz=>hb (.inl z))];exact e
  .rw[decide_eq_false c];exact k0 c
theorem FG:aC ["self","n"] ["self","n"] (ar yj):=⟨rfl,rfl,rfl,ah,rfl,ah,ah⟩
theorem zY {f C:Addr}{fd:FuncData}(F:cN K "more" "Store.more" yj f fd) (T:Txt K mg C) (R:Md P w K mg base aW 2 C "refuse_free" (fN C)) :
  bg P w K mg base aW 3 f fd ["self","n"] (oQ C):=by
 refine F.ok FG (λvs H Q E h=>?_) (λac A outer s H vs Q E L h=>?_)
 .obtain⟨p,ow,co,M,os,pg,n,rfl,_⟩:=h;rfl
 .obtain⟨p,ow,co,M,os,pg,n,rfl,S,U,mc,ab,Y,J,k⟩:=h;obtain⟨⟨dx,h1⟩,G,cs,N,O⟩:=id S;refine⟨_,ag (aL (pm (pv 0) T.cl R L aw (aa (pv 1) aj)))
   (ao (vA (aJ (pv 0) rfl) (pv 1) (rM) ak Cw set_list)),?_⟩
  try dsimp only[cxK]
  refine⟨_,rfl,p,dx,_,rfl,h1,aV _ _ ah ah,_,rfl,p,ow,co,M,os,pg,n,rfl,S,Y,J,?_⟩;obtain⟨h0,I,hn,en⟩:=kL J;generalize n.toNat=j at *;subst en;refine⟨_,rfl,p,C,dx,_,_,rfl,h1,T.cl,T.nO,fb _ _,_,rfl,ow,_,j,.int (os.getD j 0),rfl,rfl,bE.of G,jx (by rw[getElem?_map,getElem?_eq_getElem I];simp[I]),_,_,rfl,rfl,ow,_,j,j,rfl,rfl,G,?_,?_⟩
  .unfold u4;rw[length_map,if_pos af,if_pos af];simp
  .rw[sW I]at k;refine k _ ⟨⟨dx,by rw[ai (hV h1 G)];exact h1⟩,?_,⟨cs,by rw[ai (Ne.symm ab)];exact N,fO U O⟩⟩ λb o e hb=>?_
   .rw[ae,map_set]
   .rw[ai (λz=>hb (.inl z))];exact e
theorem FA:aC ["self"] ["self"] (ar yH):=⟨rfl,rfl,rfl,ah,rfl,ah,ah⟩
theorem Bd {f C:Addr}{fd:FuncData}(F:cN K "free" "Store.free" yH f fd) (T:Txt K mg C):bg P w K mg base aW 1 f fd ["self"] (pN C):=by
 refine F.ok FA (λvs H Q E h=>?_) (λJ A outer s H vs Q E I h=>?_)
 .obtain⟨p,ow,co,M,os,pg,rfl,_⟩:=h;rfl
 .obtain⟨p,ow,co,M,os,pg,rfl,S,k⟩:=h;obtain⟨⟨dx,h1⟩,G,_⟩:=id S;refine⟨_,ao (aE (gS plainAttrs_list PySem.F.slot_list_count PySem.F.type_list_count zy (aJ (pv 0) rfl) (aa ak aj))),?_⟩
  try dsimp only[cxK]
  exact⟨_,rfl,p,C,dx,_,_,rfl,h1,T.cl,T.nO,fb _ _,.inl ⟨rfl,_,bE.of G⟩,ow,os,0,rfl,rfl,G,k⟩
end
end St
namespace Tb
open PySem L2
noncomputable def top (i:Nat):Stmt:=PySem.Challenge.pw_ownroom_k13_blank_pages.main.body.getD i (.Pass ⟨0,0,0,0⟩)
noncomputable abbrev vD:Stmt:=top 29
noncomputable abbrev lL:Stmt:=inClass (top 30) 0
noncomputable abbrev C1:Stmt:=inClass (top 30) 1
noncomputable abbrev Dq:Stmt:=inClass (top 30) 2
noncomputable abbrev t6:Stmt:=inClass (top 30) 3
noncomputable abbrev tR:Stmt:=inClass (top 30) 4
theorem au {H:Hp}{l:Addr}{X:HO}(h:H l=none):aZ H (upd H l X):=λb o e=>by rw[ai (aq e h)];exact e
noncomputable def Off (B:Addr->Prop) (H H':Hp):Prop:=∀b o,H b=some o->¬ B b->H' b=some o
section
variable {α:Type}
noncomputable def look (l:List (Int×α)) (k:Int):Option α:=(l.find? λx=>decide (x.1=k)).map (·.2)
noncomputable def dk (f:α->V) (l:List (Int×α)):List (Key×V):=l.map λx=>(Sum.inl x.1,f x.2)
noncomputable def aX (l:List (Int×α)) (k:Int) (a:α):List (Int×α):=l.map λx=>if x.1=k then(k,a)else x
noncomputable def bf (l:List (Int×α)) (k:Int):List (Int×α):=l.filter λx=>decide (x.1≠k)
theorem gG (k:Int):look ([]:List (Int×α)) k=none:=rfl
theorem aM (x:Int×α) (l:List (Int×α)) (k:Int):look (x::l) k=if x.1=k then some x.2 else look l k:=by
 unfold look;rw[find?_cons];by_cases h:x.1=k
 .rw[decide_eq_true h,if_pos h];rfl
 .rw[decide_eq_false h,if_neg h]
theorem cD (f:α->V) (k:Int):∀l:List (Int×α),dC (dk f l) (Sum.inl k)=(look l k).map f
 | []=>rfl
 |x::l=>by
  have F:=cD f k l;show dC ((Sum.inl x.1,f x.2)::dk f l) (Sum.inl k)=_;rw[aM];by_cases h:x.1=k
  .rw[if_pos h,dZ (by rw[h])];rfl
  .rw[if_neg h,bZ (λe=>h (Sum.inl.inj e)),F]
theorem aA {l:List (Int×α)}{k:Int}{a:α}(h:look l k=some a):(k,a)∈l:=by
 unfold look at h;obtain⟨x,F,e⟩:=Option.map_eq_some_iff.mp h;have h1:=List.mem_of_find?_eq_some F;have h2:x.1=k:=(by simpa using List.find?_some F);rw[<-h2, <-e];exact h1
theorem cj {l:List (Int×α)}{k:Int}(h:look l k=none):¬ k∈l.map (·.1):=by
 unfold look at h;rw[Option.map_eq_none_iff,List.find?_eq_none]at h;rintro m;obtain⟨x,F,e⟩:=List.mem_map.mp m;exact h x F (decide_eq_true e)
theorem bX {l:List (Int×α)}{k:Int}{a:α}(J:(l.map (·.1)).Nodup) (h:(k,a)∈l):look l k=some a:=by
 induction l with
 |nil=>cases h
 |cons x l I =>
  rw[aM];obtain⟨G,F⟩:=List.nodup_cons.mp (show(x.1::l.map (·.1)).Nodup from J);rcases List.mem_cons.mp h with e|m
  .rw[<-e,if_pos rfl]
  .have:¬ x.1=k:=λe=>G (e▸List.mem_map.mpr ⟨_,m,rfl⟩);rw[if_neg this];exact I F m
theorem Cj (f:α->V) (l:List (Int×α)) (k:Int):((dk f l).any λF=>decide (F.1=Sum.inl k))=(look l k).isSome:=by
 rw[jH,cD];cases look l k<;>rfl
theorem cu {f:α->V}{l:List (Int×α)}{k:Int}{a:α}(h:look l k=none):putK (dk f l) (Sum.inl k) (f a)=dk f (l++[(k,a)]):=by
 rw[jc _ (by rw[cD,h];rfl)];unfold dk;rw[map_append];rfl
theorem gO {f:α->V}{l:List (Int×α)}{k:Int}{a b:α}(h:look l k=some b):putK (dk f l) (Sum.inl k) (f a)=dk f (aX l k a):=by
 unfold putK;rw[if_pos (by rw[Cj,h];rfl)];unfold dk aX;rw[map_map,map_map];congr 1;funext x;show(if (Sum.inl x.1:Key)=Sum.inl k then((Sum.inl x.1:Key),f a)else(Sum.inl x.1,f x.2))=((Sum.inl (if x.1=k then(k,a)else x).1:Key),f (if x.1=k then(k,a)else x).2);by_cases e:x.1=k
 .rw[if_pos (by rw[e]),if_pos e,e]
 .rw[if_neg (λz=>e (Sum.inl.inj z)),if_neg e]
theorem er (f:α->V) (l:List (Int×α)) (k:Int):lJ (dk f l) (Sum.inl k)=dk f (bf l k):=by
 unfold lJ dk bf;rw[List.filter_map];congr 1;congr 1;funext x;show decide (¬ (Sum.inl x.1:Key)=Sum.inl k)=decide (¬ x.1=k);by_cases e:x.1=k
 .rw[e];simp
 .simp[e]
theorem bK {l:List (Int×α)}{k:Int}{a:α}(j:Int) (h:look l k=none):look (l++[(k,a)]) j=if j=k then some a else look l j:=by
 induction l with
 |nil =>
  show look [(k,a)] j=_;rw[aM,gG];by_cases e:j=k
  .rw[if_pos e,if_pos e.symm]
  .rw[if_neg e,if_neg (Ne.symm e)]
 |cons x l G =>
  rw[aM]at h;by_cases e:x.1=k
  .rw[if_pos e]at h;cases h
  .rw[if_neg e]at h;show look (x::(l++[(k,a)])) j=_;rw[aM,aM,G h];by_cases F:x.1=j
   .rw[if_pos F,if_pos F,if_neg (λz=>e (F.trans z))]
   .rw[if_neg F,if_neg F]
theorem bS {l:List (Int×α)}{k:Int}{a b:α}(j:Int) (h:look l k=some b):look (aX l k a) j=if j=k then some a else look l j:=by
 induction l with
 |nil=>cases h
 |cons x l G =>
  rw[aM]at h;show look ((if x.1=k then(k,a)else x)::aX l k a) j=_;by_cases e:x.1=k
  .rw[if_pos e,aM,aM];by_cases F:j=k
   .rw[if_pos F.symm,if_pos F]
   .rw[if_neg (Ne.symm F),if_neg F,if_neg (λz=>F (z.symm.trans e))];clear G h
    induction l with
    |nil=>rfl
    |cons y l G =>
     show look ((if y.1=k then(k,a)else y)::aX l k a) j=_;by_cases I:y.1=k
     .rw[if_pos I,aM,aM,if_neg (Ne.symm F),if_neg (λz=>F (z.symm.trans I)),G]
     .rw[if_neg I,aM,aM,G]
  .rw[if_neg e]at h;rw[if_neg e,aM,aM,G h];by_cases F:x.1=j
   .rw[if_pos F,if_pos F,if_neg (λz=>e (F.trans z))]
   .rw[if_neg F,if_neg F]
theorem cy (l:List (Int×α)) (k j:Int):look (bf l k) j=if j=k then none else look l j:=by
 induction l with
 |nil =>
  show look [] j=if j=k then none else look [] j
  rw[gG];split<;>rfl
 |cons x l G =>
  unfold bf at *;rw[filter_cons];by_cases e:x.1=k
  .rw[if_neg (by simp[e]),G,aM];by_cases F:j=k
   .rw[if_pos F,if_pos F]
   .rw[if_neg F,if_neg F,if_neg (λz=>F (z.symm.trans e))]
  .rw[if_pos (by simp[e]),aM,aM,G];by_cases F:x.1=j
   .rw[if_pos F,if_pos F,if_neg (λz=>e (F.trans z))]
   .rw[if_neg F,if_neg F]
theorem eX (l:List (Int×α)) (k:Int) (a:α):(aX l k a).map (·.1)=l.map (·.1):=by
 unfold aX;rw[map_map];congr 1;funext x;show(if x.1=k then(k,a)else x).1=x.1;by_cases e:x.1=k
 .rw[if_pos e,e]
 .rw[if_neg e]
theorem iU (l:List (Int×α)) (k:Int):(bf l k).map (·.1)=(l.map (·.1)).filter λx=>decide (x≠k):=by
 unfold bf;rw[List.filter_map];rfl
theorem gc (l:List (Int×α)) (k:Int) (a:α):(aX l k a).length=l.length:=by unfold aX;rw[length_map]
theorem mem_set {l:List (Int×α)}{k:Int}{a:α}{x:Int×α}(h:x∈aX l k a):x=(k,a)\/(x∈l/\x.1≠k):=by
 unfold aX at h;obtain⟨y,F,e⟩:=List.mem_map.mp h;by_cases c:y.1=k
 .rw[if_pos c]at e;exact .inl e.symm
 .rw[if_neg c]at e;subst e;exact .inr ⟨F,c⟩
theorem bW {l:List (Int×α)}{k:Int}{x:Int×α}(h:x∈bf l k):x∈l/\x.1≠k:=by
 unfold bf at h;obtain⟨h1,h2⟩:=List.mem_filter.mp h;exact⟨h1,of_decide_eq_true h2⟩
theorem cq (f:α->V) (l:List (Int×α)):(dk f l).length=l.length:=by unfold dk;rw[length_map]
theorem kB {l:List (Int×α)}{k:Int}{a:α}(J:(l.map (·.1)).Nodup) (h:look l k=some a):(bf l k).length+1=l.length:=by
 induction l with
 |nil=>cases h
 |cons x l I =>
  obtain⟨G,F⟩:=List.nodup_cons.mp (show(x.1::l.map (·.1)).Nodup from J);rw[aM]at h;unfold bf at *;rw[filter_cons];by_cases e:x.1=k
  .rw[if_neg (by simp[e])];have:l.filter (λx=>decide (x.1≠k))=l:=by
    rw[filter_eq_self];intro y L;have:y.1≠k:=λz=>G (by rw[e, <-z];exact List.mem_map.mpr ⟨_,L,rfl⟩);simpa using this
   rw[this,length_cons]
  .rw[if_neg e]at h;rw[if_pos (by simpa using e),length_cons,length_cons,I F h]
end
noncomputable abbrev rY:=List (Int×(Addr×List V))
noncomputable abbrev iR:=List (Int×(Addr×rY))
noncomputable def fS:Addr×List V->V:=λx=>.ref x.1
noncomputable def fF:Addr×rY->V:=λx=>.ref x.1
noncomputable def zC:V->Bool
 |.int _=>true
 |.str _=>true
 |_=>false
noncomputable def lE (xs:List V):Bool:=xs.all zC&&decide (xs.length<1000)
theorem Bc {xs:List V}(h:lE xs=true):xs.all zC=true:=(Bool.and_eq_true_iff.mp h).1
theorem Ae {xs:List V}(h:lE xs=true):xs.length<1000:=of_decide_eq_true (Bool.and_eq_true_iff.mp h).2
noncomputable def jm (fs:Addr):List (Str×V):=bj "first_step" (.ref fs) []
theorem jQ (fs:Addr):(jm fs).lookup ("first_step" : Str)=some (.ref fs):=by
 unfold jm;rw[aD,if_pos rfl]
theorem aV (fs:Addr) {m:Str}(h:¬ m = "first_step"):(jm fs).lookup m=none:=by
 unfold jm;rw[aD,if_neg h]
 all_goals rfl
structure gq (H:Hp) (k:Int) (sec:rY):Prop where
 ht:∀y∈sec,H y.2.1=some (.tup y.2.2)/\lE y.2.2=true/\y.1/8=k/\0<=y.1/\y.1<64
 ns:(sec.map (·.1)).Nodup
 ne:sec≠[]
structure TabAt (C:Addr) (H:Hp) (p fs:Addr) (tb:iR):Prop where
 ob:∃dx,H p=some (.ins C dx (jm fs))
 hf:H fs=some (.dK (dk fF tb))
 hd:∀x∈tb,H x.2.1=some (.dK (dk fS x.2.2))
 hs:∀x∈tb,gq H x.1 x.2.2
 nk:(tb.map (·.1)).Nodup
 na:∀x∈tb,∀y∈tb,x.2.1=y.2.1->x.1=y.1
 nf:∀x∈tb,x.2.1≠fs
noncomputable def cV (tb:iR) (q:Int):Option (List V):=(look tb (q/8)).bind λx=>(look x.2 q).map (·.2)
noncomputable def ed (fs:Addr) (tb:iR):Addr->Prop:=λb=>b=fs\/∃x∈tb,b=x.2.1
theorem gq.keep {H H':Hp}{k:Int}{F:rY}(S:gq H k F) (h:∀b xs,H b=some (.tup xs)->H' b=some (.tup xs)):gq H' k F :=
 ⟨λy G=>⟨h _ _ (S.ht y G).1,(S.ht y G).2⟩,S.ns,S.ne⟩
theorem TabAt.same {C:Addr}{H H':Hp}{p fs:Addr}{tb:iR}(T:TabAt C H p fs tb) (s:aZ H H'):TabAt C H' p fs tb:=by
 obtain⟨⟨dx,h1⟩,h2,N,I,L,G,J⟩:=T;exact⟨⟨dx,s _ _ h1⟩,s _ _ h2,λx F=>s _ _ (N x F),λx F=>(I x F).keep λb xs e=>s _ _ e,L,G,J⟩
theorem TabAt.put {C:Addr}{H H':Hp}{p fs d:Addr}{tb:iR}{k:Int}{G sec':rY}(T:TabAt C H p fs tb) (J:look tb k=some (d,G)) (o:Off (· = d) H H') (hd:H' d=some (.dK (dk fS sec'))) (S:gq H' k sec'):TabAt C H' p fs (aX tb k (d,sec')):=by
 obtain⟨⟨dx,h1⟩,h2,Y,h4,h5,R,N⟩:=T;have I:=aA J;have U:=Y _ I;have O:∀x∈tb,x.1≠k->x.2.1≠d:=λx F hk e=>hk (R x F _ I e);have same:dk fF (aX tb k (d,sec'))=dk fF tb:=by
  have e:=gO (f:=fF) (a:=(d,sec')) J;rw[<-e];have e2:=gO (f:=fF) (a:=(d,G)) J;have e3:fF (d,sec')=fF (d,G):=rfl;rw[e3,e2];unfold dk aX;rw[map_map];refine map_congr_left λx F=>?_;show((Sum.inl (if x.1=k then(k,(d,G))else x).1:Key),fF (if x.1=k then(k,(d,G))else x).2)=(Sum.inl x.1,fF x.2);by_cases c:x.1=k
  .rw[if_pos c,c];have:look tb k=some x.2:=bX h5 (by rw[<-c];exact F);rw[J]at this;rw[<-Option.some.inj this]
  .rw[if_neg c]
 refine⟨⟨dx,o _ _ h1 (cB h1 U (by intro z;cases z))⟩,by rw[same];exact o _ _ h2 (Ne.symm (N _ I)),λx F=>?_,λx F=>?_,by rw[eX];exact h5,λx F y L e=>?_,λx F=>?_⟩
 .rcases mem_set F with rfl|⟨F,c⟩
  .exact hd
  .exact o _ _ (Y x F) (O x F c)
 .rcases mem_set F with rfl|⟨F,c⟩
  .exact S
  .exact(h4 x F).keep λb xs e=>o _ _ e (cB e U (by intro z;cases z))
 .rcases mem_set F with rfl|⟨F,c⟩<;>rcases mem_set L with rfl|⟨L,c'⟩
  .rfl
  .exact absurd e.symm (O y L c')
  .exact absurd e (O x F c)
  .exact R x F y L e
 .rcases mem_set F with rfl|⟨F,c⟩
  .exact(N _ I:d≠fs)
  .exact N x F
theorem TabAt.add {C:Addr}{H H':Hp}{p fs d:Addr}{tb:iR}{k:Int}{sec':rY}(T:TabAt C H p fs tb) (O:look tb k=none) (I:H d=none) (o:Off (· = fs) H H') (R:H' fs=some (.dK (dk fF (tb++[(k,(d,sec'))])))) (hd:H' d=some (.dK (dk fS sec'))) (S:gq H' k sec') :
  TabAt C H' p fs (tb++[(k,(d,sec'))]):=by
 obtain⟨⟨dx,h1⟩,h2,N,Y,h5,U,L⟩:=T;have J:∀x∈tb,x.2.1≠d:=λx F=>aq (N x F) I;have ab:d≠fs:=λe=>(by rw[e,h2]at I;cases I);refine⟨⟨dx,o _ _ h1 (cB h1 h2 (by intro z;cases z))⟩,R,λx F=>?_,λx F=>?_,?_,λx F y G e=>?_,λx F=>?_⟩
 .rcases List.mem_append.mp F with F|F
  .exact o _ _ (N x F) (L x F)
  .rw[List.mem_singleton.mp F];exact hd
 .rcases List.mem_append.mp F with F|F
  .exact(Y x F).keep λb xs e=>o _ _ e (cB e h2 (by intro z;cases z))
  .rw[List.mem_singleton.mp F];exact S
 .rw[map_append];exact fZ h5 (cj O)
 .rcases List.mem_append.mp F with F|F<;>rcases List.mem_append.mp G with G|G
  .exact U x F y G e
  .rw[List.mem_singleton.mp G]at e;exact absurd e (J x F)
  .rw[List.mem_singleton.mp F]at e;exact absurd e.symm (J y G)
  .rw[List.mem_singleton.mp F,List.mem_singleton.mp G]
 .rcases List.mem_append.mp F with F|F
  .exact L x F
  .rw[List.mem_singleton.mp F];exact ab
theorem TabAt.del {C:Addr}{H H':Hp}{p fs d:Addr}{tb:iR}{k:Int}{S:rY}(T:TabAt C H p fs tb) (O:look tb k=some (d,S)) (o:Off (λb=>b=d\/b=fs) H H') (R:H' fs=some (.dK (dk fF (bf tb k)))):TabAt C H' p fs (bf tb k):=by
 obtain⟨⟨dx,h1⟩,h2,N,Y,h5,G,I⟩:=T;have L:=aA O;have J:=N _ L;refine⟨⟨dx,o _ _ h1 λz=>z.elim (cB h1 J (by intro z;cases z)) (cB h1 h2 (by intro z;cases z))⟩,R,λx F=>?_,λx F=>?_,?_,λx F y U e=>G x (bW F).1 y (bW U).1 e,λx F=>I x (bW F).1⟩
 .obtain⟨F,c⟩:=bW F;exact o _ _ (N x F) λz=>z.elim (λe=>c (G x F _ L e)) (I x F)
 .obtain⟨F,c⟩:=bW F;exact(Y x F).keep λb xs e=>o _ _ e λz=>z.elim (cB e J (by intro z;cases z)) (cB e h2 (by intro z;cases z))
 .rw[iU];exact h5.filter _
theorem zM:∀(n:Nat) (a:Int) (l:List Int),l.Nodup->(∀x∈l,a<=x/\x<a+n)->l.length<=n
 |0,a,l,_,h=>by
  cases l with
  |nil=>exact le_refl _
  |cons x r=>have:=h x mem_cons_self;omega
 |n+1,a,l,F,h=>by
  have N:=zM n a (l.filter λx=>decide (x≠a+n)) (F.filter _) λx G=>by
   obtain⟨h1,h2⟩:=List.mem_filter.mp G;have S:=h x h1;have R:x≠a+n:=of_decide_eq_true h2;omega
  have e:(l.filter λx=>decide (x≠a+n)).length+1>=l.length:=by
   clear N h
   induction l with
   |nil=>simp
   |cons x r J =>
    obtain⟨O,I⟩:=List.nodup_cons.mp F;rw[filter_cons];by_cases c:x=a+n
    .rw[if_neg (by simp[c])];have:r.filter (λx=>decide (x≠a+n))=r:=by
      rw[filter_eq_self];intro y L;have:y≠a+n:=λe=>O (by rw[c, <-e];exact L);simpa using this
     rw[this];simp
    .rw[if_pos (by simpa using c)];have:=J I;rw[length_cons,length_cons];omega
  omega
theorem gq.len {H:Hp}{k:Int}{F:rY}(S:gq H k F):F.length<=64:=by
 have:=zM 64 0 (F.map (·.1)) S.ns λx G=>by
  obtain⟨y,I,rfl⟩:=List.mem_map.mp G;have:=S.ht y I;omega
 rwa [length_map]at this
theorem TabAt.kb {C:Addr}{H:Hp}{p fs:Addr}{tb:iR}(T:TabAt C H p fs tb):∀x∈tb,0<=x.1/\x.1<8:=λx F=>by
 have S:=T.hs x F;cases e:x.2.2 with
 |nil=>exact absurd e S.ne
 |cons y r =>
  have:=S.ht y (by rw[e];exact mem_cons_self);omega
theorem TabAt.len {C:Addr}{H:Hp}{p fs:Addr}{tb:iR}(T:TabAt C H p fs tb):tb.length<=8:=by
 have:=zM 8 0 (tb.map (·.1)) T.nk λx F=>by
  obtain⟨y,G,rfl⟩:=List.mem_map.mp F;have:=T.kb y G;omega
 rwa [length_map]at this
theorem TabAt.vy {C:Addr}{H:Hp}{p fs:Addr}{tb:iR}(T:TabAt C H p fs tb) {q:Int}(h:cV tb q≠none):0<=q/\q<64:=by
 unfold cV at h;cases e:look tb (q/8)with
 |none=>rw[e]at h;exact absurd rfl h
 |some a =>
  rw[e,bind_some]at h;cases F:look a.2 q with
  |none=>rw[F]at h;exact absurd rfl h
  |some b =>
   have:=(T.hs _ (aA e)).ht _ (aA F);omega
end Tb
namespace L2
open PySem PySem.Spec PyProof.Rows
section
variable {X:Cx}
theorem nr {α F:Type}(f:α->F):∀(l:List α) (i:Nat),(l.map f).eraseIdx i=(l.eraseIdx i).map f
 | [],_=>rfl
 |_::_,0=>rfl
 |a::l,i+1=>by
  show f a::(l.map f).eraseIdx i=f a::(l.eraseIdx i).map f;rw[nr f l i]
inductive u7 (x:V) (vs:List V) (H:Hp) (Q:VK):Prop
 |mk (l:Addr) (ns:List Int) (k:Int) (_:x=.ref l) (_:vs=[.int k]) (_:H l=some (.lst (ns.map V.int))) (_:k∈ns) (_:Q .non (upd H l (.lst ((ns.erase k).map V.int)))):u7 x vs H Q
theorem nN:BN X "list.remove" u7:=by
 intro pins s σ H x vs v us Q I Y R h;obtain⟨l,ns,k,rfl,rfl,J,N,q⟩:=h;cases Y;obtain⟨u,rfl,ru⟩:=R.one;obtain⟨t,rfl⟩:=ru;obtain⟨z,its,n,r,L,e⟩:=I.mi J;have hi:=intsAre_of r;have ab:=hi.length;have ac:=L;rw[length_map]at L z;have hs:sizeLine=16777216:=sizeLine_eq;have G:ns.idxOf k<ns.length:=List.idxOf_lt_length_iff.mpr N;refine call_meets slot_list_remove ⟨_,e,rfl⟩ PySem.F.entry_list_remove (PySem.F.args_list_remove_2 _ _)
  (MeetsSeq.list_remove l its.toArray n (.int k t) (isInt k) (λy S=>eq_isInt k t hi y (by simpa using S)) (ns.idxOf k) (by simpa[ab]using G) ?_ ?_ (by rw[size_toArray];omega)) ⟨e,?_⟩
 .show isInt k its[ns.idxOf k]=true;rw[isInt_at k hi _ af G];simpa using List.getElem_idxOf G
 .intro j O U;show isInt k its[j]=false;rw[isInt_at k hi j (by simpa using O) af];exact ne_of_lt_idxOf U _
 .refine⟨.non,_,I.zX (its':=its.eraseIdx (ns.idxOf k)) J e ?_ ?_ ?_,?_,q⟩
  .show its.toArray.eraseIdxIfInBounds _=(its.eraseIdx _).toArray;rw[List.eraseIdxIfInBounds_toArray]
  .rw[List.erase_eq_eraseIdx_of_idxOf rfl, <-nr];exact r.eraseIdx _
  .rw[length_map];have:=List.length_erase_of_mem N;omega
  .trivial
end
noncomputable def ix (K:PySem.W.Frag) (H:Hp) (a:Addr) (xs:List V):Prop:=H a=some (.tup xs)\/bR K (λ_=>none) a xs
theorem ix.sq {K:PySem.W.Frag}{H:Hp}{a:Addr}{xs:List V}(h:ix K H a xs):bR K H a xs:=by
 rcases h with h|h
 .exact bR.of h
 .rcases h with h|h
  .rcases h with h|⟨o,h⟩
   .cases h
   .cases h
  .exact .inr h
theorem ix.keep {K:PySem.W.Frag}{H H':Hp}{a:Addr}{xs:List V}(h:ix K H a xs) (s:∀o,H a=some o->H' a=some o):ix K H' a xs:=by
 rcases h with h|h
 .exact .inl (s _ h)
 .exact .inr h
theorem ix.off {K:PySem.W.Frag}{H H':Hp}{a:Addr}{xs:List V}(h:ix K H a xs) (s:H a=some (.tup xs)->H' a=some (.tup xs)):ix K H' a xs:=by
 rcases h with h|h
 .exact .inl (s h)
 .exact .inr h
theorem wc {X:Cx}:di X (.builtin "isinstance") (λxs H Q=>(∃x n t b,xs=[x,.ty n]/\jB X.K H x t/\kitOne X.K t (.type n)=some b/\Q (.bl b) H)\/∃a ys,xs=[.ref a,.ty "tuple"]/\bR X.K H a ys/\Q (.bl true) H):=by
 intro pins s σ H xs us Q I r h;rcases h with h|⟨a,ys,rfl,G,q⟩
 .exact dr pins s σ H xs us Q I r h
 .obtain⟨u,c,rfl,J,F⟩:=vals2 r;obtain rfl:c=Value.type "tuple" := F;cases(show u=Value.ref a from J);obtain⟨its,_,⟨o,h1,h2,_⟩,_⟩:=I.tuple G;exact kia_one kitx_tuple I.jM ⟨o,h1,h2⟩ (uu _) (λz=>nomatch z) λtk=>⟨.bl true,H,I.tok _,rfl,q⟩
end L2
namespace Tb
open PySem L2
structure yq (mg:Str->Option Value):Prop where
 yL:mg "isinstance" = none
 tuple:mg "tuple" = none
 list:mg "list" = none
 dict:mg "dict" = none
 len:mg "len" = none
 sorted:mg "sorted" = none
noncomputable def yY:V->Bool
 |.int _=>true
 |.str _=>true
 |.non=>true
 |_=>false
inductive qc (vs:List V) (H:Hp) (Q:VK) (e3:XK):Prop
 |mk (v:_) (_:vs=[v]) (_:yY v=true) (_:Q v H):qc vs H Q e3
noncomputable def sM (K:PySem.W.Frag):Sp:=λvs H Q _=>(∃v,vs=[v]/\yY v=true/\Q v H)\/∃(a:Addr) (xs:List V),vs=[.ref a]/\ix K H a xs/\lE xs=true/\∀H' l,aZ H H'->H l=none->H' l=some (.tup xs)->Q (.ref l) H'
theorem AZ:∀{v:V},zC v=true->yY v=true
 |.int _,_=>rfl
 |.str _,_=>rfl
section
variable {P:Program}{w:World}{K:PySem.W.Frag}{mg:Str->Option Value}{base:Heap}
theorem Fs:aC ["value","copied","key"] ["value"] (ar vD):=⟨rfl,rfl,rfl,ah,rfl,ah,ah⟩
theorem yb {f:Addr}{fd:FuncData}(F:cN K "own_copy" "own_copy" vD f fd) (T:yq mg):bg P w K mg base aW 1 f fd ["value"] qc:=by
 refine F.ok Fs (λvs H Q E h=>?_) (λJ A outer s H vs Q E I h=>?_)
 .obtain⟨v,rfl,_⟩:=h;rfl
 .obtain⟨v,rfl,G,k⟩:=h;refine⟨_,(ag (aS (gb (aN dr (by rfl) T.yL bM (aa (pv 0) (aa (dW (v:=.ty "tuple") (by rfl) T.tuple gL rfl) aj)))) (ao dE) aF)
   (ag (aS (gb (aN dr (by rfl) T.yL bM (aa (pv 0) (aa (dW (v:=.ty "list") (by rfl) T.list fw rfl) aj)))) (ao dE) aF)
   (ag (aS (gb (aN dr (by rfl) T.yL bM (aa (pv 0) (aa (dW (v:=.ty "dict") (by rfl) T.dict oz rfl) aj)))) (ag dE
   (ag dE
   (ao dE))) aF)
   (ao (aE (pv 0)))))),?_⟩
  try dsimp only[cxK]
  cases v with
  |int i=>exact⟨_,rfl,.int i,"tuple",_,false,rfl,.int i,yz _,false,rfl,bB ⟨_,rfl,.int i,"list",_,false,rfl,.int i,zb _,false,rfl,bB ⟨_,rfl,.int i,"dict",_,false,rfl,.int i,yM _,false,rfl,bB ⟨_,rfl,k⟩⟩⟩⟩
  |str i=>exact⟨_,rfl,.str i,"tuple",_,false,rfl,.str i,zJ _,false,rfl,bB ⟨_,rfl,.str i,"list",_,false,rfl,.str i,zm _,false,rfl,bB ⟨_,rfl,.str i,"dict",_,false,rfl,.str i,za _,false,rfl,bB ⟨_,rfl,k⟩⟩⟩⟩
  |non=>exact⟨_,rfl,.non,"tuple",_,false,rfl,.non,zj _,false,rfl,bB ⟨_,rfl,.non,"list",_,false,rfl,.non,zF _,false,rfl,bB ⟨_,rfl,.non,"dict",_,false,rfl,.non,zz _,false,rfl,bB ⟨_,rfl,k⟩⟩⟩⟩
  |_=>cases G
theorem Ay {f:Addr}{fd:FuncData}(F:cN K "own_copy" "own_copy" vD f fd) (T:yq mg) (R:Df P w K mg base aW 1 "own_copy" qc):bg P w K mg base aW 2 f fd ["value"] (sM K):=by
 refine F.ok Fs (λvs H Q E h=>?_) (λad A outer s H vs Q E O h=>?_)
 .rcases h with⟨v,rfl,_⟩|⟨a,xs,rfl,_⟩
  .rfl
  .rfl
 .refine⟨_,(ag (aS (gb (aN wc (by rfl) T.yL bM (aa (pv 0) (aa (dW (v:=.ty "tuple") (by rfl) T.tuple gL rfl) aj)))) (ao (aE (bO mJ (by rfl) T.tuple gL (aa (gY (cl:=[]) (caps:=[]) ⟨rfl,ah,ah,rfl,by kernel_rfl,by intro p I;simp at I,by kernel_rfl,by intro p I;simp at I,ah⟩ rfl (CM (pv 0)) (λ_ _ _ _=>gg) (λ_ _ _ _=>(pc R O aw (aa (pv 0) aj)))) aj)))) aF)
   (ag (aS (gb (aN dr (by rfl) T.yL bM (aa (pv 0) (aa (dW (v:=.ty "list") (by rfl) T.list fw rfl) aj)))) (ao dE) aF)
   (ag (aS (gb (aN dr (by rfl) T.yL bM (aa (pv 0) (aa (dW (v:=.ty "dict") (by rfl) T.dict oz rfl) aj)))) (ag dE
   (ag dE
   (ao dE))) aF)
   (ao (aE (pv 0)))))),?_⟩
  try dsimp only[cxK]
  rcases h with⟨v,rfl,hv,k⟩|⟨a,xs,rfl,J,N,k⟩
  .cases v with
   |int i=>exact⟨_,rfl,.inl ⟨.int i,"tuple",_,false,rfl,.int i,yz _,false,rfl,bB ⟨_,rfl,.int i,"list",_,false,rfl,.int i,zb _,false,rfl,bB ⟨_,rfl,.int i,"dict",_,false,rfl,.int i,yM _,false,rfl,bB ⟨_,rfl,k⟩⟩⟩⟩⟩
   |str i=>exact⟨_,rfl,.inl ⟨.str i,"tuple",_,false,rfl,.str i,zJ _,false,rfl,bB ⟨_,rfl,.str i,"list",_,false,rfl,.str i,zm _,false,rfl,bB ⟨_,rfl,.str i,"dict",_,false,rfl,.str i,za _,false,rfl,bB ⟨_,rfl,k⟩⟩⟩⟩⟩
   |non=>exact⟨_,rfl,.inl ⟨.non,"tuple",_,false,rfl,.non,zj _,false,rfl,bB ⟨_,rfl,.non,"list",_,false,rfl,.non,zF _,false,rfl,bB ⟨_,rfl,.non,"dict",_,false,rfl,.non,zz _,false,rfl,bB ⟨_,rfl,k⟩⟩⟩⟩⟩
   |_=>cases hv
  .have hs:sizeLine=16777216:=sizeLine_eq;have Y:=Bc N;have hn:=Ae N;refine⟨_,rfl,.inr ⟨a,xs,rfl,J.sq,true,rfl,c6 ?_⟩⟩;refine⟨_,rfl,a,rfl,⟨xs,J.sq⟩,?_⟩;refine wa (xs:=xs) (λi ys H'=>H'=H/\ys=xs.take i) ⟨rfl,rfl⟩ (λi ys H' _ p=>by rw[p.1];exact J.sq) (λi x ys H' hi p=>?_) (λys H' p l hl=>?_)
   .obtain⟨rfl,rfl⟩:=p;obtain⟨ac,U⟩:=List.getElem?_eq_some_iff.mp hi;refine⟨_,rfl,x,rfl,AZ (List.all_eq_true.mp Y x (U▸getElem_mem ac)),?_,rfl,?_⟩
    .rw[length_take];omega
    .rw[List.take_succ,hi];rfl
   .obtain⟨rfl,rfl⟩:=p;rw[take_length];refine⟨l,xs,rfl,.inl ⟨bE.of ae,λL G=>?_⟩⟩;have ab:L≠l:=λz=>(by rw[z,ae]at G;cases G);have S:H' L=none:=(by rw[ai ab]at G;exact G);exact k _ L ((au hl).trans (au G)) S ae
end
structure Txt (K:PySem.W.Frag) (mg:Str->Option Value) (C:Addr):Prop where
 cl:qt K C
 nF:cR K C "first_step"
 sp:∃u,mg "STEP_PAGES" = some u/\RelV (.int 8) u
noncomputable def EE (H:Hp) (v:V):Option (List V)->Prop
 |none=>v=.non
 |some xs=>∃t,v=.ref t/\H t=some (.tup xs)
inductive gz (C:Addr) (vs:List V) (H:Hp) (Q:VK) (e3:XK):Prop
 |mk (p dx:Addr) (_:vs=[.ref p]) (_:H p=some (.ins C dx [])) (_:∀(fs:Addr) (H':Hp),H fs=none->TabAt C H' p fs []->Off (· = p) H H'->Q .non H'):gz C vs H Q e3
inductive k9 (C:Addr) (vs:List V) (H:Hp) (Q:VK) (e3:XK):Prop
 |mk (p fs:Addr) (tb:iR) (q:Int) (_:vs=[.ref p,.int q]) (_:TabAt C H p fs tb) (_:∀H' v,aZ H H'->EE H' v (cV tb q)->Q v H'):k9 C vs H Q e3
inductive rK (K:PySem.W.Frag) (C:Addr) (vs:List V) (H:Hp) (Q:VK) (e3:XK):Prop
 |mk (p fs t:Addr) (tb:iR) (q:Int) (xs:List V) (_:vs=[.ref p,.int q,.ref t]) (_:TabAt C H p fs tb) (_:0<=q) (_:q<64) (_:ix K H t xs) (_:lE xs=true) (_:∀H' tb',TabAt C H' p fs tb'->(∀j,cV tb' j=if j=q then some xs else cV tb j)->Off (ed fs tb) H H'->(∀b,ed fs tb' b->ed fs tb b\/H b=none)->Q .non H'):rK K C vs H Q e3
inductive qp (C:Addr) (vs:List V) (H:Hp) (Q:VK) (e3:XK):Prop
 |mk (p fs:Addr) (tb:iR) (q:Int) (_:vs=[.ref p,.int q]) (_:TabAt C H p fs tb) (_:∀H' tb',TabAt C H' p fs tb'->(∀j,cV tb' j=if j=q then none else cV tb j)->(tb'.length=tb.length\/tb'.length+1=tb.length)->Off (ed fs tb) H H'->(∀b,ed fs tb' b->ed fs tb b\/H b=none)->Q .non H'):qp C vs H Q e3
noncomputable def fA (tb:iR):List Int:=tb.flatMap λx=>x.2.2.map (·.1)
inductive eJ (C:Addr) (vs:List V) (H:Hp) (Q:VK) (e3:XK):Prop
 |mk (p fs:Addr) (tb:iR) (_:vs=[.ref p]) (_:TabAt C H p fs tb) (_:∀H' l (ns:List Int),aZ H H'->H l=none->H' l=some (.lst (ns.map V.int))->ns.Perm (fA tb)->ns.Pairwise (· <= ·)->Q (.ref l) H'):eJ C vs H Q e3
theorem qB {C:Addr}{H:Hp}{p fs:Addr}{tb:iR}(T:TabAt C H p fs tb) (q:Int):q∈fA tb↔cV tb q≠none:=by
 unfold fA;rw[List.mem_flatMap];constructor
 .rintro⟨x,F,J⟩;obtain⟨y,I,rfl⟩:=List.mem_map.mp J;have S:=T.hs x F;unfold cV;rw[(S.ht y I).2.2.1,bX T.nk F,bind_some,bX S.ns I];simp
 .intro h;unfold cV at h;cases e:look tb (q/8)with
  |none=>rw[e]at h;exact absurd rfl h
  |some a =>
   rw[e,bind_some]at h;cases G:look a.2 q with
   |none=>rw[G]at h;exact absurd rfl h
   |some b=>exact⟨_,aA e,List.mem_map.mpr ⟨_,aA G,rfl⟩⟩
theorem jA {C:Addr}{H:Hp}{p fs:Addr}{tb:iR}(T:TabAt C H p fs tb):(fA tb).Nodup:=by
 have hs:=T.hs;have hk:=T.nk;clear T
 induction tb with
 |nil=>exact nodup_nil
 |cons x r O =>
  obtain⟨Y,L⟩:=List.nodup_cons.mp (show(x.1::r.map (·.1)).Nodup from hk);show(x.2.2.map (·.1)++fA r).Nodup;rw[List.nodup_append];refine⟨(hs x mem_cons_self).ns,O (λy F=>hs y (mem_cons_of_mem _ F)) L,λa ha b G e=>Y ?_⟩;obtain⟨y,F,rfl⟩:=List.mem_map.mp ha;obtain⟨z,I,G⟩:=List.mem_flatMap.mp G;obtain⟨J,R,rfl⟩:=List.mem_map.mp G;have S:=((hs x mem_cons_self).ht y F).2.2.1;have U:=((hs z (mem_cons_of_mem _ I)).ht J R).2.2.1;have N:y.1=J.1:=e;rw[<-S,N,U];exact List.mem_map.mpr ⟨z,I,rfl⟩
theorem qV {C:Addr}{H:Hp}{p fs:Addr}{tb:iR}(T:TabAt C H p fs tb) (i:Nat):(fA (tb.take i)).length<=64:=by
 have h1:(fA tb).length<=64:=zM 64 0 (fA tb) (jA T) λx F=>by
  have:=T.vy ((qB T x).mp F);omega
 have h2:(fA (tb.take i)).length<=(fA tb).length:=by
  conv=>rhs;rw[<-take_append_drop i tb]
  unfold fA;rw[List.flatMap_append,length_append];omega
 omega
theorem qZ {tb:iR}{q:Int}{d:Addr}{F:rY}(h:look tb (q/8)=some (d,F)):cV tb q=(look F q).map (·.2):=by
 unfold cV;rw[h,bind_some]
theorem rD {tb:iR}{q:Int}(h:look tb (q/8)=none):cV tb q=none:=by
 unfold cV;rw[h];rfl
theorem nH {tb:iR}{k q:Int}{d:Addr}{G sec':rY}{o:Option (Addr×List V)}(F:look tb k=some (d,G)) (I:q/8=k) (h:∀j,look sec' j=if j=q then o else look G j) (j:Int) :
  cV (aX tb k (d,sec')) j=if j=q then o.map (·.2)else cV tb j:=by
 unfold cV;rw[bS (j/8) F];by_cases c:j/8=k
 .rw[if_pos c,bind_some,h j,c,F,bind_some];by_cases e:j=q
  .rw[if_pos e,if_pos e]
  .rw[if_neg e,if_neg e]
 .rw[if_neg c,if_neg (λe=>c (by rw[e];exact I))]
theorem wx {tb:iR}{k q:Int}{d:Addr}{sec':rY}{o:Option (Addr×List V)}(F:look tb k=none) (G:q/8=k) (h:∀j,look sec' j=if j=q then o else none) (j:Int) :
  cV (tb++[(k,(d,sec'))]) j=if j=q then o.map (·.2)else cV tb j:=by
 unfold cV;rw[bK (j/8) F];by_cases c:j/8=k
 .rw[if_pos c,bind_some,h j,c,F];by_cases e:j=q
  .rw[if_pos e,if_pos e]
  .rw[if_neg e,if_neg e];rfl
 .rw[if_neg c,if_neg (λe=>c (by rw[e];exact G))]
theorem xj {tb:iR}{k q:Int}{d:Addr}{F:rY}(G:look tb k=some (d,F)) (I:q/8=k) (h:∀j,j≠q->look F j=none) (j:Int) :
  cV (bf tb k) j=if j=q then none else cV tb j:=by
 unfold cV;rw[cy];by_cases c:j/8=k
 .rw[if_pos c,c,G];by_cases e:j=q
  .rw[if_pos e];rfl
  .rw[if_neg e,bind_some,h j e];rfl
 .rw[if_neg c,if_neg (λe=>c (by rw[e];exact I))]
theorem AQ {H:Hp}{k q:Int}{G:rY}{l:Addr}{xs:List V}(S:gq H k G) (J:H l=some (.tup xs)) (I:lE xs=true) (L:q/8=k) (N:0<=q) (h1:q<64) :
  ∃sec',putK (dk fS G) (Sum.inl q) (.ref l)=dk fS sec'/\(∀j,look sec' j=if j=q then some (l,xs)else look G j)/\gq H k sec':=by
 cases e:look G q with
 |none =>
  refine⟨G++[(q,(l,xs))],cu (f:=fS) (a:=(l,xs)) e,λj=>bK j e,λy F=>?_,?_,by simp⟩
  .rcases List.mem_append.mp F with F|F
   .exact S.ht y F
   .rw[List.mem_singleton.mp F];exact⟨J,I,L,N,h1⟩
  .rw[map_append];exact fZ S.ns (cj e)
 |some b =>
  refine⟨aX G q (l,xs),gO (f:=fS) (a:=(l,xs)) e,λj=>bS j e,λy F=>?_,?_,?_⟩
  .rcases mem_set F with rfl|⟨F,_⟩
   .exact⟨J,I,L,N,h1⟩
   .exact S.ht y F
  .rw[eX];exact S.ns
  .intro z;have:=gc G q (l,xs);rw[z]at this;exact S.ne (List.length_eq_zero_iff.mp this.symm)
theorem gI {B:Addr->Prop}{H H' F:Hp}(s:aZ H H') (o:Off B H' F):Off B H F:=λb u e G=>o b u (s b u e) G
theorem pZ {B:Addr->Prop}{H:Hp}{a:Addr}{X:HO}(h:B a):Off B H (upd H a X):=λb u e F=>by rw[ai (λz=>F (by rw[z];exact h))];exact e
theorem Off.mono {B F:Addr->Prop}{H H':Hp}(o:Off B H H') (h:∀b,B b->F b):Off F H H':=λb u e G=>o b u e λz=>G (h b z)
theorem BZ {C:Addr}{H:Hp}{p fs:Addr}{tb:iR}(T:TabAt C H p fs tb):(dk fF tb).length<sizeLine:=by
 have h:=T.len;have hs:sizeLine=16777216:=sizeLine_eq;rw[cq];omega
theorem BU {H:Hp}{k:Int}{F:rY}(S:gq H k F):(dk fS F).length<sizeLine:=by
 have h:=S.len;have hs:sizeLine=16777216:=sizeLine_eq;rw[cq];omega
theorem vd {fs d:Addr}{tb:iR}{k:Int}{G sec':rY}(I:(k,(d,G))∈tb) {b:Addr}(h:ed fs (aX tb k (d,sec')) b):ed fs tb b:=by
 rcases h with h|⟨x,F,h⟩
 .exact .inl h
 .rcases mem_set F with rfl|⟨F,_⟩
  .exact .inr ⟨_,I,h⟩
  .exact .inr ⟨x,F,h⟩
theorem z8 {fs:Addr}{tb:iR}{k:Int}{b:Addr}(h:ed fs (bf tb k) b):ed fs tb b:=by
 rcases h with h|⟨x,F,h⟩
 .exact .inl h
 .exact .inr ⟨x,(bW F).1,h⟩
theorem j9 (tb:iR) (k:Int):dC (dk fF tb) (Sum.inl k)=(look tb k).map fF:=cD fF k tb
theorem um (F:rY) (k:Int):dC (dk fS F) (Sum.inl k)=(look F k).map fS:=cD fS k F
section
variable {P:Program}{w:World}{K:PySem.W.Frag}{mg:Str->Option Value}{base:Heap}
theorem Gk:aC ["self"] ["self"] (ar lL):=⟨rfl,rfl,rfl,ah,rfl,ah,ah⟩
theorem oX {f C:Addr}{fd:FuncData}(F:cN K "__init__" "Table.__init__" lL f fd) (T:Txt K mg C):bg P w K mg base aW 1 f fd ["self"] (gz C):=by
 refine F.ok Gk (λvs H Q E h=>?_) (λO A outer s H vs Q E N h=>?_)
 .obtain⟨p,dx,rfl,_⟩:=h;rfl
 .obtain⟨p,dx,rfl,J,k⟩:=h;refine⟨_,(ao (eV (pv 0) cZ rfl)),?_⟩
  try dsimp only[cxK]
  intro fs I;have np:p≠fs:=aq J I;refine⟨_,rfl,p,C,dx,[],rfl,by rw[ai np];exact J,T.cl,T.nF,av,?_⟩;refine k fs _ I ⟨⟨dx,by rw[ae];rfl⟩,by rw[ai (Ne.symm np),ae];rfl,λx G=>(not_mem_nil G).elim,λx G=>(not_mem_nil G).elim,.nil,λx G=>(not_mem_nil G).elim,λx G=>(not_mem_nil G).elim⟩ λb u e L=>?_;rw[ai L,ai (aq e I)];exact e
theorem Hg:aC ["self","page","second"] ["self","page"] (ar C1):=⟨rfl,rfl,rfl,ah,rfl,ah,ah⟩
theorem Cm {f C:Addr}{fd:FuncData}(F:cN K "get" "Table.get" C1 f fd) (T:Txt K mg C) (R:Df P w K mg base aW 2 "own_copy" (sM K)):bg P w K mg base aW 3 f fd ["self","page"] (k9 C):=by
 obtain⟨u8,U,r8⟩:=T.sp;refine F.ok Hg (λvs H Q E h=>?_) (λac A outer s H vs Q E I h=>?_)
 .obtain⟨p,fs,tb,q,rfl,_⟩:=h;rfl
 .obtain⟨p,fs,tb,q,rfl,TT,k⟩:=h;obtain⟨dx,h1⟩:=TT.ob;refine⟨_,(ag (aK (i:=2) Hg.nd rfl (Or.inl rfl) (rR (bh I) (aJ (pv 0) rfl) (ay bF (pv 1) (cf (by rfl) U r8)) cZ ⟨rfl,rfl,rfl,rfl⟩))
   (ao (aE (pc R I aw (aa (yG (bh I) (pv 2) (pv 1) ⟨rfl,rfl,rfl,rfl⟩) aj))))),?_⟩
  try dsimp only[cxK]
  refine⟨_,rfl,p,C,dx,_,.ref fs,rfl,h1,T.cl,T.nF,jQ fs,fs,rfl,.inl ⟨_,.inl TT.hf⟩,_,rfl,_,_,rfl,rfl,⟨av,av⟩,λe Y=>?_⟩;have G:=au (X:=.dK []) Y;have J:=TT.same G;refine⟨_,dq.k (k:=.inl (q/8)) J.hf,?_⟩;rw[j9];cases c:look tb (q/8)with
  |none =>
   refine⟨_,rfl,e,rfl,.inl ⟨_,.inl ae⟩,_,rfl,_,dq.k (k:=.inl q) ae,.inl ⟨.non,rfl,rfl,k _ _ G ?_⟩⟩;rw[rD c];rfl
  |some a =>
   obtain⟨d,O⟩:=a;have N:=aA c;have hd:=J.hd _ N;refine⟨_,rfl,d,rfl,.inl ⟨_,.inl hd⟩,_,rfl,_,dq.k (k:=.inl q) hd,?_⟩;rw[um];have le:=qZ c;cases L:look O q with
   |none =>
    refine .inl ⟨.non,rfl,rfl,k _ _ G ?_⟩;rw[le,L];rfl
   |some b =>
    obtain⟨t,xs⟩:=b;have hs:=(J.hs _ N).ht _ (aA L);refine .inr ⟨t,xs,rfl,.inl hs.1,hs.2.1,λH' l s' ab S=>k _ _ (G.trans s') ?_⟩;rw[le,L];exact⟨l,rfl,S⟩
theorem Fm:aC ["self","page","entry","second"] ["self","page","entry"] (ar Dq):=⟨rfl,rfl,rfl,ah,rfl,ah,ah⟩
theorem C0 {f C:Addr}{fd:FuncData}(F:cN K "lay" "Table.lay" Dq f fd) (T:Txt K mg C) (GC:Df P w K mg base aW 2 "own_copy" (sM K)):bg P w K mg base aW 3 f fd ["self","page","entry"] (rK K C):=by
 obtain⟨u8,m8,r8⟩:=T.sp;refine F.ok Fm (λvs H Q E h=>?_) (λam A outer s H vs Q E hr h=>?_)
 .obtain⟨p,fs,t,tb,q,xs,rfl,_⟩:=h;rfl
 .obtain⟨p,fs,t,tb,q,xs,rfl,TT,q0,q1,ht,G,k⟩:=h;obtain⟨dx,h1⟩:=TT.ob;refine⟨_,(ag (aK (i:=3) Fm.nd rfl (Or.inl rfl) (yK (aJ (pv 0) rfl) (ay bF (pv 1) (cf (by rfl) m8 r8)) cZ ⟨rfl,rfl,rfl,rfl⟩))
   (ao (jk (bh hr) (pv 3) (pv 1) (pc GC hr aw (aa (pv 2) aj)) rfl))),?_⟩
  try dsimp only[cxK]
  refine⟨_,rfl,p,C,dx,_,.ref fs,rfl,h1,T.cl,T.nF,jQ fs,fs,rfl,.inl ⟨_,.inl TT.hf⟩,_,rfl,_,_,rfl,rfl,⟨av,av⟩,λe N=>?_⟩;have se:=au (X:=.dK []) N;have Y:=TT.same se;refine⟨_,.inl (q/8),Y.hf,rfl,BZ Y,λv I=>?_,λI=>?_⟩
  .rw[j9]at I;cases c:look tb (q/8)with
   |none=>rw[c]at I;cases I
   |some a =>
    obtain⟨d,ap⟩:=a;rw[c]at I;obtain rfl:V.ref d=v:=Option.some.inj I;have R:=aA c;refine⟨_,rfl,.inr ⟨t,xs,rfl,ht.keep λo e=>se _ _ e,G,λH2 l O ad U=>?_⟩⟩;have S:=Y.same O;obtain⟨sec',e1,e2,S'⟩:=AQ (S.hs _ R) U G rfl q0 q1;have hd:=S.hd _ R;refine⟨_,rfl,_,rfl,d,_,rfl,fQ.k (k:=.inl q) hd (BU (S.hs _ R)),?_⟩;rw[e1];have L:Off (· = d) H2 (upd H2 d (.dK (dk fS sec'))):=pZ rfl;refine k _ _ (S.put c L ae (S'.keep λb ys J=>L _ _ J (cB J hd (by intro z;cases z)))) (λj=>nH c rfl e2 j) (gI (se.trans O) (L.mono λb z=>.inr ⟨_,R,z⟩)) λb z=>.inl (vd R z)
  .rw[j9]at I;have c:look tb (q/8)=none:=by
    cases c:look tb (q/8)with
    |none=>rfl
    |some a=>rw[c]at I;cases I
   have ep:putK (dk fF tb) (Sum.inl (q/8)) (.ref e)=dk fF (tb++[(q/8,(e,[]))]):=cu (f:=fF) (a:=(e,[])) c;rw[ep];have ef:e≠fs:=λz=>aq TT.hf N z.symm;have hE:upd (upd H e (.dK [])) fs (.dK (dk fF (tb++[(q/8,(e,[]))]))) e=some (.dK []):=(by rw[ai ef,ae]);have o1:Off (· = fs) H (upd (upd H e (.dK [])) fs (.dK (dk fF (tb++[(q/8,(e,[]))])))):=λb u J hb=>(by rw[ai hb,ai (aq J N)];exact J);refine⟨_,rfl,.inr ⟨t,xs,rfl,ht.off λe=>o1 _ _ e (cB e TT.hf (by intro z;cases z)),G,λH2 l O ad U=>?_⟩⟩;have ab:=O _ _ hE;refine⟨_,rfl,_,rfl,e,_,rfl,fQ.k (k:=.inl q) ab av,?_⟩;have e1:putK ([]:List (Key×V)) (Sum.inl q) (.ref l)=dk fS [(q,(l,xs))]:=rfl;rw[e1];have L:Off (· = e) H2 (upd H2 e (.dK (dk fS [(q,(l,xs))]))):=pZ rfl;have oA:Off (· = fs) H (upd H2 e (.dK (dk fS [(q,(l,xs))]))):=λb u J hb=>L b u (O _ _ (o1 b u J hb)) (aq J N);have ac:(upd H2 e (.dK (dk fS [(q,(l,xs))]))) l=some (.tup xs):=L _ _ U (cB U ab (by intro z;cases z));refine k _ _ (TT.add (sec':=[(q,(l,xs))]) c N oA ?_ ae ⟨λy hy=>?_,?_,by simp⟩) (λj=>wx (o:=some (l,xs)) c rfl (λj=>?_) j) (oA.mono λb z=>.inl z) λb z=>?_
   rotate_left 4
   .rcases z with z|⟨x,G,z⟩
    .exact .inl (.inl z)
    .rcases List.mem_append.mp G with G|G
     .exact .inl (.inr ⟨x,G,z⟩)
     .rw[List.mem_singleton.mp G]at z;rw[z];exact .inr N
   .refine L _ _ (O _ _ ae) (Ne.symm ef) |>.trans ?_;unfold dk;rw[map_append,map_append];rfl
   .rw[List.mem_singleton.mp hy];exact⟨ac,G,rfl,q0,q1⟩
   .simp
   .rw[aM,gG];by_cases z:j=q
    .rw[if_pos z,if_pos z.symm]
    .rw[if_neg z,if_neg (Ne.symm z)]
theorem FU:aC ["self","page","k","second"] ["self","page"] (ar t6):=⟨rfl,rfl,rfl,ah,rfl,ah,ah⟩
theorem yU {f C:Addr}{fd:FuncData}(F:cN K "clear" "Table.clear" t6 f fd) (T:Txt K mg C) (TP:yq mg):bg P w K mg base aW 1 f fd ["self","page"] (qp C):=by
 obtain⟨u8,m8,r8⟩:=T.sp;have R:=T;refine F.ok FU (λvs H Q E h=>?_) (λam A outer s H vs Q E hr h=>?_)
 .obtain⟨p,fs,tb,q,rfl,_⟩:=h;rfl
 .obtain⟨p,fs,tb,q,rfl,TT,k⟩:=h;obtain⟨dx,h1⟩:=TT.ob;replace T:=TP;refine⟨_,(ag (aK (i:=2) FU.nd rfl (Or.inl rfl) (ay bF (pv 1) (cf (by rfl) m8 r8)))
   (ag (aK (i:=3) FU.nd rfl (Or.inl rfl) (rR (bh hr) (aJ (pv 0) rfl) (pv 2) cZ ⟨rfl,rfl,rfl,rfl⟩))
   (ag (aS (gU (eT (bh hr) (pv 1) (pv 3))) (ao nY) aF)
   (ag (aL (dX (pv 3) (pv 1) ⟨rfl,rfl,rfl,rfl⟩))
   (ao (aS (az bN (aN jL (by rfl) T.len boot_len (aa (pv 3) aj)) ak (aG _)) (ao (aL (dX (aJ (pv 0) rfl) (pv 2) ⟨rfl,rfl,rfl,rfl⟩))) aF)))))),?_⟩
  try dsimp only[cxK]
  refine⟨_,rfl,_,_,rfl,rfl,⟨av,av⟩,?_⟩;refine⟨_,rfl,p,C,dx,_,.ref fs,rfl,h1,R.cl,R.nF,jQ fs,fs,rfl,.inl ⟨_,.inl TT.hf⟩,_,rfl,λe he=>?_⟩;have J:=au (X:=.dK []) he;have I:=TT.same J;refine⟨_,dq.k (k:=.inl (q/8)) I.hf,?_⟩;rw[j9];cases c:look tb (q/8)with
  |none =>
   refine⟨_,rfl,_,rfl,e,_,rfl,dq.k (k:=.inl q) ae,true,rfl,c6 ?_⟩;refine k _ _ I (λj=>?_) (.inl rfl) (gI J λb u N _=>N) λb z=>.inl z;by_cases z:j=q
   .rw[if_pos z,z];exact rD c
   .rw[if_neg z]
  |some a =>
   obtain⟨d,G⟩:=a;have L:=aA c;have hd:=I.hd _ L;have S:=I.hs _ L;refine⟨_,rfl,_,rfl,d,_,rfl,dq.k (k:=.inl q) hd,?_⟩;rw[um];cases c2:look G q with
   |none =>
    refine⟨true,rfl,c6 ?_⟩;refine k _ _ I (λj=>?_) (.inl rfl) (gI J λb u N _=>N) λb z=>.inl z;by_cases z:j=q
    .rw[if_pos z,z,qZ c,c2];rfl
    .rw[if_neg z]
   |some b =>
    refine⟨false,rfl,bB ?_⟩;refine⟨_,rfl,d,rfl,.inl ⟨_,.inl hd⟩,_,rfl,_,.inl q,fS b,hd,rfl,by rw[um,c2];rfl,?_⟩;rw[er];refine⟨_,rfl,d,_,rfl,ae,rfl,?_⟩;have O:Off (· = d) (upd H e (.dK [])) (upd (upd H e (.dK [])) d (.dK (dk fS (bf G q)))):=pZ rfl;by_cases z:bf G q=[]
    .have U:decide (V.int ((dk fS (bf G q)).length:Nat)=V.int 0)=true:=(by rw[z];rfl);rw[U];refine⟨true,rfl,c6 ?_⟩;have ad:d≠fs:=TT.nf _ L;have ab:(upd (upd H e (.dK [])) d (.dK (dk fS (bf G q)))) fs=some (.dK (dk fF tb)):=O _ _ I.hf (Ne.symm ad);have ac:(upd (upd H e (.dK [])) d (.dK (dk fS (bf G q)))) p=some (.ins C dx (jm fs)):=O _ _ (J _ _ h1) (cB (J _ _ h1) hd (by intro z;cases z));refine⟨_,rfl,p,C,dx,_,.ref fs,rfl,ac,R.cl,R.nF,jQ fs,fs,rfl,.inl ⟨_,.inl ab⟩,_,rfl,_,.inl (q/8),fF (d,G),ab,rfl,by rw[j9,c];rfl,?_⟩;rw[er];have o3:Off (λb=>b=d\/b=fs) (upd H e (.dK [])) (upd (upd (upd H e (.dK [])) d (.dK (dk fS (bf G q)))) fs (.dK (dk fF (bf tb (q/8))))):=λb u N hb=>by
      rw[ai λz=>hb (.inr z),ai λz=>hb (.inl z)];exact N
     refine k _ _ (I.del c o3 ae) (λj=>xj c rfl (λj hj=>?_) j) (.inr ?_) (gI J (o3.mono λb z=>z.elim (λz=>.inr ⟨_,L,z⟩) .inl)) λb z=>.inl (z8 z)
     .have:=cy G q j;rw[z,gG,if_neg hj]at this;exact this.symm
     .exact kB TT.nk c
    .have U:decide (V.int ((dk fS (bf G q)).length:Nat)=V.int 0)=false:=decide_eq_false λy=>by
      injection y with y;rw[cq]at y;exact z (List.length_eq_zero_iff.mp af)
     rw[U];refine⟨false,rfl,bB ?_⟩;have S2:gq (upd (upd H e (.dK [])) d (.dK (dk fS (bf G q)))) (q/8) (bf G q):=⟨λy hy=>?_,?_,z⟩
     .refine k _ _ (I.put c O ae S2) (λj=>nH c rfl (λj=>cy G q j) j) (.inl (gc _ _ _)) (gI J (O.mono λb z=>.inr ⟨_,L,z⟩)) λb z=>.inl (vd L z)
     .have Y:=S.ht y (bW hy).1;exact⟨O _ _ Y.1 (cB Y.1 hd (by intro z;cases z)),Y.2⟩
     .rw[iU];exact S.ns.filter _
theorem Ed:aC ["self","found","k"] ["self"] (ar tR):=⟨rfl,rfl,rfl,ah,rfl,ah,ah⟩
theorem xD {f C:Addr}{fd:FuncData}(F:cN K "pages" "Table.pages" tR f fd) (N:Txt K mg C) (T:yq mg):bg P w K mg base aW 1 f fd ["self"] (eJ C):=by
 refine F.ok Ed (λvs H Q E h=>?_) (λas A outer s H vs Q E hr h=>?_)
 .obtain⟨p,fs,tb,rfl,_⟩:=h;rfl
 .obtain⟨p,fs,tb,rfl,TT,k⟩:=h;obtain⟨dx,h1⟩:=TT.ob;have I:=TT.hf;have hs:sizeLine=16777216:=sizeLine_eq;refine⟨_,(ag (aK (i:=1) Ed.nd rfl (Or.inl rfl) (bU aj))
   (ag (kC (cU PassesOwn.never rfl (oj (aJ (pv 0) rfl)) (a8 (i:=2) Ed.nd rfl (Or.inl rfl)) (ao (aL (gS plainAttrs_list slot_list_extend type_list_extend (tH rfl) (pv 1) (aa (bq (bh hr) (aJ (pv 0) rfl) (pv 2) (λ_ _=>rfl)) aj))))))
   (ao (aE (aN oM (by rfl) T.sorted jX (aa (pv 1) aj)))))),?_⟩
  try dsimp only[cxK]
  have Y:∀o S,H fs≠some (.frz o S):=λo S z=>(by rw[I]at z;cases z);refine⟨av,λl G=>?_⟩;have sl:=au (X:=.lst []) G;have O:l≠fs:=λz=>aq I G z.symm;have ac:p≠l:=aq h1 G;have ab:p≠fs:=cB h1 I (by intro z;cases z);refine⟨_,rfl,p,C,dx,_,.ref fs,rfl,sl _ _ h1,N.cl,N.nF,jQ fs,fs,_,rfl,sl _ _ I,Y,λo=>?_⟩;refine rP (kvs:=dk fF tb) (λi σ H'=>H'=upd (upd H l (.lst ((fA (tb.take i)).map V.int))) fs (.frz o (.dK (dk fF tb)))/\∃v,σ=[some (.ref p),some (.ref l),v]) ⟨rfl,_,rfl⟩ (λi σ H' _ h=>by rw[h.1,ae]) (λi k v σ H' hi h=>?_) (λσ H' h=>?_)
  .obtain⟨rfl,v',rfl⟩:=h;unfold dk at hi;rw[getElem?_map]at hi;cases e:tb[i]? with
   |none=>rw[e]at hi;cases hi
   |some x =>
    rw[e]at hi;obtain⟨rfl,rfl⟩:=Prod.mk.inj (Option.some.inj hi);have L:x∈tb:=mem_of_getElem? e;have hd:=TT.hd x L;have dl:x.2.1≠l:=aq hd G;have df:x.2.1≠fs:=TT.nf x L;have ap:i<tb.length:=(List.getElem?_eq_some_iff.mp e).1;have zM:=qV TT i;have bx:=(TT.hs x L).len;have U:(upd (upd H l (.lst ((fA (tb.take i)).map V.int))) fs (.frz o (.dK (dk fF tb)))) l=some (.lst ((fA (tb.take i)).map V.int)):=(by rw[ai O,ae]);refine⟨_,rfl,.inl ⟨rfl,_,bE.of U⟩,_,rfl,p,C,dx,_,.ref fs,rfl,by rw[ai ab,ai ac];exact h1,N.cl,N.nF,jQ fs,_,rfl,fs,.ref x.2.1,rfl,.inl ⟨dk fF tb,.inl x.1,.inr ⟨o,ae⟩,rfl,?_⟩,l,x.2.1,_,dk fS x.2.2,rfl,rfl,U,by rw[ai df,ai dl];exact hd,?_,?_⟩
    .rw[j9,bX TT.nk L];rfl
    .rw[length_map,cq];omega
    .refine⟨?_,_,rfl⟩;rw[List.take_succ,e];funext b;by_cases z:b=l
     .rw[z,ae,ai O,ae];have ek:(dk fS x.2.2).map (λkv=>kV kv.1)=(x.2.2.map (·.1)).map V.int:=by
       unfold dk;rw[map_map,map_map];rfl
      rw[ek, <-map_append];unfold fA;rw[List.flatMap_append];simp
     .rw[ai z];by_cases R:b=fs
      .rw[R,ae,ae]
      .rw[ai R,ai R,ai z,ai z]
  .obtain⟨rfl,v',rfl⟩:=h;refine⟨fs,o,_,ae,Y,?_⟩;rw[cq,take_length];have e0:upd (upd (upd H l (.lst ((fA tb).map V.int))) fs (.frz o (.dK (dk fF tb)))) fs (.dK (dk fF tb))=upd H l (.lst ((fA tb).map V.int)):=by
    funext b;by_cases z:b=fs
    .rw[z,ae,ai (Ne.symm O)];exact I.symm
    .rw[ai z,ai z]
   rw[e0];have zM:=qV TT tb.length;rw[take_length]at zM;have ad:=au (X:=.lst ((fA tb).map V.int)) G;refine⟨_,rfl,l,fA tb,rfl,bE.of ae,jA TT,af,λl2 ns' J hp hs=>?_⟩;have am:l2≠l:=λz=>(by rw[z,ae]at J;cases J);exact k _ l2 ns' (ad.trans (au J)) (by rw[ai am]at J;exact J) ae hp hs
end
end Tb
namespace Rm
open PySem L2
noncomputable def top (i:Nat):Stmt:=PySem.Challenge.pw_ownroom_k13_blank_pages.main.body.getD i (.Pass ⟨0,0,0,0⟩)
noncomputable abbrev iD:Stmt:=top 20
noncomputable abbrev kh:Stmt:=top 21
noncomputable abbrev uz:Stmt:=top 22
noncomputable abbrev qe:Stmt:=top 23
noncomputable abbrev lQ:Stmt:=top 24
noncomputable abbrev qg:Stmt:=top 25
noncomputable abbrev xr:Stmt:=top 26
theorem au {H:Hp}{l:Addr}{X:HO}(h:H l=none):aZ H (upd H l X):=λb o e=>by rw[ai (aq e h)];exact e
theorem AH {H H':Hp}{l:Addr}{X:HO}(s:aZ H H') (h:H l=none):aZ H (upd H' l X):=λb o e=>by rw[ai (aq e h)];exact s b o e
structure yy (mg:Str->Option Value):Prop where
 vy:∃u,mg "ROOM_PAGES" = some u/\RelV (.int 64) u
 cells:∃u,mg "PAGE_CELLS" = some u/\RelV (.int 8) u
 list:mg "list" = none
 range:mg "range" = none
 len:mg "len" = none
noncomputable def cn (p m:Int):Prop:=m<1\/p<0\/64<p+m
noncomputable def aR (p m:Int):List Int:=(List.range m.toNat).map λk:Nat=>p+k
inductive eu (vs:List V) (H:Hp) (Q:VK) (e3:XK):Prop
 |mk (p m:Int) (_:vs=[.int p,.int m]) (_:¬ cn p m) (_:∀(H':Hp) (l:Addr),aZ H H'->H l=none->H' l=some (.lst ((aR p m).map V.int))->Q (.ref l) H'):eu vs H Q e3
theorem lC (q:Int):∀F:List Int,Bx (.int q) (F.map V.int)=decide (q∈F)
 | []=>rfl
 |m::F=>by
  have G:=lC q F;unfold Bx at G ⊢;rw[map_cons,any_cons,G];by_cases e:q=m
  .rw[e];simp[mG]
  .have I:m≠q:=Ne.symm e;simp[mG,e,I]
inductive fY (vs:List V) (H:Hp) (Q:VK) (e3:XK):Prop
 |mk (a b:Addr) (ms ps:List Int) (_:vs=[.ref a,.ref b]) (_:H a=some (.lst (ms.map V.int))) (_:H b=some (.lst (ps.map V.int))) (_:(∀q∈ps,q∈ms)) (_:Q .non H):fY vs H Q e3
section
variable {P:Program}{w:World}{K:PySem.W.Frag}{mg:Str->Option Value}{base:Heap}
theorem Gq:aC ["page","many"] ["page","many"] (ar iD):=⟨rfl,rfl,rfl,ah,rfl,ah,ah⟩
theorem nV {f:Addr}{fd:FuncData}(F:cN K "pages_from" "pages_from" iD f fd) (T:yy mg):bg P w K mg base aW 1 f fd ["page","many"] eu:=by
 obtain⟨ac,N,O⟩:=T.vy;refine F.ok Gq (λvs H Q E h=>?_) (λad A outer s H vs Q E hr h=>?_)
 .obtain⟨p,m,rfl,_⟩:=h;rfl
 .obtain⟨p,m,rfl,G,R⟩:=h;have hs:sizeLine=16777216:=sizeLine_eq;have S:¬ m<1:=λz=>G (.inl z);have Y:¬ p<0:=λz=>G (.inr (.inl z));have d3:¬ 64<p+m:=λz=>G (.inr (.inr z));refine⟨_,(ag (aS (PW.pt (gp (az fV (pv 1) ak (aG _)) (gp (az fV (pv 0) ak (aG _)) (gh (az iz (ay bu (pv 0) (pv 1)) (cf (by rfl) N O) (aG _)))))) cO aF)
   (ao (aE (bO (lM rfl) (by rfl) T.list fw (aa (bO wt (by rfl) T.range zv (aa (pv 0) (aa (ay bu (pv 0) (pv 1)) aj))) aj))))),?_⟩
  try dsimp only[cxK]
  refine bV λ_ U je=>?_;clear U;refine⟨_,rfl,_,_,rfl,rfl,_,rfl,?_⟩;refine gF (λc=>absurd (of_decide_eq_true c) S) (λ_=>?_);refine⟨_,rfl,_,_,rfl,rfl,_,rfl,?_⟩;refine gF (λc=>absurd (of_decide_eq_true c) Y) (λ_=>?_);refine⟨_,rfl,_,rfl,_,_,rfl,rfl,_,_,rfl,rfl,_,rfl,?_⟩;refine vQ (λc=>absurd (of_decide_eq_true c) d3) (λ_=>je _ ?_);refine⟨_,rfl,_,rfl,_,rfl,_,_,rfl,rfl,p,p+m,rfl,λL ab=>?_⟩;have J:=au (X:=.rng p (p+m)) ab;refine⟨L,p,m.toNat,rfl,by rw[ae,Int.toNat_of_nonneg af],af,af,af,λl I=>?_⟩;refine R _ l (J.trans (au I)) (J.free I) ?_;rw[ae];unfold aR;rw[map_map];rfl
theorem D7:aC ["mapped","pages","page"] ["mapped","pages"] (ar kh):=⟨rfl,rfl,rfl,ah,rfl,ah,ah⟩
theorem rW {f:Addr}{fd:FuncData}(F:cN K "refuse_unmapped" "refuse_unmapped" kh f fd):bg P w K mg base aW 1 f fd ["mapped","pages"] fY:=by
 refine F.ok D7 (λvs H Q E h=>?_) (λY A outer s H vs Q E U h=>?_)
 .obtain⟨a,b,N,ps,rfl,_⟩:=h;rfl
 .obtain⟨a,b,N,ps,rfl,L,I,R,J⟩:=h;refine⟨_,(ao (cU PassesOwn.never rfl (fh (pv 1)) (a8 (i:=2) D7.nd rfl (Or.inl rfl)) (ao (aS (az gf (pv 2) (pv 0) (by with_unfolding_all rfl)) cO aF)))),?_⟩
  try dsimp only[cxK]
  refine⟨_,rfl,b,rfl,⟨_,bE.of I⟩,?_⟩;refine dY (K:=K) (a:=b) (xs:=ps.map V.int) (λi σ H2=>∃v2:Option V,σ=[some (.ref a),some (.ref b),v2]/\H2=H) ⟨_,rfl,rfl⟩ (λi σ H2 _ O=>by obtain⟨_,_,e⟩:=O;rw[e];exact bE.of I) ?_ ?_
  .rintro i x σ H2 G ⟨v2,rfl,rfl⟩;rw[getElem?_map]at G;obtain⟨q,S,rfl⟩:=Option.map_eq_some_iff.mp G;refine⟨_,rfl,_,rfl,a,_,rfl,.inl (bE.of L),rfl,gX _,_,rfl,?_⟩;rw[lC,decide_eq_true (R q (mem_of_getElem? S))];exact bB ⟨_,rfl,rfl⟩
  .rintro σ H2 ⟨v2,rfl,rfl⟩;exact J
end
theorem vI {p m:Int}(h:¬ cn p m):∀q∈aR p m,0<=q/\q<64/\q.natAbs.log2<1920:=λq F=>by
 unfold aR at F;obtain⟨k,G,rfl⟩:=List.mem_map.mp F;rw[List.mem_range]at G;have h1:¬ m<1:=λz=>h (.inl z);have h2:¬ p<0:=λz=>h (.inr (.inl z));have L:¬ 64<p+m:=λz=>h (.inr (.inr z));refine⟨af,af,?_⟩;by_cases z:(p+(k:Int)).natAbs=0
 .rw[z];decide
 .rw[Nat.log2_lt z];have J:(p+(k:Int)).natAbs<64:=af;have I:(64:Nat)<2^1920:=ah;omega
inductive qo (vs:List V) (H:Hp) (Q:VK) (e3:XK):Prop
 |mk (a:Addr) (ms:List Int) (p m:Int) (_:vs=[.ref a,.int p,.int m]) (_:H a=some (.lst (ms.map V.int))) (_:¬ cn p m) (_:(∀q∈aR p m,¬ q∈ms)) (_:∀(H':Hp) (l:Addr),aZ H H'->H l=none->H' l=some (.lst ((aR p m).map V.int))->Q (.ref l) H'):qo vs H Q e3
inductive ly (vs:List V) (H:Hp) (Q:VK) (e3:XK):Prop
 |mk (a:Addr) (ms:List Int) (p m:Int) (_:vs=[.ref a,.int p,.int m]) (_:H a=some (.lst (ms.map V.int))) (_:¬ cn p m) (_:(∀q∈aR p m,q∈ms)) (_:∀(H':Hp) (l:Addr),aZ H H'->H l=none->H' l=some (.lst ((aR p m).map V.int))->Q (.ref l) H'):ly vs H Q e3
noncomputable def jq (ad:Int):Int:=ad/8
noncomputable def iw (ad n:Int):Int:=(ad+n-1)/8-ad/8+1
noncomputable def dn (ad n:Int) (F:List Int):Prop:=n<0\/(0<n/\(cn (jq ad) (iw ad n)\/¬ ∀q∈aR (jq ad) (iw ad n),q∈F))
noncomputable def aO (ad n:Int):List Int:=if n=0 then[]else aR (jq ad) (iw ad n)
inductive ip (vs:List V) (H:Hp) (Q:VK) (e3:XK):Prop
 |mk (a:Addr) (ms:List Int) (ad n:Int) (_:vs=[.ref a,.int ad,.int n]) (_:H a=some (.lst (ms.map V.int))) (_:¬ dn ad n ms) (_:∀(H':Hp) (l:Addr),aZ H H'->H l=none->H' l=some (.lst ((aO ad n).map V.int))->Q (.ref l) H'):ip vs H Q e3
section
variable {P:Program}{w:World}{K:PySem.W.Frag}{mg:Str->Option Value}{base:Heap}
theorem C4:aC ["mapped","page","many","pages","wanted"] ["mapped","page","many"] (ar uz):=⟨rfl,rfl,rfl,ah,rfl,ah,ah⟩
theorem yD {f:Addr}{fd:FuncData}(F:cN K "pages_to_map" "pages_to_map" uz f fd) (O:Df P w K mg base aW 1 "pages_from" eu):bg P w K mg base aW 2 f fd ["mapped","page","many"] qo:=by
 refine F.ok C4 (λvs H Q E h=>?_) (λab A outer s H vs Q E N h=>?_)
 .obtain⟨a,ms,p,m,rfl,_⟩:=h;rfl
 .obtain⟨a,ms,p,m,rfl,ha,nb,R,Y⟩:=h;refine⟨_,(ag (aK (i:=3) C4.nd rfl (Or.inl rfl) (pc O N aw (aa (pv 1) (aa (pv 2) aj))))
   (ag (cU PassesOwn.never rfl (fh (pv 3)) (a8 (i:=4) C4.nd rfl (Or.inl rfl)) (ao (aS (az xa (pv 4) (pv 0) (by with_unfolding_all rfl)) cO aF)))
   (ao (aE (pv 3))))),?_⟩
  try dsimp only[cxK]
  refine⟨_,rfl,_,rfl,p,m,rfl,nb,λH1 l J nl G=>?_⟩;refine⟨_,rfl,l,rfl,⟨_,bE.of G⟩,?_⟩;refine dY (K:=K) (a:=l) (xs:=(aR p m).map V.int) (λi σ H2=>∃I:Option V,σ=[some (.ref a),some (.int p),some (.int m),some (.ref l),I]/\H2=H1) ⟨_,rfl,rfl⟩ (λi σ H2 _ S=>by obtain⟨_,_,e⟩:=S;rw[e];exact bE.of G) ?_ ?_
  .rintro i x σ H2 L ⟨I,rfl,rfl⟩;rw[getElem?_map]at L;obtain⟨q,U,rfl⟩:=Option.map_eq_some_iff.mp L;refine⟨_,rfl,_,rfl,a,_,rfl,.inl (bE.of (J _ _ ha)),rfl,gX _,_,rfl,?_⟩;rw[lC,decide_eq_false (R q (mem_of_getElem? U))];exact bB ⟨_,rfl,rfl⟩
  .rintro σ H2 ⟨I,rfl,rfl⟩;exact⟨_,rfl,Y _ l J nl G⟩
theorem Eg:aC ["mapped","page","many","pages"] ["mapped","page","many"] (ar qe):=⟨rfl,rfl,rfl,ah,rfl,ah,ah⟩
theorem wD {f:Addr}{fd:FuncData}(F:cN K "pages_to_drop" "pages_to_drop" qe f fd) (S:Df P w K mg base aW 1 "pages_from" eu) (U:Df P w K mg base aW 1 "refuse_unmapped" fY):bg P w K mg base aW 2 f fd ["mapped","page","many"] ly:=by
 refine F.ok Eg (λvs H Q E h=>?_) (λab A outer s H vs Q E G h=>?_)
 .obtain⟨a,J,p,m,rfl,_⟩:=h;rfl
 .obtain⟨a,J,p,m,rfl,O,nb,Y,N⟩:=h;refine⟨_,(ag (aK (i:=3) Eg.nd rfl (Or.inl rfl) (pc S G aw (aa (pv 1) (aa (pv 2) aj))))
   (ag (aL (pc U G aw (aa (pv 0) (aa (pv 3) aj))))
   (ao (aE (pv 3))))),?_⟩
  try dsimp only[cxK]
  refine⟨_,rfl,_,rfl,p,m,rfl,nb,λH1 l I R L=>?_⟩;exact⟨_,rfl,_,rfl,a,l,J,aR p m,rfl,I _ _ O,L,Y,⟨_,rfl,N _ l I R L⟩⟩
theorem z9:aC ["mapped","address","many","first","last","pages"] ["mapped","address","many"] (ar lQ):=⟨rfl,rfl,rfl,ah,rfl,ah,ah⟩
theorem uE {f:Addr}{fd:FuncData}(F:cN K "pages_of_cells" "pages_of_cells" lQ f fd) (T:yy mg) (GP:Df P w K mg base aW 1 "pages_from" eu) (GU:Df P w K mg base aW 1 "refuse_unmapped" fY):bg P w K mg base aW 2 f fd ["mapped","address","many"] ip:=by
 obtain⟨u8,U,Y⟩:=T.cells;refine F.ok z9 (λvs H Q E h=>?_) (λab A outer s H vs Q E J h=>?_)
 .obtain⟨a,G,ad,n,rfl,_⟩:=h;rfl
 .obtain⟨a,G,ad,n,rfl,ha,I,R⟩:=h;refine⟨_,(ag (aS (az bN (pv 2) ak (aG _)) (ao (aE (bU aj))) aF)
   (ag (aS (az fV (pv 2) ak (aG _)) cO aF)
   (ag (aK (i:=3) z9.nd rfl (Or.inl rfl) (ay bF (pv 1) (cf (by rfl) U Y)))
   (ag (aK (i:=4) z9.nd rfl (Or.inl rfl) (ay bF (ay oi (ay bu (pv 1) (pv 2)) ak) (cf (by rfl) U Y)))
   (ag (aK (i:=5) z9.nd rfl (Or.inl rfl) (pc GP J aw (aa (pv 3) (aa (ay bu (ay oi (pv 4) (pv 3)) ak) aj))))
   (ag (aL (pc GU J aw (aa (pv 0) (aa (pv 5) aj))))
   (ao (aE (pv 5))))))))),?_⟩
  try dsimp only[cxK]
  refine⟨_,rfl,rfl,_,rfl,?_⟩;refine gF (λc=>?_) (λc=>?_)
  .have e:n=0:=V.int.inj (of_decide_eq_true c);refine⟨av,λl S=>?_⟩;refine R _ l (au S) S ?_;rw[ae];unfold aO;rw[if_pos e];rfl
  have ne:¬ n=0:=λz=>c (decide_eq_true (by rw[z]));have nn:¬ n<0:=λz=>I (.inl z);have L:0<n:=af;have np:¬ cn (jq ad) (iw ad n):=λz=>I (.inr ⟨L,.inl z⟩);have ni:∀q∈aR (jq ad) (iw ad n),q∈G:=Classical.byContradiction λz=>I (.inr ⟨L,.inr z⟩);refine⟨_,rfl,_,_,rfl,rfl,_,rfl,?_⟩;refine gF (λc'=>absurd (of_decide_eq_true c') nn) (λ_=>?_);refine⟨_,rfl,_,_,rfl,rfl,⟨av,av⟩,_,rfl,_,rfl,_,_,rfl,rfl,_,_,rfl,rfl,_,_,rfl,rfl,⟨av,av⟩,?_⟩;refine⟨_,rfl,_,rfl,_,rfl,_,_,rfl,rfl,_,_,rfl,rfl,jq ad,iw ad n,rfl,np,λH1 l N nl O=>?_⟩;refine⟨_,rfl,_,rfl,a,l,G,aR (jq ad) (iw ad n),rfl,N _ _ ha,O,ni,⟨_,rfl,R _ l N nl ?_⟩⟩;unfold aO;rw[if_neg ne];exact O
end
theorem ou {ws:List Int}{s n:Nat}:eK (ws.map V.int) (some (s:Int)) (some ((s:Int)+(n:Int)))=((ws.drop s).take n).map V.int:=by
 unfold eK;rw[length_map,HT.kW,show((s:Int)+(n:Int))=((s+n:Nat):Int)by push_cast;rfl,HT.kW, <-List.map_drop, <-map_take];congr 1;by_cases h:s<=ws.length
 .rw[min_eq_left h];by_cases h2:s+n<=ws.length
  .rw[min_eq_left h2,show s+n-s=n by omega]
  .rw[min_eq_right af,take_of_length_le (by rw[length_drop];omega),take_of_length_le (by rw[length_drop];omega)]
 .rw[min_eq_right af,min_eq_right af,List.drop_eq_nil_of_le (le_refl _),List.drop_eq_nil_of_le af];simp
theorem sF {ws:List Int}{s:Nat}:eK (ws.map V.int) none (some (s:Int))=(ws.take s).map V.int:=by
 unfold eK;rw[length_map,HT.kW,show HT.cQ ws.length 0 none=0 from rfl,List.drop_zero,Nat.sub_zero, <-map_take];congr 1;by_cases h:s<=ws.length
 .rw[min_eq_left h]
 .rw[min_eq_right af,take_of_length_le (le_refl _),take_of_length_le af]
theorem wQ {ws:List Int}{s:Nat}:eK (ws.map V.int) (some (s:Int)) none=(ws.drop s).map V.int:=by
 unfold eK;rw[length_map,HT.kW,show HT.cQ ws.length ws.length none=ws.length from rfl, <-List.map_drop, <-map_take];congr 1;by_cases h:s<=ws.length
 .rw[min_eq_left h,take_of_length_le (by rw[length_drop];omega)]
 .rw[min_eq_right af,List.drop_eq_nil_of_le (le_refl _),List.drop_eq_nil_of_le af];simp
theorem d0 {K:PySem.W.Frag}{H H':Hp}{a:Addr}{xs:List V}(h:bE K H a xs) (s:∀o,H a=some o->H' a=some o):bE K H' a xs:=by
 rcases h with(h|⟨o,h⟩)|h
 .exact .inl (.inl (s _ h))
 .exact .inl (.inr ⟨o,s _ h⟩)
 .exact .inr h
theorem tu {α I:Type}{F G:α->I->Prop}(h:∀x y,F x y->G x y):∀{xs:List α}{ys:List I},Paired F xs ys->Paired G xs ys
 |_,_,.nil=>.nil
 |_,_,.cons q t=>.cons (h _ _ q) (tu h t)
theorem uv {α G:Type}{F:α->G->Prop}{xs I:List α}{ys J:List G}(p:Paired F xs ys) (h:Paired F I J):Paired F (xs++I) (ys++J):=by
 induction p with
 |nil=>exact h
 |cons q _ L=>exact .cons q L
theorem ui {α G:Type}{F:α->G->Prop}{x:α}{xs:List α}{ys:List G}(p:Paired F xs ys) (h:x∈xs):∃y,F x y:=by
 induction p with
 |nil=>cases h
 |cons q _ I =>
  rcases List.mem_cons.mp h with e|h
  .exact⟨_,e▸q⟩
  .exact I h
inductive mz (vs:List V) (H:Hp) (Q:VK) (e3:XK):Prop
 |mk (a:Addr) (ws:List Int) (ad:Int) (n:Nat) (_:vs=[.ref a,.int ad,.int n]) (_:H a=some (.lst (ws.map V.int))) (_:∀(H':Hp) (l:Addr),aZ H H'->H l=none->H' l=some (.lst (((ws.drop (ad%8).toNat).take n).map V.int))->Q (.ref l) H'):mz vs H Q e3
noncomputable def eB (ws:List Int) (s:Nat) (cs:List Int):List Int:=ws.take s++cs++ws.drop (s+cs.length)
noncomputable def gW (k:Nat) (ws:List Int):List (List Int):=(List.range k).map λi=>(ws.drop (8*i)).take 8
inductive tj (K:PySem.W.Frag) (vs:List V) (H:Hp) (Q:VK) (e3:XK):Prop
 |mk (a c:Addr) (ws cs:List Int) (ad:Int) (k:Nat) (_:vs=[.ref a,.int ad,.ref c]) (_:H a=some (.lst (ws.map V.int))) (_:bE K H c (cs.map V.int)) (_:ws.length<=600) (_:cs.length<=600) (_:k<=64) (_:(eB ws (ad%8).toNat cs).length=8*k) (_:∀(H':Hp) (l:Addr) (rs:List Addr),aZ H H'->H l=none->H' l=some (.lst (rs.map V.ref))->Paired (λr (row:List Int)=>H' r=some (.lst (row.map V.int))) rs (gW k (eB ws (ad%8).toNat cs))->(∀r∈rs,H r=none)->rs.Nodup->Q (.ref l) H'):tj K vs H Q e3
theorem FL:∀k:Nat,k<65->Builtin.Range.small 0 (8*(k:Int)) 8=true/\Builtin.Range.rangeSize 0 (8*(k:Int)) 8=(k:Int)/\Builtin.divisionGoesByPylong (8*(k:Int)-0) 8=false:=ah
section
variable {P:Program}{w:World}{K:PySem.W.Frag}{mg:Str->Option Value}{base:Heap}
theorem EB:aC ["whole","address","many","start"] ["whole","address","many"] (ar qg):=⟨rfl,rfl,rfl,ah,rfl,ah,ah⟩
theorem xb {f:Addr}{fd:FuncData}(F:cN K "run_within" "run_within" qg f fd) (T:yy mg):bg P w K mg base aW 1 f fd ["whole","address","many"] mz:=by
 obtain⟨S,I,N⟩:=T.cells;refine F.ok EB (λvs H Q E h=>?_) (λU A outer s H vs Q E R h=>?_)
 .obtain⟨a,ws,ad,n,rfl,_⟩:=h;rfl
 .obtain⟨a,ws,ad,n,rfl,J,k⟩:=h;refine⟨_,(ag (aK (i:=3) EB.nd rfl (Or.inl rfl) (ay bD (pv 1) (cf (by rfl) I N)))
   (ao (aE (cL fX (pv 0) (cJ (pv 3)) (cJ (ay bu (pv 3) (pv 2))))))),?_⟩
  try dsimp only[cxK]
  refine⟨_,rfl,_,_,rfl,rfl,(by show(0:Int)<8;decide),?_⟩;have L:=emod_nonneg ad (show(8:Int)≠0 by decide);refine⟨_,rfl,_,rfl,ad%8,rfl,_,rfl,_,rfl,_,_,rfl,rfl,ad%8+n,rfl,a,_,rfl,bE.of J,λl G=>?_⟩;have e:ad%8=((ad%8).toNat:Int):=(Int.toNat_of_nonneg L).symm;have O:eK (ws.map V.int) (some (ad%8)) (some (ad%8+n))=((ws.drop (ad%8).toNat).take n).map V.int:=by
   rw[e];exact ou
  exact k _ l (au G) G (by rw[ae,O])
theorem Ct:aC ["whole","address","cells","start","changed"] ["whole","address","cells"] (ar xr):=⟨rfl,rfl,rfl,ah,rfl,ah,ah⟩
theorem AG {f:Addr}{fd:FuncData}(F:cN K "pages_with" "pages_with" xr f fd) (T:yy mg):bg P w K mg base aW 1 f fd ["whole","address","cells"] (tj K):=by
 obtain⟨u8,Y,r8⟩:=T.cells;refine F.ok Ct (λvs H Q E h=>?_) (λa5 A outer s H vs Q E hr h=>?_)
 .obtain⟨a,c,ws,cs,ad,j,rfl,_⟩:=h;rfl
 .obtain⟨a,c,ws,cs,ad,j,rfl,ha,hc,hw,a4,hj,a2,k⟩:=h;have hs:sizeLine=16777216:=sizeLine_eq;refine⟨_,(ag (aK (i:=3) Ct.nd rfl (Or.inl rfl) (ay bD (pv 1) (cf (by rfl) Y r8)))
   (ag (aK (i:=4) Ct.nd rfl (Or.inr rfl) (ay sJ (ay sJ (cL fX (pv 0) eM (cJ (pv 3))) (bO dN (by rfl) T.list fw (aa (pv 2) aj))) (cL fX (pv 0) (cJ (ay bu (pv 3) (aN bC (by rfl) T.len boot_len (aa (pv 2) aj)))) eM)))
   (ao (aE (gY (cl:=[("changed",s.heap.objs.size+1)]) (caps:=[("changed",4)]) ⟨rfl,ah,ah,rfl,by kernel_rfl,by intro p G;simp only[mem_cons,not_mem_nil,or_false]at G;rcases G with rfl<;>first|rfl|exact⟨rfl,.inl rfl,.inl rfl⟩|exact⟨rfl,.inl rfl,.inr rfl⟩,by kernel_rfl,by intro p G;simp only[mem_cons,not_mem_nil,or_false]at G;rcases G with rfl<;>first|rfl|exact⟨rfl,.inl rfl,.inl rfl⟩|exact⟨rfl,.inl rfl,.inr rfl⟩,ah⟩ rfl (wJ (by rfl) T.range (aa ak (aa (aN bC (by rfl) T.len boot_len (aa (pv 4) aj)) (aa (cf (by rfl) Y r8) aj)))) (λ_ _ _ _=>gg) (λ_ _ _ _=>(cL (show DK _ (CW K)from fX) (pv 1) (cJ (pv 0)) (cJ (ay bu (pv 0) (cf (by rfl) Y r8)))))))))),?_⟩
  try dsimp only[cxK]
  refine gy λ_ jt=>?_;refine⟨_,rfl,_,_,rfl,rfl,(by show(0:Int)<8;decide),?_⟩;have m0:=emod_nonneg ad (show(8:Int)≠0 by decide);have e:ad%8=((ad%8).toNat:Int):=(Int.toNat_of_nonneg m0).symm;refine jt _ _ ?_;show mE _ _ _ [some (V.ref a),some (.int ad),some (.ref c),some (.int (ad%8)),none] H;rw[e];generalize (ad%8).toNat=st at *;clear e m0;refine gy λ_ jt=>?_;refine⟨_,rfl,_,rfl,(st:Int),rfl,a,_,rfl,bE.of ha,λO aB=>?_⟩;rw[sF];have s1:=au (X:=.lst ((ws.take st).map V.int)) aB;have e1:(upd H O (.lst ((ws.take st).map V.int))) O=some (.lst ((ws.take st).map V.int)):=ae;refine⟨_,rfl,c,_,rfl,.inl (d0 hc (s1 _)),λl2 a3=>?_⟩;have s2:=au (X:=.lst (cs.map V.int)) a3;refine⟨O,l2,_,_,rfl,rfl,s2 _ _ e1,ae,by rw[length_map,length_map,length_take];omega,λS a1=>?_⟩;rw[<-map_append];have s3:=au (X:=.lst ((ws.take st++cs).map V.int)) a1;have S3:=(s1.trans s2).trans s3;have e3:(upd (upd (upd H O (.lst ((ws.take st).map V.int))) l2 (.lst (cs.map V.int))) S (.lst ((ws.take st++cs).map V.int))) S=some (.lst ((ws.take st++cs).map V.int)):=ae;generalize upd (upd (upd H O (.lst ((ws.take st).map V.int))) l2 (.lst (cs.map V.int))) S (.lst ((ws.take st++cs).map V.int))=H3 at *;refine⟨_,rfl,_,rfl,_,rfl,c,_,rfl,.inl (d0 hc (S3 _)),_,_,rfl,rfl,_,rfl,a,_,rfl,bE.of (S3 _ _ ha),λU a0=>?_⟩;rw[show((st:Int)+((cs.map V.int).length:Nat))=((st+cs.length:Nat):Int)by rw[length_map];push_cast;rfl,wQ];have s4:=au (X:=.lst ((ws.drop (st+cs.length)).map V.int)) a0;refine⟨S,U,_,_,rfl,rfl,s4 _ _ e3,ae,by rw[length_map,length_map,length_append,length_take,length_drop];omega,λL aT=>?_⟩;rw[<-map_append,show ws.take st++cs++ws.drop (st+cs.length)=eB ws st cs from rfl];have S5:aZ H (upd (upd H3 U (.lst ((ws.drop (st+cs.length)).map V.int))) L (.lst ((eB ws st cs).map V.int))):=(S3.trans s4).trans (au aT);have e5:(upd (upd H3 U (.lst ((ws.drop (st+cs.length)).map V.int))) L (.lst ((eB ws st cs).map V.int))) L=some (.lst ((eB ws st cs).map V.int)):=ae;generalize upd (upd H3 U (.lst ((ws.drop (st+cs.length)).map V.int))) L (.lst ((eB ws st cs).map V.int))=H5 at *;generalize eB ws st cs=sp at *;obtain⟨r1,r2,r3⟩:=FL j af;refine jt _ _ (Gv λ_ jr=>?_);refine⟨_,rfl,L,_,rfl,.inl (bE.of e5),0,8*(j:Int),8,j,by rw[length_map,a2];push_cast;rfl,r1,r2,av,r3,?_⟩;refine pX (lo:=0) (st:=8) (n:=j) (λi ys R=>∃I:List Addr,r9 (ys=I.map V.ref) (I.length=i) (Paired (λr (ac:List Int)=>R r=some (.lst (ac.map V.int))) I (gW i sp)) (aZ H5 R) ((∀r∈I,H5 r=none)) I.Nodup) ⟨[],rfl,rfl,.nil,aZ.refl _,(λ_ h=>nomatch h),nodup_nil⟩ ?_ ?_
  .rintro i ys R hi ⟨I,rfl,ap,G,N,hn,nd⟩;refine⟨_,rfl,_,rfl,_,rfl,_,rfl,_,_,rfl,rfl,_,rfl,L,_,rfl,bE.of (N _ _ e5),λr ab=>?_⟩;rw[show(0+(i:Int)*8)=((8*i:Nat):Int)by push_cast;omega,show(((8*i:Nat):Int)+8)=((8*i:Nat):Int)+((8:Nat):Int)from rfl,ou];have sr:=au (X:=.lst (((sp.drop (8*i)).take 8).map V.int)) ab;refine⟨by rw[length_map];omega,I++[r],by rw[map_append];rfl,by rw[length_append,ap];rfl,?_,N.trans sr,λx J=>?_,?_⟩
   .unfold gW at G ⊢;rw[range_succ,map_append];exact uv (tu (λx y h=>sr _ _ h) G) (.cons ae .nil)
   .rcases List.mem_append.mp J with J|J
    .exact hn x J
    .rw[List.mem_singleton.mp J];exact N.free ab
   .refine List.nodup_append.mpr ⟨nd,List.nodup_cons.mpr ⟨by simp,nodup_nil⟩,λx J y hy=>?_⟩;rw[List.mem_singleton.mp hy];intro z;obtain⟨ac,as⟩:=ui G J;rw[z,ab]at as;cases as
  .rintro ys R ⟨I,rfl,ap,G,N,hn,nd⟩ l6 am;have s7:=au (X:=.lst (I.map V.ref)) am;exact jr _ _ (k _ l6 I ((S5.trans N).trans s7) ((S5.trans N).free am) ae (tu (λx y h=>s7 _ _ h) G) (λr h=>S5.free (hn r h)) nd)
end
end Rm
namespace Pg
noncomputable def upd {α:Type}(f:Bool->α) (b:Bool) (v:α):Bool->α:=λc=>if c=b then v else f c
noncomputable def dg {α:Type}(f:Int->α) (k:Int) (v:α):Int->α:=λj=>if j=k then v else f j
theorem ae {α:Type}{f:Bool->α}{b:Bool}{v:α}:upd f b v b=v:=if_pos rfl
theorem aU {α:Type}{f:Bool->α}{b c:Bool}{v:α}(h:c≠b):upd f b v c=f c:=if_neg h
theorem bp {α:Type}{f:Int->α}{b:Int}{v:α}:dg f b v b=v:=if_pos rfl
theorem aH {α:Type}{f:Int->α}{b c:Int}{v:α}(h:c≠b):dg f b v c=f c:=if_neg h
structure PS where
 ow:Bool->List Int
 co:Bool->List (Option (List Int))
 pl:Int->Option (Bool×Nat)
 ls:Int
 inf:List Int
noncomputable def Vw (s:PS) (k:Int) (cs:List Int) (c:Int):Prop:=∃b n,s.pl k=some (b,n)/\(s.co b)[n]?=some (some cs)/\(s.ow b)[n]?=some c
structure Good (s:PS):Prop where
 rg:∀k p,s.pl k=some p->1<=k/\k<=s.ls
 va:∀k b n,s.pl k=some (b,n)->∃cs c,(s.co b)[n]?=some (some cs)/\(s.ow b)[n]?=some c/\1<=c/\cs.length=8
 inj:∀k j p,s.pl k=some p->s.pl j=some p->k=j
 on:∀b n c,(s.ow b)[n]?=some c->c=0\/∃k,s.pl k=some (b,n)
 ln:∀b,(s.co b).length=(s.ow b).length
 nd:s.inf.Nodup
 fi:∀k,k∈s.inf↔∃n,s.pl k=some (true,n)
noncomputable def vx (s:PS) (b:Bool) (k:Int) (cs:List Int) (c:Int):PS :=
 { ow:=upd s.ow b ((s.ow b).set ((s.ow b).idxOf 0) c),co:=upd s.co b ((s.co b).set ((s.ow b).idxOf 0) (some cs)),pl:=dg s.pl k (some (b,(s.ow b).idxOf 0)),ls:=s.ls,inf:=if b=true then s.inf++[k]else s.inf }
noncomputable def mO (s:PS) (k:Int) (b:Bool) (n:Nat):PS :=
 { ow:=upd s.ow b ((s.ow b).set n 0),co:=s.co,pl:=dg s.pl k none,ls:=s.ls,inf:=s.inf.erase k }
noncomputable def ck (s:PS) (b:Bool) (n:Nat) (c:Int):PS:={ s with ow:=upd s.ow b ((s.ow b).set n c) }
noncomputable def write (s:PS) (b:Bool) (n:Nat) (cs:List Int):PS:={ s with co:=upd s.co b ((s.co b).set n (some cs)) }
theorem sO {l:List Int}(h:(0:Int)∈l):l[l.idxOf 0]?=some 0:=by
 have F:l.idxOf 0<l.length:=List.idxOf_lt_length_iff.mpr h;rw[getElem?_eq_getElem F,List.getElem_idxOf F]
theorem uB {l:List Int}(h:(0:Int)∈l):l.idxOf 0<l.length:=List.idxOf_lt_length_iff.mpr h
section
variable {s:PS}{b:Bool}{k:Int}{cs:List Int}{c:Int}{n:Nat}
theorem ve (G:Good s) (h:(0:Int)∈s.ow b):∀j,s.pl j≠some (b,(s.ow b).idxOf 0):=by
 intro j e;obtain⟨cs,c,_,h2,F,_⟩:=G.va _ _ _ e;rw[sO h]at h2;cases h2;omega
theorem k6 (G:Good s) (h0:(0:Int)∈s.ow b) (Y:s.pl k=none) (h1:1<=k) (h2:k<=s.ls) (h3:1<=c) (h4:cs.length=8):Good (vx s b k cs c):=by
 have hl:=uB h0;have U:=ve G h0;have ac:(s.ow b).idxOf 0<(s.co b).length:=(by rw[G.ln b];exact hl);refine⟨?_,?_,?_,?_,?_,?_,?_⟩
 .intro j p e;by_cases J:j=k
  .subst J;exact⟨h1,h2⟩
  .exact G.rg j p (by rw[<-e];exact(aH J).symm)
 .intro j I O e;by_cases J:j=k
  .subst J;have e:some (b,(s.ow b).idxOf 0)=some (I,O):=(by rw[<-e];exact bp.symm);cases e;refine⟨cs,c,?_,?_,h3,h4⟩
   .show(upd s.co b _ b)[_]?=_;rw[ae,getElem?_set_self ac]
   .show(upd s.ow b _ b)[_]?=_;rw[ae,getElem?_set_self hl]
  .have N:s.pl j=some (I,O):=(by rw[<-e];exact(aH J).symm);obtain⟨ab,c',e1,e2,e3,e4⟩:=G.va _ _ _ N;refine⟨ab,c',?_,?_,e3,e4⟩
   .show(upd s.co b _ I)[_]?=_;by_cases F:I=b
    .subst F;rw[ae,getElem?_set_ne (λq=>U j (by rw[N,q]))];exact e1
    .rw[aU F];exact e1
   .show(upd s.ow b _ I)[_]?=_;by_cases F:I=b
    .subst F;rw[ae,getElem?_set_ne (λq=>U j (by rw[N,q]))];exact e2
    .rw[aU F];exact e2
 .intro j R p e L;by_cases J:j=k
  .by_cases S:R=k
   .rw[J,S]
   .subst J;have e:some (b,(s.ow b).idxOf 0)=some p:=(by rw[<-e];exact bp.symm);have L:s.pl R=some p:=(by rw[<-L];exact(aH S).symm);exact absurd (L.trans e.symm) (U R)
  .have N:s.pl j=some p:=(by rw[<-e];exact(aH J).symm);by_cases S:R=k
   .subst S;have L:some (b,(s.ow b).idxOf 0)=some p:=(by rw[<-L];exact bp.symm);exact absurd (N.trans L.symm) (U j)
   .have L:s.pl R=some p:=(by rw[<-L];exact(aH S).symm);exact G.inj _ _ _ N L
 .intro I O c' e;have e:(upd s.ow b ((s.ow b).set ((s.ow b).idxOf 0) c) I)[O]?=some c':=e;by_cases F:I=b
  .subst F;by_cases en:(s.ow I).idxOf 0=O
   .exact .inr ⟨k,by show dg s.pl k _ k=_;rw[bp,en]⟩
   .rw[ae,getElem?_set_ne en]at e;rcases G.on _ _ _ e with h|⟨j,h⟩
    .exact .inl h
    .refine .inr ⟨j,?_⟩;show dg s.pl k _ j=_;rw[aH (λq=>by rw[q,Y]at h;cases h)];exact h
  .rw[aU F]at e;rcases G.on _ _ _ e with h|⟨j,h⟩
   .exact .inl h
   .refine .inr ⟨j,?_⟩;show dg s.pl k _ j=_;rw[aH (λq=>by rw[q,Y]at h;cases h)];exact h
 .intro I;show(upd s.co b _ I).length=(upd s.ow b _ I).length;by_cases F:I=b
  .subst F;rw[ae,ae,length_set,length_set];exact G.ln _
  .rw[aU F,aU F];exact G.ln _
 .show(if b=true then s.inf++[k]else s.inf).Nodup;by_cases F:b=true
  .rw[if_pos F];refine List.nodup_append.mpr ⟨G.nd,by simp,?_⟩;intro x hx y hy e;rw[mem_singleton]at hy;subst hy;subst e;obtain⟨m,hm⟩:=(G.fi x).mp hx;rw[Y]at hm;cases hm
  .rw[if_neg F];exact G.nd
 .intro j;show j∈(if b=true then s.inf++[k]else s.inf)↔∃m,dg s.pl k (some (b,(s.ow b).idxOf 0)) j=some (true,m);by_cases J:j=k
  .subst J;rw[bp];by_cases F:b=true
   .subst F;rw[if_pos rfl];exact⟨λ_=>⟨_,rfl⟩,λ_=>by simp⟩
   .rw[if_neg F,G.fi];exact⟨λ⟨m,h⟩=>(by rw[Y]at h;cases h),λ⟨m,h⟩=>(by cases h;exact absurd rfl F)⟩
  .rw[aH J, <-G.fi];by_cases F:b=true
   .rw[if_pos F];simp[J]
   .rw[if_neg F]
theorem lK (F:(0:Int)∈s.ow b) (G:Good s):Vw (vx s b k cs c) k cs c:=by
 refine⟨b,(s.ow b).idxOf 0,bp,?_,?_⟩
 .show(upd s.co b _ b)[_]?=_;rw[ae,getElem?_set_self (by rw[G.ln b];exact uB F)]
 .show(upd s.ow b _ b)[_]?=_;rw[ae,getElem?_set_self (uB F)]
theorem j0 (G:Good s) (h0:(0:Int)∈s.ow b) {j:Int}(S:j≠k) {R:List Int}{U:Int}:Vw (vx s b k cs c) j R U↔Vw s j R U:=by
 have Y:=ve G h0;have A:∀F I,s.pl j=some (F,I)->((vx s b k cs c).co F)[I]?=(s.co F)[I]?/\((vx s b k cs c).ow F)[I]?=(s.ow F)[I]?:=by
  intro F I e;show(upd s.co b _ F)[I]?=_/\(upd s.ow b _ F)[I]?=_;by_cases L:F=b
  .subst L;have:(s.ow F).idxOf 0≠I:=λq=>Y j (by rw[e,q]);rw[ae,ae,getElem?_set_ne this,getElem?_set_ne this];exact⟨rfl,rfl⟩
  .rw[aU L,aU L];exact⟨rfl,rfl⟩
 constructor
 .rintro⟨F,I,J,N,O⟩;have J:s.pl j=some (F,I):=(by rw[<-J];exact(aH S).symm);exact⟨F,I,J,by rw[<-(A _ _ J).1];exact N,by rw[<-(A _ _ J).2];exact O⟩
 .rintro⟨F,I,J,N,O⟩;exact⟨F,I,(aH S).trans J,by rw[(A _ _ J).1];exact N,by rw[(A _ _ J).2];exact O⟩
theorem iW (G:Good s) (N:s.pl k=some (b,n)):Good (mO s k b n):=by
 obtain⟨ac,c0,g1,g2,_,_⟩:=G.va _ _ _ N;have hn:n<(s.ow b).length:=(List.getElem?_eq_some_iff.mp g2).1;have L:∀{j p},(mO s k b n).pl j=some p->j≠k/\s.pl j=some p:=by
  intro j p e;by_cases J:j=k
  .subst J;have O:(none:Option (Bool×Nat))=some p:=(by rw[<-e];exact bp.symm);cases O
  .exact⟨J,by rw[<-e];exact(aH J).symm⟩
 refine⟨?_,?_,?_,?_,?_,?_,?_⟩
 .intro j p e;exact G.rg j p (L e).2
 .intro j I R e;obtain⟨J,O⟩:=L e;obtain⟨ab,S,e1,Y,e3,e4⟩:=G.va _ _ _ O;refine⟨ab,S,e1,?_,e3,e4⟩;show(upd s.ow b _ I)[_]?=_;by_cases F:I=b
  .subst F;rw[ae,getElem?_set_ne (λq=>J (G.inj _ _ _ O (by rw[N,q])))];exact Y
  .rw[aU F];exact Y
 .intro j j' p e e';exact G.inj _ _ _ (L e).2 (L e').2
 .intro I R S e;have e:(upd s.ow b ((s.ow b).set n 0) I)[R]?=some S:=e;by_cases F:I=b
  .subst F;by_cases U:n=R
   .subst U;rw[ae,getElem?_set_self hn]at e;cases e;exact .inl rfl
   .rw[ae,getElem?_set_ne U]at e;rcases G.on _ _ _ e with h|⟨j,h⟩
    .exact .inl h
    .refine .inr ⟨j,?_⟩;show dg s.pl k _ j=_;rw[aH (λq=>by rw[q,N]at h;cases h;exact U rfl)];exact h
  .rw[aU F]at e;rcases G.on _ _ _ e with h|⟨j,h⟩
   .exact .inl h
   .refine .inr ⟨j,?_⟩;show dg s.pl k _ j=_;rw[aH (λq=>by rw[q,N]at h;cases h;exact F rfl)];exact h
 .intro I;show(s.co I).length=(upd s.ow b _ I).length;by_cases F:I=b
  .subst F;rw[ae,length_set];exact G.ln _
  .rw[aU F];exact G.ln _
 .exact G.nd.erase k
 .intro j;show j∈s.inf.erase k↔∃m,dg s.pl k none j=some (true,m);rw[List.Nodup.mem_erase_iff G.nd,G.fi];by_cases J:j=k
  .subst J;rw[bp];exact⟨λh=>absurd rfl h.1,λ⟨m,h⟩=>by cases h⟩
  .rw[aH J];exact⟨λh=>h.2,λh=>⟨J,h⟩⟩
theorem iu (G:Good s) (Y:s.pl k=some (b,n)) {j:Int}(N:j≠k) {R:List Int}{U:Int}:Vw (mO s k b n) j R U↔Vw s j R U:=by
 have A:∀F I,s.pl j=some (F,I)->((mO s k b n).ow F)[I]?=(s.ow F)[I]?:=by
  intro F I e;show(upd s.ow b _ F)[I]?=_;by_cases S:F=b
  .subst S;rw[ae,getElem?_set_ne (λq=>N (G.inj _ _ _ e (by rw[Y,q])))]
  .rw[aU S]
 constructor
 .rintro⟨F,I,J,L,O⟩;have J:s.pl j=some (F,I):=(by rw[<-J];exact(aH N).symm);exact⟨F,I,J,L,by rw[<-A _ _ J];exact O⟩
 .rintro⟨F,I,J,L,O⟩;exact⟨F,I,(aH N).trans J,L,by rw[A _ _ J];exact O⟩
theorem rA (G:Good s) (F:s.pl k=some (b,n)):(0:Int)∈(mO s k b n).ow b:=by
 obtain⟨N,L,O,J,_,_⟩:=G.va _ _ _ F;have I:n<(s.ow b).length:=(List.getElem?_eq_some_iff.mp J).1;show(0:Int)∈upd s.ow b _ b;rw[ae];exact mem_of_getElem? (getElem?_set_self I)
theorem jE (G:Good s) (U:s.pl k=some (b,n)) (hc:1<=c):Good (ck s b n c):=by
 obtain⟨ab,c0,g1,g2,_,g4⟩:=G.va _ _ _ U;have hn:n<(s.ow b).length:=(List.getElem?_eq_some_iff.mp g2).1;refine⟨G.rg,?_,G.inj,?_,?_,G.nd,G.fi⟩
 .intro j F J e;obtain⟨Y,O,e1,R,S,e4⟩:=G.va j F J e;have A:∃N,(upd s.ow b ((s.ow b).set n c) F)[J]?=some N/\1<=N:=by
   by_cases I:F=b
   .subst I;rw[ae];by_cases L:n=J
    .subst L;exact⟨c,getElem?_set_self hn,hc⟩
    .rw[getElem?_set_ne L];exact⟨O,R,S⟩
   .rw[aU I];exact⟨O,R,S⟩
  obtain⟨N,a1,a2⟩:=A;exact⟨Y,N,e1,a1,a2,e4⟩
 .intro F J O e;have e:(upd s.ow b ((s.ow b).set n c) F)[J]?=some O:=e;by_cases I:F=b
  .subst I;rw[ae]at e;by_cases L:n=J
   .subst L;exact .inr ⟨k,U⟩
   .rw[getElem?_set_ne L]at e;exact G.on _ _ _ e
  .rw[aU I]at e;exact G.on _ _ _ e
 .intro F;show(s.co F).length=(upd s.ow b _ F).length;by_cases I:F=b
  .subst I;rw[ae,length_set];exact G.ln _
  .rw[aU I];exact G.ln _
theorem iH (G:Good s) (F:s.pl k=some (b,n)) {J:Int}(h:Vw s k cs J):Vw (ck s b n c) k cs c:=by
 obtain⟨R,O,I,L,N⟩:=h;rw[F]at I;cases I;refine⟨b,n,F,L,?_⟩;show(upd s.ow b _ b)[_]?=_;rw[ae,getElem?_set_self (List.getElem?_eq_some_iff.mp N).1]
theorem dh (G:Good s) (Y:s.pl k=some (b,n)) {j:Int}(U:j≠k) {O:List Int}{S:Int}:Vw (ck s b n c) j O S↔Vw s j O S:=by
 have A:∀F I,s.pl j=some (F,I)->((ck s b n c).ow F)[I]?=(s.ow F)[I]?:=by
  intro F I e;show(upd s.ow b _ F)[I]?=_;by_cases R:F=b
  .subst R;rw[ae,getElem?_set_ne (λq=>U (G.inj _ _ _ e (by rw[Y,q])))]
  .rw[aU R]
 constructor
 .rintro⟨F,I,J,L,N⟩;exact⟨F,I,J,L,by rw[<-A _ _ J];exact N⟩
 .rintro⟨F,I,J,L,N⟩;exact⟨F,I,J,L,by rw[A _ _ J];exact N⟩
theorem tY (G:Good s) (hk:s.pl k=some (b,n)) (U:cs.length=8):Good (write s b n cs):=by
 obtain⟨ab,c0,g1,g2,_,g4⟩:=G.va _ _ _ hk;have hn:n<(s.co b).length:=(List.getElem?_eq_some_iff.mp g1).1;refine⟨G.rg,?_,G.inj,G.on,?_,G.nd,G.fi⟩
 .intro j F L e;obtain⟨N,c',O,Y,e3,S⟩:=G.va j F L e;have A:∃J,(upd s.co b ((s.co b).set n (some cs)) F)[L]?=some (some J)/\J.length=8:=by
   by_cases I:F=b
   .subst I;rw[ae];by_cases R:n=L
    .subst R;exact⟨cs,getElem?_set_self hn,U⟩
    .rw[getElem?_set_ne R];exact⟨N,O,S⟩
   .rw[aU I];exact⟨N,O,S⟩
  obtain⟨J,a1,a2⟩:=A;exact⟨J,c',a1,Y,e3,a2⟩
 .intro F;show(upd s.co b _ F).length=(s.ow F).length;by_cases I:F=b
  .subst I;rw[ae,length_set];exact G.ln _
  .rw[aU I];exact G.ln _
theorem xt (G:Good s) (F:s.pl k=some (b,n)) {L:List Int}(h:Vw s k L c):Vw (write s b n cs) k cs c:=by
 obtain⟨R,O,I,J,N⟩:=h;rw[F]at I;cases I;refine⟨b,n,F,?_,N⟩;show(upd s.co b _ b)[_]?=_;rw[ae,getElem?_set_self (List.getElem?_eq_some_iff.mp J).1]
theorem gT (G:Good s) (Y:s.pl k=some (b,n)) {j:Int}(U:j≠k) {O:List Int}{S:Int}:Vw (write s b n cs) j O S↔Vw s j O S:=by
 have A:∀F I,s.pl j=some (F,I)->((write s b n cs).co F)[I]?=(s.co F)[I]?:=by
  intro F I e;show(upd s.co b _ F)[I]?=_;by_cases R:F=b
  .subst R;rw[ae,getElem?_set_ne (λq=>U (G.inj _ _ _ e (by rw[Y,q])))]
  .rw[aU R]
 constructor
 .rintro⟨F,I,J,L,N⟩;exact⟨F,I,J,by rw[<-A _ _ J];exact L,N⟩
 .rintro⟨F,I,J,L,N⟩;exact⟨F,I,J,by rw[A _ _ J];exact L,N⟩
end
end Pg
namespace Pg
theorem sum_set {l:List Int}{n:Nat}{x y:Int}(h:l[n]?=some x):(l.set n y).sum=l.sum-x+y:=by
 induction l generalizing n with
 |nil=>cases h
 |cons a l F =>
  cases n with
  |zero =>
   cases h;show(y::l).sum=_;simp only[sum_cons];lia
  |succ n =>
   have h:l[n]?=some x:=h;show(a::l.set n y).sum=_;simp only[sum_cons,F h];lia
noncomputable def all (s:PS):Int:=(s.ow true).sum+(s.ow false).sum
theorem qh {ow:Bool->List Int}{b:Bool}{n:Nat}{x y:Int}(h:(ow b)[n]?=some x) :
  (upd ow b ((ow b).set n y) true).sum+(upd ow b ((ow b).set n y) false).sum=(ow true).sum+(ow false).sum-x+y:=by
 cases b
 .rw[aU av,ae,sum_set h];lia
 .rw[ae,aU av,sum_set h];lia
section
variable {s s':PS}{b:Bool}{k:Int}{cs:List Int}{c:Int}{n:Nat}
theorem pI (F:(0:Int)∈s.ow b):all (vx s b k cs c)=all s+c:=by
 have:=qh (ow:=s.ow) (y:=c) (sO F);unfold all vx;dsimp only;lia
theorem oP {F:Int}(h:(s.ow b)[n]?=some F):all (mO s k b n)=all s-F:=by
 have:=qh (ow:=s.ow) (y:=0) h;unfold all mO;dsimp only;lia
theorem ku {F:Int}(h:(s.ow b)[n]?=some F):all (ck s b n c)=all s-F+c:=by
 have:=qh (ow:=s.ow) (y:=c) h;unfold all ck;dsimp only;omega +splitNatSub
theorem du {f:Bool->List Int}{n:Nat}{x:Int}(F:Bool):(upd f b ((f b).set n x) F).length=(f F).length:=by
 by_cases e:F=b
 .subst e;rw[ae,length_set]
 .rw[aU e]
structure Kept (s s':PS) (k:Int):Prop where
 ot:∀j cs' c',j≠k->(Vw s' j cs' c'↔Vw s j cs' c')
 ln:∀b,(s'.ow b).length=(s.ow b).length
 fr:(0:Int)∈s'.ow true->(0:Int)∈s.ow true/\∀j m,j≠k->s.pl j=some (true,m)->s'.pl j=some (true,m)
theorem yo {l:List Int}{n:Nat}{x:Int}(F:x≠0) (h:(0:Int)∈l.set n x):(0:Int)∈l:=by
 rcases List.mem_or_eq_of_mem_set h with h|h
 .exact h
 .exact absurd h.symm F
theorem wq (G:Good s) (I:(0:Int)∈s.ow true) (L:1<=c):Kept s (vx s true k cs c) k :=
 ⟨λj J N F=>j0 G I F,λb=>du b,λh=>⟨I,λj m F e=>(aH F).trans e⟩⟩
noncomputable def out (s:PS) (F:Int) (J:Nat) (I:List Int) (G:Int):PS:=vx (mO s F true J) false F I G
theorem rE (G:Good s) {F:Int}{I:Nat}{L:List Int}{J:Int}(N:s.pl F=some (true,I)) (hv:Vw s F L J) (hf:(0:Int)∈s.ow false) :
  Good (out s F I L J)/\Vw (out s F I L J) F L J/\(∀j S U,j≠F->(Vw (out s F I L J) j S U↔Vw s j S U))/\(0:Int)∈(out s F I L J).ow true/\all (out s F I L J)=all s /\
  (∀b,((out s F I L J).ow b).length=(s.ow b).length)/\(∀j,j≠F->(out s F I L J).pl j=s.pl j):=by
 obtain⟨b',n',e1,e2,e3⟩:=hv;rw[N]at e1;cases e1;obtain⟨ab,c9,a1,a2,a3,a4⟩:=G.va _ _ _ N;rw[e2]at a1;cases a1;rw[e3]at a2;cases a2;have Y:=iW G N;have R:(0:Int)∈(mO s F true I).ow false:=by
  exact(aU (f:=s.ow) (v:=(s.ow true).set I 0) (show false≠true by decide)).symm▸hf
 have hn:(mO s F true I).pl F=none:=bp;have hr:=G.rg _ _ N;refine⟨k6 Y R hn hr.1 hr.2 a3 a4,lK R Y,?_,?_,?_,?_,?_⟩
 .intro j S U O;exact(j0 Y R O).trans (iu G N O)
 .exact(aU (f:=(mO s F true I).ow) (b:=false) (v:=((mO s F true I).ow false).set (((mO s F true I).ow false).idxOf 0) J) (show true≠false by decide)).symm▸rA G N
 .show all (vx _ _ _ _ _)=_;rw[pI R,oP e3];lia
 .intro b;exact(du (f:=(mO s F true I).ow) b).trans (du b)
 .intro j O;exact(aH O).trans (aH O)
inductive BI (s:PS) (k:Int) (cs:List Int) (c:Int):PS->Prop
 |free:(0:Int)∈s.ow true->BI s k cs c (vx s true k cs c)
 |full {k0:Int}{r:List Int}{n0:Nat}{cs0:List Int}{c0:Int}:¬ (0:Int)∈s.ow true->(0:Int)∈s.ow false->s.inf=k0::r->s.pl k0=some (true,n0)->Vw s k0 cs0 c0->BI s k cs c (vx (out s k0 n0 cs0 c0) true k cs c)
structure Hi (s:PS) (k:Int) (cs:List Int) (c:Int) (s':PS):Prop where
 good:Good s'
 vw:Vw s' k cs c
 fr:∃m,s'.pl k=some (true,m)
 kept:Kept s s' k
 ls:s'.ls=s.ls
 al:all s'=all s+c
theorem Bu (G:Good s) (Y:s.pl k=none) (h1:1<=k) (h2:k<=s.ls) (h3:1<=c) (h4:cs.length=8) (h:BI s k cs c s'):Hi s k cs c s':=by
 cases h with
 |free U=>exact⟨k6 G U Y h1 h2 h3 h4,lK U G,⟨_,bp⟩,wq G U h3,rfl,pI U⟩
 | @full I r F L J nf hf hi hp hv =>
  obtain⟨g1,g2,g3,R,g5,g6,g7⟩:=rE G hp hv hf;have ad:k≠I:=λe=>(by rw[e,hp]at Y;cases Y);have am:(out s I F L J).pl k=none:=(by rw[g7 k ad];exact Y);refine⟨k6 g1 R am h1 h2 h3 h4,lK R g1,⟨_,bp⟩,⟨?_,?_,?_⟩,rfl,?_⟩
  .intro j ab c' hj;rw[j0 g1 R hj];by_cases e:j=I
   .subst e;constructor
    .intro hw;obtain⟨x1,x2,y1,y2,y3⟩:=hw;obtain⟨z1,z2,O,S,N⟩:=g2;rw[y1]at O;cases O;rw[y2]at S;cases S;rw[y3]at N;cases N;exact hv
    .intro hw;obtain⟨x1,x2,y1,y2,y3⟩:=hw;obtain⟨z1,z2,O,S,N⟩:=hv;rw[y1]at O;cases O;rw[y2]at S;cases S;rw[y3]at N;cases N;exact g2
   .exact g3 j ab c' e
  .intro b;exact(du (f:=(out s I F L J).ow) b).trans (g6 b)
  .intro h;exfalso;apply nf;have h:(0:Int)∈upd (out s I F L J).ow true (((out s I F L J).ow true).set (((out s I F L J).ow true).idxOf 0) c) true:=h;rw[ae]at h;have e1:(out s I F L J).ow true=(s.ow true).set F 0:=by
    exact(aU (f:=(mO s I true F).ow) (b:=false) (v:=((mO s I true F).ow false).set (((mO s I true F).ow false).idxOf 0) J) (show true≠false by decide)).trans (show upd s.ow true ((s.ow true).set F 0) true=_ from ae)
   rw[e1]at h;obtain⟨i,ac,e⟩:=getElem_of_mem h;have hl:i<(s.ow true).length:=(by simpa using ac);have hz:(0:Int)∈(s.ow true).set F 0:=e1▸R;have e0:((s.ow true).set F 0).idxOf 0=F:=by
    have q:=sO hz;by_cases en:F=((s.ow true).set F 0).idxOf 0
    .exact en.symm
    .rw[getElem?_set_ne en]at q;exact absurd (mem_of_getElem? q) nf
   rw[List.getElem_set]at e;split at e
   .lia
   .rename_i ne;rw[List.getElem_set]at e;split at e
    .rename_i e2;exact absurd (e0.trans e2) ne
    .exact e▸getElem_mem hl
  .rw[pI R,g5]
theorem Ei (G:Good s) (hf:(0:Int)∈s.ow true\/(0:Int)∈s.ow false) (S:s.ow true≠[]):((0:Int)∈s.ow true)\/(¬ (0:Int)∈s.ow true/\(0:Int)∈s.ow false/\∃F r I L J,s.inf=F::r/\s.pl F=some (true,I)/\Vw s F L J):=by
 by_cases h:(0:Int)∈s.ow true
 .exact .inl h
 .refine .inr ⟨h,hf.resolve_left h,?_⟩;have R:0<(s.ow true).length:=List.length_pos_iff.mpr S;have Y:(s.ow true)[0]?=some (s.ow true)[0]:=getElem?_eq_getElem R;rcases G.on _ _ _ Y with e|⟨j,e⟩
  .exact absurd (e▸getElem_mem R) h
  .have O:j∈s.inf:=(G.fi j).mpr ⟨_,e⟩;cases hi:s.inf with
   |nil=>rw[hi]at O;cases O
   |cons F r =>
    obtain⟨I,N⟩:=(G.fi F).mp (by rw[hi];exact mem_cons_self);obtain⟨L,J,a1,U,_,_⟩:=G.va _ _ _ N;exact⟨F,r,I,L,J,rfl,N,true,I,N,a1,U⟩
end
end Pg
namespace Pg
section
variable {s s':PS}{b:Bool}{k:Int}{cs:List Int}{c:Int}{n:Nat}
theorem Vw.one {G:List Int}{J:Int}(h:Vw s k cs c) (h':Vw s k G J):G=cs/\J=c:=by
 obtain⟨Y,U,R,O,N⟩:=h;obtain⟨z1,S,L,I,F⟩:=h';rw[R]at L;cases L;rw[O]at I;cases I;rw[N]at F;cases F;exact⟨rfl,rfl⟩
theorem Good.vw (G:Good s) (h:Vw s k cs c):1<=c/\cs.length=8:=by
 obtain⟨x1,Y,O,L,J⟩:=h;obtain⟨S,U,I,F,R,N⟩:=G.va _ _ _ O;rw[L]at I;cases I;rw[J]at F;cases F;exact⟨R,N⟩
noncomputable def used (s:PS) (k:Int):PS:={ s with inf:=s.inf.erase k++[k] }
theorem wo (G:Good s) (J:s.pl k=some (true,n)):Good (used s k):=by
 refine⟨G.rg,G.va,G.inj,G.on,G.ln,?_,?_⟩
 .refine List.nodup_append.mpr ⟨G.nd.erase k,by simp,?_⟩;intro x I y F e;rw[mem_singleton]at F;subst F;subst e;exact((List.Nodup.mem_erase_iff G.nd).mp I).1 rfl
 .intro j;show j∈s.inf.erase k++[k]↔_;rw[List.mem_append,mem_singleton,List.Nodup.mem_erase_iff G.nd,G.fi];constructor
  .rintro(h|h)
   .exact h.2
   .subst h;exact⟨n,J⟩
  .intro h;by_cases e:j=k
   .exact .inr e
   .exact .inl ⟨e,h⟩
inductive FE (s:PS) (k:Int):PS->Prop
 |here {n:Nat}:s.pl k=some (true,n)->FE s k (used s k)
 |away {n:Nat}{cs:List Int}{c:Int}{s':PS}:s.pl k=some (false,n)->Vw s k cs c->BI (mO s k false n) k cs c s'->FE s k s'
structure HJ (s:PS) (k:Int) (s':PS):Prop where
 good:Good s'
 vw:∀j cs c,Vw s' j cs c↔Vw s j cs c
 fr:∃m,s'.pl k=some (true,m)
 kept:Kept s s' k
 ls:s'.ls=s.ls
 al:all s'=all s
theorem m5 (G:Good s) (h:FE s k s'):HJ s k s':=by
 cases h with
 |here F=>exact⟨wo G F,λ_ _ _=>Iff.rfl,⟨_,F⟩,⟨λ_ _ _ _=>Iff.rfl,λ_=>rfl,λh=>⟨h,λ_ _ _ e=>e⟩⟩,rfl,rfl⟩
 | @away n cs c _ F I hb =>
  have GR:=iW G F;have R:=G.rg _ _ F;have S:=G.vw I;have B:=Bu GR (show dg s.pl k none k=none from bp) R.1 R.2 S.1 S.2 hb;have e3:(s.ow false)[n]?=some c:=by
   obtain⟨x1,x2,U,y2,y3⟩:=I;rw[F]at U;cases U;exact y3
  refine⟨B.good,?_,B.fr,⟨?_,?_,?_⟩,B.ls,?_⟩
  .intro j J L;by_cases e:j=k
   .subst e;constructor
    .intro h;obtain⟨O,N⟩:=B.vw.one h;subst O;subst N;exact I
    .intro h;obtain⟨O,N⟩:=I.one h;subst O;subst N;exact B.vw
   .exact(B.kept.ot j J L e).trans (iu G F e)
  .intro j J L e;exact(B.kept.ot j J L e).trans (iu G F e)
  .intro b;exact(B.kept.ln b).trans (du b)
  .intro h;obtain⟨a1,a2⟩:=B.kept.fr h;have e0:(mO s k false n).ow true=s.ow true:=aU (f:=s.ow) (v:=(s.ow false).set n 0) (show true≠false by decide);exact⟨e0▸a1,λj m e Y=>a2 j m e ((aH e).trans Y)⟩
  .rw[B.al,oP e3];omega
noncomputable def next (s:PS):PS:={ s with ls:=s.ls+1 }
theorem m6 (G:Good s):Good (next s):=⟨λk p h=>by have:=G.rg k p h;exact⟨this.1,by show k<=s.ls+1;omega⟩,G.va,G.inj,G.on,G.ln,G.nd,G.fi⟩
theorem eR (G:Good s):s.pl (s.ls+1)=none:=by
 cases h:s.pl (s.ls+1)with
 |none=>rfl
 |some p=>have:=G.rg _ _ h;omega
theorem jZ (G:Good s) (I:0<=s.ls) (F:cs.length=8) (h:BI (next s) (s.ls+1) cs 1 s'):Hi (next s) (s.ls+1) cs 1 s' :=
 Bu (m6 G) (eR G) af (Int.le_refl _) (Int.le_refl _) F h
inductive Bo (s:PS) (k:Int):PS->Prop
 |more {b:Bool}{n:Nat}{cs:List Int}{c:Int}:s.pl k=some (b,n)->Vw s k cs c->1<c->Bo s k (ck s b n (c-1))
 |last {b:Bool}{n:Nat}{cs:List Int}:s.pl k=some (b,n)->Vw s k cs 1->Bo s k (mO s k b n)
theorem qY (G:s.pl k=some (b,n)) (J:Vw s k cs c):(s.ow b)[n]?=some c:=by
 obtain⟨N,L,F,O,I⟩:=J;rw[G]at F;cases F;exact I
structure Hw (s:PS) (k:Int) (c:Int) (s':PS):Prop where
 good:Good s'
 ot:∀j cs' c',j≠k->(Vw s' j cs' c'↔Vw s j cs' c')
 me:∀cs' c',Vw s' k cs' c'↔(1<c/\c'=c-1/\Vw s k cs' c)
 pl:∀j,j≠k->s'.pl j=s.pl j
 ln:∀b,(s'.ow b).length=(s.ow b).length
 ls:s'.ls=s.ls
 al:all s'=all s-1
 kept:1<c->Kept s s' k
theorem uZ (G:Good s) (L:Vw s k cs c) (h:Bo s k s'):Hw s k c s':=by
 cases h with
 | @more b n ab Y F U hc =>
  obtain⟨J,N⟩:=L.one U;subst J;subst N;have S:=qY F L;refine⟨jE G F af,λj O R I=>dh G F I,?_,λ_ _=>rfl,λb=>du b,rfl,?_,?_⟩
  .intro O R;have W:=iH (c:=Y-1) G F L;constructor
   .intro h;obtain⟨J,N⟩:=W.one h;subst J;subst N;exact⟨hc,rfl,L⟩
   .rintro⟨_,q,h⟩;obtain⟨J,N⟩:=L.one h;subst J;subst q;exact W
  .rw[ku S];omega
  .intro _;refine⟨λj O R I=>dh G F I,λb=>du b,λh=>⟨?_,λ_ _ _ e=>e⟩⟩;have h:(0:Int)∈upd s.ow b ((s.ow b).set n (Y-1)) true:=h;by_cases e:true=b
   .subst e;rw[ae]at h;exact yo af h
   .rw[aU e]at h;exact h
 | @last b n ab F U =>
  obtain⟨J,N⟩:=L.one U;subst J;subst N;have S:=qY F L;refine⟨iW G F,λj O R I=>iu G F I,?_,λ_ I=>aH I,λb=>du b,rfl,?_,λh=>absurd h av⟩
  .intro O R;constructor
   .rintro⟨x1,x2,y1,_,_⟩;have y9:(none:Option (Bool×Nat))=some (x1,x2):=(by rw[<-y1];exact bp.symm);cases y9
   .rintro⟨q,_,_⟩;exact absurd q av
  .rw[oP S]
theorem xV (G:Good s) (F:s.pl k=some (b,n)) (I:Vw s k cs c):Good (ck s b n (c+1))/\Vw (ck s b n (c+1)) k cs (c+1)/\all (ck s b n (c+1))=all s+1:=by
 have:=G.vw I;refine⟨jE G F af,iH G F I,?_⟩;rw[ku (qY F I)];omega
end
end Pg
namespace Pg
noncomputable abbrev Ent:=Option Int
noncomputable def full (es:List Ent):Int:=(es.countP (·.isSome):Nat)
structure RI (s:PS) (es:List Ent):Prop where
 good:Good s
 l0:0<=s.ls
 ne:s.ow true≠[]
 is:∀k,some k∈es->∃cs c,Vw s k cs c
 ct:∀k cs c,Vw s k cs c->c=(es.count (some k):Nat)
 al:all s=full es
 rm:es.length<=(s.ow true).length+(s.ow false).length
section
variable {s s':PS}{es r:List Ent}{k:Int}{cs:List Int}{c:Int}
theorem RI.perm {F:List Ent}(R:RI s es) (p:es.Perm F):RI s F :=
 ⟨R.good,R.l0,R.ne,λk h=>R.is k (p.mem_iff.mpr h),λk cs c h=>by rw[<-p.count_eq];exact R.ct k cs c h,by rw[R.al];unfold full;rw[p.countP_eq],by rw[<-p.length_eq];exact R.rm⟩
theorem hU:full (none::es)=full es:=by unfold full;rw[List.countP_cons_of_neg (by simp)]
theorem fL:full (some k::es)=full es+1:=by unfold full;rw[List.countP_cons_of_pos (by simp)];simp
theorem uQ:full es<=es.length:=by unfold full;exact_mod_cast List.countP_le_length
theorem iO {j:Int}:(none::es).count (some j)=es.count (some j):=List.count_cons_of_ne (by simp)
theorem dw:(some k::es).count (some k)=es.count (some k)+1:=List.count_cons_self
theorem eg {j:Int}(h:j≠k):(some k::es).count (some j)=es.count (some j):=List.count_cons_of_ne (by simpa using Ne.symm h)
theorem RI.lay (R:RI s es) (h:es.length<(s.ow true).length+(s.ow false).length):RI s (none::es):=
 ⟨R.good,R.l0,R.ne,λk h=>R.is k (by simpa using h),λk cs c h=>by rw[iO];exact R.ct k cs c h,by rw[hU];exact R.al,h⟩
theorem RI.bare (R:RI s (none::es)):RI s es :=
 ⟨R.good,R.l0,R.ne,λk h=>R.is k (by simpa using h),λk cs c h=>by rw[<-iO];exact R.ct k cs c h,by rw[<-hU];exact R.al,Nat.le_of_succ_le R.rm⟩
theorem RI.leave (R:RI s (some k::es)) (J:Vw s k cs c) (h:Bo s k s'):RI s' es:=by
 have L:=uZ R.good J h;have O:=R.ct _ _ _ J;rw[dw]at O;refine⟨L.good,by rw[L.ls];exact R.l0,?_,?_,?_,?_,?_⟩
 .intro e;have:=L.ln true;rw[e]at this;exact R.ne (List.length_eq_zero_iff.mp this.symm)
 .intro j I;by_cases e:j=k
  .subst e;have:0<es.count (some j):=List.count_pos_iff.mpr I;exact⟨cs,c-1,(L.me cs (c-1)).mpr ⟨af,rfl,J⟩⟩
  .obtain⟨F,G,q⟩:=R.is j (mem_cons_of_mem _ I);exact⟨F,G,(L.ot j F G e).mpr q⟩
 .intro j F G I;by_cases e:j=k
  .subst e;obtain⟨S,Y,U⟩:=(L.me F G).mp I;omega
  .rw[<-eg e];exact R.ct j F G ((L.ot j F G e).mp I)
 .have N:=R.al;rw[fL]at N;rw[L.al,N];omega
 .rw[L.ln,L.ln];exact Nat.le_of_succ_le R.rm
theorem RI.share {b:Bool}{n:Nat}(R:RI s es) (J:s.pl k=some (b,n)) (L:Vw s k cs c) (h:es.length<(s.ow true).length+(s.ow false).length):RI (ck s b n (c+1)) (some k::es):=by
 obtain⟨g,v,a⟩:=xV R.good J L;have N:=R.ct _ _ _ L;refine⟨g,R.l0,?_,?_,?_,?_,?_⟩
 .intro e;have:=du (f:=s.ow) (b:=b) (n:=n) (x:=c+1) true;have e:upd s.ow b ((s.ow b).set n (c+1)) true=[]:=e;rw[e]at this;exact R.ne (List.length_eq_zero_iff.mp this.symm)
 .intro j F;by_cases e:j=k
  .subst e;exact⟨cs,c+1,v⟩
  .obtain⟨G,I,q⟩:=R.is j (by simpa[e]using F);exact⟨G,I,(dh R.good J e).mpr q⟩
 .intro j G I F;by_cases e:j=k
  .subst e;obtain⟨_,q⟩:=v.one F;rw[dw];omega
  .rw[eg e];exact R.ct j G I ((dh R.good J e).mp F)
 .rw[a,fL,R.al]
 .show es.length+1<=(upd s.ow b _ true).length+(upd s.ow b _ false).length;rw[du,du];exact h
theorem RI.Bz (R:RI s es) (h:FE s k s'):RI s' es:=by
 have F:=m5 R.good h;refine⟨F.good,by rw[F.ls];exact R.l0,?_,?_,?_,by rw[F.al];exact R.al,by rw[F.kept.ln,F.kept.ln];exact R.rm⟩
 .intro e;have:=F.kept.ln true;rw[e]at this;exact R.ne (List.length_eq_zero_iff.mp this.symm)
 .intro j G;obtain⟨cs,c,q⟩:=R.is j G;exact⟨cs,c,(F.vw j cs c).mpr q⟩
 .intro j cs c G;exact R.ct j cs c ((F.vw j cs c).mp G)
theorem RI.fill (R:RI s (none::r)) (N:cs.length=8) (h:BI (next s) (s.ls+1) cs 1 s'):RI s' (some (s.ls+1)::r):=by
 have B:=jZ R.good R.l0 N h;have O:r.count (some (s.ls+1))=0:=by
  apply Nat.eq_zero_of_not_pos;intro q;obtain⟨F,G,U,S,J,_⟩:=R.is _ (mem_cons_of_mem _ (List.count_pos_iff.mp q));rw[eR R.good]at J;cases J
 refine⟨B.good,by rw[B.ls];show 0<=s.ls+1;have:=R.l0;omega,?_,?_,?_,?_,?_⟩
 .intro e;have:=B.kept.ln true;rw[e]at this;exact R.ne (List.length_eq_zero_iff.mp this.symm)
 .intro j I;by_cases e:j=s.ls+1
  .subst e;exact⟨cs,1,B.vw⟩
  .obtain⟨F,G,q⟩:=R.is j (by simpa[e]using I);exact⟨F,G,(B.kept.ot j F G e).mpr q⟩
 .intro j F G I;by_cases e:j=s.ls+1
  .subst e;obtain⟨_,q⟩:=B.vw.one I;rw[dw,O,q];rfl
  .rw[eg e, <-iO];exact R.ct j F G ((B.kept.ot j F G e).mp I)
 .have L:=R.al;rw[hU]at L;rw[B.al,fL, <-L];rfl
 .rw[B.kept.ln,B.kept.ln];exact R.rm
theorem jl {l:List Int}(h:∀x∈l,1<=x):(l.length:Int)<=l.sum:=by
 induction l with
 |nil=>exact Int.le_refl _
 |cons a l G =>
  have h1:=h a mem_cons_self;have h2:=G λx F=>h x (mem_cons_of_mem _ F);rw[sum_cons,length_cons];omega
theorem Good.pos (G:Good s) {b:Bool}(h:¬ (0:Int)∈s.ow b):∀x∈s.ow b,1<=x:=by
 intro x F;obtain⟨n,J⟩:=List.getElem?_of_mem F;rcases G.on _ _ _ J with e|⟨j,e⟩
 .exact absurd (e▸F) h
 .obtain⟨cs,c,_,I,L,_⟩:=G.va _ _ _ e;rw[J]at I;cases I;exact L
theorem RI.room (R:RI s (none::r)):(0:Int)∈s.ow true\/(0:Int)∈s.ow false:=by
 by_cases h1:(0:Int)∈s.ow true
 .exact .inl h1
 .by_cases h2:(0:Int)∈s.ow false
  .exact .inr h2
  .exfalso;have I:=jl (R.good.pos h1);have J:=jl (R.good.pos h2);have F:=R.al;rw[hU]at F;have L:=uQ (es:=r);have G:=R.rm;rw[length_cons]at G;unfold all at F;omega
theorem rL {l:List Int}(h:∀x∈l,1<=x) {n:Nat}{c:Int}(F:l[n]?=some c):(l.length:Int)+c-1<=l.sum:=by
 induction l generalizing n with
 |nil=>cases F
 |cons a l I =>
  have h2:∀x∈l,1<=x:=λx G=>h x (mem_cons_of_mem _ G);have h1:=h a mem_cons_self;cases n with
  |zero =>
   cases F;have:=jl h2;rw[sum_cons,length_cons];omega
  |succ n =>
   have:=I h2 (show l[n]?=some c from F);rw[sum_cons,length_cons];omega
theorem RI.Ef (R:RI s es) (I:Vw s k cs c) (J:1<c):(0:Int)∈s.ow true\/(0:Int)∈s.ow false:=by
 by_cases h1:(0:Int)∈s.ow true
 .exact .inl h1
 .by_cases h2:(0:Int)∈s.ow false
  .exact .inr h2
  .exfalso;have O:=jl (R.good.pos h1);have S:=jl (R.good.pos h2);have G:=R.al;have L:=uQ (es:=es);have N:=R.rm;unfold all at G;obtain⟨b,n,_,_,F⟩:=I;cases b
   .have:=rL (R.good.pos h2) F;omega
   .have:=rL (R.good.pos h1) F;omega
end
end Pg
namespace Pg
noncomputable def xk (s:PS) (e:Ent) (cs:List Int):Prop:=match e with
 |none=>cs=replicate 8 0
 |some k=>∃c,Vw s k cs c
noncomputable def aZ (es:List Ent) (s s':PS):Prop:=∀e∈es,∀cs,xk s e cs->xk s' e cs
theorem aZ.refl {es:List Ent}{s:PS}:aZ es s s:=λ_ _ _ h=>h
section
variable {s s':PS}{es r:List Ent}{k:Int}{cs:List Int}{c:Int}
theorem RI.uO (R:RI s (some k::es)) (F:Vw s k cs c) (h:Bo s k s'):aZ es s s':=by
 have L:=uZ R.good F h;have O:=R.ct _ _ _ F;rw[dw]at O;intro e N U q;cases e with
 |none=>exact q
 |some j =>
  obtain⟨G,q⟩:=q;by_cases I:j=k
  .subst I;obtain⟨J,S⟩:=F.one q;subst J;subst S;have:0<es.count (some j):=List.count_pos_iff.mpr N;exact⟨G-1,(L.me _ _).mpr ⟨af,rfl,F⟩⟩
  .exact⟨G,(L.ot j _ _ I).mpr q⟩
theorem tU {b:Bool}{n:Nat}(G:Good s) (I:s.pl k=some (b,n)) (J:Vw s k cs c):aZ es s (ck s b n (c+1)):=by
 intro e R O q;cases e with
 |none=>exact q
 |some j =>
  obtain⟨N,q⟩:=q;by_cases F:j=k
  .subst F;obtain⟨L,S⟩:=J.one q;subst L;exact⟨c+1,iH G I J⟩
  .exact⟨N,(dh G I F).mpr q⟩
theorem sY (G:Good s) (h:FE s k s'):aZ es s s':=by
 intro e J I q;cases e with
 |none=>exact q
 |some j =>
  obtain⟨F,q⟩:=q;exact⟨F,((m5 G h).vw _ _ _).mpr q⟩
theorem RI.vZ (R:RI s (none::r)) (G:cs.length=8) (h:BI (next s) (s.ls+1) cs 1 s'):aZ r s s':=by
 have B:=jZ R.good R.l0 G h;intro e N L q;cases e with
 |none=>exact q
 |some j =>
  obtain⟨I,q⟩:=q;have J:j≠s.ls+1:=by
   intro e;obtain⟨S,O,F,_⟩:=q;rw[e,eR R.good]at F;cases F
  exact⟨I,(B.kept.ot _ _ _ J).mpr q⟩
theorem RI.part {s1 G:PS}{ab:List Int}{O:Int}(R:RI s (some k::r)) (hv:Vw s k ab O) (hc:1<O) (h4:cs.length=8) (hB:BI (next s) (s.ls+1) cs 1 s1) (hL:Bo s1 k G) :
  RI G (some (s.ls+1)::r)/\aZ r s G/\xk G (some (s.ls+1)) cs/\(∃m,G.pl (s.ls+1)=some (true,m))/\G.ls=s.ls+1 /\
  ((0:Int)∈G.ow true->(0:Int)∈s.ow true/\∀j m,s.pl j=some (true,m)->G.pl j=some (true,m))/\(∀b,(G.ow b).length=(s.ow b).length):=by
 have B:=jZ R.good R.l0 h4 hB;have U:=eR R.good;have kn:k≠s.ls+1:=by
  intro e;obtain⟨x1,x2,I,_⟩:=hv;rw[e,U]at I;cases I
 have Y:Vw s1 k ab O:=(B.kept.ot _ _ _ kn).mpr hv;have L:=uZ B.good Y hL;have K:=L.kept hc;have ad:=R.ct _ _ _ hv;rw[dw]at ad;have no:r.count (some (s.ls+1))=0:=by
  apply Nat.eq_zero_of_not_pos;intro q;obtain⟨S,N,x1,x2,I,_⟩:=R.is _ (mem_cons_of_mem _ (List.count_pos_iff.mp q));rw[U]at I;cases I
 have vn:Vw G (s.ls+1) cs 1:=(L.ot _ _ _ (Ne.symm kn)).mpr B.vw;have ln:∀b,(G.ow b).length=(s.ow b).length:=λb=>(L.ln b).trans (B.kept.ln b);refine⟨⟨L.good,?_,?_,?_,?_,?_,?_⟩,?_,⟨1,vn⟩,?_,?_,?_,ln⟩
 .rw[L.ls,B.ls];show 0<=s.ls+1;have:=R.l0;omega
 .intro e;have:=ln true;rw[e]at this;exact R.ne (List.length_eq_zero_iff.mp this.symm)
 .intro j J;by_cases e:j=s.ls+1
  .subst e;exact⟨cs,1,vn⟩
  .have J:some j∈r:=(by simpa[e]using J);by_cases F:j=k
   .subst F;exact⟨ab,O-1,(L.me _ _).mpr ⟨hc,rfl,Y⟩⟩
   .obtain⟨S,N,q⟩:=R.is j (mem_cons_of_mem _ J);exact⟨S,N,(L.ot _ _ _ F).mpr ((B.kept.ot _ _ _ e).mpr q)⟩
 .intro j S N J;by_cases e:j=s.ls+1
  .subst e;obtain⟨_,q⟩:=vn.one J;rw[dw,no,q];rfl
  .rw[eg e];by_cases F:j=k
   .subst F;obtain⟨q1,q2,q3⟩:=(L.me _ _).mp J;omega
   .rw[<-eg F];exact R.ct j S N ((B.kept.ot _ _ _ e).mp ((L.ot _ _ _ F).mp J))
 .have h9:=R.al;rw[fL]at h9;rw[L.al,B.al,fL, <-h9];show all s+1-1=all s;omega
 .rw[ln,ln];exact R.rm
 .intro e he S q;cases e with
  |none=>exact q
  |some j =>
   obtain⟨N,q⟩:=q;have ej:j≠s.ls+1:=by
    intro e;obtain⟨x1,x2,I,_⟩:=q;rw[e,U]at I;cases I
   by_cases F:j=k
   .subst F;obtain⟨q1,q2⟩:=hv.one q;subst q1;exact⟨O-1,(L.me _ _).mpr ⟨hc,rfl,Y⟩⟩
   .exact⟨N,(L.ot _ _ _ F).mpr ((B.kept.ot _ _ _ ej).mpr q)⟩
 .obtain⟨m,hm⟩:=B.fr;exact⟨m,(L.pl _ (Ne.symm kn)).trans hm⟩
 .rw[L.ls,B.ls];rfl
 .intro h;obtain⟨a1,a2⟩:=K.fr h;obtain⟨b1,b2⟩:=B.kept.fr a1;refine⟨b1,?_⟩;intro j m e;have ej:j≠s.ls+1:=(by intro q;rw[q,U]at e;cases e);have e1:=b2 j m ej e;by_cases F:j=k
  .subst F;cases hL with
   |more hk ac am=>exact e1
   |last hk ac =>
    have:=(Y.one ac).2;omega
  .exact a2 j m F e1
theorem RI.write {I:PS}{m:Nat}(R:RI s (some k::r)) {U:List Int}(hv:Vw s k U 1) (h4:cs.length=8) (Y:FE s k I) (L:I.pl k=some (true,m)) :
  RI (write I true m cs) (some k::r)/\aZ r s (write I true m cs)/\xk (write I true m cs) (some k) cs:=by
 have F:=m5 R.good Y;have G:=R.Bz Y;have ab:Vw I k U 1:=(F.vw _ _ _).mpr hv;have ac:=R.ct _ _ _ hv;rw[dw]at ac;have no:¬ some k∈r:=λh=>(by have:0<r.count (some k):=List.count_pos_iff.mpr h;omega);have S:=xt (cs:=cs) G.good L ab;refine⟨⟨tY G.good L h4,G.l0,G.ne,?_,?_,G.al,G.rm⟩,?_,⟨1,S⟩⟩
 .intro j O;by_cases e:j=k
  .subst e;exact⟨cs,1,S⟩
  .obtain⟨N,J,q⟩:=G.is j O;exact⟨N,J,(gT G.good L e).mpr q⟩
 .intro j N J O;by_cases e:j=k
  .subst e;obtain⟨_,q⟩:=S.one O;rw[q];exact G.ct _ _ _ ab
  .exact G.ct j N J ((gT G.good L e).mp O)
 .intro e he N q;cases e with
  |none=>exact q
  |some j =>
   obtain⟨J,q⟩:=q;have ek:j≠k:=λe=>no (e▸he);exact⟨J,(gT G.good L ek).mpr ((F.vw _ _ _).mpr q)⟩
end
end Pg
namespace St
open PySem L2
noncomputable abbrev zG:Stmt:=top 12
noncomputable abbrev pC:Stmt:=top 13
section
variable {P:Program}{w:World}{K:PySem.W.Frag}{mg:Str->Option Value}{base:Heap}
theorem aQ.keep {C p ow co:Addr}{M:Addr->Prop}{os:List Int}{pg:List (Option (List Int))}{H H':Hp}(S:aQ C H M p ow co os pg) (h:Off (λ_=>False) H H'):aQ C H' M p ow co os pg:=by
 obtain⟨⟨dx,h1⟩,G,cs,F,I⟩:=S;exact⟨⟨dx,h _ _ h1 id⟩,h _ _ G id,cs,h _ _ F id,hJ h (λ_ z=>z.elim) I⟩
theorem cK {H:Hp}{l:Addr}{o:HO}(h:H l=none):Off (λ_=>False) H (upd H l o):=by
 intro b o' e _;rw[ai (λz=>by rw[z,h]at e;cases e)];exact e
theorem fg {os:List Int}{n:Nat}{x:Int}(h:n<os.length):dJ (os.set n x) n=x:=by
 unfold dJ;rw[if_neg (by rw[length_set];omega)];simp[h]
theorem eI {os:List Int}{n:Nat}{x:Int}(h:os[n]?=some x):dJ os n=x:=by
 obtain⟨h1,h2⟩:=List.getElem?_eq_some_iff.mp h;unfold dJ;rw[if_neg af];simp[h1,h2]
theorem Ai {os:List Int}{n:Nat}{x:Int}(h:os[n]?=some x):os.set n x=os:=by
 obtain⟨h1,h2⟩:=List.getElem?_eq_some_iff.mp h;rw[<-h2];exact List.set_getElem_self h1
inductive qm (C:Addr) (vs:List V) (H:Hp) (Q:VK) (e3:XK):Prop
 |mk (p ow co:Addr) (M:Addr->Prop) (os:List Int) (pg:List (Option (List Int))) (n:Nat) (ns:List Int) (c:Nat) (_:vs=[.ref p,.int n]) (_:aQ C H M p ow co os pg) (_:M ow) (_:M co) (_:(∀b,M b->H b≠none)) (_:ow≠co) (_:os.length<=60) (_:os[n]?=some (c:Int)) (_:1<=c) (_:c<=1000) (_:pg[n]?=some (some ns)) (_:∀(H':Hp) (t l:Addr),H t=none->H' t=some (.tup [.ref l,.int c])->¬ M l->H' l=some (.lst (ns.map V.int))->aQ C H' M p ow co (os.set n 0) pg->Off (λb=>b=ow\/b=co) H H'->Q (.ref t) H'):qm C vs H Q e3
theorem EL:aC ["store","n","moved"] ["store","n"] (ar zG):=⟨rfl,rfl,rfl,ah,rfl,ah,ah⟩
theorem zT {f C:Addr}{fd:FuncData}(F:cN K "lift" "lift" zG f fd) (T:Txt K mg C) (GE:Md P w K mg base aW 3 C "cells" (kO C)) (GC:Md P w K mg base aW 1 C "count" (gj C)) (GL:Md P w K mg base aW 3 C "less" (oT C)) :
  bg P w K mg base aW 4 f fd ["store","n"] (qm C):=by
 refine F.ok EL (λvs H Q E h=>?_) (λa0 A outer s H vs Q E O h=>?_)
 .obtain⟨p,ow,co,M,os,pg,n,ns,c,rfl,_⟩:=h;rfl
 .obtain⟨p,ow,co,M,os,pg,n,ns,c,rfl,S,mw,mc,mt,ad,U,R,c1,c2,hg,k⟩:=h;obtain⟨⟨dx,h1⟩,hw,cs,aT,hp⟩:=id S;obtain⟨nl,_⟩:=List.getElem?_eq_some_iff.mp R;have hc:dJ os n≠0:=(by rw[eI R];omega);refine⟨_,(ag (aK (i:=2) EL.nd rfl (Or.inl rfl) (cF (aa (pm (pv 0) T.cl GE O aw (aa (pv 1) aj)) (aa (pm (pv 0) T.cl GC O aw (aa (pv 1) aj)) aj))))
   (ag (rq PassesOwn.never (az iz (pm (pv 0) T.cl GC O aw (aa (pv 1) aj)) ak (aG _)) (ao (aL (pm (pv 0) T.cl GL O aw (aa (pv 1) aj)))))
   (ao (aE (pv 2))))),?_⟩
  try dsimp only[cxK]
  refine⟨_,rfl,p,dx,_,rfl,h1,aV _ _ ah ah,_,rfl,p,ow,co,M,os,pg,n,ns,rfl,S,U,hc,hg,?_⟩;intro l fl;have N:=S.keep (cK (o:=.lst (ns.map V.int)) fl);have aB:upd H l (.lst (ns.map V.int)) l=some (.lst (ns.map V.int)):=ae;have O1:Off (λb=>b=ow\/b=co) H (upd H l (.lst (ns.map V.int))):=λb o e _=>cK fl b o e id;generalize upd H l (.lst (ns.map V.int))=H1 at *;obtain⟨ap,am⟩:=N.ob;refine⟨_,rfl,p,ap,_,rfl,am,aV _ _ ah ah,_,rfl,p,ow,co,M,os,pg,n,rfl,N,U,?_⟩;rw[eI R];refine⟨by show 2<=sizeLine;decide,λt G=>?_⟩;have S2:=N.keep (cK (o:=.tup [.ref l,.int c]) G);have ht:upd H1 t (.tup [.ref l,.int c]) t=some (.tup [.ref l,.int c]):=ae;have as:upd H1 t (.tup [.ref l,.int c]) l=some (.lst (ns.map V.int)):=cK G l _ aB id;have O2:Off (λb=>b=ow\/b=co) H (upd H1 t (.tup [.ref l,.int c])):=λb o e z=>cK G b o (O1 b o e z) id;have nM:¬ M l:=λz=>mt l z fl;have fH:H t=none:=by
   cases e:H t with
   |none=>rfl
   |some o =>
    exfalso;by_cases z:t=ow\/t=co
    .rcases z with z|z
     .subst z;rw[N.hw]at G;cases G
     .subst z;obtain⟨_,q,_⟩:=N.hc;rw[q]at G;cases G
    .rw[O1 t o e z]at G;cases G
  generalize upd H1 t (.tup [.ref l,.int c])=H2 at *;refine⟨λm σ L=>∃Y:Nat,m=Y/\σ=[some (.ref p),some (.int n),some (.ref t)]/\aQ C L M p ow co (os.set n Y) pg/\L t=some (.tup [.ref l,.int c])/\L l=some (.lst (ns.map V.int))/\Off (λb=>b=ow\/b=co) H L,
   ⟨c,c,rfl,rfl,by rw[Ai R];exact S2,ht,as,O2⟩,?_⟩
  rintro m σ L ⟨Y,rfl,rfl,J,I,l3,O3⟩;obtain⟨ac,h3⟩:=J.ob;refine⟨_,rfl,p,ac,_,rfl,h3,aV _ _ ah ah,_,rfl,p,ow,co,M,_,pg,n,rfl,J,by rw[length_set];exact U,?_⟩;rw[fg nl];refine⟨_,_,rfl,rfl,_,rfl,?_⟩;by_cases z:(0:Int)<m
  .rw[decide_eq_true z];refine⟨λab H'=>ab=[some (.ref p),some (.int n),some (.ref t)]/\aQ C H' M p ow co (os.set n (m-1:Nat)) pg/\H' t=some (.tup [.ref l,.int c])/\H' l=some (.lst (ns.map V.int))/\Off (λb=>b=ow\/b=co) H H',?_,?_⟩
   .rintro ab H' ⟨a1,a2,a3,a4,a5⟩;exact⟨m-1,af,m-1,rfl,a1,a2,a3,a4,a5⟩
   .refine⟨_,rfl,p,ac,_,rfl,h3,aV _ _ ah ah,_,rfl,p,ow,co,M,_,pg,n,rfl,J,mw,mc,ad,by rw[length_set];exact U,by rw[fg nl];omega,?_⟩;intro H4 S4 O4;rw[fg nl,show(n:Int).toNat=n from toNat_natCast n,List.set_set]at S4;refine⟨rfl,?_,?_,?_,?_⟩
    .have e:((m-1:Nat):Int)=(m:Int)-1:=af;rw[e];exact S4
    .refine O4 _ _ I λq=>?_;rcases q with q|q
     .subst q;rw[J.hw]at I;cases I
     .subst q;obtain⟨_,y,_⟩:=J.hc;rw[y]at I;cases I
    .refine O4 _ _ l3 λq=>?_;rcases q with q|q
     .exact nM (q▸mw)
     .exact nM (q▸mc)
    .intro b o e q;exact O4 b o (O3 b o e q) q
  .rw[decide_eq_false z];have e:m=0:=af;subst e;exact⟨_,rfl,k L t l fH I nM l3 J O3⟩
theorem mR {C p ow co:Addr}{M:Addr->Prop}{os:List Int}{pg:List (Option (List Int))}{H H':Hp}(S:aQ C H' M p ow co os pg) (h:Off (λb=>b=ow\/b=co) H H') (mt:∀b,M b->H b≠none):∀b,M b->H' b≠none:=by
 intro b G e;by_cases z:b=ow\/b=co
 .rcases z with z|z
  .subst z;rw[S.hw]at e;cases e
  .subst z;obtain⟨_,q,_⟩:=S.hc;rw[q]at e;cases e
 .cases F:H b with
  |none=>exact mt b G F
  |some o=>rw[h b o F z]at e;cases e
inductive js (C:Addr) (vs:List V) (H:Hp) (Q:VK) (e3:XK):Prop
 |mk (p ow co t l:Addr) (M:Addr->Prop) (os:List Int) (pg:List (Option (List Int))) (ns:List Int) (c:Nat) (_:vs=[.ref p,.ref t]) (_:aQ C H M p ow co os pg) (_:M ow) (_:M co) (_:(∀b,M b->H b≠none)) (_:ow≠co) (_:os.length=pg.length) (_:os.length<=60) (_:(0:Int)∈os) (_:H t=some (.tup [.ref l,.int c])) (_:H l=some (.lst (ns.map V.int))) (_:¬ M l) (_:1<=c) (_:c<=1000) (_:∀H':Hp,aQ C H' M p ow co (os.set (os.idxOf 0) c) (pg.set (os.idxOf 0) (some ns))->Off (λb=>b=ow\/b=co) H H'->Q (.int (os.idxOf 0:Nat)) H'):js C vs H Q e3
theorem Aj:aC ["store","moved","n"] ["store","moved"] (ar pC):=⟨rfl,rfl,rfl,ah,rfl,ah,ah⟩
theorem vJ {f C:Addr}{fd:FuncData}(F:cN K "settle" "settle" pC f fd) (T:Txt K mg C) (GT:Md P w K mg base aW 1 C "take" (uC C)) (GP:Md P w K mg base aW 3 C "put" (vk K C)) (GC:Md P w K mg base aW 1 C "count" (gj C)) (GM:Md P w K mg base aW 3 C "more" (oQ C)) :
  bg P w K mg base aW 4 f fd ["store","moved"] (js C):=by
 refine F.ok Aj (λvs H Q E h=>?_) (λa0 A outer s H vs Q E L h=>?_)
 .obtain⟨p,ow,co,t,l,M,os,pg,ns,c,rfl,_⟩:=h;rfl
 .obtain⟨p,ow,co,t,l,M,os,pg,ns,c,rfl,S,R,mc,mt,ab,am,U,h0,J,aT,nM,c1,c2,k⟩:=h;obtain⟨dx,h1⟩:=S.ob;have Y:os.idxOf 0<os.length:=List.idxOf_lt_length_iff.mpr h0;refine⟨_,(ag (aK (i:=2) Aj.nd rfl (Or.inl rfl) (wK (pv 0) T.cl GT L aw))
   (ag (aL (pm (pv 0) T.cl GP L aw (aa (pv 2) (aa (aY a9 (pv 1) ak (λ_ _=>rfl)) aj))))
   (ag (rq PassesOwn.never (az fV (pm (pv 0) T.cl GC L aw (aa (pv 2) aj)) (aY a9 (pv 1) ak (λ_ _=>rfl)) (aG _)) (ao (aL (pm (pv 0) T.cl GM L aw (aa (pv 2) aj)))))
   (ao (aE (pv 2)))))),?_⟩
  try dsimp only[cxK]
  refine⟨_,rfl,p,dx,_,rfl,h1,aV _ _ ah ah,p,ow,co,M,os,pg,rfl,S,R,mc,mt,ab,am,U,λz=>absurd h0 z,λ_ H1 S1 N=>?_⟩;generalize os.idxOf 0=j at *;obtain⟨aB,as⟩:=S1.ob;have nt:¬ (t=ow\/t=co):=λq=>by
   rcases q with q|q
   .subst q;rw[S.hw]at J;cases J
   .subst q;obtain⟨_,y,_⟩:=S.hc;rw[y]at J;cases J
  have ap:¬ (l=ow\/l=co):=λq=>by
   rcases q with q|q
   .exact nM (q▸R)
   .exact nM (q▸mc)
  have t1:=N _ _ J nt;have l1:=N _ _ aT ap;refine⟨_,rfl,p,aB,_,rfl,as,aV _ _ ah ah,_,rfl,_,rfl,t,_,0,_,rfl,rfl,bR.of t1,rfl,p,ow,co,l,M,_,_,_,ns,rfl,S1,R,mc,mR S1 N mt,ab,by rw[length_set,length_set];exact am,by rw[length_set];exact U,by rw[fg Y];decide,bE.of l1,?_⟩;intro H2 S2 O2;rw[show(j:Int).toNat=j from toNat_natCast j,List.set_set]at S2;refine⟨λm σ I=>∃G:Nat,m+G=c/\1<=G/\σ=[some (.ref p),some (.ref t),some (.int j)]/\aQ C I M p ow co (os.set j G) (pg.set j (some ns))/\I t=some (.tup [.ref l,.int c])/\Off (λb=>b=ow\/b=co) H I,
   ⟨c-1,1,af,le_refl _,rfl,S2,O2 _ _ t1 nt,λb o e q=>O2 b o (N b o e q) q⟩,?_⟩
  rintro m σ I ⟨G,em,p1,rfl,O,t3,O3⟩;obtain⟨ad,h3⟩:=O.ob;refine⟨_,rfl,p,ad,_,rfl,h3,aV _ _ ah ah,_,rfl,p,ow,co,M,_,_,j,rfl,O,by rw[length_set];exact U,?_⟩;rw[fg Y];refine⟨_,rfl,t,_,1,_,rfl,rfl,bR.of t3,rfl,_,_,rfl,rfl,_,rfl,?_⟩;by_cases z:(G:Int)<c
  .rw[decide_eq_true z];refine⟨λac H'=>ac=[some (.ref p),some (.ref t),some (.int j)]/\aQ C H' M p ow co (os.set j (G+1:Nat)) (pg.set j (some ns))/\H' t=some (.tup [.ref l,.int c])/\Off (λb=>b=ow\/b=co) H H',?_,?_⟩
   .rintro ac H' ⟨a1,a2,a3,a4⟩;exact⟨m-1,af,G+1,af,af,a1,a2,a3,a4⟩
   .refine⟨_,rfl,p,ad,_,rfl,h3,aV _ _ ah ah,_,rfl,p,ow,co,M,_,_,j,rfl,O,R,mc,ab,by rw[length_set];exact U,by rw[fg Y];omega,?_⟩;intro H4 S4 O4;rw[fg Y,show(j:Int).toNat=j from toNat_natCast j,List.set_set]at S4;exact⟨rfl,S4,O4 _ _ t3 nt,λb o e q=>O4 b o (O3 b o e q) q⟩
  .rw[decide_eq_false z];have e:G=c:=af;subst e;exact⟨_,rfl,k I O O3⟩
end
structure PA where
 pg:Addr
 fp:Addr
 fo:Addr
 fc:Addr
 sp:Addr
 so:Addr
 sc:Addr
 pd:Addr
 il:Addr
noncomputable def cH (A:PA) (n:Int):List (Str×V):=bj "in_frames" (.ref A.il) (bj "last_sheet" (.int n) (bj "places" (.ref A.pd) (bj "slots" (.ref A.sp) (bj "frames" (.ref A.fp) []))))
noncomputable abbrev CH:=List (Int×Addr×Bool×Nat)
noncomputable def qu (x:Addr×Bool×Nat):V:=.ref x.1
noncomputable def iQ (b:Bool) (n:Nat):List V:=[.str (if b=true then "frame" else "slot"),.int n]
structure bJ (C CS:Addr) (H:Hp) (M:Addr->Prop) (A:PA) (s:Pg.PS):Prop where
 ob:∃dx,H A.pg=some (.ins C dx (cH A s.ls))
 fr:aQ CS H M A.fp A.fo A.fc (s.ow true) (s.co true)
 sl:aQ CS H M A.sp A.so A.sc (s.ow false) (s.co false)
 il:H A.il=some (.lst (s.inf.map V.int))
 le:∀b,(s.ow b).length<=60
 pd:∃l:CH,H A.pd=some (.dK (Tb.dk qu l))/\(l.map (·.1)).Nodup/\(∀x∈l,H x.2.1=some (.tup (iQ x.2.2.1 x.2.2.2)))/\(∀k,(Tb.look l k).map (·.2)=s.pl k)/\l.length<=1000
structure nc (K:PySem.W.Frag) (mg:Str->Option Value) (C:Addr):Prop where
 cl:qt K C
 nF:cR K C "frames"
 nS:cR K C "slots"
 nP:cR K C "places"
 nL:cR K C "last_sheet"
 nI:cR K C "in_frames"
 list:mg "list" = none
noncomputable abbrev tE:Stmt:=inClass (top 14) 9
section
variable {P:Program}{w:World}{K:PySem.W.Frag}{mg:Str->Option Value}{base:Heap}
inductive hX (C CS:Addr) (vs:List V) (H:Hp) (Q:VK) (e3:XK):Prop
 |mk (M:Addr->Prop) (A:PA) (s:Pg.PS) (k:Int) (b:Bool) (n:Nat) (_:vs=[.ref A.pg,.int k]) (_:bJ C CS H M A s) (_:s.pl k=some (b,n)) (_:∀t,H t=some (.tup (iQ b n))->Q (.ref t) H):hX C CS vs H Q e3
theorem mQ (A:PA) (n:Int):(cH A n).lookup ("places" : Str)=some (.ref A.pd):=by
 unfold cH;rw[aD,if_neg ah,aD,if_neg ah,aD,if_pos rfl]
theorem Ge:aC ["self","sheet"] ["self","sheet"] (ar tE):=⟨rfl,rfl,rfl,ah,rfl,ah,ah⟩
theorem zw {f C CS:Addr}{fd:FuncData}(F:cN K "place" "Paging.place" tE f fd) (T:nc K mg C):bg P w K mg base aW 1 f fd ["self","sheet"] (hX C CS):=by
 refine F.ok Ge (λvs H Q E h=>?_) (λab A outer s H vs Q E J h=>?_)
 .obtain⟨M,I,s',k,b,n,rfl,_⟩:=h;rfl
 .obtain⟨M,I,s',k,b,n,rfl,G,S,q⟩:=h;obtain⟨dx,h1⟩:=G.ob;obtain⟨l,hd,Y,U,R,_⟩:=G.pd;refine⟨_,(ag (aS (gU (eT (bh J) (pv 1) (aJ (pv 0) rfl))) cO aF)
   (ao (aE (bq (bh J) (aJ (pv 0) rfl) (pv 1) (λ_ _=>rfl))))),?_⟩
  try dsimp only[cxK]
  obtain⟨x,O,ex⟩:∃x,Tb.look l k=some x/\x.2=(b,n):=by
   have:=R k;rw[S]at this;exact Option.map_eq_some_iff.mp this
  have hg:dq H I.pd (.int k) (some (qu x)):=by
   have N:=dq.k (k:=Sum.inl k) hd;rw[Tb.cD,O]at N;exact N
  have L:=U _ (Tb.aA O);refine⟨_,rfl,_,rfl,I.pg,C,dx,_,_,rfl,h1,T.cl,T.nP,mQ _ _,I.pd,_,rfl,hg,_,rfl,?_⟩;refine bB ⟨_,rfl,I.pg,C,dx,_,_,rfl,h1,T.cl,T.nP,mQ _ _,_,rfl,I.pd,qu x,rfl,hg,q x.1 ?_⟩;rw[show x.2.1=b by rw[ex],show x.2.2=n by rw[ex]]at L;exact L
noncomputable abbrev j5:Stmt:=inClass (top 14) 10
noncomputable abbrev lq:Stmt:=inClass (top 14) 11
inductive cY (C CS:Addr) (vs:List V) (H:Hp) (Q:VK) (e3:XK):Prop
 |mk (M:Addr->Prop) (A:PA) (s:Pg.PS) (k:Int) (b:Bool) (n:Nat) (_:vs=[.ref A.pg,.int k]) (_:bJ C CS H M A s) (_:s.pl k=some (b,n)) (_:Q (.int n) H):cY C CS vs H Q e3
noncomputable def PA.st (A:PA) (b:Bool):Addr:=if b=true then A.fp else A.sp
inductive eQ (C CS:Addr) (vs:List V) (H:Hp) (Q:VK) (e3:XK):Prop
 |mk (M:Addr->Prop) (A:PA) (s:Pg.PS) (k:Int) (b:Bool) (n:Nat) (_:vs=[.ref A.pg,.int k]) (_:bJ C CS H M A s) (_:s.pl k=some (b,n)) (_:Q (.ref (A.st b)) H):eQ C CS vs H Q e3
theorem cE (A:PA) (n:Int) {m:Str}(h1:¬ m = "in_frames") (h2:¬ m = "last_sheet") (G:¬ m = "places") (F:¬ m = "slots") (I:¬ m = "frames"):(cH A n).lookup m=none:=by
 unfold cH;rw[aD,if_neg h1,aD,if_neg h2,aD,if_neg G,aD,if_neg F,aD,if_neg I]
 all_goals rfl
theorem nE (A:PA) (n:Int):(cH A n).lookup ("frames" : Str)=some (.ref A.fp):=by
 unfold cH;rw[aD,if_neg ah,aD,if_neg ah,aD,if_neg ah,aD,if_neg ah,aD,if_pos rfl]
theorem vz (A:PA) (n:Int):(cH A n).lookup ("slots" : Str)=some (.ref A.sp):=by
 unfold cH;rw[aD,if_neg ah,aD,if_neg ah,aD,if_neg ah,aD,if_pos rfl]
theorem GQ:aC ["self","sheet"] ["self","sheet"] (ar j5):=⟨rfl,rfl,rfl,ah,rfl,ah,ah⟩
theorem qJ {f C CS:Addr}{fd:FuncData}(F:cN K "number_of" "Paging.number_of" j5 f fd) (T:nc K mg C) (L:Md P w K mg base aW 1 C "place" (hX C CS)):bg P w K mg base aW 2 f fd ["self","sheet"] (cY C CS):=by
 refine F.ok GQ (λvs H Q E h=>?_) (λR A outer s H vs Q E J h=>?_)
 .obtain⟨M,I,s',k,b,n,rfl,_⟩:=h;rfl
 .obtain⟨M,I,s',k,b,n,rfl,G,N,q⟩:=h;obtain⟨dx,h1⟩:=G.ob;refine⟨_,(ao (aE (aY a9 (pm (pv 0) T.cl L J aw (aa (pv 1) aj)) ak (λ_ _=>rfl)))),?_⟩
  try dsimp only[cxK]
  refine⟨_,rfl,I.pg,dx,_,rfl,h1,cE _ _ ah ah ah ah ah,_,rfl,M,I,s',k,b,n,rfl,G,N,λt O=>?_⟩;exact⟨t,_,1,_,rfl,rfl,bR.of O,rfl,q⟩
theorem Hb:aC ["self","sheet"] ["self","sheet"] (ar lq):=⟨rfl,rfl,rfl,ah,rfl,ah,ah⟩
theorem tD {f C CS:Addr}{fd:FuncData}(F:cN K "store_of" "Paging.store_of" lq f fd) (T:nc K mg C) (L:Md P w K mg base aW 1 C "place" (hX C CS)):bg P w K mg base aW 2 f fd ["self","sheet"] (eQ C CS):=by
 refine F.ok Hb (λvs H Q E h=>?_) (λR A outer s H vs Q E J h=>?_)
 .obtain⟨M,I,s',k,b,n,rfl,_⟩:=h;rfl
 .obtain⟨M,I,s',k,b,n,rfl,G,N,q⟩:=h;obtain⟨dx,h1⟩:=G.ob;refine⟨_,(ag (aS (az bN (aY a9 (pm (pv 0) T.cl L J aw (aa (pv 1) aj)) ak (λ_ _=>rfl)) aI (aG _)) (ao (aE (aJ (pv 0) rfl))) aF)
   (ao (aE (aJ (pv 0) rfl)))),?_⟩
  try dsimp only[cxK]
  refine⟨_,rfl,I.pg,dx,_,rfl,h1,cE _ _ ah ah ah ah ah,_,rfl,M,I,s',k,b,n,rfl,G,N,λt O=>?_⟩;refine⟨t,_,0,_,rfl,rfl,bR.of O,rfl,rfl,_,rfl,?_⟩;cases b with
  |true=>exact c6 ⟨_,rfl,I.pg,C,dx,_,_,rfl,h1,T.cl,T.nF,nE _ _,q⟩
  |false=>exact bB ⟨_,rfl,I.pg,C,dx,_,_,rfl,h1,T.cl,T.nS,vz _ _,q⟩
noncomputable abbrev oo:Stmt:=inClass (top 14) 12
noncomputable abbrev pR:Stmt:=inClass (top 14) 4
noncomputable def PA.ow (A:PA) (b:Bool):Addr:=if b=true then A.fo else A.so
noncomputable def PA.co (A:PA) (b:Bool):Addr:=if b=true then A.fc else A.sc
theorem bJ.st {C CS:Addr}{H:Hp}{M:Addr->Prop}{A:PA}{s:Pg.PS}(G:bJ C CS H M A s) (b:Bool):aQ CS H M (A.st b) (A.ow b) (A.co b) (s.ow b) (s.co b):=by
 cases b
 .exact G.sl
 .exact G.fr
inductive lj (C CS:Addr) (vs:List V) (H:Hp) (Q:VK) (e3:XK):Prop
 |mk (M:Addr->Prop) (A:PA) (s:Pg.PS) (k:Int) (cs:List Int) (c:Int) (_:vs=[.ref A.pg,.int k]) (_:bJ C CS H M A s) (_:Pg.Vw s k cs c) (_:Q (.int c) H):lj C CS vs H Q e3
inductive mF (C CS:Addr) (vs:List V) (H:Hp) (Q:VK) (e3:XK):Prop
 |mk (M:Addr->Prop) (A:PA) (s:Pg.PS) (k:Int) (cs:List Int) (c:Int) (_:vs=[.ref A.pg,.int k]) (_:bJ C CS H M A s) (_:Pg.Vw s k cs c) (_:c≠0) (_:∀l,H l=none->Q (.ref l) (upd H l (.lst (cs.map V.int)))):mF C CS vs H Q e3
theorem CV:aC ["self","sheet"] ["self","sheet"] (ar oo):=⟨rfl,rfl,rfl,ah,rfl,ah,ah⟩
theorem wz {f C CS:Addr}{fd:FuncData}(F:cN K "count" "Paging.count" oo f fd) (T:nc K mg C) (TS:Txt K mg CS) (R:Md P w K mg base aW 2 C "store_of" (eQ C CS)) (N:Md P w K mg base aW 2 C "number_of" (cY C CS)) (O:Md P w K mg base aW 1 CS "count" (gj CS)):bg P w K mg base aW 3 f fd ["self","sheet"] (lj C CS):=by
 refine F.ok CV (λvs H Q E h=>?_) (λac A outer s H vs Q E J h=>?_)
 .obtain⟨M,I,s',k,cs,c,rfl,_⟩:=h;rfl
 .obtain⟨M,I,s',k,cs,c,rfl,G,⟨b,n,L,ab,U⟩,q⟩:=h;obtain⟨dx,h1⟩:=G.ob;have S:=G.st b;obtain⟨Y,h2⟩:=S.ob;refine⟨_,(ao (aE (pm (pm (pv 0) T.cl R J aw (aa (pv 1) aj)) TS.cl O J aw (aa (pm (pv 0) T.cl N J aw (aa (pv 1) aj)) aj)))),?_⟩
  try dsimp only[cxK]
  refine⟨_,rfl,I.pg,dx,_,rfl,h1,cE _ _ ah ah ah ah ah,_,rfl,M,I,s',k,b,n,rfl,G,L,?_⟩;refine⟨_,Y,_,rfl,h2,aV _ _ ah ah,?_⟩;refine⟨_,rfl,I.pg,dx,_,rfl,h1,cE _ _ ah ah ah ah ah,_,rfl,M,I,s',k,b,n,rfl,G,L,?_⟩;refine⟨_,_,_,M,_,_,n,rfl,S,G.le b,?_⟩;rw[eI U];exact q
theorem FZ:aC ["self","sheet"] ["self","sheet"] (ar pR):=⟨rfl,rfl,rfl,ah,rfl,ah,ah⟩
theorem wd {f C CS:Addr}{fd:FuncData}(F:cN K "cells" "Paging.cells" pR f fd) (T:nc K mg C) (TS:Txt K mg CS) (R:Md P w K mg base aW 2 C "store_of" (eQ C CS)) (O:Md P w K mg base aW 2 C "number_of" (cY C CS)) (GE:Md P w K mg base aW 3 CS "cells" (kO CS)):bg P w K mg base aW 4 f fd ["self","sheet"] (mF C CS):=by
 refine F.ok FZ (λvs H Q E h=>?_) (λac A outer s H vs Q E J h=>?_)
 .obtain⟨M,I,s',k,cs,c,rfl,_⟩:=h;rfl
 .obtain⟨M,I,s',k,cs,c,rfl,G,⟨b,n,L,N,U⟩,Y,q⟩:=h;obtain⟨dx,h1⟩:=G.ob;have S:=G.st b;obtain⟨ab,h2⟩:=S.ob;refine⟨_,(ao (aE (pm (pm (pv 0) T.cl R J aw (aa (pv 1) aj)) TS.cl GE J aw (aa (pm (pv 0) T.cl O J aw (aa (pv 1) aj)) aj)))),?_⟩
  try dsimp only[cxK]
  refine⟨_,rfl,I.pg,dx,_,rfl,h1,cE _ _ ah ah ah ah ah,_,rfl,M,I,s',k,b,n,rfl,G,L,?_⟩;refine⟨_,ab,_,rfl,h2,aV _ _ ah ah,?_⟩;refine⟨_,rfl,I.pg,dx,_,rfl,h1,cE _ _ ah ah ah ah ah,_,rfl,M,I,s',k,b,n,rfl,G,L,?_⟩;exact⟨_,_,_,M,_,_,n,cs,rfl,S,G.le b,by rw[eI U];exact Y,by rw[show(n:Int).toNat=n from toNat_natCast n];exact N,q⟩
end
theorem aQ.off {C p ow co:Addr}{B M:Addr->Prop}{os:List Int}{pg:List (Option (List Int))}{H H':Hp}(S:aQ C H M p ow co os pg) (h:Off B H H') (O:∀b,B b->M b) (N:¬ B p) (G:¬ B ow) (L:¬ B co):aQ C H' M p ow co os pg:=by
 obtain⟨⟨dx,h1⟩,I,cs,F,J⟩:=S;exact⟨⟨dx,h _ _ h1 N⟩,h _ _ I G,cs,h _ _ F L,hJ h O J⟩
structure PA.Ok (A:PA) (M:Addr->Prop):Prop where
 ds:[A.pg,A.fp,A.fo,A.fc,A.sp,A.so,A.sc,A.pd,A.il].Nodup
 mm:∀x∈[A.pg,A.fp,A.fo,A.fc,A.sp,A.so,A.sc,A.pd,A.il],M x
noncomputable def PA.own (A:PA):Addr->Prop:=λb=>b∈[A.pg,A.fo,A.fc,A.so,A.sc,A.pd,A.il]
noncomputable abbrev oK:Stmt:=inClass (top 14) 8
theorem m7 {α:Type}{l:List α}(h:l.Nodup) (i j:Nat) {a b:α}(hi:l[i]?=some a) (J:l[j]?=some b) (I:i≠j):a≠b:=by
 obtain⟨h1,G⟩:=List.getElem?_eq_some_iff.mp hi;obtain⟨h2,F⟩:=List.getElem?_eq_some_iff.mp J;have q:=List.pairwise_iff_getElem.mp h;rcases Nat.lt_or_gt_of_ne I with z|z
 .rw[<-G, <-F];exact q i j h1 h2 z
 .rw[<-G, <-F];exact Ne.symm (q j i h2 h1 z)
theorem fP {a b c:Addr}(h1:a≠b) (h2:a≠c):¬ (a=b\/a=c):=λz=>z.elim h1 h2
theorem ED {M:Addr->Prop}{a b:Addr}(h1:M a) (h2:M b):∀c,c=a\/c=b->M c:=λc z=>z.elim (λe=>by rw[e];exact h1) λe=>by rw[e];exact h2
theorem in1 {M:Addr->Prop}{a:Addr}(h1:M a):∀c,c=a->M c:=λc e=>by rw[e];exact h1
section
variable {A:PA}{M:Addr->Prop}
theorem PA.Ok.n (ok:A.Ok M) (i j:Nat) {a b:Addr}(hi:[A.pg,A.fp,A.fo,A.fc,A.sp,A.so,A.sc,A.pd,A.il][i]?=some a) (G:[A.pg,A.fp,A.fo,A.fc,A.sp,A.so,A.sc,A.pd,A.il][j]?=some b) (F:i≠j):a≠b:=m7 ok.ds i j hi G F
theorem PA.Ok.m (ok:A.Ok M) (i:Nat) {a:Addr}(hi:[A.pg,A.fp,A.fo,A.fc,A.sp,A.so,A.sc,A.pd,A.il][i]?=some a):M a:=ok.mm a (mem_of_getElem? hi)
theorem PA.fG (i:Nat) {a:Addr}(hi:[A.pg,A.fo,A.fc,A.so,A.sc,A.pd,A.il][i]?=some a):A.own a:=mem_of_getElem? hi
theorem PA.Ok.own (ok:A.Ok M):∀b,A.own b->M b:=by
 intro b h;unfold PA.own at h;simp only[mem_cons,not_mem_nil,or_false]at h;rcases h with h|h|h|h|h|h|h<;>rw[h]
 .exact ok.m 0 rfl
 .exact ok.m 2 rfl
 .exact ok.m 3 rfl
 .exact ok.m 5 rfl
 .exact ok.m 6 rfl
 .exact ok.m 7 rfl
 .exact ok.m 8 rfl
theorem bJ.alive {C CS:Addr}{H H':Hp}{s:Pg.PS}(G:bJ C CS H' M A s) (o:Off A.own H H') (mt:∀b,M b->H b≠none):∀b,M b->H' b≠none:=by
 intro b N e;by_cases z:A.own b
 .unfold PA.own at z;simp only[mem_cons,not_mem_nil,or_false]at z;obtain⟨dx,h1⟩:=G.ob;obtain⟨_,L,_⟩:=G.fr.hc;obtain⟨_,J,_⟩:=G.sl.hc;obtain⟨l,I,_⟩:=G.pd;rcases z with z|z|z|z|z|z|z<;>rw[z]at e
  .rw[h1]at e;cases e
  .rw[G.fr.hw]at e;cases e
  .rw[L]at e;cases e
  .rw[G.sl.hw]at e;cases e
  .rw[J]at e;cases e
  .rw[I]at e;cases e
  .rw[G.il]at e;cases e
 .cases F:H b with
  |none=>exact mt b N F
  |some o'=>rw[o b o' F z]at e;cases e
theorem bJ.keep {C CS:Addr}{H H':Hp}{s:Pg.PS}(G:bJ C CS H M A s) (h:Off (λ_=>False) H H'):bJ C CS H' M A s:=by
 obtain⟨dx,h1⟩:=G.ob;obtain⟨l,hd,J,N,I,L⟩:=G.pd;exact⟨⟨dx,h _ _ h1 id⟩,G.fr.keep h,G.sl.keep h,h _ _ G.il id,G.le,⟨l,h _ _ hd id,J,λx F=>h _ _ (N x F) id,I,L⟩⟩
theorem bJ.lR {C CS:Addr}{H:Hp}{s:Pg.PS}(G:bJ C CS H M A s) (ok:A.Ok M) (r:List Int):bJ C CS (upd H A.il (.lst (r.map V.int))) M A { s with inf:=r }:=by
 have o:Off (· = A.il) H (upd H A.il (.lst (r.map V.int))):=λb o e z=>(by rw[ai z];exact e);obtain⟨dx,h1⟩:=G.ob;obtain⟨l,hd,N,I,J,L⟩:=G.pd;exact⟨⟨dx,o _ _ h1 (ok.n 0 8 rfl rfl av)⟩,G.fr.off o (in1 (ok.m 8 rfl)) (ok.n 1 8 rfl rfl av) (ok.n 2 8 rfl rfl av) (ok.n 3 8 rfl rfl av),G.sl.off o (in1 (ok.m 8 rfl)) (ok.n 4 8 rfl rfl av) (ok.n 5 8 rfl rfl av) (ok.n 6 8 rfl rfl av),ae,G.le,
  ⟨l,o _ _ hd (ok.n 7 8 rfl rfl av),N,λx F=>o _ _ (I x F) (cB (I x F) G.il (by intro z;cases z)),J,L⟩⟩
theorem bJ.Cf {C CS:Addr}{H:Hp}{s s':Pg.PS}(G:bJ C CS H M A s) (F:s'.ow=s.ow) (I:s'.co=s.co) (U:s'.ls=s.ls) (N:s'.inf=s.inf) (J:∀j,s'.pl j=s.pl j):bJ C CS H M A s':=by
 obtain⟨l,hd,O,S,L,R⟩:=G.pd;exact⟨by rw[U];exact G.ob,by rw[F,I];exact G.fr,by rw[F,I];exact G.sl,by rw[N];exact G.il,by rw[F];exact G.le,⟨l,hd,O,S,λj=>by rw[J];exact L j,R⟩⟩
theorem AK {H:Hp}{l:CH}{f:Int->Option (Bool×Nat)}{k:Int}{t:Addr}{b:Bool}{n:Nat}(L:(l.map (·.1)).Nodup) (O:∀x∈l,H x.2.1=some (.tup (iQ x.2.2.1 x.2.2.2))) (I:∀j,(Tb.look l j).map (·.2)=f j) (R:l.length<=999\/(f k≠none/\l.length<=1000)) (J:H t=some (.tup (iQ b n))) :
  ∃G:CH,putK (Tb.dk qu l) (Sum.inl k) (.ref t)=Tb.dk qu G/\(G.map (·.1)).Nodup/\(∀x∈G,H x.2.1=some (.tup (iQ x.2.2.1 x.2.2.2)))/\(∀j,(Tb.look G j).map (·.2)=Pg.dg f k (some (b,n)) j)/\G.length<=1000:=by
 have N:∀G:CH,(∀j,Tb.look G j=if j=k then some (t,b,n)else Tb.look l j)->∀j,(Tb.look G j).map (·.2)=Pg.dg f k (some (b,n)) j:=by
  intro G h j;rw[h j];by_cases e:j=k
  .rw[if_pos e,e,Pg.bp];rfl
  .rw[if_neg e,Pg.aH e];exact I j
 cases e:Tb.look l k with
 |none =>
  have S:f k=none:=(by rw[<-I k,e];rfl);refine⟨l++[(k,(t,b,n))],Tb.cu (f:=qu) (a:=(t,b,n)) e,?_,λx F=>?_,N _ λj=>Tb.bK j e,?_⟩
  .rw[map_append];exact fZ L (Tb.cj e)
  .rcases List.mem_append.mp F with F|F
   .exact O x F
   .rw[List.mem_singleton.mp F];exact J
  .rw[length_append,length_singleton];rcases R with h|h
   .omega
   .exact absurd S h.1
 |some y =>
  refine⟨Tb.aX l k (t,b,n),Tb.gO (f:=qu) (a:=(t,b,n)) e,by rw[Tb.eX];exact L,λx F=>?_,N _ λj=>Tb.bS j e,?_⟩
  .rcases Tb.mem_set F with rfl|⟨F,_⟩
   .exact J
   .exact O x F
  .rw[Tb.gc];omega
theorem bJ.yV {C CS t:Addr}{H:Hp}{s:Pg.PS}{l:CH}{f:Int->Option (Bool×Nat)}{k:Int}{b:Bool}{n:Nat}(ok:A.Ok M)
  (S:∃dx,H A.pg=some (.ins C dx (cH A s.ls))) (U:aQ CS H M A.fp A.fo A.fc (s.ow true) (s.co true)) (sl:aQ CS H M A.sp A.so A.sc (s.ow false) (s.co false)) (L:H A.il=some (.lst (s.inf.map V.int))) (le:∀b,(s.ow b).length<=60)
  (hd:H A.pd=some (.dK (Tb.dk qu l))) (nd:(l.map (·.1)).Nodup) (ht:∀x∈l,H x.2.1=some (.tup (iQ x.2.2.1 x.2.2.2))) (Y:∀j,(Tb.look l j).map (·.2)=f j) (ab:l.length<=999\/(f k≠none/\l.length<=1000)) (J:H t=some (.tup (iQ b n))) (N:∀j,s.pl j=Pg.dg f k (some (b,n)) j) :
  bJ C CS (upd H A.pd (.dK (putK (Tb.dk qu l) (Sum.inl k) (.ref t)))) M A s:=by
 have o:Off (· = A.pd) H (upd H A.pd (.dK (putK (Tb.dk qu l) (Sum.inl k) (.ref t)))):=λb o e z=>(by rw[ai z];exact e);obtain⟨O,e1,I,G,R,e5⟩:=AK (k:=k) nd ht Y ab J;obtain⟨dx,h1⟩:=S;refine⟨⟨dx,o _ _ h1 (ok.n 0 7 rfl rfl av)⟩,U.off o (in1 (ok.m 7 rfl)) (ok.n 1 7 rfl rfl av) (ok.n 2 7 rfl rfl av) (ok.n 3 7 rfl rfl av),sl.off o (in1 (ok.m 7 rfl)) (ok.n 4 7 rfl rfl av) (ok.n 5 7 rfl rfl av) (ok.n 6 7 rfl rfl av),o _ _ L (ok.n 8 7 rfl rfl av),le,
  ⟨O,by rw[ae,e1],I,λx F=>o _ _ (G x F) (cB (G x F) hd (by intro z;cases z)),λj=>by rw[N j];exact R j,e5⟩⟩
theorem kB {α:Type}{k:Int}:∀{l:List (Int×α)},(l.map (·.1)).Nodup->l.length<=(Tb.bf l k).length+1
 | [],_=>zero_le _
 |x::r,h=>by
  obtain⟨G,F⟩:=List.nodup_cons.mp (show(x.1::r.map (·.1)).Nodup from h);have I:=kB (k:=k) F;unfold Tb.bf at I ⊢;rw[filter_cons];by_cases c:x.1=k
  .rw[if_neg (by simp[c])];have:r.filter (λx=>decide (x.1≠k))=r:=by
    rw[filter_eq_self];intro y J;have:y.1≠k:=λe=>G (by rw[c, <-e];exact List.mem_map.mpr ⟨y,J,rfl⟩);simpa using this
   rw[this,length_cons];exact le_refl _
  .rw[if_pos (by simpa using c),length_cons,length_cons];omega
theorem AY {s:Pg.PS}(G:Pg.Good s) (le:∀b,(s.ow b).length<=60) {l:CH}(S:(l.map (·.1)).Nodup) (I:∀x∈l,s.pl x.1=some x.2.2):l.length<=120:=by
 have lt:∀x∈l,x.2.2.2<60:=λx F=>by
  obtain⟨cs,c,_,h2,_,_⟩:=G.va x.1 x.2.2.1 x.2.2.2 (I x F);have h3:=(List.getElem?_eq_some_iff.mp h2).1;have Y:=le x.2.2.1;omega
 have:=Tb.zM 120 0 (l.map λx=>if x.2.2.1=true then(x.2.2.2:Int)else 60+(x.2.2.2:Int)) ?_ ?_
 .rwa [length_map]at this
 .refine List.pairwise_map.mpr ((List.pairwise_map.mp S).imp_of_mem ?_);intro a b O N U e;have h1:=lt a O;have h2:=lt b N;refine U (G.inj a.1 b.1 b.2.2 ?_ (I b N));rw[I a O];congr 1;have e:(if a.2.2.1=true then(a.2.2.2:Int)else 60+(a.2.2.2:Int))=if b.2.2.1=true then(b.2.2.2:Int)else 60+(b.2.2.2:Int):=e
  refine Prod.ext ?_ ?_
  .cases J:a.2.2.1<;>cases L:b.2.2.1
   .rfl
   .rw[J,L,if_neg av,if_pos rfl]at e;omega
   .rw[J,L,if_pos rfl,if_neg av]at e;omega
   .rfl
  .split at e<;>split at e<;>omega
 .intro x F;obtain⟨y,R,rfl⟩:=List.mem_map.mp F;have h1:=lt y R;split<;>omega
theorem vj {s:Pg.PS}(G:Pg.Good s) (le:(s.ow true).length<=60):s.inf.length<=60:=by
 have:=Tb.zM 60 0 (s.inf.map λk=>match s.pl k with|some p=>(p.2:Int)|none=>0) ?_ ?_
 .rwa [length_map]at this
 .refine List.pairwise_map.mpr (G.nd.imp_of_mem ?_);intro a b R N O e;obtain⟨n,F⟩:=(G.fi a).mp R;obtain⟨m,I⟩:=(G.fi b).mp N;rw[F,I]at e;have e:(n:Int)=m:=e;have e:n=m:=af;subst e;exact O (G.inj _ _ _ F I)
 .intro x J;obtain⟨y,L,rfl⟩:=List.mem_map.mp J;obtain⟨n,F⟩:=(G.fi y).mp L;obtain⟨cs,c,_,h2,_,_⟩:=G.va _ _ _ F;have S:=(List.getElem?_eq_some_iff.mp h2).1;rw[F];show 0<=(n:Int)/\(n:Int)<0+(60:Nat);omega
end
section
variable {P:Program}{w:World}{K:PySem.W.Frag}{mg:Str->Option Value}{base:Heap}
inductive k5 (C CS:Addr) (vs:List V) (H:Hp) (Q:VK) (e3:XK):Prop
 |mk (M:Addr->Prop) (A:PA) (s:Pg.PS) (k:Int) (n:Nat) (cs:List Int) (c:Nat) (_:vs=[.ref A.pg,.int k]) (_:bJ C CS H M A s) (_:A.Ok M) (_:(∀b,M b->H b≠none)) (_:s.pl k=some (true,n)) (_:Pg.Vw s k cs c) (_:¬ k∈s.inf) (_:(0:Int)∈s.ow false) (_:(∀b,(s.co b).length=(s.ow b).length)) (_:1<=c) (_:c<=1000) (_:∀H':Hp,bJ C CS H' M A (Pg.out s k n cs c)->Off A.own H H'->Q .non H'):k5 C CS vs H Q e3
theorem E1:aC ["self","sheet","moved"] ["self","sheet"] (ar oK):=⟨rfl,rfl,rfl,ah,rfl,ah,ah⟩
theorem tP {f C CS:Addr}{fd:FuncData}(F:cN K "put_out" "Paging.put_out" oK f fd) (T:nc K mg C) (a2:Df P w K mg base aW 4 "lift" (qm CS)) (ad:Df P w K mg base aW 4 "settle" (js CS)) (aT:Md P w K mg base aW 2 C "number_of" (cY C CS)):bg P w K mg base aW 5 f fd ["self","sheet"] (k5 C CS):=by
 refine F.ok E1 (λvs H Q E h=>?_) (λa7 A outer s H vs Q E O h=>?_)
 .obtain⟨M,I,s',k,n,cs,c,rfl,_⟩:=h;rfl
 .obtain⟨M,I,s',k,n,cs,c,rfl,G,ok,mt,U,hv,ni,h0,ab,c1,c2,q⟩:=h;obtain⟨dx,h1⟩:=G.ob;obtain⟨b',n',e1,e2,e3⟩:=hv;rw[U]at e1;cases e1;obtain⟨l,hd,nd,N,hl,a5⟩:=G.pd;have hs:sizeLine=16777216:=sizeLine_eq;refine⟨_,(ag (aK (i:=2) E1.nd rfl (Or.inl rfl) (pc a2 O aw (aa (aJ (pv 0) rfl) (aa (pm (pv 0) T.cl aT O aw (aa (pv 1) aj)) aj))))
   (ao (jk (bh O) (aJ (pv 0) rfl) (pv 1) (cF (aa aI (aa (pc ad O aw (aa (aJ (pv 0) rfl) (aa (pv 2) aj))) aj))) rfl))),?_⟩
  try dsimp only[cxK]
  refine⟨_,rfl,I.pg,C,dx,_,_,rfl,h1,T.cl,T.nF,nE _ _,?_⟩;refine⟨_,rfl,I.pg,dx,_,rfl,h1,cE _ _ ah ah ah ah ah,_,rfl,M,I,s',k,true,n,rfl,G,U,?_⟩;refine⟨I.fp,I.fo,I.fc,M,_,_,n,cs,c,rfl,G.fr,ok.m 2 rfl,ok.m 3 rfl,mt,ok.n 2 3 rfl rfl av,G.le true,e3,c1,c2,e2,?_⟩;intro H1 t l0 ft a3 nl a4 S1 R;have ac:=R _ _ h1 (fP (ok.n 0 2 rfl rfl av) (ok.n 0 3 rfl rfl av));have am:=G.sl.off R (ED (ok.m 2 rfl) (ok.m 3 rfl)) (fP (ok.n 4 2 rfl rfl av) (ok.n 4 3 rfl rfl av)) (fP (ok.n 5 2 rfl rfl av) (ok.n 5 3 rfl rfl av)) (fP (ok.n 6 2 rfl rfl av) (ok.n 6 3 rfl rfl av));refine⟨_,rfl,I.pg,C,dx,_,_,rfl,ac,T.cl,T.nS,vz _ _,_,rfl,I.sp,I.so,I.sc,t,l0,M,_,_,cs,c,rfl,am,ok.m 5 rfl,ok.m 6 rfl,mR S1 R mt,ok.n 5 6 rfl rfl av,(ab false).symm,G.le false,h0,a3,a4,nl,c1,c2,?_⟩;intro H2 S2 O2;refine⟨by show 2<=sizeLine;decide,λu S=>?_⟩;have a0:=(S1.off O2 (ED (ok.m 5 rfl) (ok.m 6 rfl)) (fP (ok.n 1 5 rfl rfl av) (ok.n 1 6 rfl rfl av)) (fP (ok.n 2 5 rfl rfl av) (ok.n 2 6 rfl rfl av)) (fP (ok.n 3 5 rfl rfl av) (ok.n 3 6 rfl rfl av))).keep (cK (o:=.tup (iQ false ((s'.ow false).idxOf 0))) S);have as:=S2.keep (cK (o:=.tup (iQ false ((s'.ow false).idxOf 0))) S);have L:∀b o,H b=some o->¬ (b=I.fo\/b=I.fc)->¬ (b=I.so\/b=I.sc)->upd H2 u (.tup (iQ false ((s'.ow false).idxOf 0))) b=some o:=λb o e z1 z2=>cK S b o (O2 b o (R b o e z1) z2) id;have hu:upd H2 u (.tup (iQ false ((s'.ow false).idxOf 0))) u=some (.tup (iQ false ((s'.ow false).idxOf 0))):=ae;have kd:=L _ _ hd (fP (ok.n 7 2 rfl rfl av) (ok.n 7 3 rfl rfl av)) (fP (ok.n 7 5 rfl rfl av) (ok.n 7 6 rfl rfl av));have Y:=L _ _ h1 (fP (ok.n 0 2 rfl rfl av) (ok.n 0 3 rfl rfl av)) (fP (ok.n 0 5 rfl rfl av) (ok.n 0 6 rfl rfl av));have ki:=L _ _ G.il (fP (ok.n 8 2 rfl rfl av) (ok.n 8 3 rfl rfl av)) (fP (ok.n 8 5 rfl rfl av) (ok.n 8 6 rfl rfl av));have aB:=G.fr.hw;have a1:=G.sl.hw;obtain⟨_,ap,_⟩:=G.fr.hc;obtain⟨_,a6,_⟩:=G.sl.hc;have kt:∀x∈l,upd H2 u (.tup (iQ false ((s'.ow false).idxOf 0))) x.2.1=some (.tup (iQ x.2.2.1 x.2.2.2)):=λx J=>L _ _ (N x J) (fP (cB (N x J) aB (by intro z;cases z)) (cB (N x J) ap (by intro z;cases z))) (fP (cB (N x J) a1 (by intro z;cases z)) (cB (N x J) a6 (by intro z;cases z)));show Ad K _ _ _ (upd H2 u (.tup (iQ false ((s'.ow false).idxOf 0)))) _;generalize upd H2 u (.tup (iQ false ((s'.ow false).idxOf 0)))=H3 at *;refine⟨_,rfl,I.pg,C,dx,_,_,rfl,Y,T.cl,T.nP,mQ _ _,_,rfl,I.pd,_,rfl,fQ.k (k:=Sum.inl k) kd (by rw[Tb.cq];omega),?_⟩;refine q _ (bJ.yV (s:=Pg.out s' k n cs c) (f:=s'.pl) (b:=false) (n:=(s'.ow false).idxOf 0) ok ⟨dx,Y⟩ a0 as ?_ ?_ kd nd kt hl (.inr ⟨by rw[U];simp,a5⟩) hu ?_) ?_
  .show H3 I.il=some (.lst ((s'.inf.erase k).map V.int));rw[List.erase_of_not_mem ni];exact ki
  .intro b;cases b
   .show(List.set _ _ _).length<=60;rw[length_set];exact G.le false
   .show(List.set _ _ _).length<=60;rw[length_set];exact G.le true
  .intro j;by_cases e:j=k
   .subst e;exact Pg.bp.trans Pg.bp.symm
   .exact(Pg.aH e).trans ((Pg.aH e).trans (Pg.aH e).symm)
  .intro b o e z;rw[ai (λy=>z (by rw[y];exact PA.fG 5 rfl))];exact L b o e (λy=>z (y.elim (λy=>by rw[y];exact PA.fG 1 rfl) λy=>by rw[y];exact PA.fG 2 rfl)) (λy=>z (y.elim (λy=>by rw[y];exact PA.fG 3 rfl) λy=>by rw[y];exact PA.fG 4 rfl))
noncomputable abbrev lh:Stmt:=inClass (top 14) 7
inductive ic (C CS:Addr) (vs:List V) (H:Hp) (Q:VK) (e3:XK):Prop
 |mk (M:Addr->Prop) (A:PA) (s:Pg.PS) (k:Int) (t l:Addr) (cs:List Int) (c:Nat) (_:vs=[.ref A.pg,.int k,.ref t]) (_:bJ C CS H M A s) (_:A.Ok M) (_:(∀b,M b->H b≠none)) (_:Pg.Good { s with pl:=Pg.dg s.pl k none }) (_:((0:Int)∈s.ow true\/(0:Int)∈s.ow false)) (_:s.ow true≠[]) (_:(∀b,∀x∈s.ow b,x<=1000)) (_:H t=some (.tup [.ref l,.int c])) (_:H l=some (.lst (cs.map V.int))) (_:¬ M l) (_:1<=c) (_:c<=1000) (_:∀(H':Hp) (s':Pg.PS),Pg.BI { s with pl:=Pg.dg s.pl k none } k cs c s'->bJ C CS H' M A s'->Off A.own H H'->Q .non H'):ic C CS vs H Q e3
theorem qI (A:PA) (n:Int):(cH A n).lookup ("in_frames" : Str)=some (.ref A.il):=by
 unfold cH;rw[aD,if_pos rfl]
theorem GZ:aC ["self","sheet","moved"] ["self","sheet","moved"] (ar lh):=⟨rfl,rfl,rfl,ah,rfl,ah,ah⟩
theorem rC {f C CS:Addr}{fd:FuncData}(F:cN K "bring_in" "Paging.bring_in" lh f fd) (T:nc K mg C) (TS:Txt K mg CS) (GF:Md P w K mg base aW 1 CS "free" (pN CS)) (bv:Md P w K mg base aW 5 C "put_out" (k5 C CS)) (a5:Df P w K mg base aW 4 "settle" (js CS)):bg P w K mg base aW 6 f fd ["self","sheet","moved"] (ic C CS):=by
 refine F.ok GZ (λvs H Q E h=>?_) (λb3 A outer s H vs Q E hr h=>?_)
 .obtain⟨M,I,s',k,t,l,cs,c,rfl,_⟩:=h;rfl
 .obtain⟨M,I,s',k,t,l0,cs,c,rfl,G,ok,mt,gd,hf,hn,hb,L,bz,nl,c1,c2,q⟩:=h;obtain⟨dx,h1⟩:=G.ob;obtain⟨bn,h2⟩:=G.fr.ob;have hs:sizeLine=16777216:=sizeLine_eq;have a7:¬ I.own l0:=λz=>nl (ok.own _ z);refine⟨_,(ag (aS (az bN (wK (aJ (pv 0) rfl) TS.cl GF hr aw) ak (aG _)) (ao (aL (pm (pv 0) T.cl bv hr aw (aa (gS plainAttrs_list PySem.F.slot_list_pop PySem.F.type_list_pop yW (aJ (pv 0) rfl) (aa ak aj)) aj)))) aF)
   (ag (jk (bh hr) (aJ (pv 0) rfl) (pv 1) (cF (aa aI (aa (pc a5 hr aw (aa (aJ (pv 0) rfl) (aa (pv 2) aj))) aj))) rfl)
   (ao (aL (gS plainAttrs_list PySem.F.slot_list_append PySem.F.type_list_append jT (aJ (pv 0) rfl) (aa (pv 1) aj)))))),?_⟩
  try dsimp only[cxK]
  refine share (λσ H9=>wX λ(J O:Pg.PS)=>Ep (σ=[some (.ref I.pg),some (.int k),some (.ref t)]) (bJ C CS H9 M I J) (O.ow=J.ow) (O.co=J.co) (O.ls=J.ls) (O.inf=J.inf) ((∀j,j≠k->O.pl j=J.pl j)) (Pg.Good O) ((0:Int)∈O.ow true) (Pg.BI { s' with pl:=Pg.dg s'.pl k none } k cs c (Pg.vx O true k cs c)) (Off I.own H H9)) (λu' ap=>?A) ?B
  case A =>
   refine⟨_,rfl,I.pg,C,dx,_,_,rfl,h1,T.cl,T.nF,nE _ _,I.fp,bn,_,rfl,h2,aV _ _ ah ah,I.fp,I.fo,I.fc,M,_,_,rfl,G.fr,rfl,_,rfl,?_⟩;refine gF (λz'=>?_) (λz'=>?_)
   rotate_left
   .have z:(0:Int)∈s'.ow true:=Classical.byContradiction λn=>z' (by rw[List.count_eq_zero.mpr n];simp);exact ap _ _ ⟨s', { s' with pl:=Pg.dg s'.pl k none },rfl,G,rfl,rfl,rfl,rfl,λj hj=>Pg.aH hj,gd,z,.free z,λb o e _=>e⟩
   .have z:¬ (0:Int)∈s'.ow true:=List.count_eq_zero.mp (by
     have:(((s'.ow true).count 0:Nat):Int)=0:=(by simpa using z');omega)
    rcases Pg.Ei gd hf hn with h|⟨_,am,R,r,n0,aT,c0,hi,U,ab⟩
    .exact absurd h z
    .have bi:R≠k:=λe=>by
      have U:Pg.dg s'.pl k none R=some (true,n0):=U;rw[e,Pg.bp]at U;cases U
     have hi:s'.inf=R::r:=hi;have bI:=(gd.vw ab).1;obtain⟨og,_,_,bb,_,_,bY⟩:=Pg.rE gd U ab am;obtain⟨b1,n1,e1,e2,e3⟩:=id ab;rw[U]at e1;cases e1;have aB:s'.pl R=some (true,n0):=(by rw[<-U];exact(Pg.aH bi).symm);have bG:=hb true c0 (mem_of_getElem? e3);obtain⟨as,rfl⟩:∃c':Nat,c0=c':=⟨c0.toNat,af⟩;have S:=gd.nd;have S:s'.inf.Nodup:=S;rw[hi]at S;obtain⟨n1,n2⟩:=List.nodup_cons.mp S;have N:=G.lR ok r;have Y:Off I.own H (upd H I.il (.lst (r.map V.int))):=λb o e z=>(by rw[ai (λy=>z (by rw[y];exact PA.fG 6 rfl))];exact e);have ac:=G.il;rw[hi]at ac;refine⟨_,rfl,I.pg,dx,_,rfl,h1,cE _ _ ah ah ah ah ah,_,rfl,I.pg,C,dx,_,_,rfl,h1,T.cl,T.nI,qI _ _,.inl ⟨rfl,_,bE.of ac⟩,I.il,_,0,0,.int R,rfl,rfl,ac,av,av,seqIndex_of (Int.le_refl _) (by rw[length_map,length_cons];omega),rfl,?_⟩;refine⟨M,I,_,R,n0,aT,as,rfl,N,ok,N.alive Y mt,aB,⟨true,n0,aB,e2,e3⟩,n1,am,gd.ln,af,af,λH2 G2 O2=>?_⟩;refine ap _ _ ⟨_,Pg.out { s' with pl:=Pg.dg s'.pl k none } R n0 aT as,rfl,G2,rfl,rfl,rfl,?_,?_,og,bb,.full z am hi U ab,λb o e y=>O2 b o (Y b o e y) y⟩
     .show s'.inf.erase R=r.erase R;rw[hi,List.erase_cons_head,List.erase_of_not_mem n1]
     .intro j hj;by_cases e:j=R
      .subst e;exact Pg.bp.trans Pg.bp.symm
      .exact(Pg.aH e).trans ((Pg.aH e).trans ((Pg.aH hj).trans ((Pg.aH e).trans (Pg.aH e)).symm))
  case B =>
   rintro σ H9 ⟨J,O,rfl,N,w1,w2,w3,w4,w5,g2,z0,bx,Y⟩;obtain⟨ad,h3⟩:=N.ob;have a3:H9 t=some (.tup [.ref l0,.int c]):=Y _ _ L λy=>by
    obtain⟨_,q1,_⟩:=G.fr.hc;obtain⟨_,q2,_⟩:=G.sl.hc;obtain⟨_,q3,_⟩:=G.pd;have q4:=G.fr.hw;have q5:=G.sl.hw;have q6:=G.il;unfold PA.own at y;simp only[mem_cons,not_mem_nil,or_false]at y;rcases y with y|y|y|y|y|y|y<;>rw[y]at L
    .rw[h1]at L;cases L
    .rw[q4]at L;cases L
    .rw[q1]at L;cases L
    .rw[q5]at L;cases L
    .rw[q2]at L;cases L
    .rw[q3]at L;cases L
    .rw[q6]at L;cases L
   have bm:=Y _ _ bz a7;obtain⟨l,hd,S,ht,hl,b0⟩:=N.pd;have ba:l.length<=999:=by
    have a1:=kB (k:=k) S;have a2:=AY g2 (λb=>by rw[w1];exact N.le b) (l:=Tb.bf l k) (by rw[Tb.iU];exact S.filter _) λx hx=>by
     obtain⟨hx,a6⟩:=Tb.bW hx;have:=hl x.1;rw[Tb.bX S hx]at this;rw[w5 x.1 a6, <-this];rfl
    omega
   rw[w1]at z0;have a0:(J.co true).length=(J.ow true).length:=(by rw[<-w1, <-w2];exact g2.ln true);refine⟨_,rfl,I.pg,C,ad,_,_,rfl,h3,T.cl,T.nF,nE _ _,_,rfl,I.fp,I.fo,I.fc,t,l0,M,_,_,cs,c,rfl,N.fr,ok.m 2 rfl,ok.m 3 rfl,N.alive Y mt,ok.n 2 3 rfl rfl av,a0.symm,N.le true,z0,a3,bm,nl,c1,c2,?_⟩;intro H2 S2 O2;refine⟨by show 2<=sizeLine;decide,λu fu=>?_⟩;have a4:=S2.keep (cK (o:=.tup (iQ true ((J.ow true).idxOf 0))) fu);have bd:=(N.sl.off O2 (ED (ok.m 2 rfl) (ok.m 3 rfl)) (fP (ok.n 4 2 rfl rfl av) (ok.n 4 3 rfl rfl av)) (fP (ok.n 5 2 rfl rfl av) (ok.n 5 3 rfl rfl av)) (fP (ok.n 6 2 rfl rfl av) (ok.n 6 3 rfl rfl av))).keep (cK (o:=.tup (iQ true ((J.ow true).idxOf 0))) fu);have kp:∀b o,H9 b=some o->¬ (b=I.fo\/b=I.fc)->upd H2 u (.tup (iQ true ((J.ow true).idxOf 0))) b=some o:=λb o e z1=>cK fu b o (O2 b o e z1) id;have hu:upd H2 u (.tup (iQ true ((J.ow true).idxOf 0))) u=some (.tup (iQ true ((J.ow true).idxOf 0))):=ae;have kd:=kp _ _ hd (fP (ok.n 7 2 rfl rfl av) (ok.n 7 3 rfl rfl av));have ko:=kp _ _ h3 (fP (ok.n 0 2 rfl rfl av) (ok.n 0 3 rfl rfl av));have ki:=kp _ _ N.il (fP (ok.n 8 2 rfl rfl av) (ok.n 8 3 rfl rfl av));have be:=N.fr.hw;obtain⟨_,bc,_⟩:=N.fr.hc;have kt:∀x∈l,upd H2 u (.tup (iQ true ((J.ow true).idxOf 0))) x.2.1=some (.tup (iQ x.2.2.1 x.2.2.2)):=λx hx=>kp _ _ (ht x hx) (fP (cB (ht x hx) be (by intro z;cases z)) (cB (ht x hx) bc (by intro z;cases z)));show Ad K _ _ _ (upd H2 u (.tup (iQ true ((J.ow true).idxOf 0)))) _;generalize upd H2 u (.tup (iQ true ((J.ow true).idxOf 0)))=H3 at *;refine⟨_,rfl,I.pg,C,ad,_,_,rfl,ko,T.cl,T.nP,mQ _ _,_,rfl,I.pd,_,rfl,fQ.k (k:=Sum.inl k) kd (by rw[Tb.cq];omega),?_⟩;have G4:=bJ.yV (C:=C) (CS:=CS) (s:={ Pg.vx J true k cs c with inf:=J.inf }) (f:=J.pl) (k:=k) (b:=true) (n:=(J.ow true).idxOf 0) ok ⟨ad,ko⟩ a4 bd ki (λb=>by
    cases b
    .exact N.le false
    .show(List.set _ _ _).length<=60;rw[length_set];exact N.le true) kd S kt hl (.inl ba) hu (λj=>rfl)
   have O4:Off I.own H (upd H3 I.pd (.dK (putK (Tb.dk qu l) (Sum.inl k) (.ref u)))):=λb o e z=>by
    rw[ai (λy=>z (by rw[y];exact PA.fG 5 rfl))];exact kp b o (Y b o e z) (λy=>z (y.elim (λy=>by rw[y];exact PA.fG 1 rfl) λy=>by rw[y];exact PA.fG 2 rfl))
   generalize upd H3 I.pd (.dK (putK (Tb.dk qu l) (Sum.inl k) (.ref u)))=H4 at *;obtain⟨bl,h4⟩:=G4.ob;have b2:J.inf.length<=60:=(by rw[<-w4];exact vj g2 (by rw[w1];exact N.le true));refine⟨_,rfl,I.pg,C,bl,_,_,rfl,h4,T.cl,T.nI,qI _ _,.inl ⟨rfl,_,bE.of G4.il⟩,_,rfl,I.il,_,.int k,rfl,rfl,G4.il,by rw[length_map];show J.inf.length<_;omega,?_⟩;have G5:=G4.lR ok (J.inf++[k]);rw[map_append]at G5;refine q _ _ bx (G5.Cf ?_ ?_ w3 ?_ ?_) λb o e z=>by
    rw[ai (λy=>z (by rw[y];exact PA.fG 6 rfl))];exact O4 b o e z
   .show Pg.upd O.ow true _=Pg.upd J.ow true _;rw[w1]
   .show Pg.upd O.co true _=Pg.upd J.co true _;rw[w1,w2]
   .show O.inf++[k]=J.inf++[k];rw[w4]
   .intro j;show Pg.dg O.pl k _ j=Pg.dg J.pl k _ j;by_cases e:j=k
    .rw[e,Pg.bp,Pg.bp,w1]
    .rw[Pg.aH e,Pg.aH e];exact w5 j e
end
end St
namespace Pg
theorem qP {α:Type}{f:Bool->α}{b:Bool}:upd f b (f b)=f:=by
 funext c;by_cases e:c=b
 .rw[e,ae]
 .rw[aU e]
theorem xh {α:Type}{f:Int->α}{k:Int}{v:α}(h:f k=v):dg f k v=f:=by
 funext c;by_cases e:c=k
 .rw[e,bp,h]
 .rw[aH e]
theorem sD {s:PS}(G:Good s):({ next s with pl:=dg (next s).pl (s.ls+1) none }:PS)=next s:=by
 have e:dg s.pl (s.ls+1) none=s.pl:=xh (eR G);show PS.mk s.ow s.co (dg s.pl (s.ls+1) none) (s.ls+1) s.inf=PS.mk s.ow s.co s.pl (s.ls+1) s.inf;rw[e]
theorem vf {s:PS}{k:Int}{n:Nat}(G:Good s) (I:s.pl k=some (false,n)):¬ k∈s.inf:=λh=>by
 obtain⟨m,F⟩:=(G.fi k).mp h;rw[I]at F;cases F
theorem sv {s:PS}{k:Int}{n:Nat}(G:Good s) (F:s.pl k=some (false,n)):({ ck s false n 0 with pl:=dg (ck s false n 0).pl k none }:PS)=mO s k false n:=by
 show PS.mk (upd s.ow false ((s.ow false).set n 0)) s.co (dg s.pl k none) s.ls s.inf=PS.mk (upd s.ow false ((s.ow false).set n 0)) s.co (dg s.pl k none) s.ls (s.inf.erase k);rw[List.erase_of_not_mem (vf G F)]
noncomputable def Cb (s:PS):Prop:=∀b,∀x∈s.ow b,x<=1000
theorem Dm {ow:Bool->List Int}{b:Bool}{n:Nat}{x:Int}(h:∀b,∀x∈ow b,x<=1000) (G:x<=1000):∀c,∀y∈upd ow b ((ow b).set n x) c,y<=1000:=by
 intro c y F;by_cases e:c=b
 .rw[e,ae]at F;rcases List.mem_or_eq_of_mem_set F with h' |h'
  .exact h b y h'
  .rw[h'];exact G
 .rw[aU e]at F;exact h c y F
end Pg
namespace Pg
theorem RI.cb {s:PS}{es:List Ent}(R:RI s es) (le:∀b,(s.ow b).length<=60):Cb s:=by
 intro b x I;obtain⟨n,F⟩:=List.getElem?_of_mem I;rcases R.good.on b n x F with e|⟨k,G⟩
 .omega
 .obtain⟨cs,c,h1,h2,_,_⟩:=R.good.va _ _ _ G;rw[F]at h2;cases h2;have O:=R.ct k cs x ⟨b,n,G,h1,F⟩;have L:=List.count_le_length (a:=some k) (l:=es);have S:=R.rm;have J:=le true;have N:=le false;omega
end Pg
namespace St
open PySem L2
section
variable {A:PA}{M:Addr->Prop}
theorem yu (A:PA) (n:Int):(cH A n).lookup ("last_sheet" : Str)=some (.int n):=by
 unfold cH;rw[aD,if_neg ah,aD,if_pos rfl]
theorem xu (A:PA) (n:Int):cH A n=([("frames",.ref A.fp),("slots",.ref A.sp),("places",.ref A.pd),("last_sheet",.int n),("in_frames",.ref A.il)]:List (Str×V)):=by
 have R:¬ (("frames" : Str) = "slots"):=ah;have J:¬ (("frames" : Str) = "places"):=ah;have U:¬ (("frames" : Str) = "last_sheet"):=ah;have L:¬ (("frames" : Str) = "in_frames"):=ah;have F:¬ (("slots" : Str) = "places"):=ah;have G:¬ (("slots" : Str) = "last_sheet"):=ah;have O:¬ (("slots" : Str) = "in_frames"):=ah;have S:¬ (("places" : Str) = "last_sheet"):=ah;have N:¬ (("places" : Str) = "in_frames"):=ah;have I:¬ (("last_sheet" : Str) = "in_frames"):=ah;unfold cH;simp only[bj,if_neg R,if_neg J,if_neg U,if_neg L,if_neg F,if_neg G,if_neg O,if_neg S,if_neg N,if_neg I]
theorem CN (A:PA) (n m:Int):bj "last_sheet" (.int m) (cH A n)=cH A m:=by
 have I:¬ (("frames" : Str) = "last_sheet"):=ah;have F:¬ (("slots" : Str) = "last_sheet"):=ah;have G:¬ (("places" : Str) = "last_sheet"):=ah;rw[xu,xu];simp only[bj,if_neg I,if_neg F,if_neg G,if_true]
theorem bJ.Ez {C CS dx:Addr}{H:Hp}{s:Pg.PS}(G:bJ C CS H M A s) (ok:A.Ok M) (n:Int):bJ C CS (upd H A.pg (.ins C dx (cH A n))) M A { s with ls:=n }:=by
 have o:Off (· = A.pg) H (upd H A.pg (.ins C dx (cH A n))):=λb o e z=>(by rw[ai z];exact e);obtain⟨O,h1⟩:=G.ob;obtain⟨l,hd,N,I,J,L⟩:=G.pd;exact⟨⟨dx,ae⟩,G.fr.off o (in1 (ok.m 0 rfl)) (ok.n 1 0 rfl rfl av) (ok.n 2 0 rfl rfl av) (ok.n 3 0 rfl rfl av),G.sl.off o (in1 (ok.m 0 rfl)) (ok.n 4 0 rfl rfl av) (ok.n 5 0 rfl rfl av) (ok.n 6 0 rfl rfl av),o _ _ G.il (ok.n 8 0 rfl rfl av),G.le,
  ⟨l,o _ _ hd (ok.n 7 0 rfl rfl av),N,λx F=>o _ _ (I x F) (cB (I x F) h1 (by intro z;cases z)),J,L⟩⟩
theorem bJ.BD {C CS:Addr}{H H':Hp}{s:Pg.PS}(G:bJ C CS H M A s) (ok:A.Ok M) (b:Bool) {os:List Int}{pg:List (Option (List Int))}(S:aQ CS H' M (A.st b) (A.ow b) (A.co b) os pg) (o:Off (λx=>x=A.ow b\/x=A.co b) H H') (U:os.length<=60):bJ C CS H' M A { s with ow:=Pg.upd s.ow b os,co:=Pg.upd s.co b pg }:=by
 obtain⟨J,h1⟩:=G.ob;obtain⟨l,hd,N,I,O,L⟩:=G.pd;have le:∀c,(Pg.upd s.ow b os c).length<=60:=λc=>by
  by_cases e:c=b
  .rw[e,Pg.ae];exact U
  .rw[Pg.aU e];exact G.le c
 have hw:=(G.st b).hw;obtain⟨_,Y,_⟩:=(G.st b).hc;have R:∀x∈l,H' x.2.1=some (.tup (iQ x.2.2.1 x.2.2.2)):=λx F=>o _ _ (I x F) (fP (cB (I x F) hw (by intro z;cases z)) (cB (I x F) Y (by intro z;cases z)));cases b
 .exact⟨⟨J,o _ _ h1 (fP (ok.n 0 5 rfl rfl av) (ok.n 0 6 rfl rfl av))⟩,G.fr.off o (ED (ok.m 5 rfl) (ok.m 6 rfl)) (fP (ok.n 1 5 rfl rfl av) (ok.n 1 6 rfl rfl av)) (fP (ok.n 2 5 rfl rfl av) (ok.n 2 6 rfl rfl av)) (fP (ok.n 3 5 rfl rfl av) (ok.n 3 6 rfl rfl av)),S,o _ _ G.il (fP (ok.n 8 5 rfl rfl av) (ok.n 8 6 rfl rfl av)),le,
   ⟨l,o _ _ hd (fP (ok.n 7 5 rfl rfl av) (ok.n 7 6 rfl rfl av)),N,R,O,L⟩⟩
 .exact⟨⟨J,o _ _ h1 (fP (ok.n 0 2 rfl rfl av) (ok.n 0 3 rfl rfl av))⟩,S,G.sl.off o (ED (ok.m 2 rfl) (ok.m 3 rfl)) (fP (ok.n 4 2 rfl rfl av) (ok.n 4 3 rfl rfl av)) (fP (ok.n 5 2 rfl rfl av) (ok.n 5 3 rfl rfl av)) (fP (ok.n 6 2 rfl rfl av) (ok.n 6 3 rfl rfl av)),o _ _ G.il (fP (ok.n 8 2 rfl rfl av) (ok.n 8 3 rfl rfl av)),le,
   ⟨l,o _ _ hd (fP (ok.n 7 2 rfl rfl av) (ok.n 7 3 rfl rfl av)),N,R,O,L⟩⟩
theorem bJ.zt {C CS:Addr}{H H':Hp}{s:Pg.PS}(G:bJ C CS H M A s) (ok:A.Ok M) (b:Bool) {os:List Int}(S:aQ CS H' M (A.st b) (A.ow b) (A.co b) os (s.co b)) (o:Off (λx=>x=A.ow b\/x=A.co b) H H') (F:os.length<=60):bJ C CS H' M A { s with ow:=Pg.upd s.ow b os }:=
 (G.BD ok b S o F).Cf rfl Pg.qP.symm rfl rfl λ_=>rfl
theorem bJ.EW {C CS:Addr}{H H':Hp}{s:Pg.PS}(G:bJ C CS H M A s) (ok:A.Ok M) (b:Bool) {pg:List (Option (List Int))}(S:aQ CS H' M (A.st b) (A.ow b) (A.co b) (s.ow b) pg) (o:Off (λx=>x=A.ow b\/x=A.co b) H H'):bJ C CS H' M A { s with co:=Pg.upd s.co b pg }:=
 (G.BD ok b S o (G.le b)).Cf Pg.qP.symm rfl rfl rfl λ_=>rfl
theorem PA.j7 (b:Bool):∀x,x=A.ow b\/x=A.co b->A.own x:=by
 intro x h;cases b
 .rcases h with h|h<;>rw[h]
  .exact PA.fG 3 rfl
  .exact PA.fG 4 rfl
 .rcases h with h|h<;>rw[h]
  .exact PA.fG 1 rfl
  .exact PA.fG 2 rfl
theorem PA.Ok.mo (ok:A.Ok M) (b:Bool):M (A.ow b):=ok.own _ (PA.j7 b _ (.inl rfl))
theorem PA.Ok.mc (ok:A.Ok M) (b:Bool):M (A.co b):=ok.own _ (PA.j7 b _ (.inr rfl))
theorem PA.Ok.oc (ok:A.Ok M) (b:Bool):A.ow b≠A.co b:=by
 cases b
 .exact ok.n 5 6 rfl rfl av
 .exact ok.n 2 3 rfl rfl av
theorem Off.mono {B F:Addr->Prop}{H H':Hp}(o:Off B H H') (h:∀b,B b->F b):Off F H H':=λb u e z=>o b u e λy=>z (h b y)
theorem Off.trans {B:Addr->Prop}{H H' F:Hp}(o:Off B H H') (o':Off B H' F):Off B H F:=λb u e z=>o' b u (o b u e z) z
theorem Off.wr {B:Addr->Prop}{H:Hp}{a:Addr}{o:HO}(h:B a):Off B H (upd H a o):=λb u e z=>by rw[ai (λy=>z (by rw[y];exact h))];exact e
theorem Off.new {B:Addr->Prop}{H:Hp}{a:Addr}{o:HO}(h:H a=none):Off B H (upd H a o):=λb u e z=>cK h b u e id
theorem bJ.Dn {C CS:Addr}{H:Hp}{s:Pg.PS}{l:CH}(G:bJ C CS H M A s) (ok:A.Ok M) (k:Int) (hd:H A.pd=some (.dK (Tb.dk qu l))) (L:(l.map (·.1)).Nodup) (I:∀x∈l,H x.2.1=some (.tup (iQ x.2.2.1 x.2.2.2))) (J:∀j,(Tb.look l j).map (·.2)=s.pl j) (N:l.length<=1000) :
  bJ C CS (upd H A.pd (.dK (Tb.dk qu (Tb.bf l k)))) M A { s with pl:=Pg.dg s.pl k none }:=by
 have o:Off (· = A.pd) H (upd H A.pd (.dK (Tb.dk qu (Tb.bf l k)))):=λb o e z=>(by rw[ai z];exact e);obtain⟨dx,h1⟩:=G.ob;refine⟨⟨dx,o _ _ h1 (ok.n 0 7 rfl rfl av)⟩,G.fr.off o (in1 (ok.m 7 rfl)) (ok.n 1 7 rfl rfl av) (ok.n 2 7 rfl rfl av) (ok.n 3 7 rfl rfl av),G.sl.off o (in1 (ok.m 7 rfl)) (ok.n 4 7 rfl rfl av) (ok.n 5 7 rfl rfl av) (ok.n 6 7 rfl rfl av),o _ _ G.il (ok.n 8 7 rfl rfl av),G.le,
  ⟨Tb.bf l k,ae,by rw[Tb.iU];exact L.filter _,λx F=>?_,λj=>?_,le_trans (List.length_filter_le _ _) N⟩⟩
 .have F:=(Tb.bW F).1;exact o _ _ (I x F) (cB (I x F) hd (by intro z;cases z))
 .rw[Tb.cy];show _=Pg.dg s.pl k none j;by_cases e:j=k
  .rw[if_pos e,e,Pg.bp];rfl
  .rw[if_neg e,Pg.aH e];exact J j
end
theorem vq {D:Ends}{σ:St}{H:Hp}(h:D.nx σ H):rS D σ H:=h
noncomputable abbrev jS:Stmt:=inClass (top 14) 1
noncomputable abbrev tN:Stmt:=inClass (top 14) 2
noncomputable abbrev tq:Stmt:=inClass (top 14) 3
noncomputable abbrev oS:Stmt:=inClass (top 14) 5
noncomputable abbrev uh:Stmt:=inClass (top 14) 6
structure EA (C CS:Addr) (H:Hp) (M:Addr->Prop) (A:PA) (s:Pg.PS):Prop where
 at_:bJ C CS H M A s
 ok:A.Ok M
 mt:∀b,M b->H b≠none
 gd:Pg.Good s
 ne:s.ow true≠[]
 cb:Pg.Cb s
 l0:0<=s.ls
inductive gk (K:PySem.W.Frag) (C CS:Addr) (vs:List V) (H:Hp) (Q:VK) (e3:XK):Prop
 |mk (M:Addr->Prop) (A:PA) (s:Pg.PS) (ca:Addr) (cs:List Int) (_:vs=[.ref A.pg,.ref ca]) (_:EA C CS H M A s) (_:((0:Int)∈s.ow true\/(0:Int)∈s.ow false)) (_:bE K H ca (cs.map V.int)) (_:ca≠A.pg) (_:cs.length=8) (_:∀(H':Hp) (s':Pg.PS),Pg.BI (Pg.next s) (s.ls+1) cs 1 s'->bJ C CS H' M A s'->Off A.own H H'->Q (.int (s.ls+1)) H'):gk K C CS vs H Q e3
inductive kJ (C CS:Addr) (vs:List V) (H:Hp) (Q:VK) (e3:XK):Prop
 |mk (M:Addr->Prop) (A:PA) (s:Pg.PS) (k:Int) (cs:List Int) (c:Int) (_:vs=[.ref A.pg,.int k]) (_:EA C CS H M A s) (_:Pg.Vw s k cs c) (_:∀(H':Hp) (s':Pg.PS),Pg.FE s k s'->bJ C CS H' M A s'->Off A.own H H'->Q .non H'):kJ C CS vs H Q e3
inductive nZ (C CS:Addr) (vs:List V) (H:Hp) (Q:VK) (e3:XK):Prop
 |mk (M:Addr->Prop) (A:PA) (s:Pg.PS) (k:Int) (b:Bool) (n:Nat) (cs:List Int) (c:Int) (_:vs=[.ref A.pg,.int k]) (_:EA C CS H M A s) (_:s.pl k=some (b,n)) (_:Pg.Vw s k cs c) (_:∀H':Hp,bJ C CS H' M A (Pg.ck s b n (c+1))->Off A.own H H'->Q .non H'):nZ C CS vs H Q e3
inductive kS (C CS:Addr) (vs:List V) (H:Hp) (Q:VK) (e3:XK):Prop
 |mk (M:Addr->Prop) (A:PA) (s:Pg.PS) (k:Int) (cs:List Int) (c:Int) (_:vs=[.ref A.pg,.int k]) (_:bJ C CS H M A s) (_:A.Ok M) (_:(∀b,M b->H b≠none)) (_:Pg.Good s) (_:Pg.Vw s k cs c) (_:∀(H':Hp) (s':Pg.PS),Pg.Bo s k s'->bJ C CS H' M A s'->Off A.own H H'->Q .non H'):kS C CS vs H Q e3
inductive lO (C CS:Addr) (vs:List V) (H:Hp) (Q:VK) (e3:XK):Prop
 |mk (M:Addr->Prop) (A:PA) (s:Pg.PS) (k:Int) (ca:Addr) (cs0:List Int) (c0:Int) (cs:List Int) (_:vs=[.ref A.pg,.int k,.ref ca]) (_:EA C CS H M A s) (_:Pg.Vw s k cs0 c0) (_:H ca=some (.lst (cs.map V.int))) (_:¬ A.own ca) (_:cs.length=8) (_:(1<c0->(0:Int)∈s.ow true\/(0:Int)∈s.ow false)) (_:(1<c0->∀(H':Hp) (s1 s2:Pg.PS),Pg.BI (Pg.next s) (s.ls+1) cs 1 s1->Pg.Bo s1 k s2->bJ C CS H' M A s2->Off A.own H H'->Q (.int (s.ls+1)) H')) (_:(c0=1->∀(H':Hp) (s1:Pg.PS) (m:Nat),Pg.FE s k s1->s1.pl k=some (true,m)->bJ C CS H' M A (Pg.write s1 true m cs)->Off A.own H H'->Q (.int k) H')):lO C CS vs H Q e3
section
variable {P:Program}{w:World}{K:PySem.W.Frag}{mg:Str->Option Value}{base:Heap}
theorem FP:aC ["self","cells"] ["self","cells"] (ar jS):=⟨rfl,rfl,rfl,ah,rfl,ah,ah⟩
theorem oa {f C CS:Addr}{fd:FuncData}(F:cN K "new_sheet" "Paging.new_sheet" jS f fd) (T:nc K mg C) (TS:Txt K mg CS) (GF:Md P w K mg base aW 1 CS "free" (pN CS)) (aT:Md P w K mg base aW 6 C "bring_in" (ic C CS)):bg P w K mg base aW 7 f fd ["self","cells"] (gk K C CS):=by
 refine F.ok FP (λvs H Q E h=>?_) (λa3 A outer s H vs Q E L h=>?_)
 .obtain⟨M,I,s',O,cs,rfl,_⟩:=h;rfl
 .obtain⟨M,I,s',O,cs,rfl,R,hf,a2,as,h8,q⟩:=h;have G:=R.at_;have ok:=R.ok;obtain⟨dx,h1⟩:=G.ob;obtain⟨a1,h2⟩:=G.fr.ob;obtain⟨aB,h3⟩:=G.sl.ob;have hs:sizeLine=16777216:=sizeLine_eq;refine⟨_,(ag (aS (az bN (ay bu (wK (aJ (pv 0) rfl) TS.cl GF L aw) (wK (aJ (pv 0) rfl) TS.cl GF L aw)) ak (aG _)) cO aF)
   (ag (wI (pv 0) ak CY)
   (ag (aL (pm (pv 0) T.cl aT L aw (aa (aJ (pv 0) rfl) (aa (cF (aa (bO dN (by rfl) T.list fw (aa (pv 1) aj)) (aa ak aj))) aj))))
   (ao (aE (aJ (pv 0) rfl)))))),?_⟩
  try dsimp only[cxK]
  refine⟨_,rfl,I.pg,C,dx,_,_,rfl,h1,T.cl,T.nF,nE _ _,I.fp,a1,_,rfl,h2,aV _ _ ah ah,I.fp,I.fo,I.fc,M,_,_,rfl,G.fr,?_⟩;refine⟨_,rfl,I.pg,C,dx,_,_,rfl,h1,T.cl,T.nS,vz _ _,I.sp,aB,_,rfl,h3,aV _ _ ah ah,I.sp,I.so,I.sc,M,_,_,rfl,G.sl,_,_,rfl,rfl,rfl,_,rfl,?_⟩;refine gF (λz=>?_) (λ_=>?_)
  .exfalso;have z:(((s'.ow true).count 0:Nat):Int)+(((s'.ow false).count 0:Nat):Int)=0:=(by simpa using z);rcases hf with h|h
   .have:=List.count_pos_iff.mpr h;omega
   .have:=List.count_pos_iff.mpr h;omega
  refine⟨_,rfl,I.pg,C,dx,_,_,rfl,h1,T.cl,T.nL,yu _ _,_,_,rfl,rfl,dx,_,h1,by rw[xu];show 5<1000;decide,?_⟩;rw[CN];have U:=G.Ez (dx:=dx) ok (s'.ls+1);have O1:Off I.own H (upd H I.pg (.ins C dx (cH I (s'.ls+1)))):=Off.wr (PA.fG 0 rfl);have am:bE K (upd H I.pg (.ins C dx (cH I (s'.ls+1)))) O (cs.map V.int):=Rm.d0 a2 λo e=>(by rw[ai as];exact e);have ac:=U.alive O1 R.mt;have ab:upd H I.pg (.ins C dx (cH I (s'.ls+1))) I.pg=some (.ins C dx (cH I (s'.ls+1))):=ae;generalize upd H I.pg (.ins C dx (cH I (s'.ls+1)))=H1 at *;refine⟨_,rfl,I.pg,dx,_,rfl,ab,cE _ _ ah ah ah ah ah,_,rfl,I.pg,C,dx,_,_,rfl,ab,T.cl,T.nL,yu _ _,_,rfl,O,_,rfl,.inl am,λl N=>?_⟩;refine⟨by show 2<=sizeLine;decide,λt J=>?_⟩;have O2:Off I.own H1 (upd (upd H1 l (.lst (cs.map V.int))) t (.tup [.ref l,.int 1])):=(Off.new N).trans (Off.new J);have a0:t≠l:=λe=>(by rw[e,ae]at J;cases J);have ht:upd (upd H1 l (.lst (cs.map V.int))) t (.tup [.ref l,.int 1]) t=some (.tup [.ref l,.int 1]):=ae;have hl:upd (upd H1 l (.lst (cs.map V.int))) t (.tup [.ref l,.int 1]) l=some (.lst (cs.map V.int)):=(by rw[ai (Ne.symm a0),ae]);have G2:bJ C CS (upd (upd H1 l (.lst (cs.map V.int))) t (.tup [.ref l,.int 1])) M I { s' with ls:=s'.ls+1 }:=(U.keep (cK N)).keep (cK J);generalize upd (upd H1 l (.lst (cs.map V.int))) t (.tup [.ref l,.int 1])=H2 at *;have es:=Pg.sD R.gd;refine⟨M,I,Pg.next s',s'.ls+1,t,l,cs,1,rfl,G2,ok,G2.alive O2 ac,by rw[es];exact Pg.m6 R.gd,hf,R.ne,R.cb,ht,hl,λz=>ac l z N,le_refl _,av,λH3 s3 S Y O3=>?_⟩;rw[es]at S;obtain⟨ap,h4⟩:=Y.ob;have ad:s3.ls=s'.ls+1:=(Pg.jZ R.gd R.l0 h8 S).ls;refine⟨_,rfl,I.pg,C,ap,_,_,rfl,h4,T.cl,T.nL,yu _ _,?_⟩;rw[ad];exact q H3 s3 S Y ((O1.trans O2).trans O3)
theorem DX:aC ["self","sheet","place"] ["self","sheet"] (ar uh):=⟨rfl,rfl,rfl,ah,rfl,ah,ah⟩
theorem yP {f C CS:Addr}{fd:FuncData}(F:cN K "fetch" "Paging.fetch" uh f fd) (T:nc K mg C) (zN:Md P w K mg base aW 1 C "place" (hX C CS)) (ap:Md P w K mg base aW 6 C "bring_in" (ic C CS)) (ac:Df P w K mg base aW 4 "lift" (qm CS)):bg P w K mg base aW 7 f fd ["self","sheet"] (kJ C CS):=by
 refine F.ok DX (λvs H Q E h=>?_) (λa0 A outer s H vs Q E U h=>?_)
 .obtain⟨M,I,s',k,cs,c,rfl,_⟩:=h;rfl
 .obtain⟨M,I,s',k,cs,c,rfl,R,Y,q⟩:=h;have G:=R.at_;have ok:=R.ok;have hc:=(R.gd.vw Y).1;obtain⟨b,n,L,e2,e3⟩:=id Y;obtain⟨dx,h1⟩:=G.ob;have hs:sizeLine=16777216:=sizeLine_eq;refine⟨_,(ag (aK (i:=2) DX.nd rfl (Or.inl rfl) (pm (pv 0) T.cl zN U aw (aa (pv 1) aj)))
   (ag (aS (az bN (aY a9 (pv 2) ak (λ_ _=>rfl)) aI (aG _)) (ag (aL (gS plainAttrs_list slot_list_remove PySem.F.type_list_remove nN (aJ (pv 0) rfl) (aa (pv 1) aj)))
   (ag (aL (gS plainAttrs_list PySem.F.slot_list_append PySem.F.type_list_append jT (aJ (pv 0) rfl) (aa (pv 1) aj)))
   (ao nY))) aF)
   (ao (aL (pm (pv 0) T.cl ap U aw (aa (pv 1) (aa (pc ac U aw (aa (aJ (pv 0) rfl) (aa (aY a9 (pv 2) ak (λ_ _=>rfl)) aj))) aj))))))),?_⟩
  try dsimp only[cxK]
  refine⟨_,rfl,I.pg,dx,_,rfl,h1,cE _ _ ah ah ah ah ah,_,rfl,M,I,s',k,b,n,rfl,G,L,λt ht=>?_⟩;refine⟨_,rfl,t,_,0,_,rfl,rfl,bR.of ht,rfl,rfl,_,rfl,?_⟩;cases b with
  |true =>
   refine c6 ?_;have hi:k∈s'.inf:=(R.gd.fi k).mpr ⟨n,L⟩;refine⟨_,rfl,I.pg,C,dx,_,_,rfl,h1,T.cl,T.nI,qI _ _,.inl ⟨rfl,_,bE.of G.il⟩,_,rfl,I.il,s'.inf,k,rfl,rfl,G.il,hi,?_⟩;have J:=G.lR ok (s'.inf.erase k);have O:Off I.own H (upd H I.il (.lst ((s'.inf.erase k).map V.int))):=Off.wr (PA.fG 6 rfl);generalize upd H I.il (.lst ((s'.inf.erase k).map V.int))=H1 at *;obtain⟨as,h2⟩:=J.ob;have hl:=vj R.gd (G.le true);have aT:(s'.inf.erase k).length<=s'.inf.length:=List.length_erase_le;refine⟨_,rfl,I.pg,C,as,_,_,rfl,h2,T.cl,T.nI,qI _ _,.inl ⟨rfl,_,bE.of J.il⟩,_,rfl,I.il,_,.int k,rfl,rfl,J.il,by rw[length_map];show(s'.inf.erase k).length<_;omega,?_⟩;have S:=J.lR ok (s'.inf.erase k++[k]);rw[map_append]at S;exact q _ _ (.here L) S (O.trans (Off.wr (PA.fG 6 rfl)))
  |false =>
   refine bB ?_;obtain⟨N,rfl⟩:∃N:Nat,c=N:=⟨c.toNat,af⟩;have aB:=R.cb false _ (mem_of_getElem? e3);refine⟨_,rfl,I.pg,dx,_,rfl,h1,cE _ _ ah ah ah ah ah,_,rfl,_,rfl,I.pg,C,dx,_,_,rfl,h1,T.cl,T.nS,vz _ _,_,rfl,t,_,1,_,rfl,rfl,bR.of ht,rfl,?_⟩;refine⟨I.sp,I.so,I.sc,M,_,_,n,cs,N,rfl,G.sl,ok.m 5 rfl,ok.m 6 rfl,R.mt,ok.n 5 6 rfl rfl av,G.le false,e3,af,af,e2,?_⟩;intro H1 t1 l1 a1 am nl ad S1 O;have J:=G.zt ok false S1 O (by rw[length_set];exact G.le false);have ab:Off I.own H H1:=O.mono (PA.j7 false);have es:=Pg.sv R.gd L;refine⟨M,I,Pg.ck s' false n 0,k,t1,l1,cs,N,rfl,J,ok,J.alive ab R.mt,by rw[es];exact Pg.iW R.gd L,.inr (Pg.rA R.gd L),R.ne,Pg.Dm R.cb av,am,ad,nl,af,af,λH2 s2 hb S O2=>?_⟩;rw[es]at hb;exact q _ _ (.away L Y hb) S (ab.trans O2)
theorem Gf:aC ["self","sheet"] ["self","sheet"] (ar tN):=⟨rfl,rfl,rfl,ah,rfl,ah,ah⟩
theorem xv {f C CS:Addr}{fd:FuncData}(F:cN K "share" "Paging.share" tN f fd) (T:nc K mg C) (TS:Txt K mg CS) (ac:Md P w K mg base aW 2 C "store_of" (eQ C CS)) (ab:Md P w K mg base aW 2 C "number_of" (cY C CS)) (GM:Md P w K mg base aW 3 CS "more" (oQ CS)):bg P w K mg base aW 4 f fd ["self","sheet"] (nZ C CS):=by
 refine F.ok Gf (λvs H Q E h=>?_) (λam A outer s H vs Q E J h=>?_)
 .obtain⟨M,I,s',k,b,n,cs,c,rfl,_⟩:=h;rfl
 .obtain⟨M,I,s',k,b,n,cs,c,rfl,R,L,Y,q⟩:=h;have G:=R.at_;have ok:=R.ok;have hc:=(R.gd.vw Y).1;have U:=Pg.qY L Y;obtain⟨dx,h1⟩:=G.ob;have S:=G.st b;obtain⟨ad,h2⟩:=S.ob;refine⟨_,(ao (aL (pm (pm (pv 0) T.cl ac J aw (aa (pv 1) aj)) TS.cl GM J aw (aa (pm (pv 0) T.cl ab J aw (aa (pv 1) aj)) aj)))),?_⟩
  try dsimp only[cxK]
  refine⟨_,rfl,I.pg,dx,_,rfl,h1,cE _ _ ah ah ah ah ah,_,rfl,M,I,s',k,b,n,rfl,G,L,?_⟩;refine⟨_,ad,_,rfl,h2,aV _ _ ah ah,?_⟩;refine⟨_,rfl,I.pg,dx,_,rfl,h1,cE _ _ ah ah ah ah ah,_,rfl,M,I,s',k,b,n,rfl,G,L,?_⟩;refine⟨_,_,_,M,_,_,n,rfl,S,ok.mo b,ok.mc b,ok.oc b,G.le b,by rw[eI U];omega,λH1 O N=>?_⟩;rw[eI U,show(n:Int).toNat=n from toNat_natCast n]at O;exact q H1 (G.zt ok b O N (by rw[length_set];exact G.le b)) (N.mono (PA.j7 b))
theorem Co:aC ["self","sheet","store","n"] ["self","sheet"] (ar tq):=⟨rfl,rfl,rfl,ah,rfl,ah,ah⟩
theorem yZ {f C CS:Addr}{fd:FuncData}(F:cN K "leave" "Paging.leave" tq f fd) (T:nc K mg C) (TS:Txt K mg CS) (as:Md P w K mg base aW 2 C "store_of" (eQ C CS)) (ap:Md P w K mg base aW 2 C "number_of" (cY C CS)) (GL:Md P w K mg base aW 3 CS "less" (oT CS)) (GC:Md P w K mg base aW 1 CS "count" (gj CS)):bg P w K mg base aW 4 f fd ["self","sheet"] (kS C CS):=by
 refine F.ok Co (λvs H Q E h=>?_) (λa0 A outer s H vs Q E N h=>?_)
 .obtain⟨M,I,s',k,cs,c,rfl,_⟩:=h;rfl
 .obtain⟨M,I,s',k,cs,c,rfl,G,ok,mt,gd,Y,q⟩:=h;have hc:=(gd.vw Y).1;obtain⟨b,n,J,e2,e3⟩:=id Y;obtain⟨nl,_⟩:=List.getElem?_eq_some_iff.mp e3;obtain⟨dx,h1⟩:=G.ob;have S:=G.st b;obtain⟨aT,h2⟩:=S.ob;refine⟨_,(ag (aK (i:=2) Co.nd rfl (Or.inl rfl) (pm (pv 0) T.cl as N aw (aa (pv 1) aj)))
   (ag (aK (i:=3) Co.nd rfl (Or.inl rfl) (pm (pv 0) T.cl ap N aw (aa (pv 1) aj)))
   (ag (aL (pm (pv 2) TS.cl GL N aw (aa (pv 3) aj)))
   (ag (aS (az iz (pm (pv 2) TS.cl GC N aw (aa (pv 3) aj)) ak (aG _)) (ao nY) aF)
   (ag (aS (az bN (aY a9 (bq (bh N) (aJ (pv 0) rfl) (pv 1) (λ_ _=>rfl)) ak (λ_ _=>rfl)) aI (aG _)) (ao (aL (gS plainAttrs_list slot_list_remove PySem.F.type_list_remove nN (aJ (pv 0) rfl) (aa (pv 1) aj)))) aF)
   (ao (aL (dX (aJ (pv 0) rfl) (pv 1) ⟨rfl,rfl,rfl,rfl⟩)))))))),?_⟩
  try dsimp only[cxK]
  refine⟨_,rfl,I.pg,dx,_,rfl,h1,cE _ _ ah ah ah ah ah,_,rfl,M,I,s',k,b,n,rfl,G,J,?_⟩;refine⟨_,rfl,I.pg,dx,_,rfl,h1,cE _ _ ah ah ah ah ah,_,rfl,M,I,s',k,b,n,rfl,G,J,?_⟩;refine⟨_,rfl,_,aT,_,rfl,h2,aV _ _ ah ah,_,rfl,_,_,_,M,_,_,n,rfl,S,ok.mo b,ok.mc b,ok.oc b,G.le b,by rw[eI e3];omega,λH1 O O1=>?_⟩;rw[eI e3,show(n:Int).toNat=n from toNat_natCast n]at O;have L:=G.zt ok b O O1 (by rw[length_set];exact G.le b);have ab:Off I.own H H1:=O1.mono (PA.j7 b);obtain⟨aB,h3⟩:=O.ob;refine⟨_,rfl,_,aB,_,rfl,h3,aV _ _ ah ah,_,rfl,_,_,_,M,_,_,n,rfl,O,by rw[length_set];exact G.le b,?_⟩;rw[fg nl];refine⟨_,_,rfl,rfl,_,rfl,?_⟩;by_cases z:(0:Int)<c-1
  .rw[decide_eq_true z];exact q _ _ (.more J Y af) L ab
  .rw[decide_eq_false z];have ec:c=1:=af;subst ec;refine bB (vq ?_);obtain⟨ad,h4⟩:=L.ob;obtain⟨l,hd,nd,ht,U,hn⟩:=L.pd;obtain⟨x,R,ex⟩:∃x,Tb.look l k=some x/\x.2=(b,n):=by
    have h9:(Tb.look l k).map (·.2)=some (b,n):=(U k).trans J;exact Option.map_eq_some_iff.mp h9
   have hg:dq H1 I.pd (.int k) (some (qu x)):=by
    have q9:=dq.k (k:=Sum.inl k) hd;rw[Tb.cD,R]at q9;exact q9
   have hm:=ht _ (Tb.aA R);rw[show x.2.1=b by rw[ex],show x.2.2=n by rw[ex]]at hm;dsimp only;refine share (λσ H9=>σ=[some (.ref I.pg),some (.int k),some (.ref (I.st b)),some (.int n)]/\bJ C CS H9 M I { Pg.ck s' b n 0 with inf:=s'.inf.erase k }/\Off I.own H H9) (λu' ac=>?A) ?B
   case A =>
    refine⟨_,rfl,I.pg,C,ad,_,_,rfl,h4,T.cl,T.nP,mQ _ _,_,rfl,I.pd,qu x,rfl,hg,x.1,_,0,_,rfl,rfl,bR.of hm,rfl,rfl,_,rfl,?_⟩;cases b with
    |true =>
     refine c6 ?_;have hi:k∈s'.inf:=(gd.fi k).mpr ⟨n,J⟩;refine⟨_,rfl,I.pg,C,ad,_,_,rfl,h4,T.cl,T.nI,qI _ _,.inl ⟨rfl,_,bE.of L.il⟩,_,rfl,I.il,s'.inf,k,rfl,rfl,L.il,hi,?_⟩;exact ac _ _ ⟨rfl,L.lR ok (s'.inf.erase k),ab.trans (Off.wr (PA.fG 6 rfl))⟩
    |false =>
     refine bB ?_;refine ac _ _ ⟨rfl,?_,ab⟩;rw[List.erase_of_not_mem (Pg.vf gd J)];exact L
   case B =>
    rintro σ H9 ⟨rfl,G9,O9⟩;obtain⟨am,h5⟩:=G9.ob;obtain⟨l,hd,nd,ht,U,hn⟩:=G9.pd;obtain⟨x,R,ex⟩:∃x,Tb.look l k=some x/\x.2=(b,n):=by
     have h9:(Tb.look l k).map (·.2)=some (b,n):=(U k).trans J;exact Option.map_eq_some_iff.mp h9
    refine⟨_,rfl,I.pg,C,am,_,_,rfl,h5,T.cl,T.nP,mQ _ _,I.pd,rfl,.inl ⟨_,.inl hd⟩,_,rfl,_,Sum.inl k,qu x,hd,rfl,by rw[Tb.cD,R];rfl,?_⟩;rw[Tb.er];exact q _ _ (.last J Y) (G9.Dn ok k hd nd ht U hn) (O9.trans (Off.wr (PA.fG 5 rfl)))
theorem DU:aC ["self","sheet","cells","made"] ["self","sheet","cells"] (ar oS):=⟨rfl,rfl,rfl,ah,rfl,ah,ah⟩
theorem vU {f C CS:Addr}{fd:FuncData}(F:cN K "change" "Paging.change" oS f fd) (T:nc K mg C) (TS:Txt K mg CS) (a0:Md P w K mg base aW 3 C "count" (lj C CS)) (aT:Md P w K mg base aW 7 C "new_sheet" (gk K C CS)) (as:Md P w K mg base aW 4 C "leave" (kS C CS)) (a3:Md P w K mg base aW 7 C "fetch" (kJ C CS)) (ap:Md P w K mg base aW 2 C "number_of" (cY C CS)) (GP:Md P w K mg base aW 3 CS "put" (vk K CS)):bg P w K mg base aW 8 f fd ["self","sheet","cells"] (lO C CS):=by
 refine F.ok DU (λvs H Q E h=>?_) (λa4 A outer s H vs Q E N h=>?_)
 .obtain⟨M,I,s',k,ca,U,L,cs,rfl,_⟩:=h;rfl
 .obtain⟨M,I,s',k,ca,U,L,cs,rfl,R,S,am,ad,h8,hf,q1,q2⟩:=h;have G:=R.at_;have ok:=R.ok;have hc:=(R.gd.vw S).1;obtain⟨dx,h1⟩:=G.ob;refine⟨_,(ag (aS (az iz (pm (pv 0) T.cl a0 N aw (aa (pv 1) aj)) ak (aG _)) (ag (aK (i:=3) DU.nd rfl (Or.inl rfl) (pm (pv 0) T.cl aT N aw (aa (pv 2) aj)))
   (ag (aL (pm (pv 0) T.cl as N aw (aa (pv 1) aj)))
   (ao (aE (pv 3))))) aF)
   (ag (aL (pm (pv 0) T.cl a3 N aw (aa (pv 1) aj)))
   (ag (aL (pm (aJ (pv 0) rfl) TS.cl GP N aw (aa (pm (pv 0) T.cl ap N aw (aa (pv 1) aj)) (aa (pv 2) aj))))
   (ao (aE (pv 1)))))),?_⟩
  try dsimp only[cxK]
  refine⟨_,rfl,I.pg,dx,_,rfl,h1,cE _ _ ah ah ah ah ah,_,rfl,M,I,s',k,U,L,rfl,G,S,?_⟩;refine⟨_,_,rfl,rfl,_,rfl,?_⟩;by_cases z:(1:Int)<L
  .rw[decide_eq_true z];refine⟨_,rfl,I.pg,dx,_,rfl,h1,cE _ _ ah ah ah ah ah,_,rfl,M,I,s',ca,cs,rfl,R,hf z,bE.of am,λe=>ad (by rw[e];exact PA.fG 0 rfl),h8,λH1 Y hb J O=>?_⟩;obtain⟨ab,h2⟩:=J.ob;have B:=Pg.jZ R.gd R.l0 h8 hb;have kn:k≠s'.ls+1:=by
    intro e;obtain⟨x1,x2,y1,_⟩:=S;rw[e,Pg.eR R.gd]at y1;cases y1
   refine⟨_,rfl,I.pg,ab,_,rfl,h2,cE _ _ ah ah ah ah ah,_,rfl,M,I,Y,k,U,L,rfl,J,ok,J.alive O R.mt,B.good,(B.kept.ot _ _ _ kn).mpr S,λH2 s2 hl G2 O2=>?_⟩;exact⟨_,rfl,q1 z H2 Y s2 hb hl G2 (O.trans O2)⟩
  .rw[decide_eq_false z];have ec:L=1:=af;refine⟨_,rfl,I.pg,dx,_,rfl,h1,cE _ _ ah ah ah ah ah,_,rfl,M,I,s',k,U,L,rfl,R,S,λH1 Y ac J O=>?_⟩;have FF:=Pg.m5 R.gd ac;obtain⟨m,hm⟩:=FF.fr;have a1:=(FF.vw k U L).mpr S;have e3:=Pg.qY hm a1;obtain⟨ab,h2⟩:=J.ob;obtain⟨a2,h3⟩:=J.fr.ob;have aB:=O _ _ am ad;refine⟨_,rfl,I.pg,C,ab,_,_,rfl,h2,T.cl,T.nF,nE _ _,I.fp,a2,_,rfl,h3,aV _ _ ah ah,?_⟩;refine⟨_,rfl,I.pg,ab,_,rfl,h2,cE _ _ ah ah ah ah ah,_,rfl,M,I,Y,k,true,m,rfl,J,hm,?_⟩;refine⟨_,rfl,I.fp,I.fo,I.fc,ca,M,_,_,m,cs,rfl,J.fr,ok.m 2 rfl,ok.m 3 rfl,J.alive O R.mt,ok.n 2 3 rfl rfl av,(FF.good.ln true).symm,J.le true,by rw[eI e3];omega,bE.of aB,λH2 S2 O2=>?_⟩;rw[show(m:Int).toNat=m from toNat_natCast m]at S2;exact⟨_,rfl,q2 ec H2 Y m ac hm (J.EW ok true S2 O2) (O.trans (O2.mono (PA.j7 true)))⟩
end
end St
namespace Tb
open PySem L2
section
variable {α:Type}
theorem AE {l:List (Int×α)}{k:Int}(h:¬ k∈l.map (·.1)):bf l k=l:=by
 unfold bf;rw[filter_eq_self];intro y F;have:y.1≠k:=λe=>h (List.mem_map.mpr ⟨y,F,e⟩);simpa using this
theorem j8 {k:Int}{a:α}:∀{l:List (Int×α)},(l.map (·.1)).Nodup->look l k=some a->l.Perm ((k,a)::bf l k)
 | [],_,h=>by cases h
 |x::r,J,h=>by
  obtain⟨I,G⟩:=List.nodup_cons.mp (show(x.1::r.map (·.1)).Nodup from J);rw[aM]at h;by_cases c:x.1=k
  .rw[if_pos c]at h;have e:x=(k,a):=Prod.ext c (Option.some.inj h);have F:bf (x::r) k=r:=by
    show filter _ (x::r)=r;rw[filter_cons,if_neg (by simp[c])];exact AE (c▸I)
   rw[F,e]
  .rw[if_neg c]at h;have F:bf (x::r) k=x::bf r k:=by
    show filter _ (x::r)=_;rw[filter_cons,if_pos (by simpa using c)];rfl
   rw[F];exact((j8 G h).cons x).trans (List.Perm.swap _ _ _)
theorem vc (l:List (Int×α)) (k:Int) (a:α):bf (aX l k a) k=bf l k:=by
 induction l with
 |nil=>rfl
 |cons x r F =>
  show filter _ ((if x.1=k then(k,a)else x)::aX r k a)=filter _ (x::r);by_cases c:x.1=k
  .rw[if_pos c,filter_cons,if_neg (by simp),filter_cons,if_neg (by simp[c])];exact F
  .rw[if_neg c,filter_cons,if_pos (by simpa using c),filter_cons,if_pos (by simpa using c)];congr 1
theorem lV {l:List (Int×α)}{k:Int}(F:(l.map (·.1)).Nodup):((bf l k).map (·.1)).Nodup:=F.sublist (List.Sublist.map _ List.filter_sublist)
theorem Ci {l:List (Int×α)}{k:Int}{a:α}(G:(l.map (·.1)).Nodup):(((k,a)::bf l k).map (·.1)).Nodup:=by
 refine List.nodup_cons.mpr ⟨λh=>?_,lV G⟩;obtain⟨y,F,e⟩:=List.mem_map.mp h;have:=(List.mem_filter.mp F).2;simp at this;exact this e
theorem ml {l:List (Int×α)}{k:Int}{x:Int×α}(h:x∈l) (F:x.1≠k):x∈bf l k:=List.mem_filter.mpr ⟨h,by simpa using F⟩
theorem p7 {f:α->V}{l:List (Int×α)}{k:Int}{a b:α}(G:(l.map (·.1)).Nodup) (h:look l k=some b) (e:f a=f b):dk f (aX l k a)=dk f l:=by
 unfold dk aX;rw[map_map];refine map_congr_left λx F=>?_;show((Sum.inl (if x.1=k then(k,a)else x).1:Key),f (if x.1=k then(k,a)else x).2)=(Sum.inl x.1,f x.2);by_cases c:x.1=k
 .have:look l k=some x.2:=bX G (by rw[<-c];exact F);rw[h]at this;rw[if_pos c,c,e,Option.some.inj this]
 .rw[if_neg c]
theorem jC (l:List (Int×α)) (k j:Int) (a:α):look ((k,a)::bf l k) j=if j=k then some a else look l j:=by
 rw[aM,cy];by_cases c:j=k
 .rw[if_pos c.symm,if_pos c]
 .rw[if_neg (Ne.symm c),if_neg c,if_neg c]
end
theorem TabAt.off {B:Addr->Prop}{C:Addr}{H H':Hp}{p fs:Addr}{tb:iR}(T:TabAt C H p fs tb) (o:Off B H H') (O:¬ B p) (G:∀b,ed fs tb b->¬ B b) (L:∀b xs,H b=some (.tup xs)->¬ B b):TabAt C H' p fs tb:=by
 obtain⟨⟨dx,h1⟩,h2,S,J,R,I,N⟩:=T;exact⟨⟨dx,o _ _ h1 O⟩,o _ _ h2 (G _ (.inl rfl)),λx F=>o _ _ (S x F) (G _ (.inr ⟨x,F,rfl⟩)),λx F=>(J x F).keep λb xs e=>o _ _ e (L b xs e),R,I,N⟩
theorem TabAt.dK {C:Addr}{H:Hp}{p fs:Addr}{tb:iR}(T:TabAt C H p fs tb) {b:Addr}(h:ed fs tb b):∃kvs,H b=some (.dK kvs):=by
 rcases h with h|⟨x,F,h⟩
 .exact⟨_,by rw[h];exact T.hf⟩
 .exact⟨_,by rw[h];exact T.hd x F⟩
end Tb
namespace St
open PySem L2
structure TD where
 p:Addr
 fs:Addr
 tb:Tb.iR
 t:List (Int×Pg.Ent)
noncomputable abbrev eF:=List (Int×TD)
noncomputable def fR (x:TD):V:=.ref x.p
noncomputable def wy:Pg.Ent->List V
 |none=>[.str "blank"]
 |some k=>[.str "sheet",.int k]
noncomputable def TD.ed (x:TD):Addr->Prop:=Tb.ed x.fs x.tb
structure cX (CT:Addr) (H:Hp) (x:TD):Prop where
 at_:Tb.TabAt CT H x.p x.fs x.tb
 nd:(x.t.map (·.1)).Nodup
 lk:∀q,Tb.cV x.tb q=(Tb.look x.t q).map wy
noncomputable def rZ (t:List (Int×Pg.Ent)):List Pg.Ent:=t.map (·.2)
noncomputable def ents (W:eF):List Pg.Ent:=W.flatMap λx=>rZ x.2.t
theorem ke {W:eF}{t:Int}{x:TD}(F:(W.map (·.1)).Nodup) (h:Tb.look W t=some x):(ents W).Perm (rZ x.t++ents (Tb.bf W t)):=(Tb.j8 F h).flatMap_right _
theorem gK {W:eF}{t:Int}{x y:TD}(F:(W.map (·.1)).Nodup) (h:Tb.look W t=some x):(ents (Tb.aX W t y)).Perm (rZ y.t++ents (Tb.bf W t)):=by
 have:=ke (W:=Tb.aX W t y) (t:=t) (x:=y) (by rw[Tb.eX];exact F) (by rw[Tb.bS t h,if_pos rfl])
 rwa [Tb.vc]at this
theorem rf {t:List (Int×Pg.Ent)}{q:Int}{e:Pg.Ent}(F:(t.map (·.1)).Nodup) (h:Tb.look t q=some e):(rZ t).Perm (e::rZ (Tb.bf t q)):=(Tb.j8 F h).map _
noncomputable def eE (pg:Addr) (t:Int) (rd:Addr):List (Str×V):=bj "rooms" (.ref rd) (bj "total" (.int t) (bj "paging" (.ref pg) []))
section
variable (pg:Addr) (t:Int) (rd:Addr)
theorem fj:(eE pg t rd).lookup ("rooms" : Str)=some (.ref rd):=by
 unfold eE;rw[aD,if_pos rfl]
theorem D5:(eE pg t rd).lookup ("total" : Str)=some (.int t):=by
 unfold eE;rw[aD,if_neg ah,aD,if_pos rfl]
theorem lu:(eE pg t rd).lookup ("paging" : Str)=some (.ref pg):=by
 unfold eE;rw[aD,if_neg ah,aD,if_neg ah,aD,if_pos rfl]
theorem gB {m:Str}(h1:¬ m = "rooms") (h2:¬ m = "total") (F:¬ m = "paging"):(eE pg t rd).lookup m=none:=by
 unfold eE;rw[aD,if_neg h1,aD,if_neg h2,aD,if_neg F]
 all_goals rfl
end
noncomputable def bL (s:Pg.PS):Int:=((s.ow true).length+(s.ow false).length:Nat)
theorem zr {s s':Pg.PS}(h:∀b,(s'.ow b).length=(s.ow b).length):bL s'=bL s:=by
 unfold bL;rw[h,h]
structure CA where
 C:Addr
 P:Addr
 S:Addr
 T:Addr
structure RA where
 A:PA
 rp:Addr
 rd:Addr
structure ax (c:CA) (H:Hp) (M:Addr->Prop) (a:RA) (s:Pg.PS) (W:eF):Prop where
 ob:∃dx,H a.rp=some (.ins c.C dx (eE a.A.pg (bL s) a.rd))
 pg:bJ c.P c.S H M a.A s
 ok:a.A.Ok M
 mt:∀b,M b->H b≠none
 hd:H a.rd=some (.dK (Tb.dk fR W))
 nd:(W.map (·.1)).Nodup
 tb:∀x∈W,cX c.T H x.2
 dm:∀x∈W,∀b,x.2.ed b->M b/\¬ a.A.own b/\b≠a.rd
 np:∀x∈W,¬ a.A.own x.2.p
 dj:∀x∈W,∀y∈W,x.1≠y.1->∀b,x.2.ed b->¬ y.2.ed b
 BW:M a.rd
 AV:¬ a.A.own a.rd
 y8:¬ a.A.own a.rp
noncomputable def RA.own (a:RA) (W:eF):Addr->Prop:=λb=>a.A.own b\/b=a.rd\/∃x∈W,x.2.ed b
structure Step (H:Hp) (M O:Addr->Prop) (H':Hp) (M' O':Addr->Prop):Prop where
 off:Off O H H'
 mm:∀b,M b->¬ O b->M' b
 mn:∀b,M' b->M b\/H b=none
 on:∀b,O' b->O b\/H b=none
 mt:∀b,M b->H b≠none
 om:∀b,O b->M b
theorem Step.gone {H H':Hp}{M O M' F:Addr->Prop}(a:Step H M O H' M' F) {b:Addr}(h:H' b=none):O b\/H b=none:=by
 cases e:H b with
 |none=>exact .inr rfl
 |some u =>
  by_cases z:O b
  .exact .inl z
  .rw[a.off b u e z]at h;cases h
theorem Step.trans {H H' F:Hp}{M O M' J G I:Addr->Prop}(a:Step H M O H' M' J) (b:Step H' M' J F G I):Step H M O F G I:=by
 refine⟨λx o e z=>b.off x o (a.off x o e z) λy=>?_,λx h z=>b.mm x (a.mm x h z) λy=>?_,λx h=>?_,λx h=>?_,a.mt,a.om⟩
 .rcases a.on x y with y|y
  .exact z y
  .rw[e]at y;cases y
 .rcases a.on x y with y|y
  .exact z y
  .exact a.mt x h y
 .rcases b.mn x h with h|h
  .exact a.mn x h
  .rcases a.gone h with h|h
   .exact .inl (a.om x h)
   .exact .inr h
 .rcases b.on x h with h|h
  .exact a.on x h
  .exact a.gone h
theorem dG.grow {M M':Addr->Prop}{H:Hp}(h:∀b,M' b->M b\/H b=none):∀{v:V}{x:Option (List Int)},dG H M v x->dG H M' v x
 |.non,none,_=>trivial
 |.ref a,some ns,⟨h1,h2⟩=>⟨λz=>(h a z).elim h1 λe=>(by rw[h2]at e;cases e),h2⟩
theorem aQ.grow {C p ow co:Addr}{M M':Addr->Prop}{os:List Int}{pg:List (Option (List Int))}{H:Hp}(S:aQ C H M p ow co os pg) (h:∀b,M' b->M b\/H b=none):aQ C H M' p ow co os pg:=by
 obtain⟨h1,G,cs,F,I⟩:=S;exact⟨h1,G,cs,F,Paired.y0 I λ_ _ z=>z.grow h⟩
section
variable {A:PA}{M M' B:Addr->Prop}{H H':Hp}
theorem bJ.pH {C CS:Addr}{s:Pg.PS}(G:bJ C CS H M A s):∀b xs,H b=some (.tup xs)->¬ A.own b:=by
 intro b xs e y;obtain⟨dx,h1⟩:=G.ob;obtain⟨_,F,_⟩:=G.fr.hc;obtain⟨_,L,_⟩:=G.sl.hc;obtain⟨_,J,_⟩:=G.pd;have I:=G.fr.hw;have O:=G.sl.hw;have N:=G.il;unfold PA.own at y;simp only[mem_cons,not_mem_nil,or_false]at y;rcases y with y|y|y|y|y|y|y<;>rw[y]at e
 .rw[h1]at e;cases e
 .rw[I]at e;cases e
 .rw[F]at e;cases e
 .rw[O]at e;cases e
 .rw[L]at e;cases e
 .rw[J]at e;cases e
 .rw[N]at e;cases e
theorem aQ.less {C p ow co:Addr}{M M':Addr->Prop}{os:List Int}{pg:List (Option (List Int))}{H:Hp}(S:aQ C H M p ow co os pg) (h:∀b,M' b->M b):aQ C H M' p ow co os pg:=S.grow λb z=>.inl (h b z)
theorem bJ.move {C CS:Addr}{s:Pg.PS}(G:bJ C CS H M A s) (o:Off B H H') (N:∀b,B b->M b) (J:∀b,M' b->M b\/H b=none) (F:∀b,A.own b->¬ B b) (n1:¬ B A.fp) (O:¬ B A.sp) (S:∀b xs,H b=some (.tup xs)->¬ B b):bJ C CS H' M' A s:=by
 obtain⟨dx,h1⟩:=G.ob;obtain⟨l,hd,Y,L,R,U⟩:=G.pd;exact⟨⟨dx,o _ _ h1 (F _ (PA.fG 0 rfl))⟩,((G.fr.grow (M':=λb=>M b\/M' b) λb z=>z.elim .inl (J b)).off o (λb z=>.inl (N b z)) n1 (F _ (PA.fG 1 rfl)) (F _ (PA.fG 2 rfl))).less λb z=>.inr z,
  ((G.sl.grow (M':=λb=>M b\/M' b) λb z=>z.elim .inl (J b)).off o (λb z=>.inl (N b z)) O (F _ (PA.fG 3 rfl)) (F _ (PA.fG 4 rfl))).less λb z=>.inr z,o _ _ G.il (F _ (PA.fG 6 rfl)),G.le,
  ⟨l,o _ _ hd (F _ (PA.fG 5 rfl)),Y,λx I=>o _ _ (L x I) (S _ _ (L x I)),R,U⟩⟩
end
section
variable {c:CA}{H H':Hp}{M M' B:Addr->Prop}{a:RA}{s s':Pg.PS}{W:eF}{t:Int}{x y:TD}
theorem ax.Fq {es:List Pg.Ent}(R:ax c H M a s W) (F:Pg.RI s es):EA c.P c.S H M a.A s:=⟨R.pg,R.ok,R.mt,F.good,F.ne,F.cb R.pg.le,F.l0⟩
theorem cX.off (T:cX c.T H x) (o:Off B H H') (I:¬ B x.p) (G:∀b,x.ed b->¬ B b) (F:∀b xs,H b=some (.tup xs)->¬ B b):cX c.T H' x:=⟨T.at_.off o I G F,T.nd,T.lk⟩
theorem ax.jN (R:ax c H M a s W) (G:bJ c.P c.S H' M a.A s') (o:Off a.A.own H H') (I:∀b,(s'.ow b).length=(s.ow b).length):ax c H' M a s' W:=by
 obtain⟨dx,h1⟩:=R.ob;exact⟨⟨dx,by rw[zr I];exact o _ _ h1 R.y8⟩,G,R.ok,G.alive o R.mt,o _ _ R.hd R.AV,R.nd,λx F=>(R.tb x F).off o (R.np x F) (λb z=>(R.dm x F b z).2.1) R.pg.pH,R.dm,R.np,R.dj,R.BW,R.AV,R.y8⟩
theorem ax.dD (R:ax c H M a s W):∀b,a.own W b->M b:=λb h=>by
 rcases h with h|h|⟨x,F,h⟩
 .exact R.ok.own b h
 .rw[h];exact R.BW
 .exact(R.dm x F b h).1
theorem ax.refl (R:ax c H M a s W):Step H M (a.own W) H M (a.own W):=⟨λ_ _ e _=>e,λ_ h _=>h,λ_ h=>.inl h,λ_ h=>.inl h,R.mt,R.dD⟩
theorem ax.iy (R:ax c H M a s W) (e:aZ H H'):Step H M (a.own W) H' M (a.own W):=⟨λb o h _=>e b o h,λ_ h _=>h,λ_ h=>.inl h,λ_ h=>.inl h,R.mt,R.dD⟩
theorem ax.DM (R:ax c H M a s W) (G:bJ c.P c.S H' M a.A s') (o:Off a.A.own H H'):Step H M (a.own W) H' M (a.own W):=
 ⟨o.mono λ_ z=>.inl z,λ_ h _=>h,λ_ h=>.inl h,λ_ h=>.inl h,R.mt,R.dD⟩
theorem ax.same (R:ax c H M a s W) (e:aZ H H'):ax c H' M a s W:=by
 obtain⟨dx,h1⟩:=R.ob;refine⟨⟨dx,e _ _ h1⟩,R.pg.keep (λb o h _=>e b o h),R.ok,λb G z=>?_,e _ _ R.hd,R.nd,λx F=>⟨(R.tb x F).at_.same e,(R.tb x F).nd,(R.tb x F).lk⟩,R.dm,R.np,R.dj,R.BW,R.AV,R.y8⟩;cases h:H b with
 |none=>exact R.mt b G h
 |some o=>rw[e b o h]at z;cases z
theorem ax.Bb (R:ax c H M a s W) (o:Off B H H') (F:∀b,B b->M b/\¬ a.own W b) (O:∀b,B b->(∃xs,H b=some (.lst xs))\/∃kvs,H b=some (.dK kvs)) (U:∀b,M' b->M b\/H b=none) (J:∀b,M b->¬ B b->M' b) (mt:∀b,M' b->H' b≠none):ax c H' M' a s W:=by
 obtain⟨dx,h1⟩:=R.ob;have I:∀{b C dx fs},H b=some (.ins C dx fs)->¬ B b:=λe z=>by
  rcases O _ z with⟨_,h⟩|⟨_,h⟩
  .rw[e]at h;cases h
  .rw[e]at h;cases h
 have L:∀b xs,H b=some (.tup xs)->¬ B b:=λb xs e z=>by
  rcases O _ z with⟨_,h⟩|⟨_,h⟩
  .rw[e]at h;cases h
  .rw[e]at h;cases h
 obtain⟨ac,N⟩:=R.pg.fr.ob;obtain⟨ad,S⟩:=R.pg.sl.ob;refine⟨⟨dx,o _ _ h1 (I h1)⟩,R.pg.move o (λb z=>(F b z).1) U (λb z y=>(F b y).2 (.inl z)) (I N) (I S) L,⟨R.ok.ds,λb z=>J b (R.ok.mm b z) λq=>?_⟩,mt,o _ _ R.hd (λz=>(F _ z).2 (.inr (.inl rfl))),R.nd,λx G=>?_,λx G b z=>⟨J b (R.dm x G b z).1 λq=>(F b q).2 (.inr (.inr ⟨x,G,z⟩)),(R.dm x G b z).2⟩,R.np,R.dj,J _ R.BW (λz=>(F _ z).2 (.inr (.inl rfl))),R.AV,R.y8⟩
 .simp only[mem_cons,not_mem_nil,or_false]at z;rcases z with z|z|z|z|z|z|z|z|z<;>rw[z]at q
  .exact(F _ q).2 (.inl (PA.fG 0 rfl))
  .exact I N q
  .exact(F _ q).2 (.inl (PA.fG 1 rfl))
  .exact(F _ q).2 (.inl (PA.fG 2 rfl))
  .exact I S q
  .exact(F _ q).2 (.inl (PA.fG 3 rfl))
  .exact(F _ q).2 (.inl (PA.fG 4 rfl))
  .exact(F _ q).2 (.inl (PA.fG 5 rfl))
  .exact(F _ q).2 (.inl (PA.fG 6 rfl))
 .obtain⟨ab,Y⟩:=(R.tb x G).at_.ob;exact(R.tb x G).off o (I Y) (λb z y=>(F b y).2 (.inr (.inr ⟨x,G,z⟩))) L
theorem ax.su (R:ax c H M a s W) (hx:Tb.look W t=some x) (ep:y.p=x.p) (T:cX c.T H' y) (o:Off x.ed H H') (hn:∀b,y.ed b->x.ed b\/H b=none):ax c H' (λb=>(M b/\¬ x.ed b)\/y.ed b) a s (Tb.aX W t y):=by
 have L:=Tb.aA hx;have X:=R.tb _ L;have dK:∀{b},x.ed b->∃kvs,H b=some (.dK kvs):=λz=>X.at_.dK z;have I:=R.dm _ L;have N:∀{b C dx fs},H b=some (.ins C dx fs)->¬ x.ed b:=λe z=>by
  obtain⟨_,h⟩:=dK z;rw[e]at h;cases h
 have nt:∀b xs,H b=some (.tup xs)->¬ x.ed b:=λb xs e z=>by
  obtain⟨_,h⟩:=dK z;rw[e]at h;cases h
 obtain⟨dx,h1⟩:=R.ob;obtain⟨as,f1⟩:=R.pg.fr.ob;obtain⟨aB,f2⟩:=R.pg.sl.ob;have hM:∀b,(M b/\¬ x.ed b)\/y.ed b->M b\/H b=none:=λb z=>z.elim (λz=>.inl z.1) λz=>(hn b z).elim (λz=>.inl (I b z).1) .inr;refine⟨⟨dx,o _ _ h1 (N h1)⟩,R.pg.move o (λb z=>(I b z).1) hM (λb z y=>(I b y).2.1 z) (N f1) (N f2) nt,⟨R.ok.ds,λb z=>.inl ⟨R.ok.mm b z,λq=>?_⟩⟩,λb z e=>?_,?_,by rw[Tb.eX];exact R.nd,λG F=>?_,λG F b z=>?_,λG F=>?_,λx1 U x2 Y ac b O S=>?_,.inl ⟨R.BW,λq=>(I _ q).2.2 rfl⟩,R.AV,R.y8⟩
 .simp only[mem_cons,not_mem_nil,or_false]at z;rcases z with z|z|z|z|z|z|z|z|z<;>rw[z]at q
  .exact(I _ q).2.1 (PA.fG 0 rfl)
  .exact N f1 q
  .exact(I _ q).2.1 (PA.fG 1 rfl)
  .exact(I _ q).2.1 (PA.fG 2 rfl)
  .exact N f2 q
  .exact(I _ q).2.1 (PA.fG 3 rfl)
  .exact(I _ q).2.1 (PA.fG 4 rfl)
  .exact(I _ q).2.1 (PA.fG 5 rfl)
  .exact(I _ q).2.1 (PA.fG 6 rfl)
 .rcases z with z|z
  .cases e2:H b with
   |none=>exact R.mt b z.1 e2
   |some u=>rw[o b u e2 z.2]at e;cases e
  .obtain⟨_,h⟩:=T.at_.dK z;rw[e]at h;cases h
 .rw[Tb.p7 R.nd hx (show V.ref y.p=V.ref x.p by rw[ep])];exact o _ _ R.hd λz=>(I _ z).2.2 rfl
 .rcases Tb.mem_set F with rfl|⟨F,J⟩
  .exact T
  .obtain⟨ap,h3⟩:=(R.tb G F).at_.ob;exact(R.tb G F).off o (N h3) (λb z z'=>R.dj G F _ L J b z z') nt
 .rcases Tb.mem_set F with rfl|⟨F,J⟩
  .refine⟨.inr z,?_⟩;rcases hn b z with z|z
   .exact(I b z).2
   .exact⟨λq=>R.mt b (R.ok.own b q) z,λq=>by rw[q,R.hd]at z;cases z⟩
  .exact⟨.inl ⟨(R.dm G F b z).1,λq=>R.dj G F _ L J b z q⟩,(R.dm G F b z).2⟩
 .rcases Tb.mem_set F with rfl|⟨F,J⟩
  .show ¬ a.A.own y.p;rw[ep];exact R.np _ L
  .exact R.np G F
 .have ab:∀G∈W,G.1≠t->∀b,G.2.ed b->¬ y.ed b:=λG F J b O S=>by
   rcases hn b S with z|z
   .exact R.dj G F _ L J b O z
   .obtain⟨_,h⟩:=(R.tb G F).at_.dK O;rw[z]at h;cases h
  rcases Tb.mem_set U with rfl|⟨U,ad⟩<;>rcases Tb.mem_set Y with rfl|⟨Y,am⟩
  .exact ac rfl
  .exact ab x2 Y am b S O
  .exact ab x1 U ad b O S
  .exact R.dj x1 U x2 Y ac b O S
theorem ax.p8 (R:ax c H M a s W) (L:Tb.look W t=some x) (o:Off x.ed H H') (I:∀b,y.ed b->x.ed b\/H b=none):Step H M (a.own W) H' (λb=>(M b/\¬ x.ed b)\/y.ed b) (a.own (Tb.aX W t y)):=by
 have F:=Tb.aA L;refine⟨o.mono λb z=>.inr (.inr ⟨_,F,z⟩),λb z q=>.inl ⟨z,λw=>q (.inr (.inr ⟨_,F,w⟩))⟩,λb z=>z.elim (λz=>.inl z.1) λz=>(I b z).elim (λz=>.inl (R.dm _ F b z).1) .inr,λb z=>?_,R.mt,R.dD⟩;rcases z with z|z|⟨J,G,z⟩
 .exact .inl (.inl z)
 .exact .inl (.inr (.inl z))
 .rcases Tb.mem_set G with rfl|⟨G,N⟩
  .exact(I b z).elim (λz=>.inl (.inr (.inr ⟨_,F,z⟩))) .inr
  .exact .inl (.inr (.inr ⟨J,G,z⟩))
theorem ax.EN (R:ax c H M a s W) {W':eF}(L:(W'.map (·.1)).Nodup) (tb:∀x∈W',cX c.T H x.2) (I:∀x∈W',∀b,x.2.ed b->M b/\¬ a.A.own b/\b≠a.rd) (np:∀x∈W',¬ a.A.own x.2.p) (O:∀x∈W',∀y∈W',x.1≠y.1->∀b,x.2.ed b->¬ y.2.ed b) :
  ax c (upd H a.rd (.dK (Tb.dk fR W'))) M a s W':=by
 have o:Off (· = a.rd) H (upd H a.rd (.dK (Tb.dk fR W'))):=λb o e z=>(by rw[ai z];exact e);have F:∀{b C dx fs},H b=some (.ins C dx fs)->¬ b=a.rd:=λe z=>(by rw[z,R.hd]at e;cases e);have J:∀b xs,H b=some (.tup xs)->¬ b=a.rd:=λb xs e z=>(by rw[z,R.hd]at e;cases e);have al:∀b,upd H a.rd (.dK (Tb.dk fR W')) b=none->H b=none:=λb e=>by
  by_cases z:b=a.rd
  .rw[z,ae]at e;cases e
  .rw[ai z]at e;exact e
 obtain⟨dx,h1⟩:=R.ob;obtain⟨ac,N⟩:=R.pg.fr.ob;obtain⟨ad,Y⟩:=R.pg.sl.ob;refine⟨⟨dx,o _ _ h1 (F h1)⟩,R.pg.move o (λb z=>by rw[z];exact R.BW) (λb z=>.inl z) (λb z y=>R.AV (y▸z)) (F N) (F Y) J,R.ok,λb S e=>R.mt b S (al b e),ae,L,λx G=>?_,I,np,O,R.BW,R.AV,R.y8⟩;obtain⟨ab,U⟩:=(tb x G).at_.ob;exact(tb x G).off o (F U) (λb z y=>(I x G b z).2.2 y) J
theorem ax.yp (R:ax c H M a s W) (S:Tb.look W t=none) (T:cX c.T H y) (G:∀b,y.ed b->M b/\¬ a.own W b) (np:¬ a.A.own y.p):ax c (upd H a.rd (.dK (Tb.dk fR (W++[(t,y)])))) M a s (W++[(t,y)]):=by
 refine R.EN ?_ (λx F=>?_) (λx F=>?_) (λx F=>?_) (λO h1 N h2 L b J I=>?_)
 .rw[map_append];exact fZ R.nd (Tb.cj S)
 .rcases List.mem_append.mp F with F|F
  .exact R.tb x F
  .rw[List.mem_singleton.mp F];exact T
 .rcases List.mem_append.mp F with F|F
  .exact R.dm x F
  .rw[List.mem_singleton.mp F];exact λb z=>⟨(G b z).1,λq=>(G b z).2 (.inl q),λq=>(G b z).2 (.inr (.inl q))⟩
 .rcases List.mem_append.mp F with F|F
  .exact R.np x F
  .rw[List.mem_singleton.mp F];exact np
 .rcases List.mem_append.mp h1 with h1|h1<;>rcases List.mem_append.mp h2 with h2|h2
  .exact R.dj O h1 N h2 L b J I
  .rw[List.mem_singleton.mp h2]at I;exact(G b I).2 (.inr (.inr ⟨O,h1,J⟩))
  .rw[List.mem_singleton.mp h1]at J;exact(G b J).2 (.inr (.inr ⟨N,h2,I⟩))
  .exact L (by rw[List.mem_singleton.mp h1,List.mem_singleton.mp h2])
theorem ax.Di (R:ax c H M a s W) (t:Int):ax c (upd H a.rd (.dK (Tb.dk fR (Tb.bf W t)))) M a s (Tb.bf W t):=
 R.EN (Tb.lV R.nd) (λx F=>R.tb x (Tb.bW F).1) (λx F=>R.dm x (Tb.bW F).1) (λx F=>R.np x (Tb.bW F).1) (λx F y G=>R.dj x (Tb.bW F).1 y (Tb.bW G).1)
end
end St
namespace L2
open PySem PySem.Spec PyProof.Rows
noncomputable def GW (K:PySem.W.Frag):R2:=λx y H Q=>∃p q xs ys,x=.ref p/\y=.ref q/\bR K H p xs/\bR K H q ys/\xs.all eh=true/\ys.all eh=true/\Q (.bl (!jY xs ys)) H
section
variable {X:Cx}
theorem uD (hu:X.A.units<cLine):iP X (compareOp .NotEq) (GW X.K):=by
 intro pins s σ H x y v u Q I rx ry h;obtain⟨p,q,xs,ys,rfl,rfl,hx,hy,fx,U,S⟩:=h;cases rx;cases ry;obtain⟨its,r,pl,hz⟩:=I.tuple hx;obtain⟨L,J,O,am⟩:=I.tuple hy;have hl:=r.length;have ac:=J.length;refine PySem.SeqAt.RcNeAt.tuples (e:=λj=>mG (xs.getD j .non) (ys.getD j .non)) pl O hu (λj h1 h2=>?_) _ _ _ _ ⟨.bl (!jY xs ys),H,I,?_,S⟩
 .rw[size_toArray]at h1 h2;have G:j<xs.length:=af;have F:j<ys.length:=af;obtain⟨a,ea,ra⟩:=r.get (i:=j) (x:=xs[j]) (by simp[G]);obtain⟨b,Y,rb⟩:=J.get (i:=j) (x:=ys[j]) (by simp[F]);obtain⟨_,ab⟩:=List.getElem?_eq_some_iff.mp ea;obtain⟨_,ad⟩:=List.getElem?_eq_some_iff.mp Y;have g1:xs.getD j .non=xs[j]:=(by simp[G]);have N:ys.getD j .non=ys[j]:=(by simp[F]);show SeqAt.EqAt _ _ its.toArray[j] L.toArray[j] (mG (xs.getD j .non) (ys.getD j .non));have a1:its.toArray[j]=a:=(by simpa using ab);have R:L.toArray[j]=b:=(by simpa using ad);rw[g1,N,a1,R];exact pG ra rb (List.all_eq_true.mp fx _ (getElem_mem G)) (List.all_eq_true.mp U _ (getElem_mem F))
 .show Value.bool _=Value.bool _;rw[size_toArray,size_toArray, <-hl, <-ac,mS]
end
end L2
namespace St
open PySem L2
noncomputable abbrev pM:Stmt:=top 17
noncomputable abbrev oY:Stmt:=top 18
noncomputable abbrev sk:Stmt:=top 19
noncomputable abbrev oH:Stmt:=inClass (top 33) 1
noncomputable abbrev oE:Stmt:=inClass (top 33) 2
noncomputable abbrev y4:Stmt:=inClass (top 33) 3
noncomputable abbrev sR:Stmt:=inClass (top 33) 4
noncomputable abbrev tL:Stmt:=inClass (top 33) 5
noncomputable abbrev tQ:Stmt:=inClass (top 33) 6
noncomputable abbrev uJ:Stmt:=inClass (top 33) 7
noncomputable abbrev tG:Stmt:=inClass (top 33) 8
noncomputable abbrev ox:Stmt:=inClass (top 33) 9
noncomputable abbrev pA:Stmt:=inClass (top 33) 11
noncomputable abbrev qk:Stmt:=inClass (top 33) 12
noncomputable abbrev pU:Stmt:=inClass (top 33) 13
structure qU (K:PySem.W.Frag) (mg:Str->Option Value) (c:CA):Prop where
 cl:qt K c.C
 nP:cR K c.C "paging"
 nT:cR K c.C "total"
 nR:cR K c.C "rooms"
 bl:∃aB,mg "BLANK" = some (.ref aB)/\bR K (λ_=>none) aB [.str "blank"]
 pc:∃u,mg "PAGE_CELLS" = some u/\RelV (.int 8) u
 len:mg "len" = none
 sum:mg "sum" = none
 zip:mg "zip" = none
noncomputable def Cv (s:Pg.PS) (W:eF) (cv:Int->Int->List Int):Prop:=∀t x,Tb.look W t=some x->∀q e,Tb.look x.t q=some e->Pg.xk s e (cv t q)
theorem jG {W:eF}{t q:Int}{x:TD}{e:Pg.Ent}(G:Tb.look W t=some x) (F:Tb.look x.t q=some e):e∈ents W :=
 List.mem_flatMap.mpr ⟨(t,x),Tb.aA G,List.mem_map.mpr ⟨(q,e),Tb.aA F,rfl⟩⟩
theorem Cv.next {s s':Pg.PS}{W W':eF}{cv:Int->Int->List Int}(h:Cv s W cv) (hs:Pg.aZ (ents W') s s') (J:∀t F,Tb.look W' t=some F->∃x,Tb.look W t=some x/\∀q e,Tb.look F.t q=some e->Tb.look x.t q=some e):Cv s' W' cv:=by
 intro t F G q e I;obtain⟨x,h1,h2⟩:=J t F G;exact hs e (jG G I) _ (h t x h1 q e (h2 q e I))
theorem Cv.keep {s s':Pg.PS}{W:eF}{cv:Int->Int->List Int}(h:Cv s W cv) (hs:Pg.aZ (ents W) s s'):Cv s' W cv:=h.next hs λt x F=>⟨x,F,λ_ _ e=>e⟩
theorem iq {W:eF}{t:Int}{x y:TD}(h:Tb.look W t=some x):Tb.look (Tb.aX W t y) t=some y:=by rw[Tb.bS t h,if_pos rfl]
theorem set_set {W:eF}{t:Int}{x y:TD}:Tb.aX (Tb.aX W t x) t y=Tb.aX W t y:=by
 unfold Tb.aX;rw[map_map];refine map_congr_left λz _=>?_;show(if (if z.1=t then(t,x)else z).1=t then(t,y)else(if z.1=t then(t,x)else z))=if z.1=t then(t,y)else z
 by_cases c:z.1=t
 .rw[if_pos c,if_pos rfl,if_pos c]
 .simp only[if_neg c]
theorem cG {W:eF}{t:Int}{x:TD}(F:(W.map (·.1)).Nodup) (h:Tb.look W t=some x):Tb.aX W t x=W:=by
 unfold Tb.aX
 conv=>rhs;rw[<-List.map_id W]
 refine map_congr_left λz G=>?_;show(if z.1=t then(t,x)else z)=z;by_cases c:z.1=t
 .have:=Tb.bX F G;rw[c,h]at this;rw[if_pos c,Option.some.inj this, <-c]
 .rw[if_neg c]
theorem vY {W:eF}{t q:Int}{x y:TD}{e:Pg.Ent}(G:(W.map (·.1)).Nodup) (F:Tb.look W t=some x) (nx:(x.t.map (·.1)).Nodup) (I:Tb.look x.t q=some e) (J:y.t=Tb.bf x.t q):(ents W).Perm (e::ents (Tb.aX W t y)):=by
 refine(ke G F).trans (((rf nx I).append_right _).trans ?_);rw[<-J];exact((gK G F).symm).cons e
theorem yO {W:eF}{t q:Int}{x y:TD}{e:Pg.Ent}(I:(W.map (·.1)).Nodup) (F:Tb.look W t=some x) (G:y.t=(q,e)::Tb.bf x.t q):(ents (Tb.aX W t y)).Perm (e::(rZ (Tb.bf x.t q)++ents (Tb.bf W t))):=by
 refine(gK I F).trans ?_;rw[G];exact List.Perm.refl _
theorem cX.mem {c:CA}{H:Hp}{x:TD}(T:cX c.T H x) {ns:List Int}(p:ns.Perm (Tb.fA x.tb)) (q:Int):q∈ns↔Tb.look x.t q≠none:=by
 rw[p.mem_iff,Tb.qB T.at_,T.lk];cases Tb.look x.t q<;>simp
theorem cX.pg {c:CA}{H:Hp}{x:TD}(T:cX c.T H x) {q:Int}(h:Tb.look x.t q≠none):0<=q/\q<64:=T.at_.vy (by
 rw[T.lk];cases e:Tb.look x.t q with
 |none=>exact absurd e h
 |some _=>simp)
inductive dH (vs:List V) (H:Hp) (Q:VK) (e3:XK):Prop
 |mk (a:Addr) (W:eF) (t:Int) (x:TD) (_:vs=[.ref a,.int t]) (_:H a=some (.dK (Tb.dk fR W))) (_:Tb.look W t=some x) (_:Q (.ref x.p) H):dH vs H Q e3
inductive ja (vs:List V) (H:Hp) (Q:VK) (e3:XK):Prop
 |mk (a:Addr) (W:eF) (t:Int) (_:vs=[.ref a,.int t]) (_:H a=some (.dK (Tb.dk fR W))) (_:Tb.look W t=none) (_:Q .non H):ja vs H Q e3
inductive kD (vs:List V) (H:Hp) (Q:VK) (e3:XK):Prop
 |mk (h t:Int) (_:vs=[.int h,.int t]) (_:¬ t<h) (_:Q .non H):kD vs H Q e3
inductive eO (c:CA) (vs:List V) (H:Hp) (Q:VK) (e3:XK):Prop
 |mk (M:Addr->Prop) (a:RA) (s:Pg.PS) (W:eF) (cv:Int->Int->List Int) (t:Int) (x:TD) (lp:Addr) (ps:List Int) (_:vs=[.ref a.rp,.ref x.p,.ref lp]) (_:ax c H M a s W) (_:Pg.RI s (ents W)) (_:Cv s W cv) (_:Tb.look W t=some x) (_:H lp=some (.lst (ps.map V.int))) (_:¬ M lp) (_:ps.Nodup) (_:(∀q∈ps,Tb.look x.t q≠none)) (_:∀(H':Hp) (M':Addr->Prop) (s':Pg.PS) (y:TD),ax c H' M' a s' (Tb.aX W t y)->Pg.RI s' (ents (Tb.aX W t y))->Cv s' (Tb.aX W t y) cv->(∀q,Tb.look y.t q=if q∈ps then none else Tb.look x.t q)->Step H M (a.own W) H' M' (a.own (Tb.aX W t y))->(∀b,(s'.ow b).length=(s.ow b).length)->Q .non H'):eO c vs H Q e3
inductive uH (c:CA) (vs:List V) (H:Hp) (Q:VK) (e3:XK):Prop
 |mk (M:Addr->Prop) (a:RA) (s:Pg.PS) (W:eF) (cv:Int->Int->List Int) (t p m:Int) (x:TD) (_:vs=[.ref a.rp,.int t,.int p,.int m]) (_:ax c H M a s W) (_:Pg.RI s (ents W)) (_:Cv s W cv) (_:Tb.look W t=some x) (_:¬ Rm.cn p m) (_:(∀q∈Rm.aR p m,Tb.look x.t q≠none)) (_:∀(H':Hp) (M':Addr->Prop) (s':Pg.PS) (y:TD),ax c H' M' a s' (Tb.aX W t y)->Pg.RI s' (ents (Tb.aX W t y))->Cv s' (Tb.aX W t y) cv->(∀q,Tb.look y.t q=if q∈Rm.aR p m then none else Tb.look x.t q)->Step H M (a.own W) H' M' (a.own (Tb.aX W t y))->(∀b,(s'.ow b).length=(s.ow b).length)->Q .non H'):uH c vs H Q e3
inductive lP (c:CA) (vs:List V) (H:Hp) (Q:VK) (e3:XK):Prop
 |mk (M:Addr->Prop) (a:RA) (s:Pg.PS) (W:eF) (cv:Int->Int->List Int) (t:Int) (x:TD) (_:vs=[.ref a.rp,.int t]) (_:ax c H M a s W) (_:Pg.RI s (ents W)) (_:Cv s W cv) (_:Tb.look W t=some x) (_:∀(H':Hp) (M':Addr->Prop) (s':Pg.PS),ax c H' M' a s' (Tb.bf W t)->Pg.RI s' (ents (Tb.bf W t))->Cv s' (Tb.bf W t) cv->Step H M (a.own W) H' M' (a.own (Tb.bf W t))->(∀b,(s'.ow b).length=(s.ow b).length)->Q .non H'):lP c vs H Q e3
inductive mf (c:CA) (vs:List V) (H:Hp) (Q:VK) (e3:XK):Prop
 |mk (M:Addr->Prop) (a:RA) (s:Pg.PS) (W:eF) (t:Int) (_:vs=[.ref a.rp,.int t]) (_:ax c H M a s W) (_:Tb.look W t=none) (_:W.length<=1000) (_:∀(H':Hp) (M':Addr->Prop) (y:TD),y.t=[]->ax c H' M' a s (W++[(t,y)])->Step H M (a.own W) H' M' (a.own (W++[(t,y)]))->Q .non H'):mf c vs H Q e3
section
variable {P:Program}{w:World}{K:PySem.W.Frag}{mg:Str->Option Value}{base:Heap}
theorem eU {α:Type}{f:α->V}{H:Hp}{a:Addr}{l:List (Int×α)}{t:Int}(h:H a=some (.dK (Tb.dk f l))):dq H a (.int t) ((Tb.look l t).map f):=by
 have q:=dq.k (k:=Sum.inl t) h;rw[Tb.cD]at q;exact q
theorem FW:aC ["rooms","task"] ["rooms","task"] (ar pM):=⟨rfl,rfl,rfl,ah,rfl,ah,ah⟩
theorem wA {f:Addr}{fd:FuncData}(F:cN K "room_of" "room_of" pM f fd):bg P w K mg base aW 1 f fd ["rooms","task"] dH:=by
 refine F.ok FW (λvs H Q E h=>?_) (λL A outer s H vs Q E G h=>?_)
 .obtain⟨a,W,t,x,rfl,_⟩:=h;rfl
 .obtain⟨a,W,t,x,rfl,J,I,k⟩:=h;refine⟨_,(ag (aS (gU (eT (bh G) (pv 1) (pv 0))) cO aF)
   (ao (aE (bq (bh G) (pv 0) (pv 1) (λ_ _=>rfl))))),?_⟩
  try dsimp only[cxK]
  have hg:=eU (t:=t) J;rw[I]at hg;exact⟨_,rfl,_,rfl,a,_,rfl,hg,_,rfl,bB ⟨_,rfl,_,rfl,a,fR x,rfl,hg,k⟩⟩
theorem Fz:aC ["rooms","task"] ["rooms","task"] (ar oY):=⟨rfl,rfl,rfl,ah,rfl,ah,ah⟩
theorem wW {f:Addr}{fd:FuncData}(F:cN K "refuse_second_room" "refuse_second_room" oY f fd):bg P w K mg base aW 1 f fd ["rooms","task"] ja:=by
 refine F.ok Fz (λvs H Q E h=>?_) (λL A outer s H vs Q E G h=>?_)
 .obtain⟨a,W,t,rfl,_⟩:=h;rfl
 .obtain⟨a,W,t,rfl,J,I,k⟩:=h;refine⟨_,(ao (aS (gU (ma (bh G) (pv 1) (pv 0))) cO aF)),?_⟩
  try dsimp only[cxK]
  have hg:=eU (t:=t) J;rw[I]at hg;exact⟨_,rfl,_,rfl,a,_,rfl,hg,_,rfl,bB k⟩
theorem Gz:aC ["held","total"] ["held","total"] (ar sk):=⟨rfl,rfl,rfl,ah,rfl,ah,ah⟩
theorem yx {f:Addr}{fd:FuncData}(F:cN K "refuse_above" "refuse_above" sk f fd):bg P w K mg base aW 1 f fd ["held","total"] kD:=by
 refine F.ok Gz (λvs H Q E h=>?_) (λJ A outer s H vs Q E I h=>?_)
 .obtain⟨h,t,rfl,_⟩:=h;rfl
 .obtain⟨h,t,rfl,G,k⟩:=h;refine⟨_,(ao (aS (az iz (pv 0) (pv 1) (aG _)) cO aF)),?_⟩
  try dsimp only[cxK]
  refine⟨_,rfl,_,rfl,_,_,rfl,rfl,_,rfl,?_⟩;exact gF (λc=>absurd (of_decide_eq_true c) G) (λc=>k)
theorem BX:aC ["self","table","pages","page","entry"] ["self","table","pages"] (ar pA):=⟨rfl,rfl,rfl,ah,rfl,ah,ah⟩
theorem mK {f:Addr}{fd:FuncData}{c:CA}(F:cN K "leave_pages" "Rooms.leave_pages" pA f fd) (T:qU K mg c) (TT:Tb.Txt K mg c.T) (TP:nc K mg c.P) (GG:Md P w K mg base aW 3 c.T "get" (Tb.k9 c.T)) (GK:Md P w K mg base aW 1 c.T "clear" (Tb.qp c.T)) (bi:Md P w K mg base aW 4 c.P "leave" (kS c.P c.S)):bg P w K mg base aW 5 f fd ["self","table","pages"] (eO c):=by
 obtain⟨aB,mB,sB⟩:=T.bl;have rB:RelV (.ref aB) (.ref aB):=rfl;refine F.ok BX (λvs H Q E h=>?_) (λb1 A outer s H vs Q E hr h=>?_)
 .obtain⟨M,a,s',W,cv,t,x,lp,ps,rfl,_⟩:=h;rfl
 .obtain⟨M,a,s',W,cv,t,x,lp,ps,rfl,R,ri,bc,hx,a4,bb,bG,bx,q⟩:=h;refine⟨_,(ao (cU PassesOwn.never rfl (fh (pv 2)) (a8 (i:=3) BX.nd rfl (Or.inl rfl)) (ag (aK (i:=4) BX.nd rfl (Or.inl rfl) (pm (pv 1) TT.cl GG hr aw (aa (pv 3) aj)))
   (ag (aL (pm (pv 1) TT.cl GK hr aw (aa (pv 3) aj)))
   (ao (aS (az (uD hr.gM) (pv 4) (cf (by rfl) mB rB) (aG _)) (ao (aL (pm (aJ (pv 0) rfl) TP.cl bi hr aw (aa (aY a9 (pv 4) ak (λ_ _=>rfl)) aj)))) aF)))))),?_⟩
  try dsimp only[cxK]
  have bI:¬ a.own W lp:=λz=>bb (R.dD lp z);refine⟨_,rfl,lp,rfl,⟨_,bE.of a4⟩,?_⟩;refine dY (K:=K) (a:=lp) (xs:=ps.map V.int) (λi σ H2=>zL λ(v3 v4:Option V) (M2:Addr->Prop) (G:Pg.PS) (y:TD)=>Fl (σ=[some (.ref a.rp),some (.ref y.p),some (.ref lp),v3,v4]) (ax c H2 M2 a G (Tb.aX W t y)) (Pg.RI G (ents (Tb.aX W t y))) (Cv G (Tb.aX W t y) cv) ((∀q,Tb.look y.t q=if q∈ps.take i then none else Tb.look x.t q)) (Step H M (a.own W) H2 M2 (a.own (Tb.aX W t y))) (∀b,(G.ow b).length=(s'.ow b).length))
   ⟨_,_,M,s',x,rfl,by rw[cG R.nd hx];exact R,by rw[cG R.nd hx];exact ri,by rw[cG R.nd hx];exact bc,λq=>by simp,by rw[cG R.nd hx];exact R.refl,λ_=>rfl⟩ (λi σ H2 _ z0=>by obtain⟨_,_,_,_,_,_,_,_,_,_,st,_⟩:=z0;exact bE.of (st.off _ _ a4 bI)) ?_ ?_
  .rintro i u σ H2 hu ⟨v3,v4,M2,G,y,rfl,R2,as,am,ab,ap,ad⟩;rw[getElem?_map]at hu;obtain⟨p,hp,rfl⟩:=Option.map_eq_some_iff.mp hu;have bn:=mem_of_getElem? hp;obtain⟨hi,b0⟩:=List.getElem?_eq_some_iff.mp hp;have a6:¬ p∈ps.take i:=λz=>by
    obtain⟨j,hj,e⟩:=getElem_of_mem z;rw[getElem_take]at e;rw[length_take]at hj;exact m7 bG j i (getElem?_eq_getElem af) hp af e
   have ac:=iq (y:=y) hx;obtain⟨e,he⟩:∃e,Tb.look y.t p=some e:=by
    rw[ab p,if_neg a6];cases z:Tb.look x.t p with
    |none=>exact absurd z (bx p bn)
    |some e=>exact⟨e,rfl⟩
   have T2:=R2.tb _ (Tb.aA ac);obtain⟨bv,ht⟩:=T2.at_.ob;refine⟨_,rfl,y.p,bv,_,rfl,ht,Tb.aV _ ah,_,rfl,y.p,y.fs,y.tb,p,rfl,T2.at_,λH3 v s3 U=>?_⟩;rw[T2.lk,he]at U;obtain⟨tt,rfl,a1⟩:=U;have R3:=R2.same s3;have T3:=R3.tb _ (Tb.aA ac);obtain⟨bz,ba⟩:=T3.at_.ob;refine⟨_,rfl,y.p,bz,_,rfl,ba,Tb.aV _ ah,_,rfl,y.p,y.fs,y.tb,p,rfl,T3.at_,λH4 O T4 l4 _ o4 n4=>?_⟩;have be:cX c.T H4 ⟨y.p,y.fs,O,Tb.bf y.t p⟩:=⟨T4,Tb.lV T3.nd,λj=>by
    rw[l4 j,Tb.cy];by_cases z:j=p
    .rw[if_pos z,if_pos z];rfl
    .rw[if_neg z,if_neg z];exact T3.lk j⟩
   have I:=R3.su (y:=⟨y.p,y.fs,O,Tb.bf y.t p⟩) ac rfl be o4 n4;have S4:=ap.trans ((R2.iy s3).trans (R3.p8 (y:=⟨y.p,y.fs,O,Tb.bf y.t p⟩) ac o4 n4));have pe:=vY (y:=⟨y.p,y.fs,O,Tb.bf y.t p⟩) R2.nd ac T2.nd he rfl;rw[set_set]at I S4 pe;have Y:=as.perm pe;have a2:∀j,Tb.look (Tb.bf y.t p) j=if j∈ps.take (i+1)then none else Tb.look x.t j:=λj=>by
    rw[Tb.cy,ab j,take_add_one,hp];by_cases z:j=p
    .rw[if_pos z,if_pos (by rw[z];simp)]
    .rw[if_neg z];by_cases N:j∈ps.take i
     .rw[if_pos N,if_pos (mem_append_left _ N)]
     .rw[if_neg N,if_neg (by simp[z,N])]
   have aT:∀t' x',Tb.look (Tb.aX W t ⟨y.p,y.fs,O,Tb.bf y.t p⟩) t'=some x'->∃a3,Tb.look (Tb.aX W t y) t'=some a3/\∀q e,Tb.look x'.t q=some e->Tb.look a3.t q=some e:=by
    intro t' x' h';rw[Tb.bS t' hx]at h' ⊢;by_cases z:t'=t
    .rw[if_pos z]at h' ⊢;cases h';refine⟨y,rfl,λq e J=>?_⟩;have J:Tb.look (Tb.bf y.t p) q=some e:=J;rw[Tb.cy]at J;by_cases N:q=p
     .rw[if_pos N]at J;cases J
     .rw[if_neg N]at J;exact J
    .rw[if_neg z]at h' ⊢;exact⟨x',h',λ_ _ h=>h⟩
   have a7:¬ y.ed tt:=λz=>by
    obtain⟨_,h⟩:=T3.at_.dK z;rw[a1]at h;cases h
   have a0:=o4 _ _ a1 a7;refine⟨_,rfl,tt,aB,_,_,rfl,rfl,bR.of a0,ix.sq (.inr sB),?_⟩;cases e with
   |none =>
    refine⟨rfl,rfl,_,rfl,bB ?_⟩;exact⟨_,_,_,G,⟨y.p,y.fs,O,Tb.bf y.t p⟩,rfl,I,Y.bare,am.next Pg.aZ.refl aT,a2,S4,ad⟩
   |some k =>
    refine⟨rfl,rfl,_,rfl,c6 ?_⟩;obtain⟨bm,bY⟩:=I.ob;obtain⟨a5,bd⟩:=I.pg.ob;obtain⟨cs,cc,U⟩:=Y.is k mem_cons_self;refine⟨_,rfl,a.rp,c.C,bm,_,_,rfl,bY,T.cl,T.nP,lu _ _ _,a.A.pg,a5,_,rfl,bd,cE _ _ ah ah ah ah ah,_,rfl,tt,_,1,_,rfl,rfl,bR.of a0,rfl,_,a.A,G,k,cs,cc,rfl,I.pg,I.ok,I.mt,Y.good,U,λH5 s5 le G5 O5=>?_⟩;have L:=Pg.uZ Y.good U le;exact⟨_,_,_,s5,⟨y.p,y.fs,O,Tb.bf y.t p⟩,rfl,I.jN G5 O5 L.ln,Y.leave U le,am.next (Y.uO U le) aT,a2,S4.trans (I.DM G5 O5),λb=>(L.ln b).trans (ad b)⟩
  .rintro σ H2 ⟨v3,v4,M2,G,y,rfl,R2,as,am,ab,ap,ad⟩;rw[length_map,take_length]at ab;exact q H2 M2 G y R2 as am ab ap ad
theorem DP:aC ["self","task","page","many","table"] ["self","task","page","many"] (ar sR):=⟨rfl,rfl,rfl,ah,rfl,ah,ah⟩
theorem AB {f:Addr}{fd:FuncData}{c:CA}(F:cN K "drop" "Rooms.drop" sR f fd) (T:qU K mg c) (TT:Tb.Txt K mg c.T) (GR:Df P w K mg base aW 1 "room_of" dH) (GD:Df P w K mg base aW 2 "pages_to_drop" Rm.ly) (ab:Md P w K mg base aW 1 c.T "pages" (Tb.eJ c.T)) (a3:Md P w K mg base aW 5 c.C "leave_pages" (eO c)):bg P w K mg base aW 6 f fd ["self","task","page","many"] (uH c):=by
 refine F.ok DP (λvs H Q E h=>?_) (λa5 A outer s H vs Q E G h=>?_)
 .obtain⟨M,a,s',W,cv,t,p,m,x,rfl,_⟩:=h;rfl
 .obtain⟨M,a,s',W,cv,t,p,m,x,rfl,R,ri,am,L,I,U,q⟩:=h;obtain⟨dx,S⟩:=R.ob;have J:=R.tb _ (Tb.aA L);obtain⟨aB,ht⟩:=J.at_.ob;have b1:¬ m<1:=λz=>I (.inl z);have b2:¬ p<0:=λz=>I (.inr (.inl z));have b3:¬ 64<p+m:=λz=>I (.inr (.inr z));refine⟨_,(ag (aK (i:=4) DP.nd rfl (Or.inl rfl) (pc GR G aw (aa (aJ (pv 0) rfl) (aa (pv 1) aj))))
   (ao (aL (pm (pv 0) T.cl a3 G aw (aa (pv 4) (aa (pc GD G aw (aa (wK (pv 4) TT.cl ab G aw) (aa (pv 2) (aa (pv 3) aj)))) aj)))))),?_⟩
  try dsimp only[cxK]
  refine⟨_,rfl,a.rp,c.C,dx,_,_,rfl,S,T.cl,T.nR,fj _ _ _,_,rfl,a.rd,W,t,x,rfl,R.hd,L,?_⟩;refine⟨_,rfl,a.rp,dx,_,rfl,S,gB _ _ _ ah ah ah,_,rfl,_,rfl,x.p,aB,_,rfl,ht,Tb.aV _ ah,x.p,x.fs,x.tb,rfl,J.at_,λH1 l1 ns N a6 ad pm a4=>?_⟩;refine⟨_,rfl,_,rfl,l1,ns,p,m,rfl,ad,I,λq hq=>(J.mem pm q).mpr (U q hq),λH2 l2 s2 ac a2=>?_⟩
  .have O:=N.trans s2;refine⟨M,a,s',W,cv,t,x,l2,Rm.aR p m,rfl,R.same O,ri,am,L,a2,λz=>R.mt _ z (N.free ac),?_,U,λH3 M3 s3 y R3 a0 aT ap a1 Y=>q H3 M3 s3 y R3 a0 aT ap ((R.iy O).trans a1) Y⟩;unfold Rm.aR;refine List.pairwise_map.mpr (List.nodup_range.imp ?_);intro i j as e;exact as af
theorem Eb:aC ["self","task","table"] ["self","task"] (ar oE):=⟨rfl,rfl,rfl,ah,rfl,ah,ah⟩
theorem vX {f:Addr}{fd:FuncData}{c:CA}(F:cN K "close" "Rooms.close" oE f fd) (T:qU K mg c) (TT:Tb.Txt K mg c.T) (GR:Df P w K mg base aW 1 "room_of" dH) (ad:Md P w K mg base aW 1 c.T "pages" (Tb.eJ c.T)) (a3:Md P w K mg base aW 5 c.C "leave_pages" (eO c)):bg P w K mg base aW 6 f fd ["self","task"] (lP c):=by
 refine F.ok Eb (λvs H Q E h=>?_) (λa7 A outer s H vs Q E O h=>?_)
 .obtain⟨M,a,s',W,cv,t,x,rfl,_⟩:=h;rfl
 .obtain⟨M,a,s',W,cv,t,x,rfl,R,ri,aT,I,q⟩:=h;obtain⟨dx,Y⟩:=R.ob;have J:=R.tb _ (Tb.aA I);obtain⟨ap,ht⟩:=J.at_.ob;refine⟨_,(ag (aK (i:=2) Eb.nd rfl (Or.inl rfl) (pc GR O aw (aa (aJ (pv 0) rfl) (aa (pv 1) aj))))
   (ag (aL (pm (pv 0) T.cl a3 O aw (aa (pv 2) (aa (wK (pv 2) TT.cl ad O aw) aj))))
   (ao (aL (dX (aJ (pv 0) rfl) (pv 1) ⟨rfl,rfl,rfl,rfl⟩))))),?_⟩
  try dsimp only[cxK]
  refine⟨_,rfl,a.rp,c.C,dx,_,_,rfl,Y,T.cl,T.nR,fj _ _ _,_,rfl,a.rd,W,t,x,rfl,R.hd,I,?_⟩;refine⟨_,rfl,a.rp,dx,_,rfl,Y,gB _ _ _ ah ah ah,_,rfl,_,rfl,x.p,ap,_,rfl,ht,Tb.aV _ ah,x.p,x.fs,x.tb,rfl,J.at_,λH1 l1 ns s1 a5 aB pm a6=>?_⟩;refine⟨M,a,s',W,cv,t,x,l1,ns,rfl,R.same s1,ri,aT,I,aB,λz=>R.mt _ z a5,pm.nodup_iff.mpr (Tb.jA J.at_),λq hq=>(J.mem pm q).mp hq,λH3 M3 s3 y G a0 as a4 a2 ac=>?_⟩;have ab:=iq (y:=y) I;have ey:y.t=[]:=by
   cases e:y.t with
   |nil=>rfl
   |cons z r =>
    exfalso;have h1:=a4 z.1;rw[e,Tb.aM,if_pos rfl]at h1;by_cases S:z.1∈ns
    .rw[if_pos S]at h1;cases h1
    .rw[if_neg S]at h1;exact S ((J.mem pm z.1).mpr (by rw[<-h1];simp))
  obtain⟨a1,am⟩:=G.ob;refine⟨_,rfl,a.rp,c.C,a1,_,_,rfl,am,T.cl,T.nR,fj _ _ _,a.rd,rfl,.inl ⟨_,.inl G.hd⟩,_,rfl,_,Sum.inl t,fR y,G.hd,rfl,by rw[Tb.cD,ab];rfl,?_⟩;have R4:=G.Di t;rw[Tb.er];rw[Tb.vc]at R4 ⊢;have N:=gK (y:=y) R.nd I;rw[ey]at N;have N:(ents (Tb.aX W t y)).Perm (ents (Tb.bf W t)):=N;refine q _ M3 s3 R4 (a0.perm N) (as.next Pg.aZ.refl λt' L h'=>?_) (((R.iy s1).trans a2).trans ?_) ac
  .rw[Tb.cy]at h';by_cases z:t'=t
   .rw[if_pos z]at h';cases h'
   .rw[if_neg z]at h';exact⟨L,by rw[Tb.bS t' I,if_neg z];exact h',λ_ _ h=>h⟩
  .refine⟨Off.wr (.inr (.inl rfl)),λ_ h _=>h,λ_ h=>.inl h,λb z=>.inl ?_,G.mt,G.dD⟩;rcases z with z|z|⟨L,U,z⟩
   .exact .inl z
   .exact .inr (.inl z)
   .obtain⟨U,ne⟩:=Tb.bW U;refine .inr (.inr ⟨L,?_,z⟩);unfold Tb.aX;exact List.mem_map.mpr ⟨L,U,by rw[if_neg ne]⟩
theorem FJ:aC ["self","task"] ["self","task"] (ar oH):=⟨rfl,rfl,rfl,ah,rfl,ah,ah⟩
theorem wF {f fI:Addr}{fd dI:FuncData}{c:CA}(F:cN K "begin" "Rooms.begin" oH f fd) (T:qU K mg c) (MK:Mk K c.T fI) (ad:mg "Table" = some (.ref c.T)) (GS:Df P w K mg base aW 1 "refuse_second_room" ja) (GI:bg P w K mg base aW 1 fI dI ["self"] (Tb.gz c.T)) (bI:Binds K dI ["self"] []):bg P w K mg base aW 3 f fd ["self","task"] (mf c):=by
 refine F.ok FJ (λvs H Q E h=>?_) (λas A outer s H vs Q E J h=>?_)
 .obtain⟨M,a,s',W,t,rfl,_⟩:=h;rfl
 .obtain⟨M,a,s',W,t,rfl,R,S,hl,q⟩:=h;obtain⟨dx,ho⟩:=R.ob;have hs:sizeLine=16777216:=sizeLine_eq;refine⟨_,(ag (aL (pc GS J aw (aa (aJ (pv 0) rfl) (aa (pv 1) aj))))
   (ao (jk (bh J) (aJ (pv 0) rfl) (pv 1) (qM MK GI (J.mono av) (by rfl) ad bI .nil aw) rfl))),?_⟩
  try dsimp only[cxK]
  refine⟨_,rfl,a.rp,c.C,dx,_,_,rfl,ho,T.cl,T.nR,fj _ _ _,_,rfl,a.rd,W,t,rfl,R.hd,S,?_⟩;refine λp ap np U aB=>⟨p,ap,rfl,ae,λfs H1 ab Y off=>⟨rfl,?_⟩⟩;have O:aZ H H1:=λb u e=>off b u (by rw[ai (aq e np),ai (aq e U)];exact e) (aq e np);have I:H fs=none:=by
   cases e:H fs with
   |none=>rfl
   |some u=>rw[ai (aq e np),ai (aq e U),e]at ab;cases ab
  have L:=R.Bb (H':=H1) (B:=λ_=>False) (M':=λb=>M b\/b=fs) (λb o e _=>O b o e) (λb z=>z.elim) (λb z=>z.elim) (λb z=>z.elim .inl λz=>.inr (by rw[z];exact I)) (λb z _=>.inl z) (λb z e=>z.elim (λz=>(R.same O).mt b z e) λz=>by rw[z,Y.hf]at e;cases e)
  .obtain⟨am,ac⟩:=L.ob;refine⟨_,rfl,a.rp,c.C,am,_,_,rfl,ac,T.cl,T.nR,fj _ _ _,_,rfl,a.rd,_,rfl,fQ.k (k:=Sum.inl t) L.hd (by rw[Tb.cq];omega),?_⟩;rw[show(V.ref p)=fR ⟨p,fs,[],[]⟩from rfl,Tb.cu S];have TI:cX c.T H1 ⟨p,fs,[],[]⟩:=⟨Y,nodup_nil,λq=>rfl⟩;have N:∀b,(TD.mk p fs [] []).ed b->b=fs:=λb z=>by
    rcases z with z|⟨_,hx,_⟩
    .exact z
    .cases hx
   have R2:=L.yp S TI (λb z=>⟨.inr (N b z),λy=>?_⟩) (λy=>?_)
   .refine q _ _ ⟨p,fs,[],[]⟩ rfl R2 ⟨?_,λb z _=>.inl z,λb z=>z.elim .inl λz=>.inr (by rw[z];exact I),λb z=>?_,R.mt,R.dD⟩
    .intro b o e z;rw[ai (λy=>z (.inr (.inl y)))];exact O _ _ e
    .rcases z with z|z|⟨x',G,z⟩
     .exact .inl (.inl z)
     .exact .inl (.inr (.inl z))
     .rcases List.mem_append.mp G with G|G
      .exact .inl (.inr (.inr ⟨x',G,z⟩))
      .rw[List.mem_singleton.mp G]at z;rw[N b z];exact .inr I
   .rw[N b z]at y;exact R.mt _ (R.dD _ y) I
   .exact R.mt _ (R.ok.own _ y) np
end
theorem tf:bootBuiltins "sum" = some (.builtin "sum"):=ah
inductive ir (c:CA) (vs:List V) (H:Hp) (Q:VK) (e3:XK):Prop
 |mk (M:Addr->Prop) (a:RA) (s:Pg.PS) (W:eF) (tt:Addr) (e:Pg.Ent) (cs:List Int) (_:vs=[.ref a.rp,.ref tt]) (_:ax c H M a s W) (_:Pg.Good s) (_:H tt=some (.tup (wy e))) (_:Pg.xk s e cs) (_:∀(H':Hp) (l:Addr),aZ H H'->H l=none->H' l=some (.lst (cs.map V.int))->Q (.ref l) H'):ir c vs H Q e3
inductive gC (c:CA) (vs:List V) (H:Hp) (Q:VK) (e3:XK):Prop
 |mk (M:Addr->Prop) (a:RA) (s:Pg.PS) (W:eF) (tt ca:Addr) (e:Pg.Ent) (r:List Pg.Ent) (cs:List Int) (_:vs=[.ref a.rp,.ref tt,.ref ca]) (_:ax c H M a s W) (_:Pg.RI s (e::r)) (_:H tt=some (.tup (wy e))) (_:H ca=some (.lst (cs.map V.int))) (_:¬ M ca) (_:cs.length=8) (_:∀(H':Hp) (s':Pg.PS) (k:Int),ax c H' M a s' W->Pg.RI s' (some k::r)->Pg.aZ r s s'->Pg.xk s' (some k) cs->Step H M (a.own W) H' M (a.own W)->(∀b,(s'.ow b).length=(s.ow b).length)->Q (.int k) H'):gC c vs H Q e3
noncomputable def heldW (W:eF):Int:=(W.map λx=>(x.2.t.length:Int)).sum
theorem lU:∀W:eF,heldW W=((ents W).length:Int)
 | []=>rfl
 |x::W=>by
  have F:=lU W;unfold heldW at F ⊢;rw[map_cons,sum_cons,F];show _=(((rZ x.2.t++ents W).length:Nat):Int);rw[length_append];unfold rZ;rw[length_map];omega
inductive kN (c:CA) (vs:List V) (H:Hp) (Q:VK) (e3:XK):Prop
 |mk (M:Addr->Prop) (a:RA) (s:Pg.PS) (W:eF) (_:vs=[.ref a.rp]) (_:ax c H M a s W) (_:W.length<=1000) (_:∀H',aZ H H'->Q (.int (ents W).length) H'):kN c vs H Q e3
noncomputable def HD (s:Pg.PS) (H:Hp) (v:V):Option Pg.Ent->Prop
 |none=>v=.non
 |some none=>∃t,v=.ref t/\H t=some (.tup [.str "blank"])
 |some (some k)=>∃t b n,v=.ref t/\s.pl k=some (b,n)/\H t=some (.tup (iQ b n))
inductive l8 (c:CA) (vs:List V) (H:Hp) (Q:VK) (e3:XK):Prop
 |mk (M:Addr->Prop) (a:RA) (s:Pg.PS) (W:eF) (t q:Int) (x:TD) (_:vs=[.ref a.rp,.int t,.int q]) (_:ax c H M a s W) (_:Pg.RI s (ents W)) (_:Tb.look W t=some x) (_:∀H' v,aZ H H'->HD s H' v (Tb.look x.t q)->Q v H'):l8 c vs H Q e3
noncomputable def jd (cv:Int->Int->List Int) (t:Int) (ps:List Int):Int->Int->List Int:=λt' q=>if t'=t/\q∈ps then replicate 8 0 else cv t' q
inductive sQ (c:CA) (vs:List V) (H:Hp) (Q:VK) (e3:XK):Prop
 |mk (M:Addr->Prop) (a:RA) (s:Pg.PS) (W:eF) (cv:Int->Int->List Int) (t p m:Int) (x:TD) (_:vs=[.ref a.rp,.int t,.int p,.int m]) (_:ax c H M a s W) (_:Pg.RI s (ents W)) (_:Cv s W cv) (_:W.length<=1000) (_:Tb.look W t=some x) (_:¬ Rm.cn p m) (_:(∀q∈Rm.aR p m,Tb.look x.t q=none)) (_:(ents W).length+m<=bL s) (_:∀(H':Hp) (M':Addr->Prop) (y:TD),ax c H' M' a s (Tb.aX W t y)->Pg.RI s (ents (Tb.aX W t y))->Cv s (Tb.aX W t y) (jd cv t (Rm.aR p m))->(∀q,Tb.look y.t q=if q∈Rm.aR p m then some none else Tb.look x.t q)->Step H M (a.own W) H' M' (a.own (Tb.aX W t y))->Q .non H'):sQ c vs H Q e3
theorem cX.len {c:CA}{H:Hp}{x:TD}(T:cX c.T H x) {ns:List Int}(p:ns.Perm (Tb.fA x.tb)):ns.length=x.t.length:=by
 have h:ns.Perm (x.t.map (·.1)):=by
  rw[List.perm_ext_iff_of_nodup (p.nodup_iff.mpr (Tb.jA T.at_)) T.nd];intro q;rw[T.mem p q];constructor
  .intro h;cases e:Tb.look x.t q with
   |none=>exact absurd e h
   |some v=>exact List.mem_map.mpr ⟨_,Tb.aA e,rfl⟩
  .intro h e;exact Tb.cj e h
 rw[h.length_eq,length_map]
theorem uM {p m:Int}(h:¬ Rm.cn p m):((Rm.aR p m).length:Int)=m:=by
 have:¬ m<1:=λz=>h (.inl z);unfold Rm.aR;rw[length_map,length_range];omega
theorem m9 (p m:Int):(Rm.aR p m).Nodup:=by
 unfold Rm.aR;refine List.pairwise_map.mpr (List.nodup_range.imp ?_);intro i j F e;exact F af
theorem w6 {cv:Int->Int->List Int}{t:Int}:jd cv t []=cv:=by
 funext t' q;unfold jd;rw[if_neg (by simp)]
theorem rG {cv:Int->Int->List Int}{t t' q p:Int}{l:List Int}(h:¬ (t'=t/\q=p)):jd cv t (l++[p]) t' q=jd cv t l t' q:=by
 unfold jd;by_cases z:t'=t/\q∈l
 .rw[if_pos z,if_pos ⟨z.1,mem_append_left _ z.2⟩]
 .rw[if_neg z,if_neg (λy=>by
   rcases List.mem_append.mp y.2 with w|w
   .exact z ⟨y.1,w⟩
   .exact h ⟨y.1,List.mem_singleton.mp w⟩)]
section
variable {P:Program}{w:World}{K:PySem.W.Frag}{mg:Str->Option Value}{base:Heap}
theorem Gb:aC ["self","entry"] ["self","entry"] (ar qk):=⟨rfl,rfl,rfl,ah,rfl,ah,ah⟩
theorem sE {f:Addr}{fd:FuncData}{c:CA}(F:cN K "cells_of" "Rooms.cells_of" qk f fd) (T:qU K mg c) (TP:nc K mg c.P) (Gp:Md P w K mg base aW 4 c.P "cells" (mF c.P c.S)):bg P w K mg base aW 5 f fd ["self","entry"] (ir c):=by
 obtain⟨I,mB,sB⟩:=T.bl;obtain⟨u8,m8,r8⟩:=T.pc;have rB:RelV (.ref I) (.ref I):=rfl;refine F.ok Gb (λvs H Q E h=>?_) (λad A outer s H vs Q E J h=>?_)
 .obtain⟨M,a,s',W,tt,e,cs,rfl,_⟩:=h;rfl
 .obtain⟨M,a,s',W,tt,e,cs,rfl,R,gd,U,G,q⟩:=h;have hs:sizeLine=16777216:=sizeLine_eq;refine⟨_,(ag (aS (az (pf J.gM) (pv 1) (cf (by rfl) mB rB) (aG _)) (ao (aE (ay j4 (bU (aa ak aj)) (cf (by rfl) m8 r8)))) aF)
   (ao (aE (pm (aJ (pv 0) rfl) TP.cl Gp J aw (aa (aY a9 (pv 1) ak (λ_ _=>rfl)) aj))))),?_⟩
  try dsimp only[cxK]
  refine⟨_,rfl,tt,I,_,_,rfl,rfl,bR.of U,ix.sq (.inr sB),?_⟩;cases e with
  |none =>
   refine⟨rfl,rfl,_,rfl,c6 ?_⟩;refine⟨av,λl1 ab=>?_⟩;refine⟨l1,8,_,rfl,rfl,ae,af,af,by rw[length_singleton];omega,λl2 O=>?_⟩;have L:=Tb.au (X:=.lst [V.int 0]) ab;have s2:=Tb.au (X:=.lst ((replicate (8:Int).toNat [V.int 0]).flatten)) O;have G:cs=replicate 8 0:=G;refine q _ l2 (L.trans s2) (L.free O) ?_;rw[ae,G];rfl
  |some k =>
   refine⟨rfl,rfl,_,rfl,bB ?_⟩;obtain⟨cc,Y⟩:=G;obtain⟨dx,ho⟩:=R.ob;obtain⟨ac,h2⟩:=R.pg.ob;refine⟨_,rfl,a.rp,c.C,dx,_,_,rfl,ho,T.cl,T.nP,lu _ _ _,a.A.pg,ac,_,rfl,h2,cE _ _ ah ah ah ah ah,_,rfl,tt,_,1,_,rfl,rfl,bR.of U,rfl,M,a.A,s',k,cs,cc,rfl,R.pg,Y,?_,λl N=>q _ l (Tb.au N) N ae⟩;have:=(gd.vw Y).1;omega
theorem FR:aC ["self","entry","cells"] ["self","entry","cells"] (ar pU):=⟨rfl,rfl,rfl,ah,rfl,ah,ah⟩
theorem oN {f:Addr}{fd:FuncData}{c:CA}(F:cN K "sheet_with" "Rooms.sheet_with" pU f fd) (T:qU K mg c) (TP:nc K mg c.P) (as:Md P w K mg base aW 7 c.P "new_sheet" (gk K c.P c.S)) (aT:Md P w K mg base aW 8 c.P "change" (lO c.P c.S)):bg P w K mg base aW 9 f fd ["self","entry","cells"] (gC c):=by
 obtain⟨aB,mB,sB⟩:=T.bl;have rB:RelV (.ref aB) (.ref aB):=rfl;refine F.ok FR (λvs H Q E h=>?_) (λba A outer s H vs Q E Y h=>?_)
 .obtain⟨M,a,s',W,tt,O,e,r,cs,rfl,_⟩:=h;rfl
 .obtain⟨M,a,s',W,tt,O,e,r,cs,rfl,R,G,ht,am,a0,L,q⟩:=h;have ab:¬ a.A.own O:=λz=>a0 (R.ok.own _ z);obtain⟨dx,ho⟩:=R.ob;obtain⟨ad,h2⟩:=R.pg.ob;refine⟨_,(ag (aS (az (pf Y.gM) (pv 1) (cf (by rfl) mB rB) (aG _)) (ao (aE (pm (aJ (pv 0) rfl) TP.cl as Y aw (aa (pv 2) aj)))) aF)
   (ao (aE (pm (aJ (pv 0) rfl) TP.cl aT Y aw (aa (aY a9 (pv 1) ak (λ_ _=>rfl)) (aa (pv 2) aj)))))),?_⟩
  try dsimp only[cxK]
  refine⟨_,rfl,tt,aB,_,_,rfl,rfl,bR.of ht,ix.sq (.inr sB),?_⟩;cases e with
  |none =>
   refine⟨rfl,rfl,_,rfl,c6 ?_⟩;refine⟨_,rfl,a.rp,c.C,dx,_,_,rfl,ho,T.cl,T.nP,lu _ _ _,a.A.pg,ad,_,rfl,h2,cE _ _ ah ah ah ah ah,_,rfl,M,a.A,s',O,cs,rfl,R.Fq G,G.room,bE.of am,λe=>ab (by rw[e];exact PA.fG 0 rfl),L,λH1 s1 N I J=>?_⟩;have B:=Pg.jZ G.good G.l0 L N;exact q H1 s1 _ (R.jN I J B.kept.ln) (G.fill L N) (G.vZ L N) ⟨1,B.vw⟩ (R.DM I J) B.kept.ln
  |some k =>
   refine⟨rfl,rfl,_,rfl,bB ?_⟩;obtain⟨ap,c0,U⟩:=G.is k mem_cons_self;refine⟨_,rfl,a.rp,c.C,dx,_,_,rfl,ho,T.cl,T.nP,lu _ _ _,a.A.pg,ad,_,rfl,h2,cE _ _ ah ah ah ah ah,_,rfl,tt,_,1,_,rfl,rfl,bR.of ht,rfl,_,rfl,M,a.A,s',k,O,ap,c0,cs,rfl,R.Fq G,U,am,ab,L,λz=>G.Ef U z,λz H1 s1 s2 N hl I J=>?_,λz H1 s1 m ac hm I J=>?_⟩
   .obtain⟨a1,a2,a3,a4,a5,a6,a7⟩:=G.part U z L N hl;exact q H1 s2 _ (R.jN I J a7) a1 a2 a3 (R.DM I J) a7
   .subst z;obtain⟨a1,a2,a3⟩:=G.write U L ac hm;have FF:=Pg.m5 G.good ac;exact q H1 _ k (R.jN I J FF.kept.ln) a1 a2 a3 (R.DM I J) FF.kept.ln
theorem Gu:aC ["self"] ["self"] (ar tG):=⟨rfl,rfl,rfl,ah,rfl,ah,ah⟩
theorem xG {f:Addr}{fd:FuncData}{c:CA}(F:cN K "held" "Rooms.held" tG f fd) (T:qU K mg c) (TT:Tb.Txt K mg c.T) (am:Md P w K mg base aW 1 c.T "pages" (Tb.eJ c.T)):bg P w K mg base aW 2 f fd ["self"] (kN c):=by
 refine F.ok Gu (λvs H Q E h=>?_) (λa2 A outer s H vs Q E hr h=>?_)
 .obtain⟨M,a,s',W,rfl,_⟩:=h;rfl
 .obtain⟨M,a,s',W,rfl,R,lw,k⟩:=h;have hs:sizeLine=16777216:=sizeLine_eq;obtain⟨dx,h1⟩:=R.ob;refine⟨_,(ao (aE (aN (lS rfl) (by rfl) T.sum tf (aa (vh (gY (cl:=[("self",s.heap.objs.size+1)]) (caps:=[("self",0)]) ⟨rfl,ah,ah,rfl,by kernel_rfl,by intro p J;simp only[mem_cons,not_mem_nil,or_false]at J;rcases J with rfl<;>first|rfl|exact⟨rfl,.inl rfl,.inl rfl⟩|exact⟨rfl,.inl rfl,.inr rfl⟩,by kernel_rfl,by intro p J;simp only[mem_cons,not_mem_nil,or_false]at J;rcases J with rfl<;>first|rfl|exact⟨rfl,.inl rfl,.inl rfl⟩|exact⟨rfl,.inl rfl,.inr rfl⟩,ah⟩ rfl (oj (aJ (pv 0) rfl)) (λ_ _ _ _=>gg) (λ_ _ _ _=>(aN (show di _ _ (vE K)from vK) (by rfl) T.len boot_len (aa (wK (bq (bh hr) (show PE _ _ (Ad K _ "rooms")from aJ (pv 1) rfl) (pv 0) (λ_ _=>rfl)) TT.cl am hr aw) aj))))) aj)))),?_⟩
  try dsimp only[cxK]
  have hn:∀(o:Obj) Y,H a.rd≠some (.frz o Y):=λo Y z=>(by rw[R.hd]at z;cases z);refine⟨_,rfl,a.rp,c.C,dx,_,_,rfl,h1,T.cl,T.nR,fj _ _ _,a.rd,_,rfl,R.hd,hn,λo=>?_⟩;have as:a.rp≠a.rd:=λz=>(by rw[z,R.hd]at h1;cases h1);have O:Off (· = a.rd) H (upd H a.rd (.frz o (.dK (Tb.dk fR W)))):=Off.wr rfl;have N:(upd H a.rd (.frz o (.dK (Tb.dk fR W)))) a.rd=some (.frz o (.dK (Tb.dk fR W))):=ae;have aT:=O _ _ h1 as;have a0:∀x∈W,cX c.T (upd H a.rd (.frz o (.dK (Tb.dk fR W)))) x.2:=λx I=>by
   obtain⟨a1,h3⟩:=(R.tb x I).at_.ob;exact(R.tb x I).off O (λz=>by rw[z,R.hd]at h3;cases h3) (λb z=>(R.dm x I b z).2.2) (λb xs e z=>by rw[z,R.hd]at e;cases e)
  refine uq (a:=a.rd) (o:=o) (kvs:=Tb.dk fR W) (λi ys H2=>ys=((W.take i).map λx=>(x.2.t.length:Int)).map V.int/\aZ (upd H a.rd (.frz o (.dK (Tb.dk fR W)))) H2) ⟨rfl,λ_ _ e=>e⟩ (λi zs H2 _ ⟨_,e⟩=>e _ _ N) ?_ ?_
  .rintro i kk v zs H2 hk ⟨rfl,G⟩;have ab:(W.map λx:Int×TD=>((Sum.inl x.1:Key),fR x.2))[i]?=some (kk,v):=hk;rw[getElem?_map]at ab;obtain⟨x,I,e⟩:=Option.map_eq_some_iff.mp ab;cases e;have hm:=mem_of_getElem? I;have hi:i<W.length:=(List.getElem?_eq_some_iff.mp I).1;have aB:Tb.look W x.1=some x.2:=Tb.bX R.nd hm;have hg:dq H2 a.rd (.int x.1) (some (fR x.2)):=.inl ⟨Tb.dk fR W,Sum.inl x.1,.inr ⟨o,G _ _ N⟩,rfl,by rw[Tb.cD,aB];rfl⟩;have U:=a0 x hm;have T2:=U.at_.same G;obtain⟨ap,ht⟩:=T2.ob;refine⟨_,rfl,a.rp,c.C,dx,_,_,rfl,G _ _ aT,T.cl,T.nR,fj _ _ _,_,rfl,a.rd,fR x.2,rfl,hg,x.2.p,ap,_,rfl,ht,Tb.aV _ ah,x.2.p,x.2.fs,x.2.tb,rfl,T2,λH3 l ns s3 fl L pm a3=>?_⟩;refine⟨l,_,rfl,.inl (bE.of L),?_,?_,G.trans s3⟩
   .rw[length_map,length_map,length_take];omega
   .rw[length_map,U.len pm,take_add_one,I,map_append,map_append];rfl
  .rintro zs H2 ⟨rfl,G⟩ l L;have ad:=G _ _ N;have ac:l≠a.rd:=λz=>(by rw[z,ad]at L;cases L);refine⟨a.rd,o,Tb.dk fR W,by rw[ai (Ne.symm ac)];exact ad,hn,l,(W.map λx=>(x.2.t.length:Int)),rfl,bE.of ?_,?_⟩
   .rw[ai ac,ae,Tb.cq,take_length]
   .have e9:=lU W;unfold heldW at e9;rw[e9];refine k _ λb u e=>?_;by_cases z:b=a.rd
    .rw[z,ae, <-e,z,R.hd]
    .have S:H2 b=some u:=G _ _ (O _ _ e z);rw[ai z,ai (λy=>by rw[y,L]at S;cases S)];exact S
theorem DA:aC ["self","task","page","entry"] ["self","task","page"] (ar ox):=⟨rfl,rfl,rfl,ah,rfl,ah,ah⟩
theorem vR {f:Addr}{fd:FuncData}{c:CA}(F:cN K "place" "Rooms.place" ox f fd) (T:qU K mg c) (TT:Tb.Txt K mg c.T) (TP:nc K mg c.P) (GR:Df P w K mg base aW 1 "room_of" dH) (GG:Md P w K mg base aW 3 c.T "get" (Tb.k9 c.T)) (zN:Md P w K mg base aW 1 c.P "place" (hX c.P c.S)):bg P w K mg base aW 4 f fd ["self","task","page"] (l8 c):=by
 obtain⟨aB,mB,sB⟩:=T.bl;have rB:RelV (.ref aB) (.ref aB):=rfl;refine F.ok DA (λvs H Q E h=>?_) (λas A outer s H vs Q E I h=>?_)
 .obtain⟨M,a,s',W,t,q,x,rfl,_⟩:=h;rfl
 .obtain⟨M,a,s',W,t,q,x,rfl,R,ri,O,k⟩:=h;obtain⟨dx,ho⟩:=R.ob;have L:=R.tb _ (Tb.aA O);obtain⟨ac,ht⟩:=L.at_.ob;refine⟨_,(ag (aK (i:=3) DA.nd rfl (Or.inl rfl) (pm (pc GR I aw (aa (aJ (pv 0) rfl) (aa (pv 1) aj))) TT.cl GG I aw (aa (pv 2) aj)))
   (ag (aS (PW.pt (gp (az Dp (pv 3) lW (aG _)) (gh (az (pf I.gM) (pv 3) (cf (by rfl) mB rB) (aG _))))) (ao (aE (pv 3))) aF)
   (ao (aE (pm (aJ (pv 0) rfl) TP.cl zN I aw (aa (aY a9 (pv 3) ak (λ_ _=>rfl)) aj)))))),?_⟩
  try dsimp only[cxK]
  refine⟨_,rfl,a.rp,c.C,dx,_,_,rfl,ho,T.cl,T.nR,fj _ _ _,_,rfl,a.rd,W,t,x,rfl,R.hd,O,?_⟩;refine⟨x.p,ac,_,rfl,ht,Tb.aV _ ah,_,rfl,x.p,x.fs,x.tb,q,rfl,L.at_,λH1 v J G=>?_⟩;rw[L.lk]at G;cases Y:Tb.look x.t q with
  |none =>
   rw[Y]at G k;have G:v=.non:=G;subst G;exact⟨_,rfl,rfl,_,rfl,c6 (c6 ⟨_,rfl,k H1 _ J rfl⟩)⟩
  |some e =>
   rw[Y]at G k;obtain⟨tt,rfl,N⟩:=G;have U:=R.same J;obtain⟨ad,ab⟩:=U.ob;obtain⟨am,h2⟩:=U.pg.ob;refine⟨_,rfl,rfl,_,rfl,bB ?_⟩;refine⟨_,rfl,tt,aB,_,_,rfl,rfl,bR.of N,ix.sq (.inr sB),?_⟩;cases e with
   |none=>exact⟨rfl,rfl,_,rfl,c6 ⟨_,rfl,k H1 _ J ⟨tt,rfl,N⟩⟩⟩
   |some j =>
    refine⟨rfl,rfl,_,rfl,bB ?_⟩;obtain⟨cs,cc,b,n,hj,_,_⟩:=ri.is j (jG O Y);exact⟨_,rfl,a.rp,c.C,ad,_,_,rfl,ab,T.cl,T.nP,lu _ _ _,a.A.pg,am,_,rfl,h2,cE _ _ ah ah ah ah ah,_,rfl,tt,_,1,_,rfl,rfl,bR.of N,rfl,M,a.A,s',j,b,n,rfl,U.pg,hj,λt' ap=>k H1 _ J ⟨t',b,n,rfl,hj,ap⟩⟩
theorem AS:aC ["self","task","page","many","table","pages","wanted"] ["self","task","page","many"] (ar y4):=⟨rfl,rfl,rfl,ah,rfl,ah,ah⟩
theorem zV {f:Addr}{fd:FuncData}{c:CA}(F:cN K "map" "Rooms.map" y4 f fd) (T:qU K mg c) (TT:Tb.Txt K mg c.T) (GR:Df P w K mg base aW 1 "room_of" dH) (GM:Df P w K mg base aW 2 "pages_to_map" Rm.qo) (GA:Df P w K mg base aW 1 "refuse_above" kD) (a5:Md P w K mg base aW 1 c.T "pages" (Tb.eJ c.T)) (GH:Md P w K mg base aW 2 c.C "held" (kN c)) (GL:Md P w K mg base aW 3 c.T "lay" (Tb.rK K c.T)):bg P w K mg base aW 4 f fd ["self","task","page","many"] (sQ c):=by
 obtain⟨aB,mB,sB⟩:=T.bl;have rB:RelV (.ref aB) (.ref aB):=rfl;refine F.ok AS (λvs H Q E h=>?_) (λb7 A outer s H vs Q E O h=>?_)
 .obtain⟨M,a,s',W,cv,t,p,m,x,rfl,_⟩:=h;rfl
 .obtain⟨M,a,s',W,cv,t,p,m,x,rfl,R,ri,bd,lw,I,U,a2,a7,q⟩:=h;obtain⟨dx,ho⟩:=R.ob;have TX:=R.tb _ (Tb.aA I);obtain⟨bm,ht⟩:=TX.at_.ob;have b1:¬ m<1:=λz=>U (.inl z);have b2:¬ p<0:=λz=>U (.inr (.inl z));have b3:¬ 64<p+m:=λz=>U (.inr (.inr z));have pl:=uM U;refine⟨_,(ag (aK (i:=4) AS.nd rfl (Or.inl rfl) (pc GR O aw (aa (aJ (pv 0) rfl) (aa (pv 1) aj))))
   (ag (aK (i:=5) AS.nd rfl (Or.inl rfl) (pc GM O aw (aa (wK (pv 4) TT.cl a5 O aw) (aa (pv 2) (aa (pv 3) aj)))))
   (ag (aL (pc GA O aw (aa (ay bu (wK (pv 0) T.cl GH O aw) (aN bC (by rfl) T.len boot_len (aa (pv 5) aj))) (aa (aJ (pv 0) rfl) aj))))
   (ao (cU PassesOwn.never rfl (fh (pv 5)) (a8 (i:=6) AS.nd rfl (Or.inl rfl)) (ao (aL (pm (pv 4) TT.cl GL O aw (aa (pv 6) (aa (cf (by rfl) mB rB) aj)))))))))),?_⟩
  try dsimp only[cxK]
  refine⟨_,rfl,a.rp,c.C,dx,_,_,rfl,ho,T.cl,T.nR,fj _ _ _,_,rfl,a.rd,W,t,x,rfl,R.hd,I,?_⟩;refine⟨_,rfl,x.p,bm,_,rfl,ht,Tb.aV _ ah,x.p,x.fs,x.tb,rfl,TX.at_,λH1 l1 ns s1 b8 bb pm b6=>?_⟩;refine⟨_,rfl,_,rfl,l1,ns,p,m,rfl,bb,U,λz h1 h2=>absurd (a2 z h1) ((TX.mem pm z).mp h2),λH2 N s2 a6 bz=>?_⟩;have S2:=s1.trans s2;have R2:=R.same S2;obtain⟨bY,b0⟩:=R2.ob;refine⟨_,rfl,a.rp,bY,_,rfl,b0,gB _ _ _ ah ah ah,M,a,s',W,rfl,R2,lw,λH3 s3=>?_⟩;have aT:=s3 _ _ bz;have R3:=R2.same s3;obtain⟨bv,be⟩:=R3.ob;refine⟨_,rfl,N,_,rfl,.inl (bE.of aT),_,_,rfl,rfl,_,rfl,a.rp,c.C,bv,_,_,rfl,be,T.cl,T.nT,D5 _ _ _,_,_,rfl,?_,?_⟩
  .rw[length_map,pl];omega
  have S3:=S2.trans s3;have bn:¬ M N:=λz=>R.mt _ z (s1.free a6);have bx:¬ a.own W N:=λz=>bn (R.dD N z);refine⟨_,rfl,N,rfl,⟨_,bE.of aT⟩,?_⟩;refine dY (K:=K) (a:=N) (xs:=(Rm.aR p m).map V.int) (λi σ S=>Dy λ(v6:Option V) (M4:Addr->Prop) (y:TD)=>Fl (σ=[some (.ref a.rp),some (.int t),some (.int p),some (.int m),some (.ref y.p),some (.ref N),v6]) (ax c S M4 a s' (Tb.aX W t y)) (Pg.RI s' (ents (Tb.aX W t y))) ((ents (Tb.aX W t y)).length=(ents W).length+i) (Cv s' (Tb.aX W t y) (jd cv t ((Rm.aR p m).take i))) ((∀q,Tb.look y.t q=if q∈(Rm.aR p m).take i then some none else Tb.look x.t q)) (Step H3 M (a.own W) S M4 (a.own (Tb.aX W t y))))
   ⟨_,M,x,rfl,by rw[cG R.nd I];exact R3,by rw[cG R.nd I];exact ri,by rw[cG R.nd I];rfl,by rw[cG R.nd I,take_zero,w6];exact bd,λq=>by simp,by rw[cG R.nd I];exact R3.refl⟩ (λi σ S _ z0=>by obtain⟨_,_,_,_,_,_,_,_,_,st⟩:=z0;exact bE.of (st.off _ _ aT bx)) ?_ ?_
  .rintro i u σ S hu ⟨v6,M4,y,rfl,R4,as,a1,ac,am,a0⟩;rw[getElem?_map]at hu;obtain⟨G,hp,rfl⟩:=Option.map_eq_some_iff.mp hu;have a3:=mem_of_getElem? hp;obtain⟨hi,b5⟩:=List.getElem?_eq_some_iff.mp hp;have a4:¬ G∈(Rm.aR p m).take i:=λz=>by
    obtain⟨j,hj,e⟩:=getElem_of_mem z;rw[getElem_take]at e;rw[length_take]at hj;exact m7 (m9 p m) j i (getElem?_eq_getElem af) hp af e
   have ap:=iq (y:=y) I;have T4:=R4.tb _ (Tb.aA ap);obtain⟨b4,ba⟩:=T4.at_.ob;have bi:Tb.look y.t G=none:=(by rw[am,if_neg a4];exact a2 G a3);obtain⟨r1,r2,_⟩:=Rm.vI U G a3;refine⟨_,rfl,y.p,b4,_,rfl,ba,Tb.aV _ ah,_,rfl,y.p,y.fs,aB,y.tb,G,[.str "blank"],rfl,T4.at_,r1,r2,.inr sB,rfl,λH5 ad T5 l5 o5 n5=>?_⟩;have bc:cX c.T H5 ⟨y.p,y.fs,ad,(G,none)::y.t⟩:=⟨T5,List.nodup_cons.mpr ⟨Tb.cj bi,T4.nd⟩,λj=>by
    rw[l5 j,Tb.aM];by_cases z:j=G
    .rw[if_pos z,if_pos z.symm];rfl
    .rw[if_neg z,if_neg (Ne.symm z)];exact T4.lk j⟩
   have R5:=R4.su (y:=⟨y.p,y.fs,ad,(G,none)::y.t⟩) ap rfl bc o5 n5;have S5:=a0.trans (R4.p8 (y:=⟨y.p,y.fs,ad,(G,none)::y.t⟩) ap o5 n5);have pe:(ents (Tb.aX W t ⟨y.p,y.fs,ad,(G,none)::y.t⟩)).Perm (none::ents (Tb.aX W t y)):=(gK R.nd I).trans ((gK (y:=y) R.nd I).symm.cons none);rw[set_set]at R5 S5;have bG:(ents (Tb.aX W t y)).length<(s'.ow true).length+(s'.ow false).length:=by
    rw[a1];unfold bL at a7;omega
   refine⟨_,_,⟨y.p,y.fs,ad,(G,none)::y.t⟩,rfl,R5,(as.lay bG).perm pe.symm,by rw[pe.length_eq,length_cons,a1];omega,?_,?_,S5⟩
   .intro Y bI ab q e L;rw[Tb.bS Y I]at ab;rw[take_add_one,hp];by_cases z:Y=t
    .rw[if_pos z]at ab;cases ab;have L:Tb.look ((G,none)::y.t) q=some e:=L;rw[Tb.aM]at L;by_cases J:G=q
     .rw[if_pos J]at L;cases L;show jd cv t _ Y q=_;unfold jd;rw[if_pos ⟨z,by rw[<-J];simp⟩]
     .rw[if_neg J]at L;rw[show(some G).toList=[G]from rfl,rG (λh=>J h.2.symm)];exact ac Y y (by rw[z];exact ap) q e L
    .rw[if_neg z]at ab;rw[show(some G).toList=[G]from rfl,rG (λh=>z h.1)];exact ac Y bI (by rw[Tb.bS Y I,if_neg z];exact ab) q e L
   .intro j;show Tb.look ((G,none)::y.t) j=_;rw[Tb.aM,am j,take_add_one,hp];by_cases z:G=j
    .rw[if_pos z,if_pos (by rw[<-z];simp)]
    .rw[if_neg z];by_cases J:j∈(Rm.aR p m).take i
     .rw[if_pos J,if_pos (mem_append_left _ J)]
     .rw[if_neg J,if_neg (by simp[Ne.symm z,J])]
  .rintro σ S ⟨v6,M4,y,rfl,R4,as,a1,ac,am,a0⟩;rw[length_map,take_length]at ac am;exact q S M4 y R4 as ac am ((R.iy S3).trans a0)
end
end St
namespace Rm
theorem jb {ad n:Int}{F:List Int}(h:¬ dn ad n F):(aO ad n).length<=64/\∀q∈aO ad n,q∈F:=by
 unfold aO;by_cases e:n=0
 .rw[if_pos e];exact⟨zero_le _,λ_ h=>nomatch h⟩
 .rw[if_neg e];have G:0<n:=by
   have:¬ n<0:=λz=>h (.inl z);omega
  have h1:¬ cn (jq ad) (iw ad n):=λz=>h (.inr ⟨G,.inl z⟩);have h2:∀q∈aR (jq ad) (iw ad n),q∈F:=Classical.byContradiction λz=>h (.inr ⟨G,.inr z⟩);refine⟨?_,h2⟩;unfold aR;rw[length_map,length_range];have I:¬ jq ad<0:=λz=>h1 (.inr (.inl z));have J:¬ 64<jq ad+iw ad n:=λz=>h1 (.inr (.inr z));omega
theorem uY {ad n:Int}{G I:List Int}(h:∀q,q∈G->q∈I) (F:dn ad n I):dn ad n G:=by
 rcases F with F|⟨h1,h2⟩
 .exact .inl F
 .refine .inr ⟨h1,h2.imp id λz y=>z λq J=>h q (y q J)⟩
end Rm
namespace St
open PySem L2
noncomputable def dt (f:Int->List Int) (ps:List Int):List Int:=(ps.map f).flatten
theorem eL {f:Int->List Int}{ps:List Int}{i:Nat}{q:Int}(h:ps[i]?=some q):dt f (ps.take (i+1))=dt f (ps.take i)++f q:=by
 unfold dt;rw[take_add_one,h,map_append,List.flatten_append];simp
theorem xk.len {s:Pg.PS}{e:Pg.Ent}{cs:List Int}(G:Pg.Good s) (h:Pg.xk s e cs):cs.length=8:=by
 cases e with
 |none=>rw[show cs=replicate 8 0 from h];simp
 |some k=>obtain⟨c,h⟩:=h;exact(G.vw h).2
inductive nW (c:CA) (vs:List V) (H:Hp) (Q:VK) (e3:XK):Prop
 |mk (M:Addr->Prop) (a:RA) (s:Pg.PS) (W:eF) (cv:Int->Int->List Int) (t ad:Int) (n:Nat) (x:TD) (_:vs=[.ref a.rp,.int t,.int ad,.int n]) (_:ax c H M a s W) (_:Pg.RI s (ents W)) (_:Cv s W cv) (_:Tb.look W t=some x) (_:n<=600) (_:0<=ad) (_:ad<=1000) (_:¬ Rm.dn ad n (x.t.map (·.1))) (_:∀(H':Hp) (M':Addr->Prop) (s':Pg.PS) (l:Addr),ax c H' M' a s' W->Pg.RI s' (ents W)->Cv s' W cv->Step H M (a.own W) H' M' (a.own W)->(∀b,(s'.ow b).length=(s.ow b).length)->H l=none->H' l=some (.lst ((((dt (cv t) (Rm.aO ad n)).drop (ad%8).toNat).take n).map V.int))->Q (.ref l) H'):nW c vs H Q e3
section
variable {P:Program}{w:World}{K:PySem.W.Frag}{mg:Str->Option Value}{base:Heap}
variable {c:CA}{H H':Hp}{M M' B:Addr->Prop}{a:RA}{s s':Pg.PS}{W:eF}{t:Int}{x y:TD}
theorem nameQ {i:Nat}{v:V}{σ:L2.St}{H:Hp}{Q:L2.St->Hp->Prop}(h:Q (σ.set i (some v)) H):qD i v σ H Q:=h
theorem ax.Hj (R:ax c H M a s W) {l:Addr}{xs ys:List V}(F:H l=some (.lst xs)) (G:M l) (I:¬ a.own W l):ax c (upd H l (.lst ys)) M a s W :=
 R.Bb (B:=(· = l)) (Off.wr rfl) (λb z=>by rw[z];exact⟨G,I⟩) (λb z=>.inl ⟨xs,by rw[z];exact F⟩) (λb z=>.inl z) (λb z _=>z) (λb z e=>by
  by_cases q:b=l
  .rw[q,ae]at e;cases e
  .rw[ai q]at e;exact R.mt b z e)
theorem ax.Ey (R:ax c H M a s W) {l:Addr}{o:HO}(F:H l=none):ax c (upd H l o) (λb=>M b\/b=l) a s W :=
 R.Bb (B:=λ_=>False) (λb u e _=>cK F b u e id) (λb z=>z.elim) (λb z=>z.elim) (λb z=>z.elim .inl λz=>.inr (by rw[z];exact F)) (λb z _=>.inl z) (λb z e=>by
  by_cases q:b=l
  .rw[q,ae]at e;cases e
  .rw[ai q]at e;exact z.elim (λz=>R.mt b z e) q)
theorem cX.keys (T:cX c.T H x) (q:Int):q∈x.t.map (·.1)↔Tb.look x.t q≠none:=by
 constructor
 .intro h e;exact Tb.cj e h
 .intro h;cases e:Tb.look x.t q with
  |none=>exact absurd e h
  |some v=>exact List.mem_map.mpr ⟨_,Tb.aA e,rfl⟩
theorem yC:aC ["self","task","address","many","table","whole","page","entry"] ["self","task","address","many"] (ar tL):=⟨rfl,rfl,rfl,ah,rfl,ah,ah⟩
theorem xW {f:Addr}{fd:FuncData}{c:CA}(F:cN K "peek" "Rooms.peek" tL f fd) (T:qU K mg c) (TT:Tb.Txt K mg c.T) (TP:nc K mg c.P) (GR:Df P w K mg base aW 1 "room_of" dH) (GO:Df P w K mg base aW 2 "pages_of_cells" Rm.ip) (ch:Df P w K mg base aW 1 "run_within" Rm.mz) (b3:Md P w K mg base aW 1 c.T "pages" (Tb.eJ c.T)) (GG:Md P w K mg base aW 3 c.T "get" (Tb.k9 c.T)) (bn:Md P w K mg base aW 7 c.P "fetch" (kJ c.P c.S)) (b4:Md P w K mg base aW 5 c.C "cells_of" (ir c)):bg P w K mg base aW 8 f fd ["self","task","address","many"] (nW c):=by
 obtain⟨aB,mB,sB⟩:=T.bl;have rB:RelV (.ref aB) (.ref aB):=rfl;refine F.ok yC (λvs H Q E h=>?_) (λcp A outer s H vs Q E N h=>?_)
 .obtain⟨M,a,s',W,cv,t,ad,n,x,rfl,_⟩:=h;rfl
 .obtain⟨M,a,s',W,cv,t,ad,n,x,rfl,R,ri,bm,hx,n6,cC,cw,hb,q⟩:=h;have hs:sizeLine=16777216:=sizeLine_eq;obtain⟨dx,ho⟩:=R.ob;have TX:=R.tb _ (Tb.aA hx);obtain⟨c1,c2⟩:=Rm.jb hb;refine⟨_,(ag (aK (i:=4) yC.nd rfl (Or.inl rfl) (pc GR N aw (aa (aJ (pv 0) rfl) (aa (pv 1) aj))))
   (ag (aK (i:=5) yC.nd rfl (Or.inl rfl) (bU aj))
   (ag (cU PassesOwn.never rfl (fh (pc GO N aw (aa (wK (pv 4) TT.cl b3 N aw) (aa (pv 2) (aa (pv 3) aj))))) (a8 (i:=6) yC.nd rfl (Or.inl rfl)) (ag (aK (i:=7) yC.nd rfl (Or.inl rfl) (pm (pv 4) TT.cl GG N aw (aa (pv 6) aj)))
   (ag (aS (az (uD N.gM) (pv 7) (cf (by rfl) mB rB) (aG _)) (ao (aL (pm (aJ (pv 0) rfl) TP.cl bn N aw (aa (aY a9 (pv 7) ak (λ_ _=>rfl)) aj)))) aF)
   (ao (aL (gS plainAttrs_list slot_list_extend type_list_extend mW (pv 5) (aa (pm (pv 0) T.cl b4 N aw (aa (pv 7) aj)) aj)))))))
   (ao (aE (pc ch N aw (aa (pv 5) (aa (pv 2) (aa (pv 3) aj))))))))),?_⟩
  try dsimp only[cxK]
  refine⟨_,rfl,a.rp,c.C,dx,_,_,rfl,ho,T.cl,T.nR,fj _ _ _,_,rfl,a.rd,W,t,x,rfl,R.hd,hx,?_⟩;refine⟨av,λG ab=>?_⟩;have R1:=R.Ey (o:=.lst []) ab;have s1:aZ H (upd H G (.lst [])):=Tb.au ab;have a3:upd H G (.lst []) G=some (.lst []):=ae;generalize upd H G (.lst [])=H1 at *;have a5:¬ a.own W G:=λz=>R.mt _ (R.dD _ z) ab;have bc:=R1.tb _ (Tb.aA hx);obtain⟨b6,ht⟩:=bc.at_.ob;refine⟨_,rfl,x.p,b6,_,rfl,ht,Tb.aV _ ah,x.p,x.fs,x.tb,rfl,bc.at_,λH2 l2 ns s2 cr b7 pm cP=>?_⟩;have bi:∀{z},z∈x.t.map (·.1)->z∈ns:=λ{z} h=>(TX.mem pm z).mpr ((TX.keys z).mp h);refine⟨_,rfl,_,rfl,l2,ns,ad,n,rfl,b7,λh=>hb (Rm.uY (λz hz=>bi hz) h),λH3 l3 s3 bv a4=>?_⟩;have S3:=s2.trans s3;have R3:=R1.same S3;have b1:=S3 _ _ a3;have a1:H1 l3=none:=s2.free bv;have b2:¬ a.own W l3:=λz=>R1.mt _ (R1.dD _ z) a1;have ca:l3≠G:=λz=>(by rw[z,a3]at a1;cases a1);refine⟨l3,rfl,⟨_,bE.of a4⟩,?_⟩;refine dY (K:=K) (a:=l3) (xs:=(Rm.aO ad n).map V.int) (λi σ H4=>Dy λ(v6 v7:Option V) (J:Pg.PS)=>Fp (σ=[some (.ref a.rp),some (.int t),some (.int ad),some (.int n),some (.ref x.p),some (.ref G),v6,v7]) (ax c H4 (λb=>M b\/b=G) a J W) (Pg.RI J (ents W)) (Cv J W cv) (H4 G=some (.lst ((dt (cv t) ((Rm.aO ad n).take i)).map V.int))) ((dt (cv t) ((Rm.aO ad n).take i)).length=8*i) (Off (λb=>a.own W b\/b=G) H3 H4) (∀b,(J.ow b).length=(s'.ow b).length))
   ⟨_,_,s',rfl,R3,ri,bm,b1,rfl,λ_ _ e _=>e,λ_=>rfl⟩ (λi σ H4 _ z0=>by obtain⟨_,_,_,_,_,_,_,_,_,Y,_⟩:=z0;exact bE.of (Y _ _ a4 λz=>z.elim b2 ca)) ?_ ?_
  .rintro i u σ H4 hu ⟨v6,v7,J,rfl,R4,L,as,ap,b8,Y,am⟩;rw[getElem?_map]at hu;obtain⟨p,hp,rfl⟩:=Option.map_eq_some_iff.mp hu;have bI:=mem_of_getElem? hp;obtain⟨hi,cx⟩:=List.getElem?_eq_some_iff.mp hp;have T4:=R4.tb _ (Tb.aA hx);obtain⟨ci,bG⟩:=T4.at_.ob;obtain⟨e,he⟩:∃e,Tb.look x.t p=some e:=by
    cases z:Tb.look x.t p with
    |none=>exact absurd z ((TX.keys p).mp (c2 p bI))
    |some e=>exact⟨e,rfl⟩
   refine⟨_,rfl,x.p,ci,_,rfl,bG,Tb.aV _ ah,_,rfl,x.p,x.fs,x.tb,p,rfl,T4.at_,λH5 v U hv=>?_⟩;rw[T4.lk,he]at hv;obtain⟨tt,rfl,ac⟩:=hv;have O:=R4.same U;have a6:=U _ _ ap;refine nameQ ?_;dsimp only;refine share (λσ H6=>∃I:Pg.PS,Fp (σ=[some (.ref a.rp),some (.int t),some (.int ad),some (.int n),some (.ref x.p),some (.ref G),some (.int p),some (.ref tt)]) (ax c H6 (λb=>M b\/b=G) a I W) (Pg.RI I (ents W)) (Cv I W cv) (H6 tt=some (.tup (wy e))) (H6 G=some (.lst ((dt (cv t) ((Rm.aO ad n).take i)).map V.int))) (Off (λb=>a.own W b\/b=G) H3 H6) (∀b,(I.ow b).length=(s'.ow b).length)) (λu' a2=>?A) ?B
   case A =>
    refine⟨_,rfl,tt,aB,_,_,rfl,rfl,bR.of ac,ix.sq (.inr sB),?_⟩;cases e with
    |none =>
     refine⟨rfl,rfl,_,rfl,bB ?_⟩;exact a2 _ _ ⟨J,rfl,O,L,as,ac,a6,λb o e z=>U _ _ (Y b o e z),am⟩
    |some k =>
     refine⟨rfl,rfl,_,rfl,c6 ?_⟩;obtain⟨bz,bx⟩:=O.ob;obtain⟨aT,bY⟩:=O.pg.ob;obtain⟨cs,cc,hv⟩:=L.is k (jG hx he);refine⟨_,rfl,a.rp,c.C,bz,_,_,rfl,bx,T.cl,T.nP,lu _ _ _,a.A.pg,aT,_,rfl,bY,cE _ _ ah ah ah ah ah,_,rfl,tt,_,1,_,rfl,rfl,bR.of ac,rfl,_,a.A,J,k,cs,cc,rfl,O.Fq L,hv,λH6 I fe G6 O6=>?_⟩;have FF:=Pg.m5 L.good fe;exact a2 _ _ ⟨I,rfl,O.jN G6 O6 FF.kept.ln,L.Bz fe,as.keep (Pg.sY L.good fe),O6 _ _ ac (O.pg.pH _ _ ac),O6 _ _ a6 (λz=>a5 (.inl z)),λb o e z=>O6 _ _ (U _ _ (Y b o e z)) (λy=>z (.inl (.inl y))),λb=>(FF.kept.ln b).trans (am b)⟩
   case B =>
    rintro σ H6 ⟨I,rfl,R6,a0,bb,b0,be,o6,b5⟩;obtain⟨aT,b9⟩:=R6.ob;have a7:=bb t x hx p e he;have c8:=xk.len a0.good a7;refine⟨_,rfl,.inl ⟨rfl,_,bE.of be⟩,_,rfl,a.rp,aT,_,rfl,b9,gB _ _ _ ah ah ah,_,rfl,_,a,I,W,tt,e,cv t p,rfl,R6,a0.good,b0,a7,λH7 l7 s7 f7 h7=>?_⟩;have R7:=R6.same s7;have bd:=s7 _ _ be;refine⟨G,l7,_,_,rfl,rfl,bd,h7,by rw[length_map,length_map];omega,?_⟩;rw[<-map_append, <-eL hp];refine⟨_,_,I,rfl,R7.Hj bd (.inr rfl) a5,a0,bb,ae,by rw[eL hp,length_append];omega,λb o e z=>by rw[ai (λy=>z (.inr y))];exact s7 _ _ (o6 b o e z),b5⟩
  .rintro σ H4 ⟨v6,v7,J,rfl,R4,L,as,ap,b8,Y,am⟩;rw[length_map,take_length]at ap;refine⟨_,rfl,_,rfl,_,rfl,G,_,ad,n,rfl,ap,λH5 l5 U ba ce=>?_⟩;have O:=R4.same U;have oA:Off (a.own W) H H5:=λb o e z=>U _ _ (Y _ _ (S3 _ _ (s1 _ _ e)) λy=>y.elim z λy=>by rw[y,ab]at e;cases e);refine q H5 _ J l5 O L as ⟨oA,λb z _=>.inl z,λb z=>z.elim .inl λz=>.inr (by rw[z];exact ab),λb z=>.inl z,R.mt,R.dD⟩ am ?_ ce;cases z:H l5 with
   |none=>rfl
   |some o =>
    exfalso;by_cases w:a.own W l5
    .exact R4.mt _ (R4.dD _ w) ba
    .have:=Y _ _ (S3 _ _ (s1 _ _ z)) λy=>y.elim w λy=>(by rw[y,ab]at z;cases z);rw[ba]at this;cases this
end
end St
namespace Rm
theorem uk {ad:Int}{cs ws:List Int}{J:List Int}(h:¬ dn ad cs.length J) (F:ws.length=8*(aO ad cs.length).length):(eB ws (ad%8).toNat cs).length=8*(aO ad cs.length).length:=by
 unfold eB;rw[length_append,length_append,length_take,length_drop];by_cases e:((cs.length:Nat):Int)=0
 .have:aO ad cs.length=[]:=(by unfold aO;rw[if_pos e]);rw[this]at F ⊢;have N:ws.length=0:=F;have G:cs.length=0:=af;rw[N,G];simp
 .have L:(aO ad cs.length).length=(iw ad cs.length).toNat:=by
   unfold aO;rw[if_neg e];unfold aR;rw[length_map,length_range]
  have I:0<((cs.length:Nat):Int):=af;have h1:¬ cn (jq ad) (iw ad cs.length):=λz=>h (.inr ⟨I,.inl z⟩);have h2:¬ iw ad cs.length<1:=λz=>h1 (.inl z);rw[L]at F ⊢;unfold iw at *;omega +splitNatSub
theorem BF {k:Nat}{ws:List Int}(h:ws.length=8*k):∀G∈gW k ws,G.length=8:=by
 intro G F;unfold gW at F;obtain⟨i,hi,rfl⟩:=List.mem_map.mp F;have:=List.mem_range.mp hi;rw[length_take,length_drop,h];lia
end Rm
namespace St
open PySem L2
noncomputable def gR (cv:Int->Int->List Int) (t:Int) (l:List (Int×List Int)):Int->Int->List Int:=λt' q=>if t'=t then(Tb.look l q).getD (cv t' q)else cv t' q
theorem sP {cv:Int->Int->List Int}{t:Int}:gR cv t []=cv:=by
 funext t' q;unfold gR;by_cases z:t'=t
 .rw[if_pos z];rfl
 .rw[if_neg z]
theorem rH {cv:Int->Int->List Int}{t t' q:Int}{l:List (Int×List Int)}{p:Int}{r:List Int}:gR cv t ((p,r)::l) t' q=if t'=t/\q=p then r else gR cv t l t' q:=by
 unfold gR;by_cases z:t'=t
 .rw[if_pos z,if_pos z,Tb.aM];by_cases F:p=q
  .rw[if_pos F,if_pos ⟨z,F.symm⟩];rfl
  .rw[if_neg F,if_neg (λh=>F h.2.symm)]
 .rw[if_neg z,if_neg z,if_neg (λh=>z h.1)]
noncomputable def sg (f:Int->List Int) (ad:Int) (cs:List Int):List (List Int):=Rm.gW (Rm.aO ad cs.length).length (Rm.eB (dt f (Rm.aO ad cs.length)) (ad%8).toNat cs)
inductive p9 (K:PySem.W.Frag) (c:CA) (vs:List V) (H:Hp) (Q:VK) (e3:XK):Prop
 |mk (M:Addr->Prop) (a:RA) (s:Pg.PS) (W:eF) (cv:Int->Int->List Int) (t ad:Int) (ca:Addr) (cs:List Int) (x:TD) (_:vs=[.ref a.rp,.int t,.int ad,.ref ca]) (_:ax c H M a s W) (_:Pg.RI s (ents W)) (_:Cv s W cv) (_:Tb.look W t=some x) (_:bE K H ca (cs.map V.int)) (_:cs.length<=500) (_:0<=ad) (_:ad<=1000) (_:¬ Rm.dn ad cs.length (x.t.map (·.1))) (_:∀(H':Hp) (M':Addr->Prop) (s':Pg.PS) (y:TD),ax c H' M' a s' (Tb.aX W t y)->Pg.RI s' (ents (Tb.aX W t y))->Cv s' (Tb.aX W t y) (gR cv t (((Rm.aO ad cs.length).zip (sg (cv t) ad cs)).reverse))->(∀q,¬ q∈Rm.aO ad cs.length->Tb.look y.t q=Tb.look x.t q)->(∀q∈Rm.aO ad cs.length,∃k,Tb.look y.t q=some (some k))->Step H M (a.own W) H' M' (a.own (Tb.aX W t y))->(∀b,(s'.ow b).length=(s.ow b).length)->Q .non H'):p9 K c vs H Q e3
theorem pb (ad n:Int):(Rm.aO ad n).Nodup:=by
 unfold Rm.aO;by_cases e:n=0
 .rw[if_pos e];exact nodup_nil
 .rw[if_neg e];exact m9 _ _
theorem kr {α G:Type}{F:α->G->Prop}:∀{xs:List α}{ys:List G}{i:Nat}{x:α},Paired F xs ys->xs[i]?=some x->∃y,ys[i]?=some y/\F x y
 |_,_,_,_,.nil,e=>by simp at e
 |_,_,0,_,.cons r _,e=>by simp at e;subst e;exact⟨_,rfl,r⟩
 |_,_,i+1,x,.cons _ t,e=>by
  obtain⟨u,h1,h2⟩:=kr (i:=i) (x:=x) t (by simpa using e);exact⟨u,by simpa using h1,h2⟩
section
variable {P:Program}{w:World}{K:PySem.W.Frag}{mg:Str->Option Value}{base:Heap}
theorem uA:aC ["self","task","address","cells","table","pages","whole","page","changed"] ["self","task","address","cells"] (ar tQ):=⟨rfl,rfl,rfl,ah,rfl,ah,ah⟩
theorem yn {f:Addr}{fd:FuncData}{c:CA}(F:cN K "poke" "Rooms.poke" tQ f fd) (T:qU K mg c) (TT:Tb.Txt K mg c.T) (GR:Df P w K mg base aW 1 "room_of" dH) (GO:Df P w K mg base aW 2 "pages_of_cells" Rm.ip) (df:Df P w K mg base aW 1 "pages_with" (Rm.tj K)) (cT:Md P w K mg base aW 1 c.T "pages" (Tb.eJ c.T)) (GG:Md P w K mg base aW 3 c.T "get" (Tb.k9 c.T)) (GL:Md P w K mg base aW 3 c.T "lay" (Tb.rK K c.T)) (c4:Md P w K mg base aW 5 c.C "cells_of" (ir c)) (c9:Md P w K mg base aW 9 c.C "sheet_with" (gC c)):bg P w K mg base aW 10 f fd ["self","task","address","cells"] (p9 K c):=by
 refine F.ok uA (λvs H Q E h=>?_) (λep A outer s H vs Q E N h=>?_)
 .obtain⟨M,a,s',W,cv,t,ad,ca,cs,x,rfl,_⟩:=h;rfl
 .obtain⟨M,a,s',W,cv,t,ad,ca,cs,x,rfl,R,ri,bG,O,bY,n6,et,eo,hb,q⟩:=h;have hs:sizeLine=16777216:=sizeLine_eq;obtain⟨dx,ho⟩:=R.ob;have TX:=R.tb _ (Tb.aA O);obtain⟨dp,ht⟩:=TX.at_.ob;obtain⟨c1,c2⟩:=Rm.jb hb;refine⟨_,(ag (aK (i:=4) uA.nd rfl (Or.inl rfl) (pc GR N aw (aa (aJ (pv 0) rfl) (aa (pv 1) aj))))
   (ag (aK (i:=5) uA.nd rfl (Or.inl rfl) (pc GO N aw (aa (wK (pv 4) TT.cl cT N aw) (aa (pv 2) (aa (aN bC (by rfl) T.len boot_len (aa (pv 3) aj)) aj)))))
   (ag (aK (i:=6) uA.nd rfl (Or.inl rfl) (bU aj))
   (ag (cU PassesOwn.never rfl (fh (pv 5)) (a8 (i:=7) uA.nd rfl (Or.inl rfl)) (ao (aL (gS plainAttrs_list slot_list_extend type_list_extend mW (pv 6) (aa (pm (pv 0) T.cl c4 N aw (aa (pm (pv 4) TT.cl GG N aw (aa (pv 7) aj)) aj)) aj)))))
   (ao (cU PassesOwn.never rfl (CL (by rfl) T.zip (aa (pv 5) (aa (pc df N aw (aa (pv 6) (aa (pv 2) (aa (pv 3) aj)))) aj))) (dF rfl (bo (a8 (i:=7) uA.nd rfl (Or.inl rfl)) (bo (a8 (i:=8) uA.nd rfl (Or.inl rfl)) cW))) (ao (aL (pm (pv 4) TT.cl GL N aw (aa (pv 7) (aa (cF (aa aI (aa (pm (pv 0) T.cl c9 N aw (aa (pm (pv 4) TT.cl GG N aw (aa (pv 7) aj)) (aa (pv 8) aj))) aj))) aj))))))))))),?_⟩
  try dsimp only[cxK]
  refine⟨_,rfl,a.rp,c.C,dx,_,_,rfl,ho,T.cl,T.nR,fj _ _ _,_,rfl,a.rd,W,t,x,rfl,R.hd,O,?_⟩;refine⟨_,rfl,x.p,dp,_,rfl,ht,Tb.aV _ ah,x.p,x.fs,x.tb,rfl,TX.at_,λH1 l1 ns s1 eq d3 pm ev=>?_⟩;have bi:∀{z},z∈x.t.map (·.1)->z∈ns:=λ{z} h=>(TX.mem pm z).mpr ((TX.keys z).mp h);refine⟨_,rfl,_,rfl,ca,_,rfl,.inl (Rm.d0 bY (s1 _)),l1,ns,ad,cs.length,by rw[length_map];rfl,d3,λh=>hb (Rm.uY (λz hz=>bi hz) h),λH2 U s2 dT bd=>?_⟩;generalize eP:Rm.aO ad cs.length=ps at *;have da:ps.Nodup:=(by rw[<-eP];exact pb _ _);have S2:=s1.trans s2;have R2:=R.same S2;refine⟨av,λG a3=>?_⟩;have R3:=R2.Ey (o:=.lst []) a3;have s3:aZ H2 (upd H2 G (.lst [])):=Tb.au a3;have cS:upd H2 G (.lst []) G=some (.lst []):=ae;generalize upd H2 G (.lst [])=H3 at *;have a5:H G=none:=S2.free a3;have dM:¬ a.own W G:=λz=>R.mt _ (R.dD _ z) a5;have bc:=s3 _ _ bd;have ec:H U=none:=s1.free dT;have d8:¬ a.own W U:=λz=>R.mt _ (R.dD _ z) ec;have b6:U≠G:=λz=>(by rw[z,a3]at bd;cases bd);have cr:∀p∈ps,∃e,Tb.look x.t p=some e:=λp a1=>by
   cases z:Tb.look x.t p with
   |none=>exact absurd z ((TX.keys p).mp (c2 p a1))
   |some e=>exact⟨e,rfl⟩
  refine⟨_,rfl,U,rfl,⟨_,bE.of bc⟩,?_⟩;refine dY (K:=K) (a:=U) (xs:=ps.map V.int) (λi σ H4=>∃v7:Option V,Cs (σ=[some (.ref a.rp),some (.int t),some (.int ad),some (.ref ca),some (.ref x.p),some (.ref U),some (.ref G),v7,none]) (ax c H4 (λb=>M b\/b=G) a s' W) (H4 G=some (.lst ((dt (cv t) (ps.take i)).map V.int))) ((dt (cv t) (ps.take i)).length=8*i) (Off (· = G) H3 H4))
   ⟨_,rfl,R3,cS,rfl,λ_ _ e _=>e⟩ (λi σ H4 _ z0=>by obtain⟨_,_,_,_,_,o4⟩:=z0;exact bE.of (o4 _ _ bc b6)) ?_ ?_
  .rintro i u σ H4 hu ⟨v7,rfl,Y,a2,a4,o4⟩;rw[getElem?_map]at hu;obtain⟨p,L,rfl⟩:=Option.map_eq_some_iff.mp hu;have a1:=mem_of_getElem? L;obtain⟨hi,dV⟩:=List.getElem?_eq_some_iff.mp L;have T4:=Y.tb _ (Tb.aA O);obtain⟨em,d2⟩:=T4.at_.ob;obtain⟨dm,dL⟩:=Y.ob;obtain⟨e,he⟩:=cr p a1;have b9:=bG t x O p e he;have c8:=xk.len ri.good b9;refine⟨_,rfl,.inl ⟨rfl,_,bE.of a2⟩,_,rfl,a.rp,dm,_,rfl,dL,gB _ _ _ ah ah ah,_,rfl,x.p,em,_,rfl,d2,Tb.aV _ ah,_,rfl,x.p,x.fs,x.tb,p,rfl,T4.at_,λH5 v s5 hv=>?_⟩;rw[T4.lk,he]at hv;obtain⟨tt,rfl,ba⟩:=hv;refine⟨_,a,s',W,tt,e,cv t p,rfl,Y.same s5,ri.good,ba,b9,λH7 l7 s7 f7 h7=>?_⟩;have S7:=s5.trans s7;have R7:=Y.same S7;have cp:=S7 _ _ a2;refine⟨G,l7,_,_,rfl,rfl,cp,h7,by rw[length_map,length_map];lia,?_⟩;rw[<-map_append, <-eL L];exact⟨_,rfl,R7.Hj cp (.inr rfl) dM,ae,by rw[eL L,length_append];lia,λb o e z=>by rw[ai z];exact S7 _ _ (o4 b o e z)⟩
  .rintro σ H4 ⟨v7,rfl,Y,a2,a4,o4⟩;rw[length_map,take_length]at a2 a4;have dl:bE K H4 ca (cs.map V.int):=Rm.d0 bY λo e=>o4 _ _ (s3 _ _ (S2 _ _ e)) (λz=>by rw[z,a5]at e;cases e);have dd:=o4 _ _ bc b6;have bn:=Rm.uk hb (ws:=dt (cv t) ps) (by rw[eP];exact a4);rw[eP]at bn;refine⟨_,rfl,_,rfl,_,rfl,_,rfl,G,ca,_,cs,ad,ps.length,rfl,a2,dl,by rw[a4];lia,af,c1,bn,λH5 l5 rs s5 el b7 a7 ej en=>?_⟩;have R5:=Y.same s5;have cc:=s5 _ _ dd;have ce:rs.length=ps.length:=by
    rw[a7.length];unfold Rm.gW;rw[length_map,length_range]
   have h8:=Rm.BF bn;generalize eC:Rm.gW ps.length (Rm.eB (dt (cv t) ps) (ad%8).toNat cs)=ch at a7 h8;have c3:ch.length=ps.length:=(by rw[<-a7.length,ce]);have ea:sg (cv t) ad cs=ch:=(by unfold sg;rw[eP];exact eC);have dj:Step H M (a.own W) H5 (λb=>M b\/b=G) (a.own W):=⟨λb o e z=>s5 _ _ (o4 _ _ (s3 _ _ (S2 _ _ e)) (λy=>by rw[y,a5]at e;cases e)),λb z _=>.inl z,λb z=>z.elim .inl λz=>.inr (by rw[z];exact a5),λb z=>.inl z,R.mt,R.dD⟩;have bx:∀r∈rs,¬ (M r\/r=G):=λr N z=>Y.mt r z (ej r N);have d9:∀{l},H4 l=none->¬ a.own W l:=λh z=>Y.mt _ (Y.dD _ z) h;refine⟨U,l5,rfl,⟨_,bE.of cc⟩,⟨_,bE.of b7⟩,?_⟩;refine Ac (K:=K) (a:=U) (b:=l5) (xs:=ps.map V.int) (ys:=rs.map V.ref) (λi σ H6=>zL λ(v7 v8:Option V) (M6:Addr->Prop) (s6:Pg.PS) (y:TD)=>Fp (σ=[some (.ref a.rp),some (.int t),some (.int ad),some (.ref ca),some (.ref y.p),some (.ref U),some (.ref G),v7,v8]) (ax c H6 M6 a s6 (Tb.aX W t y)) (Pg.RI s6 (ents (Tb.aX W t y))) (Cv s6 (Tb.aX W t y) (gR cv t (((ps.zip ch).take i).reverse))) ((∀q,¬ q∈ps.take i->Tb.look y.t q=Tb.look x.t q)) ((∀q∈ps.take i,∃k,Tb.look y.t q=some (some k))) (Step H5 (λb=>M b\/b=G) (a.own W) H6 M6 (a.own (Tb.aX W t y))) (∀b,(s6.ow b).length=(s'.ow b).length))
    ⟨_,_,_,s',x,rfl,by rw[cG R.nd O];exact R5,by rw[cG R.nd O];exact ri,by rw[cG R.nd O,take_zero];show Cv s' W (gR cv t []);rw[sP];exact bG,λ_ _=>rfl,λq hq=>by simp at hq,by rw[cG R.nd O];exact R5.refl,λ_=>rfl⟩ (by rw[length_map,length_map,ce]) (λi σ H6 _ z0=>by
     obtain⟨_,_,_,_,_,_,_,_,_,_,_,st,_⟩:=z0;exact⟨bE.of (st.off _ _ cc d8),bE.of (st.off _ _ b7 (d9 el))⟩) ?_ ?_
   .rintro i u v σ H6 z hu hv hz ⟨v7,v8,M6,s6,y,rfl,R6,bm,as,a0,a6,ap,bb⟩;rw[getElem?_map]at hu hv;obtain⟨p,L,rfl⟩:=Option.map_eq_some_iff.mp hu;obtain⟨r,cw,rfl⟩:=Option.map_eq_some_iff.mp hv;have bv:r∈rs:=mem_of_getElem? cw;have a1:=mem_of_getElem? L;obtain⟨hi,dV⟩:=List.getElem?_eq_some_iff.mp L;obtain⟨ab,cx,b0⟩:=kr a7 cw;have c5:=h8 ab (mem_of_getElem? cx);have cP:¬ p∈ps.take i:=λz=>by
     obtain⟨j,I,e⟩:=getElem_of_mem z;rw[getElem_take]at e;rw[length_take]at I;exact m7 da j i (getElem?_eq_getElem af) L af e
    have d7:=ap.off _ _ b0 (λw=>bx r bv (R5.dD _ w));have dO:¬ M6 r:=λw=>(ap.mn r w).elim (bx r bv) λw=>(by rw[b0]at w;cases w);have sT:=Tb.au (X:=.tup [.int p,.ref r]) hz;refine⟨z,[.int p,.ref r],rfl,bR.of ae,rfl,.int p,[.ref r],rfl,.ref r,[],rfl,rfl,?_⟩;have R7:=R6.same sT;have S7:=ap.trans (R6.iy sT);have d5:=sT _ _ d7;generalize upd H6 z (.tup [.int p,.ref r])=H7 at *;have ac:=iq (y:=y) O;have T7:=R7.tb _ (Tb.aA ac);obtain⟨bz,b1⟩:=T7.at_.ob;obtain⟨c0,d4⟩:=R7.ob;obtain⟨e,b3⟩:=cr p a1;have he:Tb.look y.t p=some e:=(a0 p cP).trans b3;refine⟨_,rfl,y.p,bz,_,rfl,b1,Tb.aV _ ah,_,rfl,_,rfl,a.rp,c0,_,rfl,d4,gB _ _ _ ah ah ah,_,rfl,y.p,bz,_,rfl,b1,Tb.aV _ ah,_,rfl,y.p,y.fs,y.tb,p,rfl,T7.at_,λH8 v s8 hv=>?_⟩;rw[T7.lk,he]at hv;obtain⟨tt,rfl,ba⟩:=hv;have R8:=R7.same s8;have S8:=S7.trans (R7.iy s8);have pe:(ents (Tb.aX W t y)).Perm (e::(rZ (Tb.bf y.t p)++ents (Tb.bf (Tb.aX W t y) t))):=(ke R7.nd ac).trans ((rf T7.nd he).append_right _);refine⟨_,rfl,M6,a,s6,Tb.aX W t y,tt,r,e,_,ab,rfl,R8,bm.perm pe,ba,s8 _ _ d5,dO,c5,λH9 s9 k R9 c7 b8 d1 ee dz=>?_⟩;refine⟨by show 2<=sizeLine;decide,λu fu=>?_⟩;have sU:=Tb.au (X:=.tup [.str "sheet",.int k]) fu;have bl:=R9.same sU;have dI:=(S8.trans ee).trans (R9.iy sU);have ek:upd H9 u (.tup [.str "sheet",.int k]) u=some (.tup [.str "sheet",.int k]):=ae;have ei:=bl.tb _ (Tb.aA ac);obtain⟨g1,g2⟩:=TX.pg (q:=p) (by rw[b3];simp);refine⟨y.p,y.fs,u,y.tb,p,[.str "sheet",.int k],rfl,ei.at_,g1,g2,.inl ek,rfl,λeb aB db d6 b2 ci=>?_⟩;have TI:cX c.T eb ⟨y.p,y.fs,aB,(p,some k)::Tb.bf y.t p⟩:=⟨db,Tb.Ci T7.nd,λj=>by
     rw[d6 j,Tb.jC];by_cases w:j=p
     .rw[if_pos w,if_pos w];rfl
     .rw[if_neg w,if_neg w];exact T7.lk j⟩
    have b4:=bl.su (y:=⟨y.p,y.fs,aB,(p,some k)::Tb.bf y.t p⟩) ac rfl TI b2 ci;have b5:=dI.trans (bl.p8 (y:=⟨y.p,y.fs,aB,(p,some k)::Tb.bf y.t p⟩) ac b2 ci);have cC:=yO (y:=⟨y.p,y.fs,aB,(p,some k)::Tb.bf y.t p⟩) (e:=some k) (q:=p) R7.nd ac rfl;rw[set_set]at b4 b5 cC;have ef:(ps.zip ch)[i]?=some (p,ab):=by
     rw[List.getElem?_zip_eq_some];exact⟨L,cx⟩
    refine⟨_,_,_,s9,⟨y.p,y.fs,aB,(p,some k)::Tb.bf y.t p⟩,rfl,b4,c7.perm cC.symm,?_,?_,?_,b5,λb=>(dz b).trans (bb b)⟩
    .intro am be aT q J S;rw[take_add_one,ef,show(some (p,ab)).toList=[(p,ab)]from rfl,reverse_append,show([(p,ab)]:List (Int×List Int)).reverse=[(p,ab)]from rfl,List.singleton_append,rH];rw[Tb.bS am O]at aT;have bI:∀{J},J∈rZ (Tb.bf y.t p)\/J∈ents (Tb.bf (Tb.aX W t y) t)->J∈rZ (Tb.bf y.t p)++ents (Tb.bf (Tb.aX W t y) t):=λh=>List.mem_append.mpr h;by_cases w:am=t
     .rw[if_pos w]at aT;cases aT;have S:Tb.look ((p,some k)::Tb.bf y.t p) q=some J:=S;rw[Tb.jC]at S;by_cases w2:q=p
      .rw[if_pos w2]at S;cases S;rw[if_pos ⟨w,w2⟩];exact d1
      .rw[if_neg w2]at S;rw[if_neg (λh=>w2 h.2)];refine b8 J (bI (.inl ?_)) _ (as am y (by rw[w];exact ac) q J S);exact List.mem_map.mpr ⟨(q,J),Tb.ml (Tb.aA S) w2,rfl⟩
     .rw[if_neg w]at aT;rw[if_neg (λh=>w h.1)];have h2:Tb.look (Tb.aX W t y) am=some be:=(by rw[Tb.bS am O,if_neg w];exact aT);refine b8 J (bI (.inr ?_)) _ (as am be h2 q J S);exact List.mem_flatMap.mpr ⟨(am,be),Tb.ml (Tb.aA h2) w,List.mem_map.mpr ⟨(q,J),Tb.aA S,rfl⟩⟩
    .intro j I;rw[take_add_one,L]at I;have w:j≠p:=λw=>I (by rw[w];simp);show Tb.look ((p,some k)::Tb.bf y.t p) j=_;rw[Tb.jC,if_neg w];exact a0 j λh=>I (mem_append_left _ h)
    .intro j I;show ∃k',Tb.look ((p,some k)::Tb.bf y.t p) j=some (some k');rw[Tb.jC];by_cases w:j=p
     .rw[if_pos w];exact⟨k,rfl⟩
     .rw[if_neg w];rw[take_add_one,L]at I;rcases List.mem_append.mp I with I|I
      .exact a6 j I
      .exact absurd (by simpa using I) w
   .rintro σ H6 ⟨v7,v8,M6,s6,y,rfl,R6,bm,as,a0,a6,ap,bb⟩;rw[length_map,take_length]at a0 a6;rw[length_map,take_of_length_le (by rw[List.length_zip,c3];lia), <-ea]at as;exact q H6 M6 s6 y R6 bm as a0 a6 (dj.trans ap) bb
end
noncomputable def zh (cv:Int->Int->List Int) (t o:Int):Int->Int->List Int:=λt' q=>if t'=o then cv t q else cv t' q
inductive pj (c:CA) (vs:List V) (H:Hp) (Q:VK) (e3:XK):Prop
 |mk (M:Addr->Prop) (a:RA) (s:Pg.PS) (W:eF) (cv:Int->Int->List Int) (t o:Int) (x:TD) (_:vs=[.ref a.rp,.int t,.int o]) (_:ax c H M a s W) (_:Pg.RI s (ents W)) (_:Cv s W cv) (_:W.length<=1000) (_:Tb.look W t=some x) (_:Tb.look W o=none) (_:(ents W).length+x.t.length<=bL s) (_:∀(H':Hp) (M':Addr->Prop) (s':Pg.PS) (y:TD),(∀q,Tb.look y.t q=Tb.look x.t q)->ax c H' M' a s' (W++[(o,y)])->Pg.RI s' (ents (W++[(o,y)]))->Cv s' (W++[(o,y)]) (zh cv t o)->Step H M (a.own W) H' M' (a.own (W++[(o,y)]))->(∀b,(s'.ow b).length=(s.ow b).length)->Q .non H'):pj c vs H Q e3
theorem qK (W:eF) (o:Int) (y:TD):ents (W++[(o,y)])=ents W++rZ y.t:=by
 unfold ents;rw[List.flatMap_append];simp
section
variable {P:Program}{w:World}{K:PySem.W.Frag}{mg:Str->Option Value}{base:Heap}
theorem wu:aC ["self","task","other","table","pages","copied","page","entry"] ["self","task","other"] (ar uJ):=⟨rfl,rfl,rfl,ah,rfl,ah,ah⟩
theorem yw {f fI:Addr}{fd dI:FuncData}{c:CA}(F:cN K "copy" "Rooms.copy" uJ f fd) (T:qU K mg c) (TT:Tb.Txt K mg c.T) (TP:nc K mg c.P) (MK:Mk K c.T fI) (cP:mg "Table" = some (.ref c.T)) (GR:Df P w K mg base aW 1 "room_of" dH) (GS:Df P w K mg base aW 1 "refuse_second_room" ja) (GA:Df P w K mg base aW 1 "refuse_above" kD) (GI:bg P w K mg base aW 1 fI dI ["self"] (Tb.gz c.T)) (bI:Binds K dI ["self"] []) (b8:Md P w K mg base aW 1 c.T "pages" (Tb.eJ c.T)) (GH:Md P w K mg base aW 2 c.C "held" (kN c)) (GG:Md P w K mg base aW 3 c.T "get" (Tb.k9 c.T)) (GL:Md P w K mg base aW 3 c.T "lay" (Tb.rK K c.T)) (db:Md P w K mg base aW 4 c.P "share" (nZ c.P c.S)):bg P w K mg base aW 5 f fd ["self","task","other"] (pj c):=by
 obtain⟨aB,mB,sB⟩:=T.bl;have rB:RelV (.ref aB) (.ref aB):=rfl;refine F.ok wu (λvs H Q E h=>?_) (λdp A outer s H vs Q E L h=>?_)
 .obtain⟨M,a,s',W,cv,t,o,x,rfl,_⟩:=h;rfl
 .obtain⟨M,a,s',W,cv,t,o,x,rfl,R,ri,ch,lw,hx,a1,ce,q⟩:=h;have hs:sizeLine=16777216:=sizeLine_eq;obtain⟨dx,ho⟩:=R.ob;have TX:=R.tb _ (Tb.aA hx);obtain⟨cx,ht⟩:=TX.at_.ob;refine⟨_,(ag (aK (i:=3) wu.nd rfl (Or.inl rfl) (pc GR L aw (aa (aJ (pv 0) rfl) (aa (pv 1) aj))))
   (ag (aL (pc GS L aw (aa (aJ (pv 0) rfl) (aa (pv 2) aj))))
   (ag (aK (i:=4) wu.nd rfl (Or.inl rfl) (wK (pv 3) TT.cl b8 L aw))
   (ag (aL (pc GA L aw (aa (ay bu (wK (pv 0) T.cl GH L aw) (aN bC (by rfl) T.len boot_len (aa (pv 4) aj))) (aa (aJ (pv 0) rfl) aj))))
   (ag (aK (i:=5) wu.nd rfl (Or.inl rfl) (qM MK GI (L.mono av) (by rfl) cP bI .nil aw))
   (ag (cU PassesOwn.never rfl (fh (pv 4)) (a8 (i:=6) wu.nd rfl (Or.inl rfl)) (ag (aK (i:=7) wu.nd rfl (Or.inl rfl) (pm (pv 3) TT.cl GG L aw (aa (pv 6) aj)))
   (ag (aL (pm (pv 5) TT.cl GL L aw (aa (pv 6) (aa (pv 7) aj))))
   (ao (aS (az (uD L.gM) (pv 7) (cf (by rfl) mB rB) (aG _)) (ao (aL (pm (aJ (pv 0) rfl) TP.cl db L aw (aa (aY a9 (pv 7) ak (λ_ _=>rfl)) aj)))) aF)))))
   (ao (jk (bh L) (aJ (pv 0) rfl) (pv 2) (pv 5) rfl)))))))),?_⟩
  try dsimp only[cxK]
  refine⟨_,rfl,a.rp,c.C,dx,_,_,rfl,ho,T.cl,T.nR,fj _ _ _,_,rfl,a.rd,W,t,x,rfl,R.hd,hx,?_⟩;refine⟨_,rfl,a.rp,c.C,dx,_,_,rfl,ho,T.cl,T.nR,fj _ _ _,_,rfl,a.rd,W,o,rfl,R.hd,a1,?_⟩;refine⟨_,rfl,x.p,cx,_,rfl,ht,Tb.aV _ ah,x.p,x.fs,x.tb,rfl,TX.at_,λH1 U ns s1 c4 c8 pm dM=>?_⟩;have R1:=R.same s1;have ca:ns.length=x.t.length:=TX.len pm;obtain⟨c1,b6⟩:=R1.ob;refine⟨_,rfl,a.rp,c1,_,rfl,b6,gB _ _ _ ah ah ah,M,a,s',W,rfl,R1,lw,λH2 s2=>?_⟩;have R2:=R1.same s2;have bb:=s2 _ _ c8;obtain⟨c2,c3⟩:=R2.ob;refine⟨_,rfl,U,_,rfl,.inl (bE.of bb),_,_,rfl,rfl,_,rfl,a.rp,c.C,c2,_,_,rfl,c3,T.cl,T.nT,D5 _ _ _,_,_,rfl,by rw[length_map,ca];omega,?_⟩;have S2:=s1.trans s2;refine λp c9 np bv dL=>⟨p,c9,rfl,ae,λfs H3 b2 T3 off=>⟨rfl,?_⟩⟩;have s3:aZ H2 H3:=λb u e=>off b u (by rw[ai (aq e np),ai (aq e bv)];exact e) (aq e np);have a5:H2 fs=none:=by
   cases e:H2 fs with
   |none=>rfl
   |some u=>rw[ai (aq e np),ai (aq e bv),e]at b2;cases b2
  have a6:H fs=none:=S2.free a5;have dl:H p=none:=S2.free np;have R3:=R2.Bb (H':=H3) (B:=λ_=>False) (M':=λb=>M b\/b=fs) (λb o e _=>s3 b o e) (λb z=>z.elim) (λb z=>z.elim) (λb z=>z.elim .inl λz=>.inr (by rw[z];exact a5)) (λb z _=>.inl z) (λb z e=>z.elim (λz=>(R2.same s3).mt b z e) λz=>by rw[z,T3.hf]at e;cases e);have bm:=s3 _ _ bb;have dj:¬ a.own W U:=λz=>R.mt _ (R.dD _ z) c4;have cS:Step H M (a.own W) H3 (λb=>M b\/b=fs) (a.own W):=⟨λb o e _=>s3 _ _ (S2 _ _ e),λb z _=>.inl z,λb z=>z.elim .inl λz=>.inr (by rw[z];exact a6),λb z=>.inl z,R.mt,R.dD⟩;have dd:∀b,(TD.mk p fs [] []).ed b->b=fs:=λb z=>by
   rcases z with z|⟨_,hx,_⟩
   .exact z
   .cases hx
  have cr:ns.Nodup:=pm.nodup_iff.mpr (Tb.jA TX.at_);refine⟨_,rfl,U,rfl,⟨_,bE.of bm⟩,?_⟩;refine dY (K:=K) (a:=U) (xs:=ns.map V.int) (λi σ H4=>zL λ(v6 v7:Option V) (O:Addr->Prop) (I:Pg.PS) (y:TD)=>D1 (σ=[some (.ref a.rp),some (.int t),some (.int o),some (.ref x.p),some (.ref U),some (.ref y.p),v6,v7]) (ax c H4 O a I W) (cX c.T H4 y) ((∀b,y.ed b->O b/\¬ a.own W b/\H b=none/\b≠U)) (¬ a.A.own y.p) ((∀q,Tb.look y.t q=if q∈ns.take i then Tb.look x.t q else none)) (Pg.RI I (rZ y.t++ents W)) (y.t.length=i) (Cv I W cv) ((∀q e,Tb.look y.t q=some e->Pg.xk I e (cv t q))) (Step H M (a.own W) H4 O (a.own W)) (H4 U=some (.lst (ns.map V.int))) (∀b,(I.ow b).length=(s'.ow b).length))
   ⟨_,_,_,s',⟨p,fs,[],[]⟩,rfl,R3,⟨T3,nodup_nil,λq=>rfl⟩,λb z=>?_,λz=>R.mt _ (R.ok.own _ z) dl,λq=>by simp[Tb.gG],ri,rfl,ch,λq e h=>(by cases h),cS,bm,λ_=>rfl⟩ (λi σ H4 _ z0=>by obtain⟨_,_,_,_,_,_,_,_,_,_,_,_,_,_,_,_,h,_⟩:=z0;exact bE.of h) ?_ ?_
  .rw[dd b z];exact⟨.inr rfl,λw=>R.mt _ (R.dD _ w) a6,a6,λw=>by rw[w,bb]at a5;cases a5⟩
  .rintro i u σ H4 hu ⟨v6,v7,O,I,y,rfl,Y,T4,N,a0,as,ac,a2,ap,a3,am,ba,ad⟩;rw[getElem?_map]at hu;obtain⟨G,hp,rfl⟩:=Option.map_eq_some_iff.mp hu;have df:=mem_of_getElem? hp;obtain⟨hi,dz⟩:=List.getElem?_eq_some_iff.mp hp;have b5:¬ G∈ns.take i:=λz=>by
    obtain⟨j,hj,e⟩:=getElem_of_mem z;rw[getElem_take]at e;rw[length_take]at hj;exact m7 cr j i (getElem?_eq_getElem af) hp af e
   obtain⟨e,he⟩:∃e,Tb.look x.t G=some e:=by
    cases z:Tb.look x.t G with
    |none=>exact absurd z ((TX.mem pm G).mp df)
    |some e=>exact⟨e,rfl⟩
   have da:Tb.look y.t G=none:=(by rw[as,if_neg b5]);have X4:=Y.tb _ (Tb.aA hx);obtain⟨dm,c7⟩:=X4.at_.ob;refine⟨_,rfl,x.p,dm,_,rfl,c7,Tb.aV _ ah,_,rfl,x.p,x.fs,x.tb,G,rfl,X4.at_,λH5 v s5 hv=>?_⟩;rw[X4.lk,he]at hv;obtain⟨tt,rfl,a7⟩:=hv;have R5:=Y.same s5;have T5:cX c.T H5 y:=⟨T4.at_.same s5,T4.nd,T4.lk⟩;obtain⟨ci,b7⟩:=T5.at_.ob;obtain⟨g1,g2⟩:=TX.pg (q:=G) (by rw[he];simp);have cC:Tb.lE (wy e)=true:=(by cases e<;>rfl);refine⟨_,rfl,y.p,ci,_,rfl,b7,Tb.aV _ ah,_,rfl,_,rfl,y.p,y.fs,tt,y.tb,G,wy e,rfl,T5.at_,g1,g2,.inl a7,cC,λH6 ab T6 l6 o6 n6=>?_⟩;have b4:¬ y.ed tt:=λz=>by
    obtain⟨_,h⟩:=T5.at_.dK z;rw[a7]at h;cases h
   have b3:=o6 _ _ a7 b4;have bc:cX c.T H6 ⟨y.p,y.fs,ab,(G,e)::y.t⟩:=⟨T6,List.nodup_cons.mpr ⟨Tb.cj da,T4.nd⟩,λj=>by
    rw[l6 j,Tb.aM];by_cases z:j=G
    .rw[if_pos z,if_pos z.symm];rfl
    .rw[if_neg z,if_neg (Ne.symm z)];exact T4.lk j⟩
   have bz:∀{b},H5 b=none->¬ a.own W b/\H b=none:=λ{b} h=>by
    have no:¬ a.own W b:=λz=>R5.mt _ (R5.dD _ z) h;exact⟨no,((am.trans (Y.iy s5)).gone h).resolve_left no⟩
   have R6:=R5.Bb (H':=H6) (B:=y.ed) (M':=λb=>(O b/\¬ y.ed b)\/(TD.mk y.p y.fs ab ((G,e)::y.t)).ed b) o6 (λb z=>⟨(N b z).1,(N b z).2.1⟩) (λb z=>.inr (T5.at_.dK z)) (λb z=>z.elim (λz=>.inl z.1) λz=>(n6 b z).elim (λz=>.inl (N b z).1) .inr) (λb z w=>.inl ⟨z,w⟩) (λb z w=>by
    rcases z with z|z
    .cases e2:H5 b with
     |none=>exact R5.mt b z.1 e2
     |some u=>rw[o6 b u e2 z.2]at w;cases w
    .obtain⟨_,h⟩:=bc.at_.dK z;rw[w]at h;cases h)
   have a4:∀b,(TD.mk y.p y.fs ab ((G,e)::y.t)).ed b->((O b/\¬ y.ed b)\/(TD.mk y.p y.fs ab ((G,e)::y.t)).ed b)/\¬ a.own W b/\H b=none/\b≠U:=λb z=>by
    rcases n6 b z with w|w
    .exact⟨.inr z,(N b w).2⟩
    .exact⟨.inr z,(bz w).1,(bz w).2,λy=>by rw[y,s5 _ _ ba]at w;cases w⟩
   have bd:=am.trans (Y.iy s5);have be:Step H M (a.own W) H6 (λb=>(O b/\¬ y.ed b)\/(TD.mk y.p y.fs ab ((G,e)::y.t)).ed b) (a.own W):=⟨λb o e z=>o6 _ _ (bd.off b o e z) (λw=>by rw[(N b w).2.2.1]at e;cases e),λb z w=>.inl ⟨bd.mm b z w,λy=>R.mt b z (N b y).2.2.1⟩,λb z=>z.elim (λz=>bd.mn b z.1) λz=>.inr (a4 b z).2.2.1,λb z=>.inl z,R.mt,R.dD⟩;have bY:=o6 _ _ (s5 _ _ ba) λz=>(N _ z).2.2.2 rfl;have bG:∀j,Tb.look ((G,e)::y.t) j=if j∈ns.take (i+1)then Tb.look x.t j else none:=λj=>by
    rw[Tb.aM,as j,take_add_one,hp];by_cases z:G=j
    .rw[if_pos z, <-z,if_pos (by simp),he]
    .rw[if_neg z];by_cases z2:j∈ns.take i
     .rw[if_pos z2,if_pos (mem_append_left _ z2)]
     .rw[if_neg z2,if_neg (by simp[Ne.symm z,z2])]
   have bn:(rZ y.t++ents W).length<(I.ow true).length+(I.ow false).length:=by
    have e1:(rZ y.t).length=i:=(by unfold rZ;rw[length_map];exact a2);rw[length_append,e1,ad,ad];unfold bL at ce;omega
   have b1:=ap t x hx G e he;refine⟨_,rfl,tt,aB,_,_,rfl,rfl,bR.of b3,ix.sq (.inr sB),?_⟩;cases e with
   |none =>
    refine⟨rfl,rfl,_,rfl,bB ?_⟩;refine⟨_,_,_,I,⟨y.p,y.fs,ab,(G,none)::y.t⟩,rfl,R6,bc,a4,a0,bG,ac.lay bn,by rw[length_cons,a2],ap,λj J h'=>?_,be,bY,ad⟩;have h':Tb.look ((G,none)::y.t) j=some J:=h';rw[Tb.aM]at h';by_cases z:G=j
    .rw[if_pos z]at h';cases h';rw[<-z];exact b1
    .rw[if_neg z]at h';exact a3 j J h'
   |some k =>
    refine⟨rfl,rfl,_,rfl,c6 ?_⟩;obtain⟨cp,c5⟩:=R6.ob;obtain⟨b9,cT⟩:=R6.pg.ob;obtain⟨cs,cc,hv⟩:=ac.is k (mem_append_right _ (jG hx he));obtain⟨b0,n0,hk,_,_⟩:=id hv;refine⟨_,rfl,a.rp,c.C,cp,_,_,rfl,c5,T.cl,T.nP,lu _ _ _,a.A.pg,b9,_,rfl,cT,cE _ _ ah ah ah ah ah,_,rfl,tt,_,1,_,rfl,rfl,bR.of b3,rfl,_,a.A,I,k,b0,n0,cs,cc,rfl,R6.Fq ac,hk,hv,λH7 G7 O7=>?_⟩;have sm:=λJ=>Pg.tU (es:=[J]) ac.good hk hv J (List.mem_singleton.mpr rfl);have bi:∀b,((Pg.ck I b0 n0 (cc+1)).ow b).length=(I.ow b).length:=λb=>Pg.du b;refine⟨_,_,_,_,⟨y.p,y.fs,ab,(G,some k)::y.t⟩,rfl,R6.jN G7 O7 bi,bc.off O7 a0 (λb z w=>(a4 b z).2.1 (.inl w)) R6.pg.pH,a4,a0,bG,ac.share hk hv bn,by rw[length_cons,a2],ap.keep λJ _=>sm J,λj J h'=>?_,be.trans (R6.DM G7 O7),O7 _ _ bY (λz=>dj (.inl z)),λb=>(bi b).trans (ad b)⟩;have h':Tb.look ((G,some k)::y.t) j=some J:=h';rw[Tb.aM]at h';by_cases z:G=j
    .rw[if_pos z]at h';cases h';rw[<-z];exact sm _ _ b1
    .rw[if_neg z]at h';exact sm _ _ (a3 j J h')
  .rintro σ H4 ⟨v6,v7,O,I,y,rfl,Y,T4,N,a0,as,ac,a2,ap,a3,am,ba,ad⟩;rw[length_map,take_length]at as;have hy:∀j,Tb.look y.t j=Tb.look x.t j:=λj=>by
    rw[as j];by_cases z:j∈ns
    .rw[if_pos z]
    .rw[if_neg z];cases w:Tb.look x.t j with
     |none=>rfl
     |some e=>exact absurd ((TX.mem pm j).mpr (by rw[w];simp)) z
   obtain⟨cw,c0⟩:=Y.ob;refine⟨_,rfl,_,rfl,a.rp,c.C,cw,_,_,rfl,c0,T.cl,T.nR,fj _ _ _,_,rfl,a.rd,_,rfl,fQ.k (k:=Sum.inl o) Y.hd (by rw[Tb.cq];omega),?_⟩;rw[show(V.ref y.p)=fR y from rfl,Tb.cu a1];have R5:=Y.yp a1 T4 (λb z=>⟨(N b z).1,(N b z).2.1⟩) a0;refine q _ O I y hy R5 (by rw[qK];exact ac.perm perm_append_comm) ?_ ⟨?_,am.mm,am.mn,λb z=>?_,R.mt,R.dD⟩ ad
   .intro t' x' h' j J bx;rw[Tb.bK t' a1]at h';unfold zh;by_cases z:t'=o
    .rw[if_pos z]at h' ⊢;cases h';exact a3 j J bx
    .rw[if_neg z]at h' ⊢;exact ap t' x' h' j J bx
   .intro b u e z;rw[ai (λw=>z (.inr (.inl w)))];exact am.off b u e z
   .rcases z with z|z|⟨x',aT,z⟩
    .exact .inl (.inl z)
    .exact .inl (.inr (.inl z))
    .rcases List.mem_append.mp aT with aT|aT
     .exact .inl (.inr (.inr ⟨x',aT,z⟩))
     .rw[List.mem_singleton.mp aT]at z;exact .inr (N b z).2.2.1
end
noncomputable abbrev tM:Stmt:=inClass (top 14) 0
noncomputable abbrev ug:Stmt:=inClass (top 33) 0
noncomputable def s0 (nf ns:Nat):Pg.PS:=⟨λb=>replicate (if b=true then nf else ns) 0,λb=>replicate (if b=true then nf else ns) none,λ_=>none,0,[]⟩
theorem EM {nf ns:Nat}(h:0<nf):Pg.RI (s0 nf ns) []:=by
 have G:∀(b:Bool) (n:Nat) (c:Int),((s0 nf ns).ow b)[n]?=some c->c=0:=λb n c e=>by
  have e:(replicate (if b=true then nf else ns) (0:Int))[n]?=some c:=e;exact(List.mem_replicate.mp (mem_of_getElem? e)).2
 have F:∀n:Nat,(replicate n (0:Int)).sum=0:=λn=>by
  induction n with
  |zero=>rfl
  |succ n I=>rw[replicate_succ,sum_cons,I];rfl
 refine⟨⟨(λk p e=>by cases e),(λk b n e=>by cases e),(λk j p e=>by cases e),λb n c e=>.inl (G b n c e),λb=>?_,nodup_nil,λk=>⟨(λz=>by cases z),(λ⟨n,e⟩=>by cases e)⟩⟩,Int.le_refl _,λe=>?_,(λk z=>by cases z),λk cs c z=>?_,?_,zero_le _⟩
 .show(replicate _ _).length=(replicate _ _).length;rw[length_replicate,length_replicate]
 .have:(replicate nf (0:Int)).length=0:=(by rw[show replicate nf (0:Int)=[]from e];rfl);rw[length_replicate]at this;omega
 .obtain⟨b,n,e,_⟩:=z;cases e
 .show(replicate nf (0:Int)).sum+(replicate ns (0:Int)).sum=0;rw[F,F];rfl
noncomputable def PA.nine (A:PA):List Addr:=[A.pg,A.fp,A.fo,A.fc,A.sp,A.so,A.sc,A.pd,A.il]
inductive qd (C CS:Addr) (vs:List V) (H:Hp) (Q:VK) (e3:XK):Prop
 |mk (p dx:Addr) (nf ns:Nat) (_:vs=[.ref p,.int nf,.int ns]) (_:nf<=60) (_:ns<=60) (_:H p=some (.ins C dx [])) (_:∀(H':Hp) (A:PA),A.pg=p->A.nine.Nodup->(∀b∈A.nine,b=p\/H b=none)->(∀M,bJ C CS H' M A (s0 nf ns))->Off (· = p) H H'->Q .non H'):qd C CS vs H Q e3
inductive nQ (c:CA) (vs:List V) (H:Hp) (Q:VK) (e3:XK):Prop
 |mk (p dx:Addr) (nf ns:Nat) (_:vs=[.ref p,.int nf,.int ns]) (_:nf<=60) (_:ns<=60) (_:0<nf) (_:H p=some (.ins c.C dx [])) (_:∀(H':Hp) (M:Addr->Prop) (a:RA),a.rp=p->ax c H' M a (s0 nf ns) []->(∀b,M b->H b=none)->Off (· = p) H H'->Q .non H'):nQ c vs H Q e3
theorem cz {H:Hp}{a b:Addr}{o:HO}(h:upd H a o b=none):b≠a/\H b=none:=by
 by_cases z:b=a
 .rw[z,ae]at h;cases h
 .rw[ai z]at h;exact⟨z,h⟩
theorem gA {C p ow co:Addr}{B:Addr->Prop}{os:List Int}{pg:List (Option (List Int))}{H H':Hp}(S:∀M,aQ C H M p ow co os pg) (o:Off B H H') (I:¬ B p) (F:¬ B ow) (G:¬ B co):∀M,aQ C H' M p ow co os pg:=λM =>
 ((S λb=>M b\/B b).off o (λb z=>.inr z) I F G).less λb z=>.inl z
theorem gD {C CS p dx q ow co:Addr}{fs:List (Str×V)}{os:List Int}{pg:List (Option (List Int))}{H:Hp}(F:H p=some (.ins C dx fs)) (S:∀M,aQ CS H M q ow co os pg):∀b,b=p\/b=q\/b=ow\/b=co->H b≠none:=by
 intro b z e;have S:=S λ_=>False;obtain⟨I,h2⟩:=S.ob;obtain⟨_,G,_⟩:=S.hc;rcases z with z|z|z|z<;>rw[z]at e
 .rw[F]at e;cases e
 .rw[h2]at e;cases e
 .rw[S.hw]at e;cases e
 .rw[G]at e;cases e
theorem mr {C CS:Addr}{H:Hp}{M:Addr->Prop}{A:PA}{s:Pg.PS}(G:bJ C CS H M A s):∀b∈A.nine,H b≠none:=by
 intro b z e;unfold PA.nine at z;simp only[mem_cons,not_mem_nil,or_false]at z;obtain⟨dx,h1⟩:=G.ob;obtain⟨_,L⟩:=G.fr.ob;obtain⟨_,N⟩:=G.sl.ob;obtain⟨_,J,_⟩:=G.fr.hc;obtain⟨_,I,_⟩:=G.sl.hc;obtain⟨l,F,_⟩:=G.pd;rcases z with z|z|z|z|z|z|z|z|z<;>rw[z]at e
 .rw[h1]at e;cases e
 .rw[L]at e;cases e
 .rw[G.fr.hw]at e;cases e
 .rw[J]at e;cases e
 .rw[N]at e;cases e
 .rw[G.sl.hw]at e;cases e
 .rw[I]at e;cases e
 .rw[F]at e;cases e
 .rw[G.il]at e;cases e
section
variable {P:Program}{w:World}{K:PySem.W.Frag}{mg:Str->Option Value}{base:Heap}
theorem Ha:aC ["self","frames","slots"] ["self","frames","slots"] (ar tM):=⟨rfl,rfl,rfl,ah,rfl,ah,ah⟩
theorem zu {f C CS be:Addr}{fd bz:FuncData}(F:cN K "__init__" "Paging.__init__" tM f fd) (T:nc K mg C) (MS:Mk K CS be) (bb:mg "Store" = some (.ref CS))
  (bx:bg P w K mg base aW 1 be bz ["self","many"] (gz CS)) (bm:Binds K bz ["self","many"] []):bg P w K mg base aW 3 f fd ["self","frames","slots"] (qd C CS):=by
 refine F.ok Ha (λvs H Q E h=>?_) (λcp A outer s H vs Q E hr h=>?_)
 .obtain⟨p,dx,nf,ns,rfl,_⟩:=h;rfl
 .obtain⟨p,dx,nf,ns,rfl,n1,n2,hp,k⟩:=h;refine⟨_,(ag (eV (pv 0) (kU MS bx (hr.mono av) (by rfl) bb bm .nil aw (aa (pv 1) aj)) rfl)
   (ag (eV (pv 0) (kU MS bx (hr.mono av) (by rfl) bb bm .nil aw (aa (pv 2) aj)) rfl)
   (ag (eV (pv 0) cZ rfl)
   (ag (eV (pv 0) ak rfl)
   (ao (eV (pv 0) (bU aj) rfl)))))),?_⟩
  try dsimp only[cxK]
  refine⟨_,rfl,λfp b7 aT bI b6=>⟨fp,b7,nf,rfl,n1,ae,λO R H1 ab Y ci S1 o1=>⟨rfl,?_⟩⟩⟩;have m1:aZ H H1:=λb u e=>o1 b u (by rw[ai (aq e aT),ai (aq e bI)];exact e) (aq e aT);obtain⟨q1,ab⟩:=cz ab;obtain⟨q2,Y⟩:=cz Y;have ab:=(cz ab).2;have Y:=(cz Y).2;have ch:=m1 _ _ hp;have ad:fp≠p:=Ne.symm (aq hp aT);have ap:O≠p:=Ne.symm (aq hp ab);have am:R≠p:=Ne.symm (aq hp Y);clear o1 bI b6;refine⟨_,rfl,p,C,dx,[],rfl,ch,T.cl,T.nF,av,?_⟩;have o2:Off (· = p) H1 (upd H1 p (.ins C dx (bj "frames" (.ref fp) []))):=Off.wr rfl;have bG:upd H1 p (.ins C dx (bj "frames" (.ref fp) [])) p=some (.ins C dx (bj "frames" (.ref fp) [])):=ae;generalize upd H1 p (.ins C dx (bj "frames" (.ref fp) []))=H2 at *;have S2:=gA S1 o2 ad ap am;have O2:Off (· = p) H H2:=λb o e z=>o2 b o (m1 b o e) z;refine⟨_,rfl,λsp b9 ba bn ce=>⟨sp,b9,ns,rfl,n2,ae,λso sc H3 aB as b0 S3 o3=>⟨rfl,?_⟩⟩⟩;have m3:aZ H2 H3:=λb u e=>o3 b u (by rw[ai (aq e ba),ai (aq e bn)];exact e) (aq e ba);obtain⟨q3,aB⟩:=cz aB;obtain⟨q4,as⟩:=cz as;have aB:=(cz aB).2;have as:=(cz as).2;clear o3 bn ce;have ac:∀b,b=p\/b=fp\/b=O\/b=R->H2 b≠none:=gD bG S2;have b8:=gA (B:=λ_=>False) S2 (λb o e _=>m3 b o e) id id id;have ca:=m3 _ _ bG;refine⟨_,rfl,p,C,dx,_,rfl,ca,T.cl,T.nS,by show 1<1000;decide,?_⟩;have a7:∀{b},H2 b=none->b≠p/\b≠fp/\b≠O/\b≠R/\H b=none:=λ{b} h=>⟨λz=>ac b (.inl z) h,λz=>ac b (.inr (.inl z)) h,λz=>ac b (.inr (.inr (.inl z))) h,λz=>ac b (.inr (.inr (.inr z))) h,by
   cases e:H b with
   |none=>rfl
   |some u=>rw[O2 b u e λz=>ac b (.inl z) h]at h;cases h⟩
  obtain⟨a1,a2,a3,a4,a5⟩:=a7 ba;obtain⟨b1,b2,b3,b4,b5⟩:=a7 aB;obtain⟨c1,c2,c3,c4,c5⟩:=a7 as;have o4:Off (· = p) H3 (upd H3 p (.ins C dx (bj "slots" (.ref sp) (bj "frames" (.ref fp) [])))):=Off.wr rfl;have a6:upd H3 p (.ins C dx (bj "slots" (.ref sp) (bj "frames" (.ref fp) []))) p=some (.ins C dx (bj "slots" (.ref sp) (bj "frames" (.ref fp) []))):=ae;generalize upd H3 p (.ins C dx (bj "slots" (.ref sp) (bj "frames" (.ref fp) [])))=S at *;have bl:=gA b8 o4 ad ap am;have bc:=gA S3 o4 a1 b1 c1;have O4:Off (· = p) H S:=λb o e z=>o4 b o (m3 b o (O2 b o e z)) z;have cc:∀{b},S b=none->b≠p/\b≠fp/\b≠O/\b≠R/\b≠sp/\b≠so/\b≠sc/\H b=none:=λ{b} h=>by
   have N:=gD a6 bl;have U:=gD a6 bc;refine⟨λz=>N b (.inl z) h,λz=>N b (.inr (.inl z)) h,λz=>N b (.inr (.inr (.inl z))) h,λz=>N b (.inr (.inr (.inr z))) h,λz=>U b (.inr (.inl z)) h,λz=>U b (.inr (.inr (.inl z))) h,λz=>U b (.inr (.inr (.inr z))) h,?_⟩;cases e:H b with
   |none=>rfl
   |some u=>rw[O4 b u e λz=>N b (.inl z) h]at h;cases h
  intro I bv;obtain⟨d1,d2,d3,d4,d5,d6,d7,d8⟩:=cc bv;refine⟨_,rfl,p,C,dx,_,rfl,by rw[ai (Ne.symm d1)];exact a6,T.cl,T.nP,by show 2<1000;decide,?_⟩;refine⟨_,rfl,p,C,dx,_,rfl,ae,T.cl,T.nL,by show 3<1000;decide,?_⟩;have o7:Off (· = p) S (upd (upd (upd S I (.dK [])) p (.ins C dx (bj "places" (.ref I) (bj "slots" (.ref sp) (bj "frames" (.ref fp) []))))) p (.ins C dx (bj "last_sheet" (.int 0) (bj "places" (.ref I) (bj "slots" (.ref sp) (bj "frames" (.ref fp) [])))))):=λb o e z=>by
   rw[ai z,ai z,ai (aq e bv)];exact e
  have a0:upd (upd (upd S I (.dK [])) p (.ins C dx (bj "places" (.ref I) (bj "slots" (.ref sp) (bj "frames" (.ref fp) []))))) p (.ins C dx (bj "last_sheet" (.int 0) (bj "places" (.ref I) (bj "slots" (.ref sp) (bj "frames" (.ref fp) []))))) p=some (.ins C dx (bj "last_sheet" (.int 0) (bj "places" (.ref I) (bj "slots" (.ref sp) (bj "frames" (.ref fp) []))))):=ae;have bY:upd (upd (upd S I (.dK [])) p (.ins C dx (bj "places" (.ref I) (bj "slots" (.ref sp) (bj "frames" (.ref fp) []))))) p (.ins C dx (bj "last_sheet" (.int 0) (bj "places" (.ref I) (bj "slots" (.ref sp) (bj "frames" (.ref fp) []))))) I=some (.dK []):=(by rw[ai d1,ai d1,ae]);generalize upd (upd (upd S I (.dK [])) p (.ins C dx (bj "places" (.ref I) (bj "slots" (.ref sp) (bj "frames" (.ref fp) []))))) p (.ins C dx (bj "last_sheet" (.int 0) (bj "places" (.ref I) (bj "slots" (.ref sp) (bj "frames" (.ref fp) [])))))=H7 at *;have bd:=gA bl o7 ad ap am;have bi:=gA bc o7 a1 b1 c1;have O7:Off (· = p) H H7:=λb o e z=>o7 b o (O4 b o e z) z;refine⟨av,λG L=>?_⟩;have N:=gD a0 bd;have U:=gD a0 bi;have i1:G≠p:=λz=>N G (.inl z) L;have i2:G≠fp:=λz=>N G (.inr (.inl z)) L;have i3:G≠O:=λz=>N G (.inr (.inr (.inl z))) L;have i4:G≠R:=λz=>N G (.inr (.inr (.inr z))) L;have i5:G≠sp:=λz=>U G (.inr (.inl z)) L;have i6:G≠so:=λz=>U G (.inr (.inr (.inl z))) L;have i7:G≠sc:=λz=>U G (.inr (.inr (.inr z))) L;have i8:G≠I:=λz=>(by rw[z,bY]at L;cases L);have i9:H G=none:=by
   cases e:H G with
   |none=>rfl
   |some u=>rw[O7 G u e i1]at L;cases L
  refine⟨_,rfl,p,C,dx,_,rfl,by rw[ai (Ne.symm i1)];exact a0,T.cl,T.nI,by show 4<1000;decide,?_⟩;have o9:Off (· = p) H7 (upd (upd H7 G (.lst [])) p (.ins C dx (cH ⟨p,fp,O,R,sp,so,sc,I,G⟩ 0))):=λb o e z=>by
   rw[ai z,ai (aq e L)];exact e
  refine k _ ⟨p,fp,O,R,sp,so,sc,I,G⟩ rfl ?_ ?_ (λM=>⟨⟨dx,ae⟩,gA bd o9 ad ap am M,gA bi o9 a1 b1 c1 M,?_,?_,[],?_,nodup_nil,(λx hx=>by cases hx),λ_=>rfl,zero_le _⟩) (λb o e z=>o9 b o (O7 b o e z) z)
  .unfold PA.nine;simp only[List.nodup_cons,mem_cons,not_mem_nil,or_false,not_or,not_false_eq_true,nodup_nil,and_true];exact⟨⟨λh=>ad h.symm,λh=>ap h.symm,λh=>am h.symm,λh=>a1 h.symm,λh=>b1 h.symm,λh=>c1 h.symm,λh=>d1 h.symm,λh=>i1 h.symm⟩,⟨λh=>q1 h.symm,λh=>q2 h.symm,λh=>a2 h.symm,λh=>b2 h.symm,λh=>c2 h.symm,λh=>d2 h.symm,λh=>i2 h.symm⟩,⟨λh=>(Ne.symm ci) h.symm,λh=>a3 h.symm,λh=>b3 h.symm,λh=>c3 h.symm,λh=>d3 h.symm,λh=>i3 h.symm⟩,⟨λh=>a4 h.symm,λh=>b4 h.symm,λh=>c4 h.symm,λh=>d4 h.symm,λh=>i4 h.symm⟩,⟨λh=>q3 h.symm,λh=>q4 h.symm,λh=>d5 h.symm,λh=>i5 h.symm⟩,⟨λh=>(Ne.symm b0) h.symm,λh=>d6 h.symm,λh=>i6 h.symm⟩,⟨λh=>d7 h.symm,λh=>i7 h.symm⟩,λh=>i8 h.symm⟩
  .intro b J;unfold PA.nine at J;simp only[mem_cons,not_mem_nil,or_false]at J;rcases J with J|J|J|J|J|J|J|J|J<;>rw[J]
   .exact .inl rfl
   .exact .inr aT
   .exact .inr ab
   .exact .inr Y
   .exact .inr a5
   .exact .inr b5
   .exact .inr c5
   .exact .inr d8
   .exact .inr i9
  .show upd (upd H7 G (.lst [])) p _ G=_;rw[ai i1,ae];rfl
  .intro b;show(replicate _ _).length<=60;rw[length_replicate];cases b
   .exact n2
   .exact n1
  .show upd (upd H7 G (.lst [])) p _ I=_;rw[ai d1,ai (Ne.symm i8)];exact bY
theorem Gh:aC ["self","frames","slots"] ["self","frames","slots"] (ar ug):=⟨rfl,rfl,rfl,ah,rfl,ah,ah⟩
theorem ze {f aB:Addr}{fd as:FuncData}{c:CA}(F:cN K "__init__" "Rooms.__init__" ug f fd) (T:qU K mg c) (MP:Mk K c.P aB) (aT:mg "Paging" = some (.ref c.P))
  (a4:bg P w K mg base aW 3 aB as ["self","frames","slots"] (qd c.P c.S)) (a2:Binds K as ["self","frames","slots"] []):bg P w K mg base aW 5 f fd ["self","frames","slots"] (nQ c):=by
 refine F.ok Gh (λvs H Q E h=>?_) (λbb A outer s H vs Q E hr h=>?_)
 .obtain⟨p,dx,nf,ns,rfl,_⟩:=h;rfl
 .obtain⟨p,dx,nf,ns,rfl,n1,n2,n3,hp,k⟩:=h;refine⟨_,(ag (eV (pv 0) (kU MP a4 (hr.mono av) (by rfl) aT a2 .nil aw (aa (pv 1) (aa (pv 2) aj))) rfl)
   (ag (eV (pv 0) (ay bu (pv 1) (pv 2)) rfl)
   (ao (eV (pv 0) cZ rfl)))),?_⟩
  try dsimp only[cxK]
  refine⟨_,rfl,_,rfl,λpg ba ab a1 bc=>⟨pg,ba,nf,ns,rfl,n1,n2,ae,λH1 G eA a5 ac GA o1=>⟨rfl,?_⟩⟩⟩;have m1:aZ H H1:=λb u e=>o1 b u (by rw[ai (aq e ab),ai (aq e a1)];exact e) (aq e ab);have fr:∀b∈G.nine,H b=none:=λb O=>by
   rcases ac b O with h|h
   .rw[h];exact ab
   .exact(cz (cz h).2).2
  have am:=m1 _ _ hp;clear o1 ac;refine⟨_,rfl,p,c.C,dx,[],rfl,am,T.cl,T.nP,av,?_⟩;refine⟨_,rfl,_,rfl,_,_,rfl,rfl,?_⟩;refine⟨_,rfl,p,c.C,dx,_,rfl,ae,T.cl,T.nT,by show 1<1000;decide,?_⟩;rw[<-eA];have N:Off (· = p) H1 (upd (upd H1 p (.ins c.C dx (bj "paging" (.ref G.pg) []))) p (.ins c.C dx (bj "total" (.int ((nf:Int)+ns)) (bj "paging" (.ref G.pg) [])))):=λb o e z=>(by rw[ai z,ai z];exact e);have ad:upd (upd H1 p (.ins c.C dx (bj "paging" (.ref G.pg) []))) p (.ins c.C dx (bj "total" (.int ((nf:Int)+ns)) (bj "paging" (.ref G.pg) []))) p=some (.ins c.C dx (bj "total" (.int ((nf:Int)+ns)) (bj "paging" (.ref G.pg) []))):=ae;generalize upd (upd H1 p (.ins c.C dx (bj "paging" (.ref G.pg) []))) p (.ins c.C dx (bj "total" (.int ((nf:Int)+ns)) (bj "paging" (.ref G.pg) [])))=L at *;intro rd J;have R:rd≠p:=Ne.symm (aq ad J);refine⟨_,rfl,p,c.C,dx,_,rfl,by rw[ai (Ne.symm R)];exact ad,T.cl,T.nR,by show 2<1000;decide,?_⟩;have o5:Off (· = p) H1 (upd (upd L rd (.dK [])) p (.ins c.C dx (eE G.pg ((nf:Int)+ns) rd))):=λb o e z=>(by rw[ai z,ai (aq (N b o e z) J)];exact N b o e z);have U:∀b∈G.nine,b≠p:=λb O z=>(by rw[z]at O;have:=fr p O;rw[hp]at this;cases this);have Y:∀b,G.own b->b∈G.nine:=λb h=>by
   unfold PA.own at h;unfold PA.nine;simp only[mem_cons,not_mem_nil,or_false]at h ⊢;rcases h with h|h|h|h|h|h|h<;>simp[h]
  have n9:∀i {b},G.nine[i]?=some b->b≠p:=λi b h=>U b (mem_of_getElem? h);have G5:∀M,bJ c.P c.S (upd (upd L rd (.dK [])) p (.ins c.C dx (eE G.pg ((nf:Int)+ns) rd))) M G (s0 nf ns):=λM=>(GA λb=>M b\/b=p).move o5 (λb z=>.inr z) (λb z=>.inl (.inl z)) (λb z=>U b (Y b z)) (n9 1 rfl) (n9 4 rfl) (λb xs e z=>by rw[z,am]at e;cases e);have a7:upd (upd L rd (.dK [])) p (.ins c.C dx (eE G.pg ((nf:Int)+ns) rd)) p=some (.ins c.C dx (eE G.pg ((nf:Int)+ns) rd)):=ae;have ap:upd (upd L rd (.dK [])) p (.ins c.C dx (eE G.pg ((nf:Int)+ns) rd)) rd=some (.dK []):=(by rw[ai R,ae]);have AV:¬ rd∈G.nine:=λz=>by
   have a3:=mr (GA λ_=>False) rd z;cases e:H1 rd with
   |none=>exact a3 e
   |some u=>rw[N _ _ e R]at J;cases J
  have a0:H rd=none:=by
   cases e:H rd with
   |none=>rfl
   |some u=>rw[N _ _ (m1 _ _ e) R]at J;cases J
  have a6:Off (· = p) H (upd (upd L rd (.dK [])) p (.ins c.C dx (eE G.pg ((nf:Int)+ns) rd))):=λb o e z=>o5 b o (m1 b o e) z;refine k _ (λb=>b∈G.nine\/b=rd) ⟨G,p,rd⟩ rfl ⟨⟨dx,?_⟩,G5 _,⟨a5,λx I=>.inl I⟩,λb z=>?_,ap,nodup_nil,(λx I=>by cases I),(λx I=>by cases I),(λx I=>by cases I),(λx I=>by cases I),.inr rfl,λz=>AV (Y _ z),λz=>U _ (Y _ z) rfl⟩ (λb z=>z.elim (fr b) λz=>by rw[z];exact a0) a6
  .have e:bL (s0 nf ns)=(nf:Int)+ns:=by
    unfold bL;rw[show((s0 nf ns).ow true).length=nf from length_replicate,show((s0 nf ns).ow false).length=ns from length_replicate];omega
   rw[e];exact a7
  .rcases z with z|z
   .exact mr (G5 λ_=>False) b z
   .intro w;rw[z]at w;exact absurd (ap.symm.trans w) (by simp)
end
end St
namespace HT
open PySem PySem.Spec PyProof.Rows
section
variable {prog:Program}{w:World}{A:Around}{E:Value->Shared->Prop}{s:Shared}
theorem jg {t sl:Addr}{items:Array Value}{J I:Value}{lo hi:Option Int}{Q:Value->Shared->Prop}(F:IsTup s.heap t items) (hs:s.heap.IsSliceOf sl J I .none) (pl:IsPart J lo) (N:IsPart I hi)
  (G:cQ items.size 0 lo=0/\cQ items.size items.size hi=items.size) (h:Q (.ref t) s):wpAny (model prog w) A (getItem (.ref t) (.ref sl)) Q E s:=by
 obtain⟨os,O,L,U⟩:=id hs;have S:s.TypeIs (.ref sl) "slice" := ⟨os,O,L⟩;unfold getItem
 try with_reducible refine wpAny_holding ?_
 first|refine wpAny_bind (wpAny_pure ?_)|skip
 refine wpAny_bind (wpAny_sequenceKey F.typeIs av ?_);refine wpAny_bind (wpAny_callSpecial?_slot (name:=Str.ofString "__getitem__") F.typeIs PyProof.Rows.slot_tuple_getitem
  (wpAny_call_entry PyProof.Rows.slot_tuple_getitem F.typeIs entry_tuple_getitem ?_ (args_tuple_getitem _ _)))
 show wpAny _ _ (Builtin.Tuple.tupleItemsOf (.ref t)>>=_) _ _ s;refine wpAny_bind (tupleItemsOf_ F ?_);refine wpAny_bind (wpAny_typeOf S ?_);rw[if_pos av];refine wpAny_bind (fJ hs pl N ?_);have R:(((cQ items.size 0 lo:Nat):Int)==0&&(1:Int)==1&&(cQ items.size items.size hi-cQ items.size 0 lo)==items.size)=true:=by
  rw[G.1,G.2];simp
 show wpAny _ _ (if (((cQ items.size 0 lo:Nat):Int)==0&&(1:Int)==1&&(cQ items.size items.size hi-cQ items.size 0 lo)==items.size)=true then _ else _) _ _ s;rw[if_pos R];unfold Builtin.Tuple.tupleIsExact;refine wpAny_bind (wpAny_bind (wpAny_typeOf F.typeIs (wpAny_pure ?_)));rw[if_pos av];refine wpAny_bind (wpAny_rule ?_);exact wpAny_pure ⟨_,rfl,wpAny_pure h⟩
end
end HT
namespace L2
open PySem PySem.Spec PyProof.Rows
inductive Bw (K:PySem.W.Frag) (x:V) (lo:Option Int) (hi:Option Int) (H:Hp) (Q:VK):Prop
 |mk (a:_) (xs:_) (_:x=.ref a) (_:bR K H a xs) (_:((HT.cQ xs.length 0 lo=0/\HT.cQ xs.length xs.length hi=xs.length)->Q (.ref a) H)) (_:(¬ (HT.cQ xs.length 0 lo=0/\HT.cQ xs.length xs.length hi=xs.length)->∀p,H p=none->Q (.ref p) (upd H p (.tup (eK xs lo hi))))):Bw K x lo hi H Q
theorem jo {X:Cx}:DK X (Bw X.K):=by
 intro pins s σ H x v S O lo hi sl Q I J hs pl F h;obtain⟨a,xs,rfl,G,U,N⟩:=h;by_cases c:HT.cQ xs.length 0 lo=0/\HT.cQ xs.length xs.length hi=xs.length
 .cases J;obtain⟨its,r,L,Y⟩:=I.tuple G;have R:its.toArray.size=xs.length:=(by rw[size_toArray];exact r.length.symm);refine⟨"tuple",_,PyProof.Rows.slot_tuple_getitem.lookup,L.typeIs,?_⟩;exact HT.jg L hs pl F (by rw[R];exact c) ⟨.ref a,H,I,rfl,U c⟩
 .exact CG pins s σ H (.ref a) v S O lo hi sl Q I J hs pl F ⟨a,xs,rfl,G,c,N c⟩
theorem nK {a:Addr}{o:Obj}{kvs:List (Key×V)}{g:TG}{tb:TS}{D:Ends}{σ:St}{H:Hp}(Pv:Nat->St->Hp->Prop) (R:Pv 0 σ H) (S:∀i σ H,i<=kvs.length->Pv i σ H->H a=some (.frz o (.dK kvs)))
  (hs:∀i k v σ H T,kvs[i]?=some (k,v)->H T=none->Pv i σ H->g (.ref T) σ (upd H T (.tup [kV k,v])) λG H2=>tb { D with nx:=Pv (i+1),ct:=Pv (i+1),bk:=D.nx } G H2) (hd:∀σ H,Pv kvs.length σ H->D.nx σ H) :
  ∃W:Nat->Nat->St->Hp->Prop,(∃m,W 0 m σ H)/\∀i m σ H,W i m σ H ->
   ((Dx a o kvs).stop i H/\D.nx σ H)\/((Dx a o kvs).go i H/\∃N:St->Hp->Prop,(∀F H',N F H'->∃I,I<m/\W (i+1) I F H')/\∀x H',(Dx a o kvs).Ao i H x H'->g x σ H' λG H2=>tb { D with nx:=N,ct:=N,bk:=D.nx } G H2):=by
 refine⟨λi m σ H=>m=kvs.length-i/\i<=kvs.length/\Pv i σ H,⟨kvs.length,by simp,zero_le _,R⟩,?_⟩;rintro i m σ H ⟨rfl,hi,p⟩;have q:=S i σ H hi p;by_cases J:i<kvs.length
 .refine .inr ⟨⟨q,J⟩,Pv (i+1),λF H' L=>⟨kvs.length-(i+1),af,rfl,J,L⟩,?_⟩;rintro v H' ⟨T,k,x,rfl,O,U,rfl⟩;exact hs i k x σ H T U O p
 .have e:i=kvs.length:=af;subst e;exact .inl ⟨⟨q,le_refl _⟩,hd σ H p⟩
theorem tT {a:Addr}{o:Obj}{kvs:List (Key×V)}{caps:List (Str×Nat)}{te:TE}{σ:St}{H:Hp}{F:List V->Hp->Prop}(Pv:Nat->List V->Hp->Prop) (R:Pv 0 [] H)
  (J:∀i zs H,i<=kvs.length->Pv i zs H->H a=some (.frz o (.dK kvs)))
  (hs:∀i k v zs H,kvs[i]?=some (k,v)->Pv i zs H->te (gx caps σ (some v)) H (λz O=>zs.length<sizeLine/\Pv (i+1) (zs++[z]) O))
  (hd:∀zs H,Pv kvs.length zs H->F zs H):∃W:Nat->Nat->List V->Hp->Prop,(∃m,W 0 m [] H)/\jD caps pz te σ (Fe a o kvs) F W:=by
 refine⟨λi m zs H=>m=kvs.length-i/\i<=kvs.length/\Pv i zs H,⟨kvs.length,by simp,zero_le _,R⟩,?_⟩;rintro i m zs H ⟨rfl,hi,p⟩;have I:=J i zs H hi p;by_cases G:i<kvs.length
 .refine .inr ⟨⟨I,G⟩,Pv (i+1),λS H' L=>⟨kvs.length-(i+1),af,rfl,G,L⟩,?_⟩;rintro v H' ⟨rfl,k,N⟩;unfold pz;dsimp only;rw[if_pos rfl];exact hs i k v zs H' N p
 .have e:i=kvs.length:=af;subst e;exact .inl ⟨⟨I,le_refl _⟩,hd zs H p⟩
section
variable {X:Cx}
theorem uK:di X (.type "dict") (λxs H Q=>∃(d:Addr) (kvs:List (Key×V)),xs=[.ref d]/\H d=some (.dK kvs)/\∀a,H a=none->Q (.ref a) (upd H a (.dK kvs))):=by
 intro pins s σ H xs us Q I r h;obtain⟨d,kvs,rfl,hd,q⟩:=h;obtain⟨u,rfl,O⟩:=vals1 r;obtain rfl:u=Value.ref d:=O;obtain⟨J,L,vs,F,G⟩:=gr I.bG hd;have S:=F.length;refine kt_call_dict (knd:=br X.prog X.w) L G af λh' R N=>?_;refine⟨.ref s.heap.objs.size,_,I.laid (t':=s.toks) (h':=h') (λb o e=>?_) (le_refl _) (lI J ?_ F R),rfl,q _ I.fresh⟩
 .exact(N.2 b (ne_of_lt (Heap.lt_size e))).trans (Heap.get?_push_of_some _ e)
 .exact beq_false_of_ne (ne_of_gt I.big)
theorem range_any (bs:List Bool):((List.range bs.length).any λi=>(bs[i]?).getD true)=bs.any id:=by
 rw[Bool.eq_iff_iff,List.any_eq_true,List.any_eq_true];constructor
 .rintro⟨i,hi,e⟩;have F:=List.mem_range.mp hi;rw[getElem?_eq_getElem F,getD_some]at e;exact⟨_,getElem_mem F,e⟩
 .rintro⟨b,G,e⟩;obtain⟨i,hi,I⟩:=getElem_of_mem G;refine⟨i,List.mem_range.mpr hi,?_⟩;rw[getElem?_eq_getElem hi,getD_some,I];exact e
theorem De:bootBuiltins "any" = some (.builtin "any"):=ah
theorem wM (hc:X.calm=true):di X (.builtin "any") (λxs H Q=>∃(l:Addr) (bs:List Bool),xs=[.ref l]/\bE X.K H l (bs.map V.bl)/\Q (.bl (bs.any id)) H):=by
 intro pins s σ H xs us Q I r h;obtain⟨l,bs,rfl,hl,q⟩:=h;obtain⟨u,rfl,U⟩:=vals1 r;obtain rfl:u=Value.ref l:=U;obtain⟨its,O,p,_⟩:=I.list hl;have N:=oJ O;subst N;have J:=p.isList;have R:l<s.heap.objs.size:=let ⟨_,e,_⟩:=J;Heap.lt_size e;refine call_any_walk (wpAny_pyIter_list J ?_);refine⟨s.heap.objs.size,[s.heap.objs.size,l],[s.heap.objs.size],(bs.map Value.bool).toArray.size,_,_,λi=>(bs[i]?).getD true,rfl,Walks.list (A:=X.A.in1) (I.ok.hd hc) _ l (ne_of_lt R) (bs.map Value.bool).toArray,
  ⟨⟨_,Heap.get?_push_size _ rfl,rfl,rfl⟩,J.push _⟩,λi v s' Q' E' S L=>?_,λh' tk hk=>?_⟩
 .have Y:(bs.map Value.bool).toArray[i]?=some v:=S;have F:(bs.map Value.bool)[i]?=some v:=(by simpa using Y);rw[getElem?_map]at F;cases G:bs[i]? with
  |none=>rw[G]at F;cases F
  |some b =>
   rw[G]at F;have e2:Value.bool b=v:=Option.some.inj F;subst e2;simp only[G,getD_some]at L;exact wpAny_truthy_bool L
 .have e:((List.range (bs.map Value.bool).toArray.size).any λi=>(bs[i]?).getD true)=bs.any id:=by
   rw[size_toArray,length_map];exact range_any bs
  rw[e];exact⟨.bl _,H,I.kept (LSm.kept_iter hk),rfl,q⟩
noncomputable def EU:xi:=λo i v H Q=>∃a H',o=.ref a/\fQ H a i v H'/\Q H'
theorem set_dict (N:X.A.units+1<cLine):Az X EU:=by
 intro pins s σ H o i v ov O u Q I G J F h;obtain⟨a,H',rfl,g,q⟩:=h;obtain rfl:ov=Value.ref a:=G;exact nA N I g J F λs' L=>⟨H',L,q⟩
end
end L2
namespace Lw
open PySem L2 St
noncomputable abbrev uF:Stmt:=top 35
noncomputable abbrev pS:Stmt:=top 36
noncomputable abbrev t7:Stmt:=top 37
noncomputable abbrev mD:Stmt:=top 38
noncomputable abbrev uf:Stmt:=top 39
noncomputable abbrev uw:Stmt:=top 40
noncomputable abbrev mh:Stmt:=top 41
noncomputable abbrev B9:Stmt:=top 42
noncomputable abbrev yd:Stmt:=top 43
noncomputable abbrev oh:Stmt:=top 44
noncomputable abbrev uc:Stmt:=top 46
noncomputable abbrev yJ:Stmt:=top 47
noncomputable abbrev uP:Stmt:=top 48
structure lD (mg:Str->Option Value):Prop where
 range:mg "range" = none
 enumerate:mg "enumerate" = none
 sum:mg "sum" = none
 int:mg "int" = none
 yL:mg "isinstance" = none
 min:mg "min" = none
 max:mg "max" = none
 list:mg "list" = none
 len:mg "len" = none
 dict:mg "dict" = none
 bool:mg "bool" = none
 tuple:mg "tuple" = none
 sorted:mg "sorted" = none
 all:mg "all" = none
 any:mg "any" = none
inductive pJ (vs:List V) (H:Hp) (Q:VK) (e3:XK):Prop
 |mk (c k:Int) (_:vs=[.int c,.int k]) (_:∀v:Int,Q (.int v) H):pJ vs H Q e3
inductive kX (K:PySem.W.Frag) (vs:List V) (H:Hp) (Q:VK) (e3:XK):Prop
 |mk (a:Addr) (ns:List Int) (k:Nat) (_:vs=[.ref a,.int k]) (_:bE K H a (ns.map V.int)) (_:ns.length<=100) (_:k<=100) (_:∀(v:Int) (H':Hp),aZ H H'->Q (.int v) H'):kX K vs H Q e3
inductive oW (vs:List V) (H:Hp) (Q:VK) (e3:XK):Prop
 |mk (i:Int) (_:vs=[.int i]) (_:Q (.bl true) H):oW vs H Q e3
inductive jO (vs:List V) (H:Hp) (Q:VK) (e3:XK):Prop
 |mk (m:Int) (n:Nat) (_:vs=[.int m,.int n]) (_:n<=100) (_:∀(cs:List Int) (H':Hp) (l:Addr),cs.length=n->aZ H H'->H l=none->H' l=some (.lst (cs.map V.int))->Q (.ref l) H'):jO vs H Q e3
noncomputable def mI (m:Int):List Int:=[2,3,2+m/4%5,2+m/4%39]
noncomputable def qz (m:Int):List Int:=[m/200%8,m/200%61,60]
noncomputable def iM (m:Int):Nat:=((mI m).getD (m%4).toNat 0).toNat
noncomputable def jh (m:Int):Nat:=((qz m).getD (m/9%3).toNat 0).toNat
theorem at_of {xs:List Int}{i n:Int}(G:0<=i) (h1:i<n) (I:n=xs.length):yX (xs.map V.int) i=some (.int (xs.getD i.toNat 0))/\xs.getD i.toNat 0∈xs:=by
 obtain⟨j,rfl⟩:∃j:Nat,i=j:=⟨i.toNat,af⟩;have F:j<xs.length:=af;have e:xs.getD (toNat (j:Int)) 0=xs[j]:=(by simp[F]);rw[e];exact⟨jx (by rw[getElem?_map,getElem?_eq_getElem F];rfl),getElem_mem F⟩
theorem xq (m:Int):yX ((mI m).map V.int) (m%4)=some (.int (iM m))/\2<=iM m/\iM m<=40:=by
 obtain⟨h1,h2⟩:=at_of (xs:=mI m) (i:=m%4) (n:=4) af af rfl;have F:2<=(mI m).getD (m%4).toNat 0/\(mI m).getD (m%4).toNat 0<=40:=by
  unfold mI at h2 ⊢;simp only[mem_cons,not_mem_nil,or_false]at h2;rcases h2 with h|h|h|h<;>rw[h]<;>omega
 have e:((iM m:Nat):Int)=(mI m).getD (m%4).toNat 0:=(by unfold iM;omega);rw[e];exact⟨h1,by unfold iM;omega,by unfold iM;omega⟩
theorem yk (m:Int):yX ((qz m).map V.int) (m/9%3)=some (.int (jh m))/\jh m<=60:=by
 obtain⟨h1,h2⟩:=at_of (xs:=qz m) (i:=m/9%3) (n:=3) af af rfl;have F:0<=(qz m).getD (m/9%3).toNat 0/\(qz m).getD (m/9%3).toNat 0<=60:=by
  unfold qz at h2 ⊢;simp only[mem_cons,not_mem_nil,or_false]at h2;rcases h2 with h|h|h<;>rw[h]<;>omega
 have e:((jh m:Nat):Int)=(qz m).getD (m/9%3).toNat 0:=(by unfold jh;omega);rw[e];exact⟨h1,by unfold jh;omega⟩
inductive kT (vs:List V) (H:Hp) (Q:VK) (e3:XK):Prop
 |mk (m:Int) (_:vs=[.int m]) (_:∀(H':Hp) (t:Addr),aZ H H'->H t=none->H' t=some (.tup [.int (iM m),.int (jh m)])->Q (.ref t) H'):kT vs H Q e3
theorem GV (x y:Int):yi (x%2305843009213693951) y:=by
 have:=emod_nonneg x (show(2305843009213693951:Int)≠0 by decide);have:=emod_lt_of_pos x (show(0:Int)<2305843009213693951 by decide);exact .inl ⟨af,af⟩
theorem EF (x y:Int):yi (x%2305843009213693907) y:=by
 have:=emod_nonneg x (show(2305843009213693907:Int)≠0 by decide);have:=emod_lt_of_pos x (show(0:Int)<2305843009213693907 by decide);exact .inl ⟨af,af⟩
section
variable {P:Program}{w:World}{K:PySem.W.Frag}{mg:Str->Option Value}{base:Heap}
theorem Fd:aC ["_law_cell","_law_k","_law_once","_law_twice"] ["_law_cell","_law_k"] (ar uF):=⟨rfl,rfl,rfl,ah,rfl,ah,ah⟩
theorem xS {f:Addr}{fd:FuncData}(F:cN K "_law_mixed" "_law_mixed" uF f fd):bg P w K mg base aW 1 f fd ["_law_cell","_law_k"] pJ:=by
 refine F.ok Fd (λvs H Q E h=>?_) (λI A outer s H vs Q E G h=>?_)
 .obtain⟨c,j,rfl,_⟩:=h;rfl
 .obtain⟨c,j,rfl,k⟩:=h;refine⟨_,(ag (aK (i:=2) Fd.nd rfl (Or.inl rfl) (ay bD (ay eY (ay bu (ay bu (ay bD (pv 0) ak) (ay eY ak (pv 1))) ak) ak) ak))
   (ag (aK (i:=2) Fd.nd rfl (Or.inl rfl) (ay bD (ay eY (pv 2) (pv 2)) ak))
   (ag (aK (i:=3) Fd.nd rfl (Or.inl rfl) (ay bD (ay eY (ay bu (ay bu (pv 2) (ay eY ak (pv 1))) ak) ak) ak))
   (ao (aE (ay bu (ay eY (ay bD (ay eY (pv 3) (pv 3)) ak) ak) (pv 2))))))),?_⟩
  try dsimp only[cxK]
  refine⟨_,rfl,_,_,rfl,rfl,(by show(0:Int)<2305843009213693951;decide),_,rfl,_,_,rfl,rfl,.inl ⟨av,av⟩,_,_,rfl,rfl,_,_,rfl,rfl,_,_,rfl,rfl,.inr ⟨av,av⟩,_,_,rfl,rfl,(by show(0:Int)<2305843009213693951;decide),?_⟩;refine⟨_,rfl,_,rfl,_,_,rfl,rfl,GV _ _,_,_,rfl,rfl,(by show(0:Int)<2305843009213693921;decide),?_⟩;refine⟨_,rfl,_,rfl,_,_,rfl,rfl,.inl ⟨av,av⟩,_,_,rfl,rfl,_,_,rfl,rfl,_,_,rfl,rfl,.inr ⟨av,av⟩,_,_,rfl,rfl,(by show(0:Int)<2305843009213693907;decide),?_⟩;exact⟨_,rfl,_,rfl,_,_,rfl,rfl,EF _ _,_,_,rfl,rfl,(by show(0:Int)<2305843009213693951;decide),_,_,rfl,rfl,.inr ⟨av,av⟩,_,rfl,_,_,rfl,rfl,k _⟩
theorem Er:aC ["_law_script","_law_k","_law_cell"] ["_law_script","_law_k"] (ar pS):=⟨rfl,rfl,rfl,ah,rfl,ah,ah⟩
theorem wj {f:Addr}{fd:FuncData}(F:cN K "_law_number" "_law_number" pS f fd) (T:lD mg) (GM:Df P w K mg base aW 1 "_law_mixed" pJ):bg P w K mg base aW 2 f fd ["_law_script","_law_k"] (kX K):=by
 refine F.ok Er (λvs H Q E h=>?_) (λap A outer s H vs Q E S h=>?_)
 .obtain⟨a,ns,j,rfl,_⟩:=h;rfl
 .obtain⟨a,ns,j,rfl,J,hn,hj,k⟩:=h;have hs:sizeLine=16777216:=sizeLine_eq;refine⟨_,(ag (aK (i:=2) Er.nd rfl (Or.inl rfl) (aY cm (ay sJ (cL fX (pv 0) (cJ (pv 1)) (cJ (ay bu (pv 1) ak))) (bU (aa (ay bu (ay eY (pv 1) (pv 1)) ak) aj))) ak (λ_ _=>rfl)))
   (ag (aS (az bN (ay bD (aN (lS rfl) (by rfl) T.sum tf (aa (cL fX (pv 0) eM (cJ ak)) aj)) ak) ak (aG _)) (ao (aE (ay bD (pv 2) (ay pE ak ak)))) aF)
   (ao (aE (pc GM S aw (aa (pv 2) (aa (pv 1) aj))))))),?_⟩
  try dsimp only[cxK]
  refine gy λ_ jt=>?_;have ec:eK (ns.map V.int) (some (j:Int)) (some ((j:Int)+1))=((ns.drop j).take 1).map V.int:=Rm.ou (n:=1);refine⟨_,rfl,_,rfl,_,rfl,_,rfl,_,_,rfl,rfl,_,rfl,a,_,rfl,J,λp Y=>?_⟩;show EC _ _ (upd H p (.lst (eK (ns.map V.int) (some (j:Int)) (some ((j:Int)+1))))) _;rw[ec];have U:=Tb.au (X:=.lst (((ns.drop j).take 1).map V.int)) Y;have h1:upd H p (.lst (((ns.drop j).take 1).map V.int)) p=some (.lst (((ns.drop j).take 1).map V.int)):=ae;generalize upd H p (.lst (((ns.drop j).take 1).map V.int))=H1 at *;refine⟨_,rfl,_,rfl,_,_,rfl,rfl,.inl ⟨af,af⟩,_,_,rfl,rfl,(by show 1<=sizeLine;decide),λp2 ac=>?_⟩;have O:=Tb.au (X:=.lst [V.int ((j:Int)*j+3)]) ac;refine⟨p,p2,_,_,rfl,rfl,O _ _ h1,ae,?_,λI am=>?_⟩
  .rw[length_map,length_take];show min 1 _+1<=sizeLine;omega
  have s3:=Tb.au (X:=.lst (((ns.drop j).take 1).map V.int++[V.int ((j:Int)*j+3)])) am;have e3:((ns.drop j).take 1).map V.int++[V.int ((j:Int)*j+3)]=((ns.drop j).take 1++[(j:Int)*j+3]).map V.int:=(by rw[map_append];rfl);have G:=U.trans (O.trans s3);obtain⟨N,_⟩:=at_of (xs:=(ns.drop j).take 1++[(j:Int)*j+3]) (i:=0) (n:=((ns.drop j).take 1++[(j:Int)*j+3]).length) (Int.le_refl _) (by rw[length_append,length_singleton];omega) rfl;rw[<-e3]at N;refine⟨I,_,0,_,rfl,rfl,bE.of ae,N,jt _ _ ?_⟩;generalize ((ns.drop j).take 1++[(j:Int)*j+3]).getD (toNat 0) 0=cl;have ab:=Rm.d0 J (G _);show mE _ _ _ _ (upd (upd H1 p2 (.lst [V.int ((j:Int)*j+3)])) I (.lst (((ns.drop j).take 1).map V.int++[V.int ((j:Int)*j+3)])));generalize upd (upd H1 p2 (.lst [V.int ((j:Int)*j+3)])) I (.lst (((ns.drop j).take 1).map V.int++[V.int ((j:Int)*j+3)]))=H3 at *;have R:eK (ns.map V.int) none (some (1:Int))=(ns.take 1).map V.int:=Rm.sF (s:=1);refine⟨_,rfl,_,rfl,a,_,rfl,ab,λp4 ad=>?_⟩;have L:=Tb.au (X:=.lst ((ns.take 1).map V.int)) ad;refine⟨p4,ns.take 1,rfl,bE.of (by rw[<-R];exact ae),_,_,rfl,rfl,(by show(0:Int)<2;decide),rfl,_,rfl,?_⟩;rw[show eK (ns.map V.int) none (some (1:Int))=(ns.take 1).map V.int from R];refine gF (λ_=>?_) (λ_=>?_)
  .exact⟨_,rfl,_,_,rfl,rfl,⟨av,av,av⟩,_,_,rfl,rfl,(by show(0:Int)<10^40;decide),k _ _ (G.trans L)⟩
  .exact⟨_,rfl,_,rfl,cl,j,rfl,λv=>k v _ (G.trans L)⟩
theorem FQ:aC ["_law_found"] ["_law_found"] (ar t7):=⟨rfl,rfl,rfl,ah,rfl,ah,ah⟩
theorem xA {f:Addr}{fd:FuncData}(F:cN K "_law_whole" "_law_whole" t7 f fd) (T:lD mg):bg P w K mg base aW 1 f fd ["_law_found"] oW:=by
 refine F.ok FQ (λvs H Q E h=>?_) (λI A outer s H vs Q E G h=>?_)
 .obtain⟨i,rfl,_⟩:=h;rfl
 .obtain⟨i,rfl,k⟩:=h;refine⟨_,(ao (aE (sj (aN dr (by rfl) T.yL bM (aa (pv 0) (aa (dW (v:=.ty "int") (by rfl) T.int gJ rfl) aj))) (oU (Cg (aN dr (by rfl) T.yL bM (aa (pv 0) (aa (dW (v:=.ty "bool") (by rfl) T.bool As rfl) aj)))))))),?_⟩
  try dsimp only[cxK]
  exact⟨_,rfl,.int i,"int",_,true,rfl,.int i,CZ _,true,rfl,c6 ⟨_,rfl,.int i,"bool",_,false,rfl,.int i,B5 _,false,rfl,k⟩⟩
theorem AX:aC ["_law_m","_law_many","_law_cells_here","_law_k"] ["_law_m","_law_many"] (ar mD):=⟨rfl,rfl,rfl,ah,rfl,ah,ah⟩
theorem uN {f:Addr}{fd:FuncData}(F:cN K "_law_cells" "_law_cells" mD f fd) (T:lD mg):bg P w K mg base aW 1 f fd ["_law_m","_law_many"] jO:=by
 refine F.ok AX (λvs H Q E h=>?_) (λab A outer s H vs Q E Y h=>?_)
 .obtain⟨m,n,rfl,_⟩:=h;rfl
 .obtain⟨m,n,rfl,hn,k⟩:=h;have hs:sizeLine=16777216:=sizeLine_eq;refine⟨_,(ag (aK (i:=2) AX.nd rfl (Or.inl rfl) (bU aj))
   (ag (cU PassesOwn.never rfl (xf (by rfl) T.range (aa (pv 1) aj)) (a8 (i:=3) AX.nd rfl (Or.inl rfl)) (ag (aL (gS plainAttrs_list PySem.F.slot_list_append PySem.F.type_list_append jT (pv 2) (aa (ay bD (ay bu (pv 0) (ay eY (ay eY ak (pv 3)) (ay bD (ay bF (pv 0) ak) ak))) ak) aj)))
   (ao (aS (az bN (ay bD (pv 3) ak) ak (aG _)) (ao (aK (i:=0) AX.nd rfl (Or.inl rfl) (ay bF (pv 0) ak))) aF))))
   (ao (aE (pv 2))))),?_⟩
  try dsimp only[cxK]
  refine⟨av,λl J=>?_⟩;have s0:=Tb.au (X:=.lst []) J;refine⟨_,rfl,_,rfl,af,af,?_⟩;refine gZ (lo:=0) (n:=(n:Int).toNat) (λi σ H2=>Dy λ(G:Int) (I:Option V) (cs:List Int)=>Du (σ=[some (.int G),some (.int n),some (.ref l),I]) (cs.length=i) (H2 l=some (.lst (cs.map V.int))) (aZ H H2)) ⟨m,_,[],rfl,rfl,ae,s0⟩ ?_ ?_
  .rintro i σ H2 hi ⟨G,I,cs,rfl,R,h2,N⟩;refine⟨_,rfl,.inl ⟨rfl,_,bE.of h2⟩,_,rfl,_,rfl,_,_,rfl,rfl,.inl ⟨av,av⟩,_,rfl,_,_,rfl,rfl,⟨av,av⟩,_,_,rfl,rfl,(by show(0:Int)<7;decide),_,_,rfl,rfl,.inr ⟨?_,?_⟩,_,_,rfl,rfl,_,_,rfl,rfl,(by show(0:Int)<256;decide),l,_,_,rfl,rfl,h2,by rw[length_map];omega,?_⟩
   .have:=emod_nonneg (G/256) (show(7:Int)≠0 by decide);omega
   .have:=emod_lt_of_pos (G/256) (show(0:Int)<7 by decide);omega
   have L:=Rm.AH N J (X:=.lst ((cs++[(G+37*(0+(i:Int))*(G/256%7))%256]).map V.int));have S:cs.map V.int++[V.int ((G+37*(0+(i:Int))*(G/256%7))%256)]=(cs++[(G+37*(0+(i:Int))*(G/256%7))%256]).map V.int:=(by rw[map_append];rfl);refine⟨_,rfl,_,_,rfl,rfl,(by show(0:Int)<8;decide),rfl,_,rfl,?_⟩;have U:(cs++[(G+37*(0+(i:Int))*(G/256%7))%256]).length=i+1:=(by rw[length_append,R];rfl);rw[<-S]at L;have O:upd H2 l (.lst (cs.map V.int++[V.int ((G+37*(0+(i:Int))*(G/256%7))%256)])) l=some (.lst ((cs++[(G+37*(0+(i:Int))*(G/256%7))%256]).map V.int)):=(by rw[<-S];exact ae);exact gF (λ_=>⟨_,rfl,_,_,rfl,rfl,⟨av,av⟩,_,_,_,rfl,U,O,L⟩) (λ_=>⟨_,_,_,rfl,U,O,L⟩)
  .rintro σ H2 ⟨G,I,cs,rfl,R,h2,N⟩;exact⟨_,rfl,k cs H2 l af N J h2⟩
theorem EI:aC ["_law_m","_law_frames"] ["_law_m"] (ar uc):=⟨rfl,rfl,rfl,ah,rfl,ah,ah⟩
theorem yR {f:Addr}{fd:FuncData}(F:cN K "_law_sizes" "_law_sizes" uc f fd):bg P w K mg base aW 1 f fd ["_law_m"] kT:=by
 refine F.ok EI (λvs H Q E h=>?_) (λab A outer s H vs Q E hr h=>?_)
 .obtain⟨m,rfl,_⟩:=h;rfl
 .obtain⟨m,rfl,k⟩:=h;refine⟨_,(ag (aK (i:=1) EI.nd rfl (Or.inl rfl) (aY cm (bU (aa ak (aa ak (aa (ay bu ak (ay bD (ay bF (pv 0) ak) ak)) (aa (ay bu ak (ay bD (ay bF (pv 0) ak) ak)) aj))))) (ay bD (pv 0) ak) (λ_ _=>rfl)))
   (ao (aE (cF (aa (pv 1) (aa (aY cm (bU (aa (ay bD (ay bF (pv 0) ak) ak) (aa (ay bD (ay bF (pv 0) ak) ak) (aa ak aj)))) (ay bD (ay bF (pv 0) ak) ak) (λ_ _=>rfl)) aj)))))),?_⟩
  try dsimp only[cxK]
  obtain⟨O,_⟩:=xq m;obtain⟨Y,_⟩:=yk m;refine gy λ_ U=>?_;refine⟨_,rfl,_,_,rfl,rfl,⟨av,av⟩,_,_,rfl,rfl,(by show(0:Int)<5;decide),_,_,rfl,rfl,_,rfl,_,_,rfl,rfl,⟨av,av⟩,_,_,rfl,rfl,(by show(0:Int)<39;decide),_,_,rfl,rfl,(by show 4<=sizeLine;decide),λG L=>⟨_,rfl,_,_,rfl,rfl,(by show(0:Int)<4;decide),G,_,_,.int (iM m),rfl,rfl,bE.of ae,O,U _ _ ?_⟩⟩;have s0:=Tb.au (X:=.lst ((mI m).map V.int)) L;show Cz _ _ _ (upd H G (.lst ((mI m).map V.int)));generalize upd H G (.lst ((mI m).map V.int))=H1 at *;refine⟨_,rfl,_,rfl,_,_,rfl,rfl,⟨av,av⟩,_,_,rfl,rfl,(by show(0:Int)<8;decide),_,rfl,_,_,rfl,rfl,⟨av,av⟩,_,_,rfl,rfl,(by show(0:Int)<61;decide),(by show 3<=sizeLine;decide),λN S=>⟨_,rfl,_,_,rfl,rfl,⟨av,av⟩,_,_,rfl,rfl,(by show(0:Int)<3;decide),N,_,_,.int (jh m),rfl,rfl,bE.of ae,Y,(by show 2<=sizeLine;decide),λt J=>?_⟩⟩;have I:=Tb.au (X:=.lst ((qz m).map V.int)) S;have R:=Tb.au (X:=.tup [.int (iM m),.int (jh m)]) J;exact k _ t (s0.trans (I.trans R)) (s0.free (I.free J)) ae
end
structure MT where
 ra:Addr
 sa:Addr
 pl:List (Int×Addr×Int)
noncomputable abbrev Zs:=List (Int×MT)
noncomputable def iT (z:MT):V:=.ref z.ra
noncomputable def iY (z:MT):V:=.ref z.sa
noncomputable def fW (x:Addr×Int):V:=.ref x.1
noncomputable def iS (x:Addr×Int):V:=.int x.2
noncomputable def mH (F ls:Addr) (bL pk:Int):List (Key×V):=[(Sum.inr "rooms",.ref F),(Sum.inr "stands",.ref ls),(Sum.inr "total",.int bL),(Sum.inr "pokes",.int pk)]
structure MA where
 md:Addr
 lr:Addr
 ls:Addr
structure cA (H:Hp) (m:MA) (bL pk:Int) (Z:Zs):Prop where
 hm:H m.md=some (.dK (mH m.lr m.ls bL pk))
 hr:H m.lr=some (.dK (Tb.dk iT Z))
 hs:H m.ls=some (.dK (Tb.dk iY Z))
 rm:∀x∈Z,H x.2.ra=some (.dK (Tb.dk fW x.2.pl))
 st:∀x∈Z,H x.2.sa=some (.dK (Tb.dk iS x.2.pl))
 cl:∀x∈Z,∀y∈x.2.pl,∃ns:List Int,H y.2.1=some (.lst (ns.map V.int))/\ns.length=8
 nd:(Z.map (·.1)).Nodup
 np:∀x∈Z,(x.2.pl.map (·.1)).Nodup
 rg:∀x∈Z,∀y∈x.2.pl,0<=y.1/\y.1<64
 da:∀x∈Z,∀y∈Z,x.1≠y.1->x.2.ra≠y.2.ra/\x.2.sa≠y.2.sa
 rs:∀x∈Z,∀y∈Z,x.2.ra≠y.2.sa
 d3:∀x∈Z,x.2.ra≠m.md/\x.2.ra≠m.lr/\x.2.ra≠m.ls/\x.2.sa≠m.md/\x.2.sa≠m.lr/\x.2.sa≠m.ls
 n3:m.md≠m.lr/\m.md≠m.ls/\m.lr≠m.ls
noncomputable def cM (m:MA) (Z:Zs):Addr->Prop:=λb=>b=m.md\/b=m.lr\/b=m.ls\/∃x∈Z,b=x.2.ra\/b=x.2.sa\/∃y∈x.2.pl,b=y.2.1
theorem ks_ne {a b:Str}(h:a≠b):¬ V.str a=V.str b:=λe=>h (by injection e)
theorem Bf (F ls:Addr) (bL pk:Int):dC (mH F ls bL pk) (Sum.inr "rooms")=some (.ref F):=dZ rfl
theorem Hl:¬ ((Sum.inr ("rooms" : Str):Key)=Sum.inr ("stands" : Str)):=ah
theorem Hn:¬ ((Sum.inr ("rooms" : Str):Key)=Sum.inr ("total" : Str)):=ah
theorem F0:¬ ((Sum.inr ("rooms" : Str):Key)=Sum.inr ("pokes" : Str)):=ah
theorem Hm:¬ ((Sum.inr ("stands" : Str):Key)=Sum.inr ("total" : Str)):=ah
theorem GX:¬ ((Sum.inr ("stands" : Str):Key)=Sum.inr ("pokes" : Str)):=ah
theorem Ga:¬ ((Sum.inr ("total" : Str):Key)=Sum.inr ("pokes" : Str)):=ah
theorem EO (F ls:Addr) (bL pk:Int):dC (mH F ls bL pk) (Sum.inr "stands")=some (.ref ls):=by
 unfold mH;rw[bZ Hl,dZ rfl]
theorem Ca (F ls:Addr) (bL pk:Int):dC (mH F ls bL pk) (Sum.inr "total")=some (.int bL):=by
 unfold mH;rw[bZ Hn,bZ Hm,dZ rfl]
theorem E7 (F ls:Addr) (bL pk:Int):dC (mH F ls bL pk) (Sum.inr "pokes")=some (.int pk):=by
 unfold mH;rw[bZ F0,bZ GX,bZ Ga,dZ rfl]
theorem wO (F ls:Addr) (bL pk:Int):kg [] (mH F ls bL pk)=mH F ls bL pk:=by
 have J:putK ([(Sum.inr "rooms",V.ref F)]:List (Key×V)) (Sum.inr "stands") (V.ref ls)=([(Sum.inr "rooms",V.ref F),(Sum.inr "stands",V.ref ls)]:List (Key×V)):=jc _ (bZ Hl);have I:putK ([(Sum.inr "rooms",V.ref F),(Sum.inr "stands",V.ref ls)]:List (Key×V)) (Sum.inr "total") (V.int bL)=([(Sum.inr "rooms",V.ref F),(Sum.inr "stands",V.ref ls),(Sum.inr "total",V.int bL)]:List (Key×V)):=jc _ ((bZ Hn).trans (bZ Hm));have G:putK ([(Sum.inr "rooms",V.ref F),(Sum.inr "stands",V.ref ls),(Sum.inr "total",V.int bL)]:List (Key×V)) (Sum.inr "pokes") (V.int pk)=([(Sum.inr "rooms",V.ref F),(Sum.inr "stands",V.ref ls),(Sum.inr "total",V.int bL),(Sum.inr "pokes",V.int pk)]:List (Key×V)):=jc _ ((bZ F0).trans ((bZ GX).trans (bZ Ga)));show putK (putK (putK ([(Sum.inr "rooms",V.ref F)]:List (Key×V)) (Sum.inr "stands") (V.ref ls)) (Sum.inr "total") (V.int bL)) (Sum.inr "pokes") (V.int pk)=_;rw[J,I,G];rfl
theorem xC (G ls:Addr) (bL pk:Int):(mH G ls bL pk).map (λF=>(kV F.1,F.2))=[(.str "rooms",.ref G),(.str "stands",.ref ls),(.str "total",.int bL),(.str "pokes",.int pk)]:=rfl
section
variable {H H':Hp}{m:MA}{bL pk:Int}{Z:Zs}
theorem cA.g {k:Str}{v:V}(M:cA H m bL pk Z) (h:dC (mH m.lr m.ls bL pk) (Sum.inr k)=some v):dq H m.md (.str k) (some v):=by
 have q:=dq.k (k:=Sum.inr k) M.hm;rw[h]at q;exact q
theorem cA.off {B:Addr->Prop}(M:cA H m bL pk Z) (o:Off B H H') (h:∀b,cM m Z b->¬ B b):cA H' m bL pk Z:=by
 refine⟨o _ _ M.hm (h _ (.inl rfl)),o _ _ M.hr (h _ (.inr (.inl rfl))),o _ _ M.hs (h _ (.inr (.inr (.inl rfl)))),λx F=>o _ _ (M.rm x F) (h _ (.inr (.inr (.inr ⟨x,F,.inl rfl⟩)))),λx F=>o _ _ (M.st x F) (h _ (.inr (.inr (.inr ⟨x,F,.inr (.inl rfl)⟩)))),λx F y G=>?_,M.nd,M.np,M.rg,M.da,M.rs,M.d3,M.n3⟩;obtain⟨ns,h1,h2⟩:=M.cl x F y G;exact⟨ns,o _ _ h1 (h _ (.inr (.inr (.inr ⟨x,F,.inr (.inr ⟨y,G,rfl⟩)⟩)))),h2⟩
theorem cA.same (M:cA H m bL pk Z) (s:aZ H H'):cA H' m bL pk Z:=M.off (B:=λ_=>False) (λb o e _=>s b o e) λ_ _=>id
end
noncomputable def r6 (Z:Zs):Int:=(Z.map λx=>(x.2.pl.length:Int)).sum
inductive pB (vs:List V) (H:Hp) (Q:VK) (e3:XK):Prop
 |mk (bL:Int) (_:vs=[.int bL]) (_:∀(H':Hp) (m:MA),aZ H H'->H m.md=none->H m.lr=none->H m.ls=none->cA H' m bL 0 []->Q (.ref m.md) H'):pB vs H Q e3
inductive kK (vs:List V) (H:Hp) (Q:VK) (e3:XK):Prop
 |mk (m:MA) (bL pk:Int) (Z:Zs) (_:vs=[.ref m.md]) (_:cA H m bL pk Z) (_:Z.length<=1000) (_:∀H',aZ H H'->Q (.int (r6 Z)) H'):kK vs H Q e3
noncomputable def uV (pl:List (Int×Addr×Int)) (ad:Int) (n:Nat):Prop:=ad+n<=512/\∀i:Nat,i<n->Tb.look pl ((ad+i)/8)≠none
inductive jW (vs:List V) (H:Hp) (Q:VK) (e3:XK):Prop
 |mk (ra:Addr) (pl:List (Int×Addr×Int)) (ad:Int) (n:Nat) (_:vs=[.ref ra,.int ad,.int n]) (_:H ra=some (.dK (Tb.dk fW pl))) (_:0<=ad) (_:ad<=1000) (_:1<=n) (_:n<=100) (_:∀(b:Bool) (H':Hp),aZ H H'->(b=true->uV pl ad n)->Q (.bl b) H'):jW vs H Q e3
section
variable {P:Program}{w:World}{K:PySem.W.Frag}{mg:Str->Option Value}{base:Heap}
theorem GJ:aC ["_law_total"] ["_law_total"] (ar uf):=⟨rfl,rfl,rfl,ah,rfl,ah,ah⟩
theorem zf {f:Addr}{fd:FuncData}(F:cN K "_law_model" "_law_model" uf f fd):bg P w K mg base aW 1 f fd ["_law_total"] pB:=by
 refine F.ok GJ (λvs H Q E h=>?_) (λad A outer s H vs Q E hr h=>?_)
 .obtain⟨bL,rfl,_⟩:=h;rfl
 .obtain⟨bL,rfl,k⟩:=h;refine⟨_,(ao (aE (zS (keys:=[some _,some _,some _,some _]) (values:=[_,_,_,_]) (iZ aI cZ (iZ aI cZ (iZ aI (pv 0) (iZ aI ak Ba)))) rfl rfl (List.cons_ne_nil _ _) (Nat.le_of_ble_eq_true rfl)))),?_⟩
  try dsimp only[cxK]
  refine λL ac J R ls I=>⟨_,rfl,?_⟩;have O:J≠L:=λe=>(by rw[e,ae]at R;cases R);have ab:H J=none:=(by rw[ai O]at R;exact R);have S:ls≠J:=λe=>(by rw[e,ae]at I;cases I);rw[ai S]at I;have N:ls≠L:=λe=>(by rw[e,ae]at I;cases I);have Y:H ls=none:=(by rw[ai N]at I;exact I);refine⟨by rw[ai (Ne.symm N),ai (Ne.symm O),ae],mH J ls bL 0,(xC J ls bL 0).symm,by show 4<=15;decide,?_⟩;rw[wO];refine k _ ⟨L,J,ls⟩ (λb o e=>?_) ac ab Y ⟨ae,?_,?_,(λx G=>by cases G),(λx G=>by cases G),(λx G=>by cases G),nodup_nil,(λx G=>by cases G),(λx G=>by cases G),(λx G=>by cases G),(λx G=>by cases G),(λx G=>by cases G),⟨Ne.symm O,Ne.symm N,Ne.symm S⟩⟩
  .have U:b≠L:=aq e ac;rw[ai U,ai (aq e Y),ai (aq e ab),ai U];exact e
  .show upd _ L _ J=_;rw[ai O,ai (Ne.symm S),ae];rfl
  .show upd _ L _ ls=_;rw[ai N,ae];rfl
theorem GY:aC ["_law_model_here"] ["_law_model_here"] (ar uw):=⟨rfl,rfl,rfl,ah,rfl,ah,ah⟩
theorem zB {f:Addr}{fd:FuncData}(F:cN K "_law_held" "_law_held" uw f fd) (T:lD mg):bg P w K mg base aW 1 f fd ["_law_model_here"] kK:=by
 refine F.ok GY (λvs H Q E h=>?_) (λab A outer s H vs Q E Y h=>?_)
 .obtain⟨m,bL,pk,Z,rfl,_⟩:=h;rfl
 .obtain⟨m,bL,pk,Z,rfl,M,lz,k⟩:=h;have hs:sizeLine=16777216:=sizeLine_eq;refine⟨_,(ao (aE (aN (lS rfl) (by rfl) T.sum tf (aa (vh (gY (cl:=[]) (caps:=[]) ⟨rfl,ah,ah,rfl,by kernel_rfl,by intro p I;simp at I,by kernel_rfl,by intro p I;simp at I,ah⟩ rfl (Be (bq (bh Y) (pv 0) aI (λ_ _=>rfl))) (λ_ _ _ _=>gg) (λ_ _ _ _=>(aN jL (by rfl) T.len boot_len (aa (pv 0) aj))))) aj)))),?_⟩
  try dsimp only[cxK]
  have O:∀(o:Obj) R,H m.lr≠some (.frz o R):=λo R z=>(by rw[M.hr]at z;cases z);refine⟨_,rfl,m.md,.ref m.lr,rfl,M.g (Bf _ _ _ _),m.lr,_,rfl,M.hr,O,λo=>?_⟩;have oF:Off (· = m.lr) H (upd H m.lr (.frz o (.dK (Tb.dk iT Z)))):=Off.wr rfl;have L:(upd H m.lr (.frz o (.dK (Tb.dk iT Z)))) m.lr=some (.frz o (.dK (Tb.dk iT Z))):=ae;refine tT (a:=m.lr) (o:=o) (kvs:=Tb.dk iT Z) (λi ys H2=>ys=((Z.take i).map λx=>(x.2.pl.length:Int)).map V.int/\H2=upd H m.lr (.frz o (.dK (Tb.dk iT Z)))) ⟨rfl,rfl⟩ (λi zs H2 _ ⟨_,e⟩=>by rw[e];exact L) ?_ ?_
  .rintro i kk v zs H2 hk ⟨rfl,rfl⟩;have U:(Z.map λx:Int×MT=>((Sum.inl x.1:Key),iT x.2))[i]?=some (kk,v):=hk;rw[getElem?_map]at U;obtain⟨x,J,e⟩:=Option.map_eq_some_iff.mp U;cases e;have S:=mem_of_getElem? J;have hi:i<Z.length:=(List.getElem?_eq_some_iff.mp J).1;refine⟨_,rfl,x.2.ra,_,rfl,oF _ _ (M.rm x S) (M.d3 x S).2.1,?_,?_,rfl⟩
   .rw[length_map,length_map,length_take];omega
   .rw[Tb.cq,take_add_one,J,map_append,map_append];rfl
  .rintro zs H2 ⟨rfl,rfl⟩ l G;have N:l≠m.lr:=λz=>(by rw[z,L]at G;cases G);refine⟨m.lr,o,Tb.dk iT Z,by rw[ai (Ne.symm N)];exact L,O,l,(Z.map λx=>(x.2.pl.length:Int)),rfl,bE.of ?_,?_⟩
   .rw[ai N,ae,Tb.cq,take_length]
   .refine k _ λb u e=>?_;by_cases z:b=m.lr
    .rw[z,ae, <-e,z,M.hr]
    .rw[ai z,ai (λy=>by rw[y]at e;rw[ai N,e]at G;cases G),ai z];exact e
theorem Aj:aC ["_law_room","_law_address","_law_many"] ["_law_room","_law_address","_law_many"] (ar mh):=⟨rfl,rfl,rfl,ah,rfl,ah,ah⟩
theorem ur {f:Addr}{fd:FuncData}(F:cN K "_law_stretch" "_law_stretch" mh f fd) (T:lD mg):bg P w K mg base aW 1 f fd ["_law_room","_law_address","_law_many"] jW:=by
 refine F.ok Aj (λvs H Q E h=>?_) (λU A outer s H vs Q E J h=>?_)
 .obtain⟨I,pl,ad,n,rfl,_⟩:=h;rfl
 .obtain⟨I,pl,ad,n,rfl,L,R,S,O,Y,k⟩:=h;have hs:sizeLine=16777216:=sizeLine_eq;refine⟨_,(ag (aS (az fV (pv 2) ak (aG _)) (ao (aE nD)) aF)
   (ag (aS (PW.pt (k8 (az iz (pv 2) ak (aG _)) (jI (PW.pt (gp (az fV (pv 1) ak (aG _)) (gh (az iz (ay bu (pv 1) (pv 2)) ak (aG _)))))))) (ao (aE nD)) aF)
   (ao (aE (E5 (jv bN (pv 2) ak (aG _)) (oU (aN (nu rfl) (by rfl) T.all zI (aa (gY (cl:=[("_law_room",s.heap.objs.size+1)]) (caps:=[("_law_room",0)]) ⟨rfl,ah,ah,rfl,by kernel_rfl,by intro p G;simp only[mem_cons,not_mem_nil,or_false]at G;rcases G with rfl<;>first|rfl|exact⟨rfl,.inl rfl,.inl rfl⟩|exact⟨rfl,.inl rfl,.inr rfl⟩,by kernel_rfl,by intro p G;simp only[mem_cons,not_mem_nil,or_false]at G;rcases G with rfl<;>first|rfl|exact⟨rfl,.inl rfl,.inl rfl⟩|exact⟨rfl,.inl rfl,.inr rfl⟩,ah⟩ rfl (eS (by rfl) T.range (aa (pv 1) (aa (ay bu (pv 1) (pv 2)) aj))) (λ_ _ _ _=>gg) (λ_ _ _ _=>(tI (ma (bh J) (ay bF (pv 0) ak) (pv 1))))) aj)))))))),?_⟩
  try dsimp only[cxK]
  refine⟨_,rfl,_,_,rfl,rfl,_,rfl,?_⟩;rw[decide_eq_false af];refine bB (vq ?_);dsimp only;refine⟨_,rfl,_,_,rfl,rfl,_,rfl,?_⟩;rw[decide_eq_true af];refine c6 ?_;refine⟨_,rfl,_,_,rfl,rfl,_,rfl,?_⟩;rw[decide_eq_false af];refine bB ?_;refine⟨_,rfl,_,rfl,_,_,rfl,rfl,_,_,rfl,rfl,_,rfl,?_⟩;by_cases c:(512:Int)<ad+n
  .rw[decide_eq_true c];exact c6 (k false H (aZ.refl H) (λz=>by cases z))
  .rw[decide_eq_false c];refine bB (vq ?_);dsimp only;refine⟨_,rfl,rfl,_,rfl,?_⟩;refine gF (λz=>?_) (λ_=>?_)
   .exfalso;have:((n:Nat):Int)=0:=(by simpa using z);omega
   refine⟨_,rfl,_,rfl,_,rfl,_,_,rfl,rfl,_,_,rfl,⟨af,af,af,af⟩,?_⟩;refine fm (lo:=ad) (n:=(ad+(n:Int)-ad).toNat) (λi ys H2=>ys=((List.range i).map λj:Nat=>(Tb.look pl ((ad+j)/8)).isSome).map V.bl/\H2=H) ⟨rfl,rfl⟩ ?_ ?_
   .rintro i ys H2 hi ⟨rfl,rfl⟩;refine⟨_,rfl,_,_,rfl,rfl,⟨av,av⟩,_,rfl,I,_,rfl,eU L,?_,?_,rfl⟩
    .rw[length_map,length_map,length_range];omega
    .rw[range_succ,map_append,map_append];show _++[V.bl ((Tb.look pl ((ad+(i:Int))/8)).map fW).isSome]=_;rw[isSome_map];rfl
   .rintro ys H2 ⟨rfl,rfl⟩ l N;refine⟨l,_,rfl,bE.of ae,k _ _ (Tb.au N) λz=>⟨af,λi hi=>?_⟩⟩;have e:=List.all_eq_true.mp z ((Tb.look pl ((ad+(i:Int))/8)).isSome) (List.mem_map.mpr ⟨i,List.mem_range.mpr af,rfl⟩);intro w;rw[w]at e;cases e
end
inductive Dd where
 |begin (t:Int)
 |close (t:Int)
 |map (t p m:Int)
 |drop (t p m:Int)
 |peek (t ad:Int) (n:Nat)
 |poke (t ad:Int) (c:Addr) (cs:List Int)
 |copy (t o:Int)
noncomputable def u3:Dd->List V
 |.begin t=>[.str "begin",.int t]
 |.close t=>[.str "close",.int t]
 |.map t p m=>[.str "map",.int t,.int p,.int m]
 |.drop t p m=>[.str "drop",.int t,.int p,.int m]
 |.peek t ad n=>[.str "peek",.int t,.int ad,.int n]
 |.poke t ad c _=>[.str "poke",.int t,.int ad,.ref c]
 |.copy t o=>[.str "copy",.int t,.int o]
noncomputable def de:Dd->Str
 |.begin _ => "begin" |.close _ => "close" |.map .. => "map" |.drop .. => "drop" |.peek .. => "peek" |.poke .. => "poke" |.copy .. => "copy"
noncomputable def Bm:Dd->Int
 |.begin t=>t|.close t=>t|.map t _ _=>t|.drop t _ _=>t|.peek t _ _=>t|.poke t _ _ _=>t|.copy t _=>t
noncomputable def qH (H:Hp) (d:Addr) (D:Dd):Prop:=H d=some (.tup (u3 D))/\∀t ad c cs,D=.poke t ad c cs->H c=some (.lst (cs.map V.int))
noncomputable def xB:Dd->Prop
 |.begin _=>False
 |.map _ p m=>0<=p/\p<64/\1<=m/\m<=64
 |.drop _ p m=>0<=p/\p<64/\1<=m/\m<=64
 |.peek _ ad n=>0<=ad/\ad<=1000/\1<=n/\n<=100
 |.poke _ ad _ cs=>0<=ad/\ad<=1000/\1<=cs.length/\cs.length<=100
 |_=>True
noncomputable def CQ (Z:Zs) (bL:Int):Dd->Prop
 |.begin t=>Tb.look Z t=none
 |.close t=>∃z,Tb.look Z t=some z
 |.map t p m=>∃z,Tb.look Z t=some z/\¬ Rm.cn p m/\(∀q∈Rm.aR p m,Tb.look z.pl q=none)/\r6 Z+m<=bL
 |.drop t p m=>∃z,Tb.look Z t=some z/\¬ Rm.cn p m/\∀q∈Rm.aR p m,Tb.look z.pl q≠none
 |.peek t ad n=>∃z,Tb.look Z t=some z/\uV z.pl ad n
 |.poke t ad _ cs=>∃z,Tb.look Z t=some z/\uV z.pl ad cs.length
 |.copy t o=>∃z,Tb.look Z t=some z/\Tb.look Z o=none/\r6 Z+z.pl.length<=bL
inductive zD (vs:List V) (H:Hp) (Q:VK) (e3:XK):Prop
 |mk (m:MA) (bL pk:Int) (Z:Zs) (d:Addr) (D:Dd) (_:vs=[.ref m.md,.ref d]) (_:cA H m bL pk Z) (_:Z.length<=1000) (_:qH H d D) (_:xB D) (_:∀(r:Str) (H':Hp),aZ H H'->(r = "" -> CQ Z bL D)->Q (.str r) H'):zD vs H Q e3
theorem at2 {a b:V}(k:Bool):yX [a,b] (if k=true then 1 else 0)=some (if k=true then b else a):=by cases k<;>rfl
theorem Cc (D:Dd):eK (u3 D) none (some 2)=[.str (de D),.int (Bm D)]:=by cases D<;>rfl
theorem wG {D:Dd}(h:HT.cQ (u3 D).length 0 none=0/\HT.cQ (u3 D).length (u3 D).length (some 2)=(u3 D).length):u3 D=[.str (de D),.int (Bm D)]:=by
 obtain⟨_,h⟩:=h;cases D<;>first|rfl|(exact absurd (show HT.cQ 4 4 (some 2)=4 from h) av)|(exact absurd (show HT.cQ 3 3 (some 2)=3 from h) av)
section
variable {P:Program}{w:World}{K:PySem.W.Frag}{mg:Str->Option Value}{base:Heap}
theorem qL:aC ["_law_model_here","_law_deed","_law_rooms","_law_name","_law_task","_law_room","_law_page","_law_many","_law_there"] ["_law_model_here","_law_deed"] (ar B9):=⟨rfl,rfl,rfl,ah,rfl,ah,ah⟩
theorem Dl {f:Addr}{fd:FuncData}(F:cN K "_law_due" "_law_due" B9 f fd) (T:lD mg) (a5:Df P w K mg base aW 1 "_law_held" kK) (a4:Df P w K mg base aW 1 "_law_stretch" jW) :
  bg P w K mg base aW 2 f fd ["_law_model_here","_law_deed"] zD:=by
 refine F.ok qL (λvs H Q E h=>?_) (λba A outer s H vs Q E S h=>?_)
 .obtain⟨m,bL,pk,Z,d,D,rfl,_⟩:=h;rfl
 .obtain⟨m,bL,pk,Z,d,D,rfl,M,lz,hd,ab,k⟩:=h;have hs:sizeLine=16777216:=sizeLine_eq;refine⟨_,(ag (aK (i:=2) qL.nd rfl (Or.inl rfl) (bq (bh S) (pv 0) aI (λ_ _=>rfl)))
   (ag (cI (cL jo (pv 1) eM (cJ ak)) (dF rfl (bo (a8 (i:=3) qL.nd rfl (Or.inl rfl)) (bo (a8 (i:=4) qL.nd rfl (Or.inl rfl)) cW))))
   (ag (aS (az bN (pv 3) aI (aG _)) (ao (aE (aY cm (bU (aa aI (aa aI aj))) (bO dU (by rfl) T.int gJ (aa (tI (ma (bh S) (pv 4) (pv 2))) aj)) (λ_ _=>rfl)))) aF)
   (ag (aS (gU (eT (bh S) (pv 4) (pv 2))) (ao (aE aI)) aF)
   (ag (aK (i:=5) qL.nd rfl (Or.inr rfl) (bq (bh S) (pv 2) (pv 4) (λ_ _=>rfl)))
   (ag (aS (PW.pt (gp (az bN (pv 3) aI (aG _)) (gh (az bN (pv 3) aI (aG _))))) (ag (cI (cL jo (pv 1) (cJ ak) eM) (dF rfl (bo (a8 (i:=6) qL.nd rfl (Or.inl rfl)) (bo (a8 (i:=7) qL.nd rfl (Or.inl rfl)) cW))))
   (ag (aS (PW.pt (gp (az fV (pv 7) ak (aG _)) (gp (az fV (pv 6) ak (aG _)) (gh (az iz (ay bu (pv 6) (pv 7)) ak (aG _)))))) (ao (aE aI)) aF)
   (ag (AR (i:=8) (cl:=[("_law_room",s.heap.objs.size+1)]) (caps:=[("_law_room",5)]) qL.nd rfl (Or.inl rfl) ⟨rfl,ah,ah,rfl,by kernel_rfl,by intro p hp;simp only[mem_cons,not_mem_nil,or_false]at hp;rcases hp with rfl<;>first|rfl|exact⟨rfl,.inl rfl,.inl rfl⟩|exact⟨rfl,.inl rfl,.inr rfl⟩,by kernel_rfl,by intro p hp;simp only[mem_cons,not_mem_nil,or_false]at hp;rcases hp with rfl<;>first|rfl|exact⟨rfl,.inl rfl,.inl rfl⟩|exact⟨rfl,.inl rfl,.inr rfl⟩,ah⟩ rfl (eS (by rfl) T.range (aa (pv 6) (aa (ay bu (pv 6) (pv 7)) aj))) (λ_ _ _ _=>gg) (λ_ _ _ _=>(tI (ma (bh S) (pv 0) (pv 1)))))
   (ag (aS (az bN (pv 3) aI (aG _)) (ao (aE (aY cm (bU (aa aI (aa aI aj))) (bO dU (by rfl) T.int gJ (aa (aN (nu rfl) (by rfl) T.all zI (aa (pv 8) aj)) aj)) (λ_ _=>rfl)))) aF)
   (ag (aS (gb (aN (wM rfl) (by rfl) T.any De (aa (pv 8) aj))) (ao (aE aI)) aF)
   (ao (aE (aY cm (bU (aa aI (aa aI aj))) (bO dU (by rfl) T.int gJ (aa (jv iz (ay bu (pc a5 S aw (aa (pv 0) aj)) (pv 7)) (bq (bh S) (pv 0) aI (λ_ _=>rfl)) (aG _)) aj)) (λ_ _=>rfl))))))))) aF)
   (ag (aS (az bN (pv 3) aI (aG _)) (ao (aE (aY cm (bU (aa aI (aa aI aj))) (bO dU (by rfl) T.int gJ (aa (pc a4 S aw (aa (pv 5) (aa (aY a9 (pv 1) ak (λ_ _=>rfl)) (aa (aY a9 (pv 1) ak (λ_ _=>rfl)) aj)))) aj)) (λ_ _=>rfl)))) aF)
   (ag (aS (az bN (pv 3) aI (aG _)) (ao (aE (aY cm (bU (aa aI (aa aI aj))) (bO dU (by rfl) T.int gJ (aa (pc a4 S aw (aa (pv 5) (aa (aY a9 (pv 1) ak (λ_ _=>rfl)) (aa (aN bC (by rfl) T.len boot_len (aa (aY a9 (pv 1) ak (λ_ _=>rfl)) aj)) aj)))) aj)) (λ_ _=>rfl)))) aF)
   (ag (aS (az bN (pv 3) aI (aG _)) (ag (aS (gU (ma (bh S) (aY a9 (pv 1) ak (λ_ _=>rfl)) (pv 2))) (ao (aE aI)) aF)
   (ao (aE (aY cm (bU (aa aI (aa aI aj))) (bO dU (by rfl) T.int gJ (aa (jv iz (ay bu (pc a5 S aw (aa (pv 0) aj)) (aN jL (by rfl) T.len boot_len (aa (pv 5) aj))) (bq (bh S) (pv 0) aI (λ_ _=>rfl)) (aG _)) aj)) (λ_ _=>rfl))))) aF)
   (ao (aE aI))))))))))),?_⟩
  try dsimp only[cxK]
  refine gy λ_ jt=>?_;refine⟨_,rfl,m.md,.ref m.lr,rfl,M.g (Bf _ _ _ _),jt _ _ ?_⟩;refine share (λσ H1=>aZ H H1/\σ=[some (.ref m.md),some (.ref d),some (.ref m.lr),some (.str (de D)),some (.int (Bm D)),none,none,none,none]) (λu' a3=>?A) ?B
  case A =>
   refine⟨_,rfl,_,rfl,d,_,rfl,bR.of hd.1,λc=>?_,λ_ p hp=>?_⟩
   .exact⟨d,_,rfl,bR.of hd.1,by rw[wG c];rfl,by rw[wG c];exact⟨_,_,rfl,_,_,rfl,rfl,a3 _ _ ⟨aZ.refl H,rfl⟩⟩⟩
   .rw[Cc];exact⟨p,_,rfl,bR.of ae,rfl,_,_,rfl,_,_,rfl,rfl,a3 _ _ ⟨Tb.au hp,rfl⟩⟩
  case B =>
  rintro σ H1 ⟨R,rfl⟩;have M1:=M.same R;have U:H1 d=some (.tup (u3 D)):=R _ _ hd.1;have a6:∀t ad c cs,D=.poke t ad c cs->H1 c=some (.lst (cs.map V.int)):=λt ad c cs e=>R _ _ (hd.2 t ad c cs e);have nb:de D ≠ "begin" := by
   cases D with
   |begin t=>exact absurd ab id
   |close t=>exact(show ¬ (("close" : Str) = "begin")by decide +kernel)
   |map t p m=>exact(show ¬ (("map" : Str) = "begin")by decide +kernel)
   |drop t p m=>exact(show ¬ (("drop" : Str) = "begin")by decide +kernel)
   |peek t p m=>exact(show ¬ (("peek" : Str) = "begin")by decide +kernel)
   |poke t p m q=>exact(show ¬ (("poke" : Str) = "begin")by decide +kernel)
   |copy t p=>exact(show ¬ (("copy" : Str) = "begin")by decide +kernel)
  refine bV λ_ J G=>?_;refine dP (bA rfl) bw rfl (ks_ne nb) (G _ ?_);clear J G;refine bV λ_ J G=>?_;refine⟨_,rfl,_,rfl,m.lr,_,rfl,eU (t:=Bm D) M1.hr,?_⟩;cases ez:Tb.look Z (Bm D)with
  |none=>exact⟨true,rfl,J _ (k "NoTask" H1 R (λz=>absurd z ah))⟩
  |some z =>
  refine⟨false,rfl,G _ ?_⟩;clear J G;have hg:=eU (t:=Bm D) M1.hr;rw[ez]at hg;have ac:=Tb.aA ez;refine gy λ_ jt=>?_;refine⟨_,rfl,_,rfl,m.lr,iT z,rfl,hg,jt _ _ ?_⟩;clear jt;cases D with
  |begin t=>exact absurd ab id
  |close t =>
   refine bV λ_ J G=>?_;refine dP (bA rfl) bw rfl (ks_ne (by dsimp only[de];decide +kernel)) (bB (dP (bA rfl) bw rfl (ks_ne (by dsimp only[de];decide +kernel)) (G _ ?_)));refine bV λ_ J G=>?_;refine dP (bA rfl) bw rfl (ks_ne (by dsimp only[de];decide +kernel)) (G _ ?_);refine bV λ_ J G=>?_;refine dP (bA rfl) bw rfl (ks_ne (by dsimp only[de];decide +kernel)) (G _ ?_);refine bV λ_ J G=>?_;refine dP (bA rfl) bw rfl (ks_ne (by dsimp only[de];decide +kernel)) (G _ ?_);exact k "" H1 R λ_=>⟨z,ez⟩
  |peek t ad n =>
   refine bV λ_ J G=>?_;refine dP (bA rfl) bw rfl (ks_ne (by dsimp only[de];decide +kernel)) (bB (dP (bA rfl) bw rfl (ks_ne (by dsimp only[de];decide +kernel)) (G _ ?_)));refine bV λ_ J G=>?_;refine eqT (bA rfl) bw rfl (J _ ?_);obtain⟨a0,a1,n0,n1⟩:=ab;refine⟨by show 2<=sizeLine;decide,λl Y=>?_⟩;have L:=Tb.au (X:=.lst [.str "NoPage",.str ""]) Y;have h2:upd H1 l (.lst [.str "NoPage",.str ""]) l=some (.lst [.str "NoPage",.str ""]):=ae;refine⟨_,rfl,_,rfl,d,_,_,.int ad,rfl,rfl,bR.of (L _ _ U),rfl,_,rfl,d,_,_,.int n,rfl,rfl,bR.of (L _ _ U),rfl,z.ra,z.pl,ad,n,rfl,L _ _ (M1.rm _ ac),a0,a1,n0,n1,λb N O hb=>?_⟩;refine .inr ⟨b,rfl,l,_,_,_,rfl,rfl,bE.of (O _ _ h2),at2 b,?_⟩;cases b
   .exact k "NoPage" N (R.trans (L.trans O)) (λw=>absurd w ah)
   .exact k "" N (R.trans (L.trans O)) (λ_=>⟨z,ez,hb rfl⟩)
  |poke t ad c cs =>
   refine bV λ_ J G=>?_;refine dP (bA rfl) bw rfl (ks_ne (by dsimp only[de];decide +kernel)) (bB (dP (bA rfl) bw rfl (ks_ne (by dsimp only[de];decide +kernel)) (G _ ?_)));refine bV λ_ J G=>?_;refine dP (bA rfl) bw rfl (ks_ne (by dsimp only[de];decide +kernel)) (G _ ?_);refine bV λ_ J G=>?_;refine eqT (bA rfl) bw rfl (J _ ?_);obtain⟨a0,a1,n0,n1⟩:=ab;refine⟨by show 2<=sizeLine;decide,λl Y=>?_⟩;have L:=Tb.au (X:=.lst [.str "NoPage",.str ""]) Y;have h2:upd H1 l (.lst [.str "NoPage",.str ""]) l=some (.lst [.str "NoPage",.str ""]):=ae;refine⟨_,rfl,_,rfl,d,_,_,.int ad,rfl,rfl,bR.of (L _ _ U),rfl,_,rfl,d,_,_,.ref c,rfl,rfl,bR.of (L _ _ U),rfl,c,_,rfl,.inl (bE.of (L _ _ (a6 _ _ _ _ rfl))),z.ra,z.pl,ad,cs.length,by rw[length_map];rfl,L _ _ (M1.rm _ ac),a0,a1,n0,n1,λb N O hb=>?_⟩;refine .inr ⟨b,rfl,l,_,_,_,rfl,rfl,bE.of (O _ _ h2),at2 b,?_⟩;cases b
   .exact k "NoPage" N (R.trans (L.trans O)) (λw=>absurd w ah)
   .exact k "" N (R.trans (L.trans O)) (λ_=>⟨z,ez,hb rfl⟩)
  |copy t o =>
   refine bV λ_ J G=>?_;refine dP (bA rfl) bw rfl (ks_ne (by dsimp only[de];decide +kernel)) (bB (dP (bA rfl) bw rfl (ks_ne (by dsimp only[de];decide +kernel)) (G _ ?_)));refine bV λ_ J G=>?_;refine dP (bA rfl) bw rfl (ks_ne (by dsimp only[de];decide +kernel)) (G _ ?_);refine bV λ_ J G=>?_;refine dP (bA rfl) bw rfl (ks_ne (by dsimp only[de];decide +kernel)) (G _ ?_);refine bV λ_ J G=>?_;refine eqT (bA rfl) bw rfl (J _ ?_);refine bV λ_ J G=>?_;refine⟨_,rfl,d,_,_,.int o,rfl,rfl,bR.of U,rfl,_,rfl,m.lr,_,rfl,eU (t:=o) M1.hr,?_⟩;cases eo:Tb.look Z o with
   |some _=>exact⟨true,rfl,J _ (k "Taken" H1 R (λw=>absurd w ah))⟩
   |none =>
   refine⟨false,rfl,G _ ?_⟩;refine⟨by show 2<=sizeLine;decide,λl Y=>?_⟩;have L:=Tb.au (X:=.lst [.str "",.str "NoRoom"]) Y;have h2:upd H1 l (.lst [.str "",.str "NoRoom"]) l=some (.lst [.str "",.str "NoRoom"]):=ae;refine⟨_,rfl,m,bL,pk,Z,rfl,M1.same L,lz,λN O=>?_⟩;have M3:=(M1.same L).same O;refine⟨_,rfl,z.ra,_,rfl,M3.rm _ ac,_,_,rfl,rfl,_,rfl,m.md,.int bL,rfl,M3.g (Ca _ _ _ _),_,_,rfl,rfl,?_⟩;refine .inr ⟨_,rfl,l,_,_,_,rfl,rfl,bE.of (O _ _ h2),at2 _,?_⟩;rw[Tb.cq];by_cases c:bL<r6 Z+z.pl.length
   .rw[decide_eq_true c];exact k "NoRoom" N (R.trans (L.trans O)) (λw=>absurd w ah)
   .rw[decide_eq_false c];exact k "" N (R.trans (L.trans O)) (λ_=>⟨z,ez,eo,af⟩)
  |map t p I =>
   refine bV λ_ J G=>?_;refine eqT (bA rfl) bw rfl (c6 (J _ ?_));obtain⟨p0,p1,m0,m1⟩:=ab;refine⟨_,rfl,_,rfl,d,_,rfl,bR.of U,λc=>absurd c (by rintro⟨c,_⟩;exact absurd (show HT.cQ 4 0 (some 2)=0 from c) av),λ_ p' as=>?_⟩;have L:=Tb.au (X:=.tup [.int p,.int I]) as;have ec:∀x:Str,eK [V.str x,V.int t,V.int p,V.int I] (some 2) none=[V.int p,V.int I]:=λ_=>rfl;dsimp only[u3];rw[ec];refine⟨p',[.int p,.int I],rfl,bR.of ae,rfl,_,_,rfl,_,_,rfl,rfl,?_⟩;have a7:=L _ _ U;have M2:=M1.same L;generalize upd H1 p' (.tup [.int p,.int I])=H2 at *;refine bV λ_ am ap=>?_;refine⟨_,rfl,_,_,rfl,rfl,_,rfl,?_⟩;rw[decide_eq_false af];refine bB ?_;refine⟨_,rfl,_,_,rfl,rfl,_,rfl,?_⟩;rw[decide_eq_false af];refine bB ?_;refine⟨_,rfl,_,rfl,_,_,rfl,rfl,_,_,rfl,rfl,_,rfl,?_⟩;by_cases c:(64:Int)<p+I
   .rw[decide_eq_true c];exact am _ (k "NoPage" H2 (R.trans L) (λw=>absurd w ah))
   rw[decide_eq_false c];refine ap _ ?_;clear am ap;have aB:¬ Rm.cn p I:=λh=>by
    rcases h with h|h|h<;>omega
   refine⟨_,rfl,_,rfl,_,rfl,_,_,rfl,rfl,_,_,rfl,⟨af,af,af,af⟩,?_⟩;refine fm (lo:=p) (n:=(p+I-p).toNat) (λi ys N=>ys=((List.range i).map λj:Nat=>(Tb.look z.pl (p+j)).isSome).map V.bl/\N=H2) ⟨rfl,rfl⟩ ?_ ?_
   .rintro i ys N hi ⟨rfl,rfl⟩;refine⟨_,rfl,_,rfl,z.ra,_,rfl,eU (M2.rm _ ac),?_,?_,rfl⟩
    .rw[length_map,length_map,length_range];omega
    .rw[range_succ,map_append,map_append];show _++[V.bl ((Tb.look z.pl (p+(i:Int))).map fW).isSome]=_;rw[isSome_map];rfl
   rintro ys N ⟨rfl,rfl⟩ l Y;have O:=Tb.au (X:=.lst (((List.range (p+I-p).toNat).map λj:Nat=>(Tb.look z.pl (p+j)).isSome).map V.bl)) Y;have h3:upd N l (.lst (((List.range (p+I-p).toNat).map λj:Nat=>(Tb.look z.pl (p+j)).isSome).map V.bl)) l=some (.lst (((List.range (p+I-p).toNat).map λj:Nat=>(Tb.look z.pl (p+j)).isSome).map V.bl)):=ae;have aT:Rm.aR p I=(List.range (p+I-p).toNat).map λj:Nat=>p+j:=(by unfold Rm.aR;rw[show p+I-p=I by omega]);generalize upd N l (.lst (((List.range (p+I-p).toNat).map λj:Nat=>(Tb.look z.pl (p+j)).isSome).map V.bl))=H4 at *;have M4:=M2.same O;have S4:=R.trans (L.trans O);refine nameQ ?_;dsimp only;refine bV λ_ J G=>?_;refine dP (bA rfl) bw rfl (ks_ne (by dsimp only[de];decide +kernel)) (G _ ?_);refine bV λ_ J G=>?_;refine⟨_,rfl,l,_,rfl,bE.of h3,_,rfl,?_⟩;cases ea:(((List.range (p+I-p).toNat).map λj:Nat=>(Tb.look z.pl (p+j)).isSome)).any id with
   |true=>exact J _ (k "Taken" H4 S4 (λw=>absurd w ah))
   |false =>
   refine G _ ?_;refine⟨by show 2<=sizeLine;decide,λl2 a2=>?_⟩;have s5:=Tb.au (X:=.lst [.str "",.str "NoRoom"]) a2;have h5:upd H4 l2 (.lst [.str "",.str "NoRoom"]) l2=some (.lst [.str "",.str "NoRoom"]):=ae;refine⟨_,rfl,m,bL,pk,Z,rfl,M4.same s5,lz,λH6 s6=>?_⟩;have M6:=(M4.same s5).same s6;refine⟨_,rfl,_,_,rfl,rfl,_,rfl,m.md,.int bL,rfl,M6.g (Ca _ _ _ _),_,_,rfl,rfl,?_⟩;refine .inr ⟨_,rfl,l2,_,_,_,rfl,rfl,bE.of (s6 _ _ h5),at2 _,?_⟩;by_cases c2:bL<r6 Z+I
   .rw[decide_eq_true c2];exact k "NoRoom" H6 (S4.trans (s5.trans s6)) (λw=>absurd w ah)
   .rw[decide_eq_false c2];refine k "" H6 (S4.trans (s5.trans s6)) (λ_=>⟨z,ez,aB,λq hq=>?_,af⟩);rw[aT]at hq;obtain⟨j,hj,rfl⟩:=List.mem_map.mp hq;have e:=List.any_eq_false.mp ea ((Tb.look z.pl (p+(j:Int))).isSome) (List.mem_map.mpr ⟨j,hj,rfl⟩);cases w:Tb.look z.pl (p+(j:Int))with
    |none=>rfl
    |some _=>rw[w]at e;exact absurd rfl e
  |drop t p I =>
   refine bV λ_ J G=>?_;refine dP (bA rfl) bw rfl (ks_ne (by dsimp only[de];decide +kernel)) (bB (eqT (bA rfl) bw rfl (J _ ?_)));obtain⟨p0,p1,m0,m1⟩:=ab;refine⟨_,rfl,_,rfl,d,_,rfl,bR.of U,λc=>absurd c (by rintro⟨c,_⟩;exact absurd (show HT.cQ 4 0 (some 2)=0 from c) av),λ_ p' as=>?_⟩;have L:=Tb.au (X:=.tup [.int p,.int I]) as;have ec:∀x:Str,eK [V.str x,V.int t,V.int p,V.int I] (some 2) none=[V.int p,V.int I]:=λ_=>rfl;dsimp only[u3];rw[ec];refine⟨p',[.int p,.int I],rfl,bR.of ae,rfl,_,_,rfl,_,_,rfl,rfl,?_⟩;have a7:=L _ _ U;have M2:=M1.same L;generalize upd H1 p' (.tup [.int p,.int I])=H2 at *;refine bV λ_ am ap=>?_;refine⟨_,rfl,_,_,rfl,rfl,_,rfl,?_⟩;rw[decide_eq_false af];refine bB ?_;refine⟨_,rfl,_,_,rfl,rfl,_,rfl,?_⟩;rw[decide_eq_false af];refine bB ?_;refine⟨_,rfl,_,rfl,_,_,rfl,rfl,_,_,rfl,rfl,_,rfl,?_⟩;by_cases c:(64:Int)<p+I
   .rw[decide_eq_true c];exact am _ (k "NoPage" H2 (R.trans L) (λw=>absurd w ah))
   rw[decide_eq_false c];refine ap _ ?_;clear am ap;have aB:¬ Rm.cn p I:=λh=>by
    rcases h with h|h|h<;>omega
   refine⟨_,rfl,_,rfl,_,rfl,_,_,rfl,rfl,_,_,rfl,⟨af,af,af,af⟩,?_⟩;refine fm (lo:=p) (n:=(p+I-p).toNat) (λi ys N=>ys=((List.range i).map λj:Nat=>(Tb.look z.pl (p+j)).isSome).map V.bl/\N=H2) ⟨rfl,rfl⟩ ?_ ?_
   .rintro i ys N hi ⟨rfl,rfl⟩;refine⟨_,rfl,_,rfl,z.ra,_,rfl,eU (M2.rm _ ac),?_,?_,rfl⟩
    .rw[length_map,length_map,length_range];omega
    .rw[range_succ,map_append,map_append];show _++[V.bl ((Tb.look z.pl (p+(i:Int))).map fW).isSome]=_;rw[isSome_map];rfl
   rintro ys N ⟨rfl,rfl⟩ l Y;have O:=Tb.au (X:=.lst (((List.range (p+I-p).toNat).map λj:Nat=>(Tb.look z.pl (p+j)).isSome).map V.bl)) Y;have h3:upd N l (.lst (((List.range (p+I-p).toNat).map λj:Nat=>(Tb.look z.pl (p+j)).isSome).map V.bl)) l=some (.lst (((List.range (p+I-p).toNat).map λj:Nat=>(Tb.look z.pl (p+j)).isSome).map V.bl)):=ae;have aT:Rm.aR p I=(List.range (p+I-p).toNat).map λj:Nat=>p+j:=(by unfold Rm.aR;rw[show p+I-p=I by omega]);generalize upd N l (.lst (((List.range (p+I-p).toNat).map λj:Nat=>(Tb.look z.pl (p+j)).isSome).map V.bl))=H4 at *;have M4:=M2.same O;have S4:=R.trans (L.trans O);refine nameQ ?_;dsimp only;refine bV λ_ J G=>?_;refine eqT (bA rfl) bw rfl (J _ ?_);refine⟨by show 2<=sizeLine;decide,λl2 a2=>?_⟩;have s5:=Tb.au (X:=.lst [.str "NoPage",.str ""]) a2;have h5:upd H4 l2 (.lst [.str "NoPage",.str ""]) l2=some (.lst [.str "NoPage",.str ""]):=ae;refine⟨_,rfl,l,_,rfl,bE.of (s5 _ _ h3),?_⟩;refine .inr ⟨_,rfl,l2,_,_,_,rfl,rfl,bE.of h5,at2 _,?_⟩;cases ea:(((List.range (p+I-p).toNat).map λj:Nat=>(Tb.look z.pl (p+j)).isSome)).all id with
   |false=>exact k "NoPage" _ (S4.trans s5) (λw=>absurd w ah)
   |true =>
    refine k "" _ (S4.trans s5) (λ_=>⟨z,ez,aB,λq hq=>?_⟩);rw[aT]at hq;obtain⟨j,hj,rfl⟩:=List.mem_map.mp hq;have e:=List.all_eq_true.mp ea ((Tb.look z.pl (p+(j:Int))).isSome) (List.mem_map.mpr ⟨j,hj,rfl⟩);intro w;rw[w]at e;cases e
end
noncomputable def xI (D:Dd) (h h':Int->Bool):Prop:=match D with
 |.begin t=>∀t',h' t'=(decide (t'=t)||h t')
 |.close t=>∀t',h' t'=(decide (t'≠t)&&h t')
 |.copy _ o=>∀t',h' t'=(decide (t'=o)||h t')
 |_=>∀t',h' t'=h t'
noncomputable def zc {α:Type}(G:α) (ok:α->Prop) (D:Dd) (e F:Int->Int->Option α):Prop:=match D with
 |.begin t=>∀t' q,F t' q=if t'=t then none else e t' q
 |.close t=>∀t' q,F t' q=if t'=t then none else e t' q
 |.map t p m=>∀t' q,F t' q=if t'=t/\q∈Rm.aR p m then some G else e t' q
 |.drop t p m=>∀t' q,F t' q=if t'=t/\q∈Rm.aR p m then none else e t' q
 |.peek _ _ _=>∀t' q,F t' q=e t' q
 |.poke t ad _ cs=>∀t' q,if t'=t/\q∈Rm.aO ad cs.length then ∃k,F t' q=some k/\ok k else F t' q=e t' q
 |.copy t o=>∀t' q,F t' q=if t'=o then e t q else e t' q
noncomputable def hW (W:eF) (t:Int):Bool:=(Tb.look W t).isSome
noncomputable def eW (W:eF) (t q:Int):Option Pg.Ent:=(Tb.look W t).bind λx=>Tb.look x.t q
noncomputable def hZ (Z:Zs) (t:Int):Bool:=(Tb.look Z t).isSome
noncomputable def eZ (Z:Zs) (t q:Int):Option Int:=(Tb.look Z t).bind λz=>(Tb.look z.pl q).map (·.2)
structure Tw (W:eF) (Z:Zs):Prop where
 h:∀t,hW W t=hZ Z t
 e:∀t q,(eW W t q).map isNone=(eZ Z t q).map λv=>decide (v=0)
theorem map_if {α F:Type}{c:Prop} [Decidable c] {f:α->F}{a b:Option α}:(if c then a else b).map f=if c then a.map f else b.map f:=by split<;>rfl
theorem Tw.next {W W':eF}{Z Z':Zs}{D:Dd}(T:Tw W Z) (h1:xI D (hW W) (hW W')) (h2:xI D (hZ Z) (hZ Z')) (G:zc none (λx=>∃k,x=some k) D (eW W) (eW W')) (F:zc 0 (λv=>v≠0) D (eZ Z) (eZ Z')):Tw W' Z':=by
 refine⟨λt'=>?_,λt' q=>?_⟩
 .cases D with
  |begin t=>exact(h1 t').trans (by rw[T.h t'];exact(h2 t').symm)
  |close t=>exact(h1 t').trans (by rw[T.h t'];exact(h2 t').symm)
  |copy t o=>exact(h1 t').trans (by rw[T.h t'];exact(h2 t').symm)
  |map t p m=>exact(h1 t').trans ((T.h t').trans (h2 t').symm)
  |drop t p m=>exact(h1 t').trans ((T.h t').trans (h2 t').symm)
  |peek t ad n=>exact(h1 t').trans ((T.h t').trans (h2 t').symm)
  |poke t ad c cs=>exact(h1 t').trans ((T.h t').trans (h2 t').symm)
 .cases D with
  |begin t=>rw[G t' q,F t' q,map_if,map_if,T.e];rfl
  |close t=>rw[G t' q,F t' q,map_if,map_if,T.e];rfl
  |copy t o=>rw[G t' q,F t' q,map_if,map_if,T.e,T.e]
  |map t p m=>rw[G t' q,F t' q,map_if,map_if,T.e];rfl
  |drop t p m=>rw[G t' q,F t' q,map_if,map_if,T.e];rfl
  |peek t ad n=>rw[G t' q,F t' q,T.e]
  |poke t ad c cs =>
   have J:=G t' q;have I:=F t' q;by_cases z:t'=t/\q∈Rm.aO ad cs.length
   .rw[if_pos z]at J I;obtain⟨k,N,j,rfl⟩:=J;obtain⟨v,O,L⟩:=I;rw[N,O];show some (isNone (some j))=some (decide (v=0));rw[decide_eq_false L];rfl
   .rw[if_neg z]at J I;rw[J,I];exact T.e t' q
theorem tK {W:eF}{t:Int}{x y:TD}(h:Tb.look W t=some x) (t':Int):hW (Tb.aX W t y) t'=hW W t':=by
 unfold hW;rw[Tb.bS t' h];by_cases z:t'=t
 .rw[if_pos z,z,h];rfl
 .rw[if_neg z]
theorem sZ {W:eF}{t:Int}{x y:TD}(h:Tb.look W t=some x) (t' q:Int):eW (Tb.aX W t y) t' q=if t'=t then Tb.look y.t q else eW W t' q:=by
 unfold eW;rw[Tb.bS t' h];by_cases z:t'=t
 .rw[if_pos z,if_pos z];rfl
 .rw[if_neg z,if_neg z]
theorem rT {W:eF}{t:Int}{x:TD}(h:Tb.look W t=some x) (q:Int):eW W t q=Tb.look x.t q:=by unfold eW;rw[h];rfl
noncomputable def Bn (W:eF) (tt:Int):Dd->Prop
 |.begin _=>False
 |.close t=>∃x,Tb.look W t=some x
 |.map t p m=>∃x,Tb.look W t=some x/\¬ Rm.cn p m/\(∀q∈Rm.aR p m,Tb.look x.t q=none)/\(ents W).length+m<=tt
 |.drop t p m=>∃x,Tb.look W t=some x/\¬ Rm.cn p m/\∀q∈Rm.aR p m,Tb.look x.t q≠none
 |.peek t ad n=>∃x,Tb.look W t=some x/\¬ Rm.dn ad n (x.t.map (·.1))/\0<=ad/\ad<=1000/\n<=100
 |.poke t ad _ cs=>∃x,Tb.look W t=some x/\¬ Rm.dn ad cs.length (x.t.map (·.1))/\0<=ad/\ad<=1000/\cs.length<=100
 |.copy t o=>∃x,Tb.look W t=some x/\Tb.look W o=none/\(ents W).length+x.t.length<=tt
structure Fh (P:Program) (w:World) (K:PySem.W.Frag) (mg:Str->Option Value) (base:Heap) (c:CA):Prop where
 Ho:Md P w K mg base aW 3 c.C "begin" (mf c)
 Ht:Md P w K mg base aW 6 c.C "close" (lP c)
 HL:Md P w K mg base aW 4 c.C "map" (sQ c)
 Hy:Md P w K mg base aW 6 c.C "drop" (uH c)
 HB:Md P w K mg base aW 5 c.C "copy" (pj c)
 Gp:Md P w K mg base aW 8 c.C "peek" (nW c)
 HH:Md P w K mg base aW 10 c.C "poke" (p9 K c)
 zN:Md P w K mg base aW 4 c.C "place" (l8 c)
inductive lH (c:CA) (vs:List V) (H:Hp) (Q:VK) (e3:XK):Prop
 |mk (M:Addr->Prop) (a:RA) (s:Pg.PS) (W:eF) (cv:Int->Int->List Int) (d:Addr) (D:Dd) (_:vs=[.ref a.rp,.ref d]) (_:ax c H M a s W) (_:Pg.RI s (ents W)) (_:Cv s W cv) (_:W.length<=1000) (_:qH H d D) (_:Bn W (bL s) D) (_:∀(H':Hp) (M':Addr->Prop) (s':Pg.PS) (W':eF) (cv':Int->Int->List Int) (v:V),ax c H' M' a s' W'->Pg.RI s' (ents W')->Cv s' W' cv'->Step H M (a.own W) H' M' (a.own W')->(∀b,(s'.ow b).length=(s.ow b).length)->W'.length<=W.length+1->xI D (hW W) (hW W')->zc none (λx=>∃k,x=some k) D (eW W) (eW W')->Q v H'):lH c vs H Q e3
section
variable {P:Program}{w:World}{K:PySem.W.Frag}{mg:Str->Option Value}{base:Heap}
theorem BM:aC ["_law_kept","_law_deed","_law_name","_law_task"] ["_law_kept","_law_deed"] (ar oh):=⟨rfl,rfl,rfl,ah,rfl,ah,ah⟩
theorem vN {f:Addr}{fd:FuncData}{c:CA}(F:cN K "_law_called" "_law_called" oh f fd) (T:qU K mg c) (M:Fh P w K mg base c):bg P w K mg base aW 11 f fd ["_law_kept","_law_deed"] (lH c):=by
 refine F.ok BM (λvs H Q E h=>?_) (λaB A outer s H vs Q E hr h=>?_)
 .obtain⟨MM,a,s',W,cv,d,D,rfl,_⟩:=h;rfl
 .obtain⟨MM,a,s',W,cv,d,D,rfl,R,ri,ac,lw,hd,fi,q⟩:=h;refine⟨_,(ag (cI (cL jo (pv 1) eM (cJ ak)) (dF rfl (bo (a8 (i:=2) BM.nd rfl (Or.inl rfl)) (bo (a8 (i:=3) BM.nd rfl (Or.inl rfl)) cW))))
   (ag (aS (az bN (pv 2) aI (aG _)) (ao (aE (pm (pv 0) T.cl M.Ho hr aw (aa (pv 3) aj)))) aF)
   (ag (aS (az bN (pv 2) aI (aG _)) (ao (aE (pm (pv 0) T.cl M.Ht hr aw (aa (pv 3) aj)))) aF)
   (ag (aS (az bN (pv 2) aI (aG _)) (ao (aE (pm (pv 0) T.cl M.HL hr aw (aa (pv 3) (aa (aY a9 (pv 1) ak (λ_ _=>rfl)) (aa (aY a9 (pv 1) ak (λ_ _=>rfl)) aj)))))) aF)
   (ag (aS (az bN (pv 2) aI (aG _)) (ao (aE (pm (pv 0) T.cl M.Hy hr aw (aa (pv 3) (aa (aY a9 (pv 1) ak (λ_ _=>rfl)) (aa (aY a9 (pv 1) ak (λ_ _=>rfl)) aj)))))) aF)
   (ag (aS (az bN (pv 2) aI (aG _)) (ao (aE (pm (pv 0) T.cl M.HB hr aw (aa (pv 3) (aa (aY a9 (pv 1) ak (λ_ _=>rfl)) aj))))) aF)
   (ag (aS (az bN (pv 2) aI (aG _)) (ao (aE (pm (pv 0) T.cl M.Gp hr aw (aa (pv 3) (aa (aY a9 (pv 1) ak (λ_ _=>rfl)) (aa (aY a9 (pv 1) ak (λ_ _=>rfl)) aj)))))) aF)
   (ao (aE (pm (pv 0) T.cl M.HH hr aw (aa (pv 3) (aa (aY a9 (pv 1) ak (λ_ _=>rfl)) (aa (aY a9 (pv 1) ak (λ_ _=>rfl)) aj))))))))))))),?_⟩
  try dsimp only[cxK]
  refine share (λσ H1=>aZ H H1/\σ=[some (.ref a.rp),some (.ref d),some (.str (de D)),some (.int (Bm D))]) (λu' am=>?A) ?B
  case A =>
   refine⟨_,rfl,_,rfl,d,_,rfl,bR.of hd.1,λc=>?_,λ_ p hp=>?_⟩
   .exact⟨d,_,rfl,bR.of hd.1,by rw[wG c];rfl,by rw[wG c];exact⟨_,_,rfl,_,_,rfl,rfl,am _ _ ⟨aZ.refl H,rfl⟩⟩⟩
   .rw[Cc];exact⟨p,_,rfl,bR.of ae,rfl,_,_,rfl,_,_,rfl,rfl,am _ _ ⟨Tb.au hp,rfl⟩⟩
  case B =>
  rintro σ H1 ⟨s1,rfl⟩;have R1:=R.same s1;have S1:=R.iy s1;have Y:H1 d=some (.tup (u3 D)):=s1 _ _ hd.1;obtain⟨dx,ho⟩:=R1.ob;have no:∀mm:Str,¬ mm = "rooms" -> ¬ mm = "total" -> ¬ mm = "paging" -> (eE a.A.pg (bL s') a.rd).lookup mm=none:=λmm=>gB _ _ _;have l0:∀{t y},(Tb.aX W t y).length<=W.length+1:=λ{t y}=>(by rw[Tb.gc];omega);cases D with
  |begin t=>exact absurd fi id
  |close t =>
   obtain⟨x,J⟩:=fi;refine bV λ_ I G=>?_;refine dP (bA rfl) bw rfl (ks_ne (by dsimp only[de];decide +kernel)) (G _ ?_);refine bV λ_ I G=>?_;refine eqT (bA rfl) bw rfl (I _ ?_);refine⟨_,rfl,a.rp,dx,_,rfl,ho,no "close" ah ah ah,_,rfl,MM,a,s',W,cv,t,x,rfl,R1,ri,ac,J,λH2 M2 s2 R2 S U O ab=>q H2 M2 s2 _ cv _ R2 S U (S1.trans O) ab (le_trans (List.length_filter_le _ _) (le_succ _)) ?_ ?_⟩
   .intro t';unfold hW;rw[Tb.cy];by_cases z:t'=t
    .rw[if_pos z,decide_eq_false (λy=>y z)];rfl
    .rw[if_neg z,decide_eq_true z];rfl
   .intro t' q;unfold eW;rw[Tb.cy];by_cases z:t'=t
    .rw[if_pos z,if_pos z];rfl
    .rw[if_neg z,if_neg z]
  |map t p m =>
   obtain⟨x,J,N,f2,f3⟩:=fi;refine bV λ_ I G=>?_;refine dP (bA rfl) bw rfl (ks_ne (by dsimp only[de];decide +kernel)) (G _ ?_);refine bV λ_ I G=>?_;refine dP (bA rfl) bw rfl (ks_ne (by dsimp only[de];decide +kernel)) (G _ ?_);refine bV λ_ I G=>?_;refine eqT (bA rfl) bw rfl (I _ ?_);refine⟨_,rfl,a.rp,dx,_,rfl,ho,no "map" ah ah ah,_,rfl,_,rfl,d,_,_,.int p,rfl,rfl,bR.of Y,rfl,_,rfl,d,_,_,.int m,rfl,rfl,bR.of Y,rfl,MM,a,s',W,cv,t,p,m,x,rfl,R1,ri,ac,lw,J,N,f2,f3,λH2 M2 y R2 S U hy O=>q H2 M2 s' _ _ _ R2 S U (S1.trans O) (λ_=>rfl) l0 (tK J) λt' j=>?_⟩;rw[sZ J];by_cases z:t'=t
   .rw[if_pos z,hy j];by_cases L:j∈Rm.aR p m
    .rw[if_pos L,if_pos ⟨z,L⟩]
    .rw[if_neg L,if_neg (λh=>L h.2),z,rT J]
   .rw[if_neg z,if_neg (λh=>z h.1)]
  |drop t p m =>
   obtain⟨x,J,N,f2⟩:=fi;refine bV λ_ I G=>?_;refine dP (bA rfl) bw rfl (ks_ne (by dsimp only[de];decide +kernel)) (G _ ?_);refine bV λ_ I G=>?_;refine dP (bA rfl) bw rfl (ks_ne (by dsimp only[de];decide +kernel)) (G _ ?_);refine bV λ_ I G=>?_;refine dP (bA rfl) bw rfl (ks_ne (by dsimp only[de];decide +kernel)) (G _ ?_);refine bV λ_ I G=>?_;refine eqT (bA rfl) bw rfl (I _ ?_);refine⟨_,rfl,a.rp,dx,_,rfl,ho,no "drop" ah ah ah,_,rfl,_,rfl,d,_,_,.int p,rfl,rfl,bR.of Y,rfl,_,rfl,d,_,_,.int m,rfl,rfl,bR.of Y,rfl,MM,a,s',W,cv,t,p,m,x,rfl,R1,ri,ac,J,N,f2,λH2 M2 s2 y R2 S U hy O ab=>q H2 M2 s2 _ _ _ R2 S U (S1.trans O) ab l0 (tK J) λt' j=>?_⟩;rw[sZ J];by_cases z:t'=t
   .rw[if_pos z,hy j];by_cases L:j∈Rm.aR p m
    .rw[if_pos L,if_pos ⟨z,L⟩]
    .rw[if_neg L,if_neg (λh=>L h.2),z,rT J]
   .rw[if_neg z,if_neg (λh=>z h.1)]
  |copy t o =>
   obtain⟨x,J,N,f2⟩:=fi;refine bV λ_ I G=>?_;refine dP (bA rfl) bw rfl (ks_ne (by dsimp only[de];decide +kernel)) (G _ ?_);refine bV λ_ I G=>?_;refine dP (bA rfl) bw rfl (ks_ne (by dsimp only[de];decide +kernel)) (G _ ?_);refine bV λ_ I G=>?_;refine dP (bA rfl) bw rfl (ks_ne (by dsimp only[de];decide +kernel)) (G _ ?_);refine bV λ_ I G=>?_;refine dP (bA rfl) bw rfl (ks_ne (by dsimp only[de];decide +kernel)) (G _ ?_);refine bV λ_ I G=>?_;refine eqT (bA rfl) bw rfl (I _ ?_);refine⟨_,rfl,a.rp,dx,_,rfl,ho,no "copy" ah ah ah,_,rfl,_,rfl,d,_,_,.int o,rfl,rfl,bR.of Y,rfl,MM,a,s',W,cv,t,o,x,rfl,R1,ri,ac,lw,J,N,f2,λH2 M2 s2 y hy R2 S U O ab=>q H2 M2 s2 _ _ _ R2 S U (S1.trans O) ab (by rw[length_append];exact le_refl _) ?_ ?_⟩
   .intro t';unfold hW;rw[Tb.bK t' N];by_cases z:t'=o
    .rw[if_pos z,decide_eq_true z];rfl
    .rw[if_neg z,decide_eq_false z];rfl
   .intro t' j;unfold eW;rw[Tb.bK t' N];by_cases z:t'=o
    .rw[if_pos z,if_pos z,J];exact hy j
    .rw[if_neg z,if_neg z]
  |peek t ad n =>
   obtain⟨x,J,N,f2,f3,f4⟩:=fi;refine bV λ_ I G=>?_;refine dP (bA rfl) bw rfl (ks_ne (by dsimp only[de];decide +kernel)) (G _ ?_);refine bV λ_ I G=>?_;refine dP (bA rfl) bw rfl (ks_ne (by dsimp only[de];decide +kernel)) (G _ ?_);refine bV λ_ I G=>?_;refine dP (bA rfl) bw rfl (ks_ne (by dsimp only[de];decide +kernel)) (G _ ?_);refine bV λ_ I G=>?_;refine dP (bA rfl) bw rfl (ks_ne (by dsimp only[de];decide +kernel)) (G _ ?_);refine bV λ_ I G=>?_;refine dP (bA rfl) bw rfl (ks_ne (by dsimp only[de];decide +kernel)) (G _ ?_);refine bV λ_ I G=>?_;refine eqT (bA rfl) bw rfl (I _ ?_);refine⟨_,rfl,a.rp,dx,_,rfl,ho,no "peek" ah ah ah,_,rfl,_,rfl,d,_,_,.int ad,rfl,rfl,bR.of Y,rfl,_,rfl,d,_,_,.int n,rfl,rfl,bR.of Y,rfl,MM,a,s',W,cv,t,ad,n,x,rfl,R1,ri,ac,J,af,f2,f3,N,λH2 M2 s2 l R2 S U O ab _ _=>q H2 M2 s2 _ _ _ R2 S U (S1.trans O) ab (le_succ _) (λ_=>rfl) λ_ _=>rfl⟩
  |poke t ad cc cs =>
   obtain⟨x,J,N,f2,f3,f4⟩:=fi;refine bV λ_ I G=>?_;refine dP (bA rfl) bw rfl (ks_ne (by dsimp only[de];decide +kernel)) (G _ ?_);refine bV λ_ I G=>?_;refine dP (bA rfl) bw rfl (ks_ne (by dsimp only[de];decide +kernel)) (G _ ?_);refine bV λ_ I G=>?_;refine dP (bA rfl) bw rfl (ks_ne (by dsimp only[de];decide +kernel)) (G _ ?_);refine bV λ_ I G=>?_;refine dP (bA rfl) bw rfl (ks_ne (by dsimp only[de];decide +kernel)) (G _ ?_);refine bV λ_ I G=>?_;refine dP (bA rfl) bw rfl (ks_ne (by dsimp only[de];decide +kernel)) (G _ ?_);refine bV λ_ I G=>?_;refine dP (bA rfl) bw rfl (ks_ne (by dsimp only[de];decide +kernel)) (G _ ?_);refine⟨_,rfl,a.rp,dx,_,rfl,ho,no "poke" ah ah ah,_,rfl,_,rfl,d,_,_,.int ad,rfl,rfl,bR.of Y,rfl,_,rfl,d,_,_,.ref cc,rfl,rfl,bR.of Y,rfl,MM,a,s',W,cv,t,ad,cc,cs,x,rfl,R1,ri,ac,J,bE.of (s1 _ _ (hd.2 _ _ _ _ rfl)),af,f2,f3,N,λH2 M2 s2 y R2 S U ap as O ab=>q H2 M2 s2 _ _ _ R2 S U (S1.trans O) ab l0 (tK J) λt' j=>?_⟩;rw[sZ J];by_cases z:t'=t
   .by_cases L:j∈Rm.aO ad cs.length
    .rw[if_pos ⟨z,L⟩,if_pos z];obtain⟨k,hk⟩:=as j L;exact⟨some k,hk,k,rfl⟩
    .rw[if_neg (λh=>L h.2),if_pos z,ap j L,z,rT J]
   .rw[if_neg (λh=>z h.1),if_neg z]
end
theorem dR {α:Type}{f:α->V}{H:Hp}{a:Addr}{l:List (Int×α)}{t:Int}{x:α}(h:H a=some (.dK (Tb.dk f l))) (F:Tb.look l t=some x):dq H a (.int t) (some (f x)):=by
 have q:=eU (t:=t) h;rw[F]at q;exact q
section
variable {H H':Hp}{m:MA}{bL pk:Int}{Z:Zs}{t:Int}{z:MT}
theorem cA.alive (M:cA H m bL pk Z):∀b,cM m Z b->(∃xs,H b=some (.lst xs))\/∃kvs,H b=some (.dK kvs):=by
 intro b h;rcases h with h|h|h|⟨x,F,h|h|⟨y,G,h⟩⟩<;>rw[h]
 .exact .inr ⟨_,M.hm⟩
 .exact .inr ⟨_,M.hr⟩
 .exact .inr ⟨_,M.hs⟩
 .exact .inr ⟨_,M.rm x F⟩
 .exact .inr ⟨_,M.st x F⟩
 .obtain⟨ns,h1,_⟩:=M.cl x F y G;exact .inl ⟨_,h1⟩
theorem cA.add (M:cA H m bL pk Z) (hn:Tb.look Z t=none) (o:Off (λb=>b=m.lr\/b=m.ls) H H') (R:H' m.lr=some (.dK (Tb.dk iT (Z++[(t,z)])))) (hs:H' m.ls=some (.dK (Tb.dk iY (Z++[(t,z)])))) (h1:H' z.ra=some (.dK (Tb.dk fW z.pl))) (h2:H' z.sa=some (.dK (Tb.dk iS z.pl)))
  (h3:∀y∈z.pl,∃ns:List Int,H' y.2.1=some (.lst (ns.map V.int))/\ns.length=8) (np:(z.pl.map (·.1)).Nodup) (hg:∀y∈z.pl,0<=y.1/\y.1<64) (I:H z.ra=none) (J:H z.sa=none) (S:z.ra≠z.sa):cA H' m bL pk (Z++[(t,z)]):=by
 have Y:∀{b xs},H b=some (.lst xs)->¬ (b=m.lr\/b=m.ls):=λe w=>by
  rcases w with w|w
  .rw[w,M.hr]at e;cases e
  .rw[w,M.hs]at e;cases e
 have L:∀x∈Z,z.ra≠x.2.ra/\z.sa≠x.2.sa/\z.ra≠x.2.sa/\z.sa≠x.2.ra:=λx F=>⟨(λe=>by rw[e,M.rm x F]at I;cases I),(λe=>by rw[e,M.st x F]at J;cases J),(λe=>by rw[e,M.st x F]at I;cases I),(λe=>by rw[e,M.rm x F]at J;cases J)⟩;refine⟨o _ _ M.hm (fP M.n3.1 M.n3.2.1),R,hs,λx F=>?_,λx F=>?_,λx F y G=>?_,?_,λx F=>?_,λx F=>?_,λx F y G N=>?_,λx F y G=>?_,λx F=>?_,M.n3⟩
 .rcases List.mem_append.mp F with F|F
  .exact o _ _ (M.rm x F) (fP (M.d3 x F).2.1 (M.d3 x F).2.2.1)
  .rw[List.mem_singleton.mp F];exact h1
 .rcases List.mem_append.mp F with F|F
  .exact o _ _ (M.st x F) (fP (M.d3 x F).2.2.2.2.1 (M.d3 x F).2.2.2.2.2)
  .rw[List.mem_singleton.mp F];exact h2
 .rcases List.mem_append.mp F with F|F
  .obtain⟨ns,O,U⟩:=M.cl x F y G;exact⟨ns,o _ _ O (Y O),U⟩
  .rw[List.mem_singleton.mp F]at G;exact h3 y G
 .rw[map_append];exact fZ M.nd (Tb.cj hn)
 .rcases List.mem_append.mp F with F|F
  .exact M.np x F
  .rw[List.mem_singleton.mp F];exact np
 .rcases List.mem_append.mp F with F|F
  .exact M.rg x F
  .rw[List.mem_singleton.mp F];exact hg
 .rcases List.mem_append.mp F with F|F<;>rcases List.mem_append.mp G with G|G
  .exact M.da x F y G N
  .rw[List.mem_singleton.mp G];exact⟨Ne.symm (L x F).1,Ne.symm (L x F).2.1⟩
  .rw[List.mem_singleton.mp F];exact⟨(L y G).1,(L y G).2.1⟩
  .exact absurd (by rw[List.mem_singleton.mp F,List.mem_singleton.mp G]) N
 .rcases List.mem_append.mp F with F|F<;>rcases List.mem_append.mp G with G|G
  .exact M.rs x F y G
  .rw[List.mem_singleton.mp G];exact Ne.symm (L x F).2.2.2
  .rw[List.mem_singleton.mp F];exact(L y G).2.2.1
  .rw[List.mem_singleton.mp F,List.mem_singleton.mp G];exact S
 .rcases List.mem_append.mp F with F|F
  .exact M.d3 x F
  .rw[List.mem_singleton.mp F];exact⟨(λe=>by rw[e,M.hm]at I;cases I),(λe=>by rw[e,M.hr]at I;cases I),(λe=>by rw[e,M.hs]at I;cases I),(λe=>by rw[e,M.hm]at J;cases J),(λe=>by rw[e,M.hr]at J;cases J),(λe=>by rw[e,M.hs]at J;cases J)⟩
theorem cA.del (M:cA H m bL pk Z) (o:Off (λb=>b=m.lr\/b=m.ls) H H') (J:H' m.lr=some (.dK (Tb.dk iT (Tb.bf Z t)))) (hs:H' m.ls=some (.dK (Tb.dk iY (Tb.bf Z t)))):cA H' m bL pk (Tb.bf Z t):=by
 have N:∀{b xs},H b=some (.lst xs)->¬ (b=m.lr\/b=m.ls):=λe w=>by
  rcases w with w|w
  .rw[w,M.hr]at e;cases e
  .rw[w,M.hs]at e;cases e
 have sub:∀{x},x∈Tb.bf Z t->x∈Z:=λh=>(Tb.bW h).1;refine⟨o _ _ M.hm (fP M.n3.1 M.n3.2.1),J,hs,λx F=>?_,λx F=>?_,λx F y G=>?_,Tb.lV M.nd,λx F=>M.np x (sub F),λx F=>M.rg x (sub F),λx F y G=>M.da x (sub F) y (sub G),λx F y G=>M.rs x (sub F) y (sub G),λx F=>M.d3 x (sub F),M.n3⟩
 .have F:=sub F;exact o _ _ (M.rm x F) (fP (M.d3 x F).2.1 (M.d3 x F).2.2.1)
 .have F:=sub F;exact o _ _ (M.st x F) (fP (M.d3 x F).2.2.2.2.1 (M.d3 x F).2.2.2.2.2)
 .obtain⟨ns,I,L⟩:=M.cl x (sub F) y G;exact⟨ns,o _ _ I (N I),L⟩
theorem cA.C8 (M:cA H m bL pk Z) (O:Tb.look Z t=some z) {pk':Int}{pl:List (Int×Addr×Int)}(o:Off (λb=>b=m.md\/b=z.ra\/b=z.sa) H H') (hm:H' m.md=some (.dK (mH m.lr m.ls bL pk'))) (h1:H' z.ra=some (.dK (Tb.dk fW pl))) (h2:H' z.sa=some (.dK (Tb.dk iS pl)))
  (h3:∀y∈pl,∃ns:List Int,H' y.2.1=some (.lst (ns.map V.int))/\ns.length=8) (np:(pl.map (·.1)).Nodup) (hg:∀y∈pl,0<=y.1/\y.1<64):cA H' m bL pk' (Tb.aX Z t ⟨z.ra,z.sa,pl⟩):=by
 have G:=Tb.aA O;have nl:∀{b xs},H b=some (.lst xs)->¬ (b=m.md\/b=z.ra\/b=z.sa):=λe w=>by
  rcases w with w|w|w
  .rw[w,M.hm]at e;cases e
  .rw[w,M.rm _ G]at e;cases e
  .rw[w,M.st _ G]at e;cases e
 have N:∀{b},b≠m.md->b≠z.ra->b≠z.sa->¬ (b=m.md\/b=z.ra\/b=z.sa):=λa b c w=>w.elim a λw=>w.elim b c;have L:=M.d3 _ G;refine⟨hm,?_,?_,λx F=>?_,λx F=>?_,λx F y I=>?_,by rw[Tb.eX];exact M.nd,λx F=>?_,λx F=>?_,λx F y I J=>?_,λx F y I=>?_,λx F=>?_,M.n3⟩
 .rw[Tb.p7 (f:=iT) (a:=(⟨z.ra,z.sa,pl⟩:MT)) (b:=z) M.nd O rfl];exact o _ _ M.hr (N (Ne.symm M.n3.1) (Ne.symm L.2.1) (Ne.symm L.2.2.2.2.1))
 .rw[Tb.p7 (f:=iY) (a:=(⟨z.ra,z.sa,pl⟩:MT)) (b:=z) M.nd O rfl];exact o _ _ M.hs (N (Ne.symm M.n3.2.1) (Ne.symm L.2.2.1) (Ne.symm L.2.2.2.2.2))
 .rcases Tb.mem_set F with rfl|⟨F,J⟩
  .exact h1
  .exact o _ _ (M.rm x F) (N (M.d3 x F).1 (M.da x F _ G J).1 (M.rs x F _ G))
 .rcases Tb.mem_set F with rfl|⟨F,J⟩
  .exact h2
  .exact o _ _ (M.st x F) (N (M.d3 x F).2.2.2.1 (Ne.symm (M.rs _ G x F)) (M.da x F _ G J).2)
 .rcases Tb.mem_set F with rfl|⟨F,J⟩
  .exact h3 y I
  .obtain⟨ns,U,Y⟩:=M.cl x F y I;exact⟨ns,o _ _ U (nl U),Y⟩
 .rcases Tb.mem_set F with rfl|⟨F,J⟩
  .exact np
  .exact M.np x F
 .rcases Tb.mem_set F with rfl|⟨F,J⟩
  .exact hg
  .exact M.rg x F
 .rcases Tb.mem_set F with rfl|⟨F,R⟩<;>rcases Tb.mem_set I with rfl|⟨I,S⟩
  .exact absurd rfl J
  .exact M.da (t,z) G y I (Ne.symm S)
  .exact M.da x F (t,z) G R
  .exact M.da x F y I J
 .rcases Tb.mem_set F with rfl|⟨F,R⟩<;>rcases Tb.mem_set I with rfl|⟨I,S⟩
  .exact M.rs (t,z) G (t,z) G
  .exact M.rs (t,z) G y I
  .exact M.rs x F (t,z) G
  .exact M.rs x F y I
 .rcases Tb.mem_set F with rfl|⟨F,R⟩
  .exact L
  .exact M.d3 x F
theorem cA.C2 (M:cA H m bL pk Z) {l:Addr}{xs:List V}(J:H l=some (.lst xs)) {ns':List Int}(I:ns'.length=8):cA (upd H l (.lst (ns'.map V.int))) m bL pk Z:=by
 have o:Off (· = l) H (upd H l (.lst (ns'.map V.int))):=Off.wr rfl;have G:∀{b kvs},H b=some (.dK kvs)->¬ b=l:=λe w=>(by rw[w,J]at e;cases e);refine⟨o _ _ M.hm (G M.hm),o _ _ M.hr (G M.hr),o _ _ M.hs (G M.hs),λx F=>o _ _ (M.rm x F) (G (M.rm x F)),λx F=>o _ _ (M.st x F) (G (M.st x F)),λx F y N=>?_,M.nd,M.np,M.rg,M.da,M.rs,M.d3,M.n3⟩;by_cases w:y.2.1=l
 .exact⟨ns',by rw[w,ae],I⟩
 .obtain⟨ns,O,L⟩:=M.cl x F y N;exact⟨ns,o _ _ O w,L⟩
end
section
variable {Z:Zs}{t:Int}{z y:MT}
theorem si (h:Tb.look Z t=some z) (t':Int):hZ (Tb.aX Z t y) t'=hZ Z t':=by
 unfold hZ;rw[Tb.bS t' h];by_cases c:t'=t
 .rw[if_pos c,c,h];rfl
 .rw[if_neg c]
theorem tV (h:Tb.look Z t=some z) (t' q:Int):eZ (Tb.aX Z t y) t' q=if t'=t then(Tb.look y.pl q).map (·.2)else eZ Z t' q:=by
 unfold eZ;rw[Tb.bS t' h];by_cases c:t'=t
 .rw[if_pos c,if_pos c];rfl
 .rw[if_neg c,if_neg c]
theorem rF (h:Tb.look Z t=some z) (q:Int):eZ Z t q=(Tb.look z.pl q).map (·.2):=by unfold eZ;rw[h];rfl
end
theorem FD {t u:TS}{D:Ends}{σ:L2.St}{H:Hp}(h:t { D with nx:=u D } σ H):mE t u D σ H:=h
theorem yT {α:Type}{W:List (Int×α)}{t:Int}{x y:α}:Tb.aX (Tb.aX W t x) t y=Tb.aX W t y:=by
 unfold Tb.aX;rw[map_map];refine map_congr_left λz _=>?_;show(if (if z.1=t then(t,x)else z).1=t then(t,y)else(if z.1=t then(t,x)else z))=if z.1=t then(t,y)else z
 by_cases c:z.1=t
 .rw[if_pos c,if_pos rfl,if_pos c]
 .simp only[if_neg c]
theorem xK {α:Type}{W:List (Int×α)}{t:Int}{x y:α}(h:Tb.look W t=some x):Tb.look (Tb.aX W t y) t=some y:=by rw[Tb.bS t h,if_pos rfl]
theorem BH {Z:Zs}{t:Int}{z:MT}(G:(Z.map (·.1)).Nodup) (h:Tb.look Z t=some z):Tb.aX Z t ⟨z.ra,z.sa,z.pl⟩=Z:=by
 unfold Tb.aX
 conv=>rhs;rw[<-List.map_id Z]
 refine map_congr_left λy F=>?_;show(if y.1=t then(t,(⟨z.ra,z.sa,z.pl⟩:MT))else y)=y;by_cases c:y.1=t
 .have:=Tb.bX G F;rw[c,h]at this;rw[if_pos c,Option.some.inj this, <-c]
 .rw[if_neg c]
theorem cA.len {H:Hp}{m:MA}{bL pk:Int}{Z:Zs}(M:cA H m bL pk Z) {x:Int×MT}(F:x∈Z):x.2.pl.length<=64:=by
 have:=Tb.zM 64 0 (x.2.pl.map (·.1)) (M.np x F) λq I=>by
  obtain⟨y,G,rfl⟩:=List.mem_map.mp I;have:=M.rg x F y G;omega
 rwa [length_map]at this
theorem lT {m:MA}{Z:Zs}{t:Int}{z:MT}{pl:List (Int×Addr×Int)}{H:Hp}(J:Tb.look Z t=some z) (h:∀y∈pl,(∃I∈z.pl,y.2.1=I.2.1)\/H y.2.1=none):∀b,cM m (Tb.aX Z t ⟨z.ra,z.sa,pl⟩) b->cM m Z b\/H b=none:=by
 intro b w;have F:=Tb.aA J;rcases w with w|w|w|⟨x,G,w⟩
 .exact .inl (.inl w)
 .exact .inl (.inr (.inl w))
 .exact .inl (.inr (.inr (.inl w)))
 .rcases Tb.mem_set G with rfl|⟨G,_⟩
  .rcases w with w|w|⟨y,L,w⟩
   .exact .inl (.inr (.inr (.inr ⟨_,F,.inl w⟩)))
   .exact .inl (.inr (.inr (.inr ⟨_,F,.inr (.inl w)⟩)))
   .rcases h y L with⟨I,h1,h2⟩|h
    .exact .inl (.inr (.inr (.inr ⟨_,F,.inr (.inr ⟨I,h1,w.trans h2⟩)⟩)))
    .rw[w];exact .inr h
  .exact .inl (.inr (.inr (.inr ⟨x,G,w⟩)))
theorem fC {ad q:Int}{n:Nat}:q∈Rm.aO ad n↔∃j:Nat,j<n/\(ad+j)/8=q:=by
 unfold Rm.aO;by_cases e:((n:Nat):Int)=0
 .rw[if_pos e];exact⟨(λh=>nomatch h),(λ⟨j,h,_⟩=>by omega)⟩
 .rw[if_neg e];unfold Rm.aR Rm.jq Rm.iw;rw[mem_map];constructor
  .rintro⟨k,F,rfl⟩;have F:=List.mem_range.mp F;exact⟨(8*(ad/8+k)-ad).toNat,af,af⟩
  .rintro⟨j,G,rfl⟩;exact⟨((ad+j)/8-ad/8).toNat,List.mem_range.mpr af,af⟩
theorem Am (F ls:Addr) (bL pk pk':Int):putK (mH F ls bL pk) (Sum.inr "pokes") (.int pk')=mH F ls bL pk':=by
 unfold putK mH;rw[if_pos (by simp)];simp only[map_cons,map_nil,if_neg F0,if_neg GX,if_neg Ga,if_true,decide_eq_true_eq]
theorem wY {pl F:List (Int×Addr×Int)}(h:(F.map λy=>(y.1,y.2.1))=pl.map λy=>(y.1,y.2.1)) (q:Int):Tb.look F q=none↔Tb.look pl q=none:=by
 have I:F.map (·.1)=pl.map (·.1):=by
  have:=congrArg (List.map (·.1)) h;rw[map_map,map_map]at this;exact this
 have G:∀{l:List (Int×Addr×Int)},Tb.look l q=none↔¬ q∈l.map (·.1):=λ{l}=>⟨Tb.cj,λh=>by
  cases e:Tb.look l q with
  |none=>rfl
  |some a=>exact absurd (List.mem_map.mpr ⟨_,Tb.aA e,rfl⟩) h⟩
 rw[G,G,I]
theorem jK {α F:Type}(g:α->F) (k:Int):∀l:List (Int×α),Tb.look (l.map λx=>(x.1,g x.2)) k=(Tb.look l k).map g
 | []=>rfl
 |x::l=>by
  rw[map_cons,Tb.aM,Tb.aM,jK g k l];by_cases e:x.1=k
  .rw[if_pos e,if_pos e];rfl
  .rw[if_neg e,if_neg e]
theorem kH {α:Type}(f:α->V) (l:List (Int×α)) (o:Int) (a:α):Tb.dk f (l++[(o,a)])=Tb.dk f l++[(Sum.inl o,f a)]:=by
 unfold Tb.dk;rw[map_append];rfl
theorem EH {pl F:List (Int×Addr×Int)}(h:(F.map λy=>(y.1,y.2.2))=pl.map λy=>(y.1,y.2.2)):Tb.dk iS F=Tb.dk iS pl:=by
 have e:∀l:List (Int×Addr×Int),Tb.dk iS l=(l.map λy=>(y.1,y.2.2)).map λp=>((Sum.inl p.1:Key),V.int p.2):=λl=>by
  unfold Tb.dk;rw[map_map];rfl
 rw[e,e,h]
noncomputable def xH (m:MA) (H:Hp) (Z:Zs) (H':Hp) (Z':Zs):Prop:=Off (cM m Z) H H'/\∀b,cM m Z' b->cM m Z b\/H b=none
inductive oV (vs:List V) (H:Hp) (Q:VK) (e3:XK):Prop
 |mk (m:MA) (bL pk:Int) (Z:Zs) (d:Addr) (D:Dd) (_:vs=[.ref m.md,.ref d]) (_:cA H m bL pk Z) (_:0<=pk) (_:Z.length<=1000) (_:qH H d D) (_:CQ Z bL D) (_:(∀t ad c cs,D=.poke t ad c cs->¬ cM m Z c/\0<=ad/\ad<=1000/\cs.length<=100)) (_:(∀t ad n,D=.peek t ad n->0<=ad/\ad<=1000/\n<=100)) (_:∀(H':Hp) (pk':Int) (Z':Zs) (v:V),cA H' m bL pk' Z'->0<=pk'->xH m H Z H' Z'->Z'.length<=Z.length+1->xI D (hZ Z) (hZ Z')->zc 0 (λv=>v≠0) D (eZ Z) (eZ Z')->Q v H'):oV vs H Q e3
section
variable {P:Program}{w:World}{K:PySem.W.Frag}{mg:Str->Option Value}{base:Heap}
theorem kA:aC ["_law_model_here","_law_deed","_law_rooms","_law_stands","_law_name","_law_task","_law_page","_law_cells_here","_law_k","_law_cell","_law_at"] ["_law_model_here","_law_deed"] (ar yd):=⟨rfl,rfl,rfl,ah,rfl,ah,ah⟩
theorem Ah {f:Addr}{fd:FuncData}(F:cN K "_law_done" "_law_done" yd f fd) (T:lD mg):bg P w K mg base aW 1 f fd ["_law_model_here","_law_deed"] oV:=by
 refine F.ok kA (λvs H Q E h=>?_) (λey A outer s H vs Q E hr h=>?_)
 .obtain⟨m,bL,pk,Z,d,D,rfl,_⟩:=h;rfl
 .obtain⟨m,bL,pk,Z,d,D,rfl,M,p0,lz,hd,fi,dO,ee,k⟩:=h;have hs:sizeLine=16777216:=sizeLine_eq;refine⟨_,(ag (cI (cF (aa (bq (bh hr) (pv 0) aI (λ_ _=>rfl)) (aa (bq (bh hr) (pv 0) aI (λ_ _=>rfl)) aj))) (dF rfl (bo (a8 (i:=2) kA.nd rfl (Or.inr rfl)) (bo (a8 (i:=3) kA.nd rfl (Or.inl rfl)) cW))))
   (ag (cI (cL jo (pv 1) eM (cJ ak)) (dF rfl (bo (a8 (i:=4) kA.nd rfl (Or.inl rfl)) (bo (a8 (i:=5) kA.nd rfl (Or.inr rfl)) cW))))
   (ag (aS (az bN (pv 4) aI (aG _)) (ao (cI (cF (aa cZ (aa cZ aj))) (dF rfl (bo (dS (pv 2) (pv 5) (set_dict (bh hr))) (bo (dS (pv 3) (pv 5) (set_dict (bh hr))) cW))))) (ao (aS (az bN (pv 4) aI (aG _)) (ag (aL (dX (pv 2) (pv 5) ⟨rfl,rfl,rfl,rfl⟩))
   (ao (aL (dX (pv 3) (pv 5) ⟨rfl,rfl,rfl,rfl⟩)))) (ao (aS (az bN (pv 4) aI (aG _)) (ao (cU PassesOwn.never rfl (eS (by rfl) T.range (aa (aY a9 (pv 1) ak (λ_ _=>rfl)) (aa (ay bu (aY a9 (pv 1) ak (λ_ _=>rfl)) (aY a9 (pv 1) ak (λ_ _=>rfl))) aj))) (a8 (i:=6) kA.nd rfl (Or.inl rfl)) (ao (cI (cF (aa (ay j4 (bU (aa ak aj)) ak) (aa ak aj))) (dF rfl (bo (dS (bq (bh hr) (pv 2) (pv 5) (λ_ _=>rfl)) (pv 6) (set_dict (bh hr))) (bo (dS (bq (bh hr) (pv 3) (pv 5) (λ_ _=>rfl)) (pv 6) (set_dict (bh hr))) cW))))))) (ao (aS (az bN (pv 4) aI (aG _)) (ao (cU PassesOwn.never rfl (eS (by rfl) T.range (aa (aY a9 (pv 1) ak (λ_ _=>rfl)) (aa (ay bu (aY a9 (pv 1) ak (λ_ _=>rfl)) (aY a9 (pv 1) ak (λ_ _=>rfl))) aj))) (a8 (i:=6) kA.nd rfl (Or.inl rfl)) (ag (aL (dX (bq (bh hr) (pv 2) (pv 5) (λ_ _=>rfl)) (pv 6) ⟨rfl,rfl,rfl,rfl⟩))
   (ao (aL (dX (bq (bh hr) (pv 3) (pv 5) (λ_ _=>rfl)) (pv 6) ⟨rfl,rfl,rfl,rfl⟩)))))) (ao (aS (az bN (pv 4) aI (aG _)) (ag (cI (bO uK (by rfl) T.dict oz (aa (bq (bh hr) (pv 3) (pv 5) (λ_ _=>rfl)) aj)) (dS (pv 3) (aY a9 (pv 1) ak (λ_ _=>rfl)) (set_dict (bh hr))))
   (ag (cI cZ (dS (pv 2) (aY a9 (pv 1) ak (λ_ _=>rfl)) (set_dict (bh hr))))
   (ao (kC (cU PassesOwn.never rfl (qF (bq (bh hr) (pv 2) (pv 5) (λ_ _=>rfl))) (dF rfl (bo (a8 (i:=6) kA.nd rfl (Or.inl rfl)) (bo (a8 (i:=7) kA.nd rfl (Or.inl rfl)) cW))) (ao (cI (bO dN (by rfl) T.list fw (aa (pv 7) aj)) (dS (bq (bh hr) (pv 2) (aY a9 (pv 1) ak (λ_ _=>rfl)) (λ_ _=>rfl)) (pv 6) (set_dict (bh hr)))))))))) (ao (aS (az bN (pv 4) aI (aG _)) (ao (aE (gY (cl:=[("_law_task",s.heap.objs.size+2),("_law_rooms",s.heap.objs.size+1)]) (caps:=[("_law_rooms",2),("_law_task",5)]) ⟨rfl,ah,ah,rfl,by kernel_rfl,by intro p hp;simp only[mem_cons,not_mem_nil,or_false]at hp;rcases hp with rfl|rfl<;>first|rfl|exact⟨rfl,.inl rfl,.inl rfl⟩|exact⟨rfl,.inl rfl,.inr rfl⟩,by kernel_rfl,by intro p hp;simp only[mem_cons,not_mem_nil,or_false]at hp;rcases hp with rfl|rfl<;>first|rfl|exact⟨rfl,.inl rfl,.inl rfl⟩|exact⟨rfl,.inl rfl,.inr rfl⟩,ah⟩ rfl (eS (by rfl) T.range (aa (aY a9 (pv 1) ak (λ_ _=>rfl)) (aa (ay bu (aY a9 (pv 1) ak (λ_ _=>rfl)) (aY a9 (pv 1) ak (λ_ _=>rfl))) aj))) (λ_ _ _ _=>gg) (λ_ _ _ _=>(aY (show Fi _ (AU K)from cm) (bq (bh hr) (bq (bh hr) (pv 1) (pv 2) (λ_ _=>rfl)) (ay bF (pv 0) ak) (λ_ _=>rfl)) (ay bD (pv 0) ak) (λ_ _=>rfl)))))) (ao (cU PassesOwn.never rfl (Aa (by rfl) T.enumerate (aa (aY a9 (pv 1) ak (λ_ _=>rfl)) aj)) (dF rfl (bo (a8 (i:=8) kA.nd rfl (Or.inl rfl)) (bo (a8 (i:=9) kA.nd rfl (Or.inl rfl)) cW))) (ag (aK (i:=10) kA.nd rfl (Or.inl rfl) (ay bu (aY a9 (pv 1) ak (λ_ _=>rfl)) (pv 8)))
   (ag (cI (pv 9) (dS (bq (bh hr) (bq (bh hr) (pv 2) (pv 5) (λ_ _=>rfl)) (ay bF (pv 10) ak) (λ_ _=>rfl)) (ay bD (pv 10) ak) set_list))
   (ao (aS (PW.pt (gp (az bN (pv 8) ak (aG _)) (gh (az bN (ay bD (pv 10) ak) ak (aG _))))) (ag (cI (ay bu (bq (bh hr) (pv 0) aI (λ_ _=>rfl)) ak) (dS (pv 0) aI (set_dict (bh hr))))
   (ao (cI (bq (bh hr) (pv 0) aI (λ_ _=>rfl)) (dS (bq (bh hr) (pv 3) (pv 5) (λ_ _=>rfl)) (ay bF (pv 10) ak) (set_dict (bh hr)))))) aF)))))))))))))))))
   (ao (aE lW))))),?_⟩
  try dsimp only[cxK]
  refine share (λσ H1=>aZ H H1/\σ=[some (.ref m.md),some (.ref d),some (.ref m.lr),some (.ref m.ls),none,none,none,none,none,none,none]) (λu' as=>?A) ?B
  case A =>
   refine⟨_,rfl,m.md,.ref m.lr,rfl,M.g (Bf _ _ _ _),_,rfl,m.md,.ref m.ls,rfl,M.g (EO _ _ _ _),by show 2<=sizeLine;decide,λtp bi=>?_⟩;exact⟨tp,_,rfl,bR.of ae,rfl,_,_,rfl,_,_,rfl,rfl,as _ _ ⟨Tb.au bi,rfl⟩⟩
  case B =>
  rintro σ H0 ⟨s0,rfl⟩;have c3:H0 d=some (.tup (u3 D)):=s0 _ _ hd.1;refine share (λσ H1=>aZ H H1/\σ=[some (.ref m.md),some (.ref d),some (.ref m.lr),some (.ref m.ls),some (.str (de D)),some (.int (Bm D)),none,none,none,none,none]) (λu' as=>?A2) ?B2
  case A2 =>
   refine⟨_,rfl,_,rfl,d,_,rfl,bR.of c3,λc=>?_,λ_ p hp=>?_⟩
   .exact⟨d,_,rfl,bR.of c3,by rw[wG c];rfl,by rw[wG c];exact⟨_,_,rfl,_,_,rfl,rfl,as _ _ ⟨s0,rfl⟩⟩⟩
   .rw[Cc];exact⟨p,_,rfl,bR.of ae,rfl,_,_,rfl,_,_,rfl,rfl,as _ _ ⟨s0.trans (Tb.au hp),rfl⟩⟩
  case B2 =>
  rintro σ H1 ⟨s1,rfl⟩;have M1:=M.same s1;have am:H1 d=some (.tup (u3 D)):=s1 _ _ hd.1;refine share (λσ H2=>wX λ(pk':Int) (Z':Zs)=>r9 (cA H2 m bL pk' Z') (0<=pk') (xH m H Z H2 Z') (Z'.length<=Z.length+1) (xI D (hZ Z) (hZ Z')) (zc 0 (λv=>v≠0) D (eZ Z) (eZ Z'))) (λu' as=>?A3) ?B3
  case B3 =>
   rintro σ H2 ⟨pk',Z',a1,a2,a3,a4,a5,a6⟩;exact k H2 pk' Z' .non a1 a2 a3 a4 a5 a6
  case A3 =>
  refine FD ?_;dsimp only;have zo:∀{b},H b=none->H1 b=none->True:=λ_ _=>trivial;cases D with
  |begin t =>
   refine dQ λ_ _ L G=>?_;refine eqT (bA rfl) bw rfl (c6 (L _ _ _ ?_));clear L G;have fi:Tb.look Z t=none:=fi;intro J h1 N h2;have bd:N≠J:=λe=>(by rw[e,ae]at h2;cases h2);have d5:H1 N=none:=(by rw[ai bd]at h2;exact h2);have sA:=(Tb.au (X:=.dK []) h1).trans (Tb.au (X:=.dK []) h2);have e1:upd (upd H1 J (.dK [])) N (.dK []) J=some (.dK []):=(by rw[ai (Ne.symm bd),ae]);have e2:upd (upd H1 J (.dK [])) N (.dK []) N=some (.dK []):=ae;generalize upd (upd H1 J (.dK [])) N (.dK [])=H2 at *;refine⟨by show 2<=sizeLine;decide,λtp bi=>?_⟩;have sB:=Tb.au (X:=.tup [.ref J,.ref N]) bi;refine⟨tp,_,rfl,bR.of ae,rfl,_,_,rfl,?_⟩;have M3:=(M1.same sA).same sB;have e1:=sB _ _ e1;have e2:=sB _ _ e2;have S3:=s1.trans (sA.trans sB);generalize upd H2 tp (.tup [.ref J,.ref N])=H3 at *;refine⟨_,rfl,_,rfl,m.lr,_,rfl,fQ.k (k:=Sum.inl t) M3.hr (by rw[Tb.cq];omega),?_⟩;rw[show(V.ref J)=iT ⟨J,N,[]⟩from rfl,Tb.cu (f:=iT) fi];refine⟨_,_,rfl,_,rfl,_,rfl,m.ls,_,rfl,fQ.k (k:=Sum.inl t) (by rw[ai (Ne.symm M3.n3.2.2)];exact M3.hs) (by rw[Tb.cq];omega),rfl,?_⟩;rw[show(V.ref N)=iY ⟨J,N,[]⟩from rfl,Tb.cu (f:=iY) fi];have oC:Off (λb=>b=m.lr\/b=m.ls) H3 (upd (upd H3 m.lr (.dK (Tb.dk iT (Z++[(t,⟨J,N,[]⟩)])))) m.ls (.dK (Tb.dk iY (Z++[(t,⟨J,N,[]⟩)])))):=λb o e w=>(by rw[ai (λy=>w (.inr y)),ai (λy=>w (.inl y))];exact e);have bx:∀{b},H b=none->b≠m.lr/\b≠m.ls:=λh=>⟨(λe=>by rw[e,M.hr]at h;cases h),(λe=>by rw[e,M.hs]at h;cases h)⟩;have f1:H J=none:=s1.free h1;have f2:H N=none:=s1.free d5;have M4:cA (upd (upd H3 m.lr (.dK (Tb.dk iT (Z++[(t,⟨J,N,[]⟩)])))) m.ls (.dK (Tb.dk iY (Z++[(t,⟨J,N,[]⟩)])))) m bL pk (Z++[(t,⟨J,N,[]⟩)]):=
    M.add fi (λb o e w=>oC b o (S3 b o e) w) (by rw[ai M.n3.2.2,ae]) ae (oC _ _ e1 λw=>w.elim (bx f1).1 (bx f1).2) (oC _ _ e2 λw=>w.elim (bx f2).1 (bx f2).2) (λy I=>by cases I) nodup_nil (λy I=>by cases I) f1 f2 (Ne.symm bd)
   refine as _ _ ⟨pk,_,M4,p0,⟨λb o e w=>oC b o (S3 b o e) λy=>w (y.elim (λy=>.inr (.inl y)) λy=>.inr (.inr (.inl y))),λb w=>?_⟩,by rw[length_append];exact le_refl _,λt'=>?_,λt' q=>?_⟩
   .rcases w with w|w|w|⟨x,hx,w⟩
    .exact .inl (.inl w)
    .exact .inl (.inr (.inl w))
    .exact .inl (.inr (.inr (.inl w)))
    .rcases List.mem_append.mp hx with hx|hx
     .exact .inl (.inr (.inr (.inr ⟨x,hx,w⟩)))
     .rw[List.mem_singleton.mp hx]at w;rcases w with w|w|⟨y,I,_⟩
      .rw[w];exact .inr f1
      .rw[w];exact .inr f2
      .cases I
   .unfold hZ;rw[Tb.bK t' fi];by_cases c:t'=t
    .rw[if_pos c,decide_eq_true c];rfl
    .rw[if_neg c,decide_eq_false c];rfl
   .unfold eZ;rw[Tb.bK t' fi];by_cases c:t'=t
    .rw[if_pos c,if_pos c];rfl
    .rw[if_neg c,if_neg c]
  |close t =>
   refine dQ λ_ _ L G=>?_;refine dP (bA rfl) bw rfl (ks_ne (by dsimp only[de];decide +kernel)) (bB (G _ _ _ ?_));clear L G;refine dQ λ_ _ L G=>?_;refine eqT (bA rfl) bw rfl (c6 (L _ _ _ ?_));clear L G;obtain⟨z,R⟩:=fi;refine⟨_,rfl,m.lr,rfl,.inl ⟨_,.inl M1.hr⟩,_,rfl,_,Sum.inl t,iT z,M1.hr,rfl,by rw[Tb.cD,R];rfl,?_⟩;rw[Tb.er];refine⟨_,rfl,m.ls,rfl,.inl ⟨_,.inl (by rw[ai (Ne.symm M1.n3.2.2)];exact M1.hs)⟩,_,rfl,_,Sum.inl t,iY z,by rw[ai (Ne.symm M1.n3.2.2)];exact M1.hs,rfl,by rw[Tb.cD,R];rfl,?_⟩;rw[Tb.er];have oC:Off (λb=>b=m.lr\/b=m.ls) H1 (upd (upd H1 m.lr (.dK (Tb.dk iT (Tb.bf Z t)))) m.ls (.dK (Tb.dk iY (Tb.bf Z t)))):=λb o e w=>(by rw[ai (λy=>w (.inr y)),ai (λy=>w (.inl y))];exact e);have M4:=M1.del (t:=t) oC (by rw[ai M.n3.2.2,ae]) ae;refine as _ _ ⟨pk,_,M4,p0,⟨λb o e w=>oC b o (s1 b o e) λy=>w (y.elim (λy=>.inr (.inl y)) λy=>.inr (.inr (.inl y))),λb w=>.inl ?_⟩,le_trans (List.length_filter_le _ _) (le_succ _),λt'=>?_,λt' q=>?_⟩
   .rcases w with w|w|w|⟨x,hx,w⟩
    .exact .inl w
    .exact .inr (.inl w)
    .exact .inr (.inr (.inl w))
    .exact .inr (.inr (.inr ⟨x,(Tb.bW hx).1,w⟩))
   .unfold hZ;rw[Tb.cy];by_cases c:t'=t
    .rw[if_pos c,decide_eq_false (λy=>y c)];rfl
    .rw[if_neg c,decide_eq_true c];rfl
   .unfold eZ;rw[Tb.cy];by_cases c:t'=t
    .rw[if_pos c,if_pos c];rfl
    .rw[if_neg c,if_neg c]
  |map t p mm =>
   refine dQ λ_ _ L G=>?_;refine dP (bA rfl) bw rfl (ks_ne (by dsimp only[de];decide +kernel)) (bB (G _ _ _ ?_));clear L G;refine dQ λ_ _ L G=>?_;refine dP (bA rfl) bw rfl (ks_ne (by dsimp only[de];decide +kernel)) (bB (G _ _ _ ?_));clear L G;refine dQ λ_ _ L G=>?_;refine eqT (bA rfl) bw rfl (c6 (L _ _ _ ?_));clear L G;obtain⟨z,R,ba,dI,_⟩:=fi;have O:=Tb.aA R;have b1:¬ mm<1:=λw=>ba (.inl w);have b2:¬ p<0:=λw=>ba (.inr (.inl w));have b3:¬ 64<p+mm:=λw=>ba (.inr (.inr w));refine⟨_,rfl,d,_,_,.int p,rfl,rfl,bR.of am,rfl,_,rfl,d,_,_,.int p,rfl,rfl,bR.of am,rfl,_,rfl,d,_,_,.int mm,rfl,rfl,bR.of am,rfl,_,_,rfl,rfl,_,_,rfl,⟨af,af,af,af⟩,?_⟩;refine gZ (lo:=p) (n:=(p+mm-p).toNat) (λi σ H2=>wX λ(v6:Option V) (pl:List (Int×Addr×Int))=>r9 (σ=[some (.ref m.md),some (.ref d),some (.ref m.lr),some (.ref m.ls),some (.str "map"),some (.int t),v6,none,none,none,none]) (cA H2 m bL pk (Tb.aX Z t ⟨z.ra,z.sa,pl⟩)) ((∀q,(Tb.look pl q).map (·.2)=if p<=q/\q<p+(i:Int)then some 0 else(Tb.look z.pl q).map (·.2))) ((∀y∈pl,y∈z.pl\/H y.2.1=none)) (Off (cM m Z) H H2) (∀b,H2 b=none->H b=none)) ⟨_,z.pl,rfl,by rw[BH M.nd R];exact M1,λq=>by rw[if_neg af],λy I=>.inl I,λb o e _=>s1 b o e,λb e=>s1.free e⟩ ?_ ?_
   .rintro i σ H2 hi ⟨v6,pl,rfl,M2,ac,bb,o2,b6⟩;have ap:=xK (y:=(⟨z.ra,z.sa,pl⟩:MT)) R;have U:=Tb.aA ap;have ca:p+(i:Int)∈Rm.aR p mm:=by
     unfold Rm.aR;exact List.mem_map.mpr ⟨i,List.mem_range.mpr af,rfl⟩
    have bG:Tb.look pl (p+(i:Int))=none:=by
     have:=ac (p+(i:Int));rw[if_neg af,dI _ ca]at this;exact Option.map_eq_none_iff.mp this
    have b7:=M2.len U;refine⟨av,λl1 cS=>?_⟩;refine⟨l1,8,_,rfl,rfl,ae,af,af,by rw[length_singleton];omega,λl2 bI=>?_⟩;have sA:=(Tb.au (X:=.lst [V.int 0]) cS).trans (Tb.au (X:=.lst ((replicate (8:Int).toNat [V.int 0]).flatten)) bI);have f2:H2 l2=none:=(Tb.au (X:=.lst [V.int 0]) cS).free bI;have e2:upd (upd H2 l1 (.lst [V.int 0])) l2 (.lst ((replicate (8:Int).toNat [V.int 0]).flatten)) l2=some (.lst ((replicate 8 (0:Int)).map V.int)):=ae;generalize upd (upd H2 l1 (.lst [V.int 0])) l2 (.lst ((replicate (8:Int).toNat [V.int 0]).flatten))=H3 at *;refine⟨by show 2<=sizeLine;decide,λtp bi=>?_⟩;have sB:=Tb.au (X:=.tup [.ref l2,.int 0]) bi;refine⟨tp,_,rfl,bR.of ae,rfl,_,_,rfl,?_⟩;have M4:=(M2.same sA).same sB;have S4:=sA.trans sB;have e4:=sB _ _ e2;generalize upd H3 tp (.tup [.ref l2,.int 0])=H4 at *;refine⟨_,rfl,_,rfl,m.lr,_,rfl,dR M4.hr ap,_,rfl,z.ra,_,rfl,fQ.k (k:=Sum.inl (p+(i:Int))) (M4.rm _ U) (by rw[Tb.cq];have:pl.length<=64:=b7;show pl.length<_;omega),?_⟩;have e5:putK (Tb.dk fW pl) (Sum.inl (p+(i:Int))) (.ref l2)=Tb.dk fW (pl++[(p+(i:Int),(l2,0))]):=Tb.cu (f:=fW) (a:=(l2,0)) bG;have e6:putK (Tb.dk iS pl) (Sum.inl (p+(i:Int))) (.int 0)=Tb.dk iS (pl++[(p+(i:Int),(l2,0))]):=Tb.cu (f:=iS) (a:=(l2,0)) bG;have dz:=M.d3 _ O;have aB:=M.rs _ O _ O;show yr _ _ _ _ (upd H4 z.ra (.dK (putK (Tb.dk fW pl) (Sum.inl (p+(i:Int))) (.ref l2)))) _;rw[e5];have o5:Off (· = z.ra) H4 (upd H4 z.ra (.dK (Tb.dk fW (pl++[(p+(i:Int),(l2,0))])))):=Off.wr rfl;refine⟨_,_,rfl,_,rfl,_,rfl,m.ls,_,rfl,dR (o5 _ _ M4.hs (Ne.symm dz.2.2.1)) ap,_,rfl,z.sa,_,rfl,fQ.k (k:=Sum.inl (p+(i:Int))) (o5 _ _ (M4.st _ U) (Ne.symm aB)) (by rw[Tb.cq];have:pl.length<=64:=b7;show pl.length<_;omega),rfl,?_⟩;have o6:Off (λb=>b=m.md\/b=z.ra\/b=z.sa) H4 (upd (upd H4 z.ra (.dK (Tb.dk fW (pl++[(p+(i:Int),(l2,0))])))) z.sa (.dK (putK (Tb.dk iS pl) (Sum.inl (p+(i:Int))) (.int 0)))):=λb o e w=>(by rw[ai (λy=>w (.inr (.inr y))),ai (λy=>w (.inr (.inl y)))];exact e);have M7:=M4.C8 (pk':=pk) (pl:=pl++[(p+(i:Int),(l2,0))]) ap o6 (by rw[ai (Ne.symm dz.2.2.2.1),ai (Ne.symm dz.1)];exact M4.hm) (by show upd _ z.sa _ z.ra=_;rw[ai aB,ae]) (by show upd _ z.sa _ z.sa=_;rw[ae,e6]) (λy I=>by
      rcases List.mem_append.mp I with I|I
      .obtain⟨ns,S,Y⟩:=M4.cl _ U y I;exact⟨ns,o6 _ _ S (λw=>by
        rcases w with w|w|w
        .rw[w,M4.hm]at S;cases S
        .rw[w,M4.rm _ U]at S;cases S
        .rw[w,M4.st _ U]at S;cases S),Y⟩
      .rw[List.mem_singleton.mp I];exact⟨replicate 8 0,o6 _ _ e4 (λw=>by
        have w:l2=m.md\/l2=z.ra\/l2=z.sa:=w;rcases w with w|w|w
        .rw[w,M4.hm]at e4;cases e4
        .rw[w,M4.rm _ U]at e4;cases e4
        .rw[w,M4.st _ U]at e4;cases e4),by simp⟩) (by rw[map_append];exact fZ (M2.np _ U) (Tb.cj bG)) (λy I=>by
      rcases List.mem_append.mp I with I|I
      .exact M2.rg _ U y I
      .rw[List.mem_singleton.mp I];show 0<=p+(i:Int)/\p+(i:Int)<64;omega)
    rw[yT]at M7;refine⟨_,pl++[(p+(i:Int),(l2,0))],rfl,M7,λq=>?_,λy I=>?_,λb o e w=>o6 b o (S4 b o (o2 b o e w)) λy=>w ?_,λb e=>b6 b (S4.free (cz (cz e).2).2)⟩
    .rw[Tb.bK q bG];by_cases c:q=p+(i:Int)
     .rw[if_pos c,if_pos (by rw[c];omega)];rfl
     .rw[if_neg c,ac q];by_cases Y:p<=q/\q<p+(i:Int)
      .rw[if_pos Y,if_pos af]
      .rw[if_neg Y,if_neg af]
    .rcases List.mem_append.mp I with I|I
     .exact bb y I
     .rw[List.mem_singleton.mp I];exact .inr (b6 l2 f2)
    .rcases y with y|y|y
     .exact .inl y
     .exact .inr (.inr (.inr ⟨_,O,.inl y⟩))
     .exact .inr (.inr (.inr ⟨_,O,.inr (.inl y)⟩))
   .rintro σ H2 ⟨v6,pl,rfl,M2,ac,bb,o2,b6⟩;refine as _ _ ⟨pk,_,M2,p0,⟨o2,lT R λy I=>(bb y I).imp (λh=>⟨y,h,rfl⟩) id⟩,by rw[Tb.gc];omega,si R,λt' q=>?_⟩;rw[tV R];have bl:q∈Rm.aR p mm↔(p<=q/\q<p+((p+mm-p).toNat:Int)):=by
     unfold Rm.aR;rw[mem_map];constructor
     .rintro⟨j,hj,rfl⟩;have:=List.mem_range.mp hj;omega
     .intro h;exact⟨(q-p).toNat,List.mem_range.mpr af,af⟩
    by_cases c:t'=t
    .rw[if_pos c,ac q];by_cases Y:q∈Rm.aR p mm
     .rw[if_pos (bl.mp Y),if_pos ⟨c,Y⟩]
     .rw[if_neg (λh=>Y (bl.mpr h)),if_neg (λh=>Y h.2),c,rF R]
    .rw[if_neg c,if_neg (λh=>c h.1)]
  |drop t p mm =>
   refine dQ λ_ _ L G=>?_;refine dP (bA rfl) bw rfl (ks_ne (by dsimp only[de];decide +kernel)) (bB (G _ _ _ ?_));clear L G;refine dQ λ_ _ L G=>?_;refine dP (bA rfl) bw rfl (ks_ne (by dsimp only[de];decide +kernel)) (bB (G _ _ _ ?_));clear L G;refine dQ λ_ _ L G=>?_;refine dP (bA rfl) bw rfl (ks_ne (by dsimp only[de];decide +kernel)) (bB (G _ _ _ ?_));clear L G;refine dQ λ_ _ L G=>?_;refine eqT (bA rfl) bw rfl (c6 (L _ _ _ ?_));clear L G;obtain⟨z,R,ba,en⟩:=fi;have O:=Tb.aA R;have b1:¬ mm<1:=λw=>ba (.inl w);have b2:¬ p<0:=λw=>ba (.inr (.inl w));have b3:¬ 64<p+mm:=λw=>ba (.inr (.inr w));refine⟨_,rfl,d,_,_,.int p,rfl,rfl,bR.of am,rfl,_,rfl,d,_,_,.int p,rfl,rfl,bR.of am,rfl,_,rfl,d,_,_,.int mm,rfl,rfl,bR.of am,rfl,_,_,rfl,rfl,_,_,rfl,⟨af,af,af,af⟩,?_⟩;refine gZ (lo:=p) (n:=(p+mm-p).toNat) (λi σ H2=>wX λ(v6:Option V) (pl:List (Int×Addr×Int))=>r9 (σ=[some (.ref m.md),some (.ref d),some (.ref m.lr),some (.ref m.ls),some (.str "drop"),some (.int t),v6,none,none,none,none]) (cA H2 m bL pk (Tb.aX Z t ⟨z.ra,z.sa,pl⟩)) ((∀q,(Tb.look pl q).map (·.2)=if p<=q/\q<p+(i:Int)then none else(Tb.look z.pl q).map (·.2))) ((∀y∈pl,y∈z.pl\/H y.2.1=none)) (Off (cM m Z) H H2) True) ⟨_,z.pl,rfl,by rw[BH M.nd R];exact M1,λq=>by rw[if_neg af],λy I=>.inl I,λb o e _=>s1 b o e,trivial⟩ ?_ ?_
   .rintro i σ H2 hi ⟨v6,pl,rfl,M2,ac,bb,o2,_⟩;have ap:=xK (y:=(⟨z.ra,z.sa,pl⟩:MT)) R;have U:=Tb.aA ap;have ca:p+(i:Int)∈Rm.aR p mm:=by
     unfold Rm.aR;exact List.mem_map.mpr ⟨i,List.mem_range.mpr af,rfl⟩
    obtain⟨y,I⟩:∃y,Tb.look pl (p+(i:Int))=some y:=by
     have h1:=ac (p+(i:Int));rw[if_neg af]at h1;cases e:Tb.look pl (p+(i:Int))with
     |some y=>exact⟨y,rfl⟩
     |none =>
      rw[e]at h1;exact absurd (Option.map_eq_none_iff.mp h1.symm) (en _ ca)
    have dz:=M.d3 _ O;have aB:=M.rs _ O _ O;refine⟨_,rfl,_,rfl,m.lr,_,rfl,dR M2.hr ap,z.ra,rfl,.inl ⟨_,.inl (M2.rm _ U)⟩,_,rfl,_,Sum.inl (p+(i:Int)),fW y,M2.rm _ U,rfl,by rw[Tb.cD,I];rfl,?_⟩;rw[Tb.er];have o5:Off (· = z.ra) H2 (upd H2 z.ra (.dK (Tb.dk fW (Tb.bf pl (p+(i:Int)))))):=Off.wr rfl;have h5:=o5 _ _ (M2.st _ U) (Ne.symm aB);refine⟨_,rfl,_,rfl,m.ls,_,rfl,dR (o5 _ _ M2.hs (Ne.symm dz.2.2.1)) ap,z.sa,rfl,.inl ⟨_,.inl h5⟩,_,rfl,_,Sum.inl (p+(i:Int)),iS y,h5,rfl,by rw[Tb.cD,I];rfl,?_⟩;rw[Tb.er];have o6:Off (λb=>b=m.md\/b=z.ra\/b=z.sa) H2 (upd (upd H2 z.ra (.dK (Tb.dk fW (Tb.bf pl (p+(i:Int)))))) z.sa (.dK (Tb.dk iS (Tb.bf pl (p+(i:Int)))))):=λb o e w=>(by rw[ai (λy=>w (.inr (.inr y))),ai (λy=>w (.inr (.inl y)))];exact e);have M7:=M2.C8 (pk':=pk) (pl:=Tb.bf pl (p+(i:Int))) ap o6 (by rw[ai (Ne.symm dz.2.2.2.1),ai (Ne.symm dz.1)];exact M2.hm) (by show upd _ z.sa _ z.ra=_;rw[ai aB,ae]) (by show upd _ z.sa _ z.sa=_;rw[ae]) (λy I=>by
      obtain⟨ns,S,Y⟩:=M2.cl _ U y (Tb.bW I).1;exact⟨ns,o6 _ _ S (λw=>by
        rcases w with w|w|w
        .rw[w,M2.hm]at S;cases S
        .rw[w,M2.rm _ U]at S;cases S
        .rw[w,M2.st _ U]at S;cases S),Y⟩) (Tb.lV (M2.np _ U)) (λy I=>M2.rg _ U y (Tb.bW I).1)
    rw[yT]at M7;refine⟨_,Tb.bf pl (p+(i:Int)),rfl,M7,λq=>?_,λy I=>bb y (Tb.bW I).1,λb o e w=>o6 b o (o2 b o e w) λy=>w ?_,trivial⟩
    .rw[Tb.cy];by_cases c:q=p+(i:Int)
     .rw[if_pos c,if_pos (by rw[c];omega)];rfl
     .rw[if_neg c,ac q];by_cases Y:p<=q/\q<p+(i:Int)
      .rw[if_pos Y,if_pos af]
      .rw[if_neg Y,if_neg af]
    .rcases y with y|y|y
     .exact .inl y
     .exact .inr (.inr (.inr ⟨_,O,.inl y⟩))
     .exact .inr (.inr (.inr ⟨_,O,.inr (.inl y)⟩))
   .rintro σ H2 ⟨v6,pl,rfl,M2,ac,bb,o2,b6⟩;refine as _ _ ⟨pk,_,M2,p0,⟨o2,lT R λy I=>(bb y I).imp (λh=>⟨y,h,rfl⟩) id⟩,by rw[Tb.gc];omega,si R,λt' q=>?_⟩;rw[tV R];have bl:q∈Rm.aR p mm↔(p<=q/\q<p+((p+mm-p).toNat:Int)):=by
     unfold Rm.aR;rw[mem_map];constructor
     .rintro⟨j,hj,rfl⟩;have:=List.mem_range.mp hj;omega
     .intro h;exact⟨(q-p).toNat,List.mem_range.mpr af,af⟩
    by_cases c:t'=t
    .rw[if_pos c,ac q];by_cases Y:q∈Rm.aR p mm
     .rw[if_pos (bl.mp Y),if_pos ⟨c,Y⟩]
     .rw[if_neg (λh=>Y (bl.mpr h)),if_neg (λh=>Y h.2),c,rF R]
    .rw[if_neg c,if_neg (λh=>c h.1)]
  |copy t o =>
   refine dQ λ_ _ L G=>?_;refine dP (bA rfl) bw rfl (ks_ne (by dsimp only[de];decide +kernel)) (bB (G _ _ _ ?_));clear L G;refine dQ λ_ _ L G=>?_;refine dP (bA rfl) bw rfl (ks_ne (by dsimp only[de];decide +kernel)) (bB (G _ _ _ ?_));clear L G;refine dQ λ_ _ L G=>?_;refine dP (bA rfl) bw rfl (ks_ne (by dsimp only[de];decide +kernel)) (bB (G _ _ _ ?_));clear L G;refine dQ λ_ _ L G=>?_;refine dP (bA rfl) bw rfl (ks_ne (by dsimp only[de];decide +kernel)) (bB (G _ _ _ ?_));clear L G;refine dQ λ_ _ L G=>?_;refine eqT (bA rfl) bw rfl (c6 (L _ _ _ ?_));clear L G;obtain⟨z,R,eo,_⟩:=fi;have O:=Tb.aA R;have dz:=M.d3 _ O;have aB:=M.rs _ O _ O;have ec:t≠o:=λe=>(by rw[e,eo]at R;cases R);refine⟨_,rfl,_,rfl,m.ls,_,rfl,dR M1.hs R,z.sa,_,rfl,M1.st _ O,λN h2=>?_⟩;have f2:H N=none:=s1.free h2;have sA:=Tb.au (X:=.dK (Tb.dk iS z.pl)) h2;have e2:upd H1 N (.dK (Tb.dk iS z.pl)) N=some (.dK (Tb.dk iS z.pl)):=ae;have M2:=M1.same sA;have S2:=s1.trans sA;have d7:=sA _ _ am;generalize upd H1 N (.dK (Tb.dk iS z.pl))=H2 at *;refine⟨_,rfl,_,rfl,d,_,_,.int o,rfl,rfl,bR.of d7,rfl,m.ls,_,rfl,fQ.k (k:=Sum.inl o) M2.hs (by rw[Tb.cq];omega),?_⟩;rw[show(V.ref N)=iY ⟨N,N,[]⟩from rfl,Tb.cu (f:=iY) eo,kH];show mE _ _ _ _ (upd H2 m.ls (.dK (Tb.dk iY Z++[(Sum.inl o,V.ref N)])));have o3:Off (· = m.ls) H2 (upd H2 m.ls (.dK (Tb.dk iY Z++[(Sum.inl o,V.ref N)]))):=Off.wr rfl;have cw:upd H2 m.ls (.dK (Tb.dk iY Z++[(Sum.inl o,V.ref N)])) m.ls=some (.dK (Tb.dk iY Z++[(Sum.inl o,V.ref N)])):=ae;generalize upd H2 m.ls (.dK (Tb.dk iY Z++[(Sum.inl o,V.ref N)]))=H3 at *;have c5:N≠m.ls:=λe=>(by rw[e,M.hs]at f2;cases f2);have dp:N≠m.lr:=λe=>(by rw[e,M.hr]at f2;cases f2);have df:∀{b kvs},H b=some (.dK kvs)->b≠m.ls->H3 b=some (.dK kvs):=λe n=>o3 _ _ (S2 _ _ e) n;have dT:∀{b xs},H b=some (.tup xs)->H3 b=some (.tup xs):=λe=>o3 _ _ (S2 _ _ e) (λw=>by rw[w,M.hs]at e;cases e);have ew:∀{b xs},H b=some (.lst xs)->H3 b=some (.lst xs):=λe=>o3 _ _ (S2 _ _ e) (λw=>by rw[w,M.hs]at e;cases e);intro J h1;have f1:H J=none:=by
    cases e:H J with
    |none=>rfl
    |some u =>
     by_cases w:J=m.ls
     .rw[w,cw]at h1;cases h1
     .rw[o3 _ _ (S2 _ _ e) w]at h1;cases h1
   have bd:J≠N:=λe=>(by rw[e,o3 _ _ e2 c5]at h1;cases h1);have b0:J≠m.lr:=λe=>(by rw[e,M.hr]at f1;cases f1);have cP:J≠m.ls:=λe=>(by rw[e,M.hs]at f1;cases f1);have dL:upd H3 J (.dK []) m.lr=some (.dK (Tb.dk iT Z)):=(by rw[ai (Ne.symm b0)];exact df M.hr M.n3.2.2);refine⟨_,rfl,_,rfl,d,_,_,.int o,rfl,rfl,bR.of (Tb.au h1 _ _ (dT hd.1)),rfl,m.lr,_,rfl,fQ.k (k:=Sum.inl o) dL (by rw[Tb.cq];omega),?_⟩;rw[show(V.ref J)=iT ⟨J,N,[]⟩from rfl,Tb.cu (f:=iT) eo];have o5:Off (λb=>b=m.lr\/b=m.ls) H (upd (upd H3 J (.dK [])) m.lr (.dK (Tb.dk iT (Z++[(o,⟨J,N,[]⟩)])))):=λb u e w=>by
    rw[ai (λy=>w (.inl y)),ai (aq e f1)];exact o3 _ _ (S2 _ _ e) λy=>w (.inr y)
   have db:upd (upd H3 J (.dK [])) m.lr (.dK (Tb.dk iT (Z++[(o,⟨J,N,[]⟩)]))) m.lr=some (.dK (Tb.dk iT (Z++[(o,⟨J,N,[]⟩)]))):=ae;have d6:upd (upd H3 J (.dK [])) m.lr (.dK (Tb.dk iT (Z++[(o,⟨J,N,[]⟩)]))) m.ls=some (.dK (Tb.dk iY Z++[(Sum.inl o,V.ref N)])):=(by rw[ai (Ne.symm M.n3.2.2),ai (Ne.symm cP)];exact cw);have el:upd (upd H3 J (.dK [])) m.lr (.dK (Tb.dk iT (Z++[(o,⟨J,N,[]⟩)]))) J=some (.dK []):=(by rw[ai b0,ae]);have eq:upd (upd H3 J (.dK [])) m.lr (.dK (Tb.dk iT (Z++[(o,⟨J,N,[]⟩)]))) N=some (.dK (Tb.dk iS z.pl)):=(by rw[ai dp,ai (Ne.symm bd)];exact o3 _ _ e2 c5);generalize upd (upd H3 J (.dK [])) m.lr (.dK (Tb.dk iT (Z++[(o,⟨J,N,[]⟩)])))=H5 at *;have bn:∀{b},b≠m.lr->b≠m.ls->¬ (b=m.lr\/b=m.ls):=λa b w=>w.elim a b;have hn:∀(ob:Obj) u',H z.ra≠some (.frz ob u'):=λob u' w=>(by rw[M.rm _ O]at w;cases w);have ei:Tb.look (Z++[(o,(⟨J,N,[]⟩:MT))]) t=some z:=(by rw[Tb.bK t eo,if_neg ec];exact R);have dj:Tb.look (Z++[(o,(⟨J,N,[]⟩:MT))]) o=some ⟨J,N,[]⟩:=(by rw[Tb.bK o eo,if_pos rfl]);have d9:=o5 _ _ (M.rm _ O) (bn dz.2.1 dz.2.2.1);refine⟨_,rfl,_,rfl,m.lr,_,rfl,dR db ei,z.ra,_,rfl,d9,hn,λob=>?_⟩;have bz:J≠z.ra:=λe=>(by rw[e,M.rm _ O]at f1;cases f1);have da:N≠z.ra:=λe=>(by rw[e,M.rm _ O]at f2;cases f2);have oF:Off (· = z.ra) H5 (upd H5 z.ra (.frz ob (.dK (Tb.dk fW z.pl)))):=Off.wr rfl;have hF:upd H5 z.ra (.frz ob (.dK (Tb.dk fW z.pl))) z.ra=some (.frz ob (.dK (Tb.dk fW z.pl))):=ae;have b4:=oF _ _ el bz;have ek:=oF _ _ eq da;have b5:=oF _ _ db (Ne.symm dz.2.1);have cT:=oF _ _ d6 (Ne.symm dz.2.2.1);have ce:=oF _ _ (o5 _ _ hd.1 (bn (λw=>by have:=hd.1;rw[w,M.hr]at this;cases this) (λw=>by have:=hd.1;rw[w,M.hs]at this;cases this))) (λw=>by have:=hd.1;rw[w,M.rm _ O]at this;cases this);have d4:∀{b},upd H5 z.ra (.frz ob (.dK (Tb.dk fW z.pl))) b=none->H b=none:=λ{b} e=>by
    cases e2:H b with
    |none=>rfl
    |some u =>
     exfalso;by_cases w1:b=z.ra
     .rw[w1,hF]at e;cases e
     .by_cases w2:b=m.lr
      .rw[w2,b5]at e;cases e
      .by_cases w3:b=m.ls
       .rw[w3,cT]at e;cases e
       .rw[oF _ _ (o5 _ _ e2 (bn w2 w3)) w1]at e;cases e
   have dl:∀y∈z.pl,∃ns:List Int,upd H5 z.ra (.frz ob (.dK (Tb.dk fW z.pl))) y.2.1=some (.lst (ns.map V.int))/\ns.length=8:=λy I=>by
    obtain⟨ns,S,Y⟩:=M.cl _ O y I;exact⟨ns,oF _ _ (o5 _ _ S (bn (λw=>by rw[w,M.hr]at S;cases S) (λw=>by rw[w,M.hs]at S;cases S))) (λw=>by rw[w,M.rm _ O]at S;cases S),Y⟩
   have OF:∀b u,H b=some u->b≠m.lr->b≠m.ls->b≠z.ra->upd H5 z.ra (.frz ob (.dK (Tb.dk fW z.pl))) b=some u:=λb u e a1 a2 a3=>oF _ _ (o5 _ _ e (bn a1 a2)) a3;generalize upd H5 z.ra (.frz ob (.dK (Tb.dk fW z.pl)))=HF at *;have bv:(z.pl.map (·.1)).Nodup:=M.np _ O;refine nK (a:=z.ra) (o:=ob) (kvs:=Tb.dk fW z.pl) (λi σ H6=>Dy λ(v6 v7:Option V) (pl:List (Int×Addr×Int))=>Cs (σ=[some (.ref m.md),some (.ref d),some (.ref m.lr),some (.ref m.ls),some (.str "copy"),some (.int t),v6,v7,none,none,none]) (H6 J=some (.dK (Tb.dk fW pl))) ((pl.map λy=>(y.1,y.2.2))=((z.pl.take i).map λy=>(y.1,y.2.2))) ((∀y∈pl,(∃ns:List Int,H6 y.2.1=some (.lst (ns.map V.int))/\ns.length=8)/\HF y.2.1=none)) (Off (· = J) HF H6))
    ⟨_,_,[],rfl,b4,rfl,(λy I=>by cases I),λ_ _ e _=>e⟩ (λi σ H6 _ z0=>by obtain⟨_,_,_,_,_,_,_,o6⟩:=z0;exact o6 _ _ hF (Ne.symm bz)) ?_ ?_
   .rintro i kk v σ H6 T' hk hT ⟨v6,v7,pl,rfl,b8,aT,bY,o6⟩;have cC:(z.pl.map λx:Int×Addr×Int=>((Sum.inl x.1:Key),fW x.2))[i]?=some (kk,v):=hk;rw[getElem?_map]at cC;obtain⟨y,I,e⟩:=Option.map_eq_some_iff.mp cC;cases e;have eb:=mem_of_getElem? I;obtain⟨hi,eA⟩:=List.getElem?_eq_some_iff.mp I;have b7:z.pl.length<=64:=M.len O;have eC:pl.length=i:=by
     have:=congrArg List.length aT;rw[length_map,length_map,length_take]at this;omega
    have dV:Tb.look pl y.1=none:=by
     cases e:Tb.look pl y.1 with
     |none=>rfl
     |some u =>
      exfalso;have h1:(y.1,u.2)∈pl.map λy=>(y.1,y.2.2):=List.mem_map.mpr ⟨_,Tb.aA e,rfl⟩;rw[aT]at h1;obtain⟨y',h2,h3⟩:=List.mem_map.mp h1;obtain⟨j,hj,e3⟩:=getElem_of_mem h2;rw[getElem_take]at e3;rw[length_take]at hj;refine m7 bv j i (a:=y'.1) (b:=y.1) ?_ ?_ af (Prod.mk.inj h3).1
      .rw[getElem?_map,getElem?_eq_getElem af,e3];rfl
      .rw[getElem?_map,I];rfl
    obtain⟨ns,S,Y⟩:=dl y eb;have dm:y.2.1≠J:=λw=>(by rw[w,b4]at S;cases S);have sT:=Tb.au (X:=.tup [kV (Sum.inl y.1),fW y.2]) hT;refine⟨T',[.int y.1,.ref y.2.1],rfl,bR.of ae,rfl,_,_,rfl,_,_,rfl,rfl,?_⟩;have c7:=sT _ _ (o6 _ _ S dm);have cp:=sT _ _ b8;have ef:=sT _ _ (o6 _ _ b5 (Ne.symm b0));have ev:=sT _ _ (o6 _ _ ce (λw=>by rw[w,b4]at ce;cases ce));have O7:Off (· = J) HF (upd H6 T' (.tup [kV (Sum.inl y.1),fW y.2])):=λb u e w=>sT _ _ (o6 _ _ e w);have C7:∀u∈pl,(∃ns:List Int,upd H6 T' (.tup [kV (Sum.inl y.1),fW y.2]) u.2.1=some (.lst (ns.map V.int))/\ns.length=8)/\HF u.2.1=none:=λu hu=>by
     obtain⟨⟨a7,a1,a2⟩,a3⟩:=bY u hu;exact⟨⟨a7,sT _ _ a1,a2⟩,a3⟩
    generalize upd H6 T' (.tup [kV (Sum.inl y.1),fW y.2])=H7 at *;refine⟨_,rfl,y.2.1,_,rfl,.inl (bE.of c7),λl hl=>?_⟩;have sL:=Tb.au (X:=.lst (ns.map V.int)) hl;have b9:HF l=none:=by
     cases e:HF l with
     |none=>rfl
     |some u =>
      by_cases w:l=J
      .rw[w,cp]at hl;cases hl
      .rw[O7 _ _ e w]at hl;cases hl
    have ea:l≠J:=λw=>(by rw[w,b4]at b9;cases b9);refine⟨_,rfl,_,rfl,d,_,_,.int o,rfl,rfl,bR.of (sL _ _ ev),rfl,m.lr,_,rfl,dR (sL _ _ ef) dj,_,rfl,J,_,rfl,fQ.k (k:=Sum.inl y.1) (sL _ _ cp) (by rw[Tb.cq];omega),?_⟩;have e8:putK (Tb.dk fW pl) (Sum.inl y.1) (.ref l)=Tb.dk fW (pl++[(y.1,(l,y.2.2))]):=Tb.cu (f:=fW) (a:=(l,y.2.2)) dV;refine⟨_,_,pl++[(y.1,(l,y.2.2))],rfl,by rw[<-e8];exact ae,?_,λu hu=>?_,λb u e w=>by rw[ai w];exact sL _ _ (O7 _ _ e w)⟩
    .rw[map_append,aT,take_add_one,I,map_append];rfl
    .rcases List.mem_append.mp hu with hu|hu
     .obtain⟨⟨a7,a1,a2⟩,a3⟩:=C7 u hu;exact⟨⟨a7,by rw[ai (λw=>by rw[w,cp]at a1;cases a1)];exact sL _ _ a1,a2⟩,a3⟩
     .rw[List.mem_singleton.mp hu];exact⟨⟨ns,by show upd _ J _ l=_;rw[ai ea,ae],Y⟩,b9⟩
   .rintro σ H6 ⟨v6,v7,pl,rfl,b8,aT,bY,o6⟩;rw[Tb.cq,take_length]at aT;refine⟨z.ra,ob,_,o6 _ _ hF (Ne.symm bz),hn,?_⟩;have o7:Off (λb=>b=m.lr\/b=m.ls) H (upd H6 z.ra (.dK (Tb.dk fW z.pl))):=λb u e w=>by
     by_cases w1:b=z.ra
     .rw[w1,ae, <-e,w1,M.rm _ O]
     .rw[ai w1];exact o6 _ _ (OF b u e (λy=>w (.inl y)) (λy=>w (.inr y)) w1) (aq e f1)
    have cx:(pl.map (·.1))=z.pl.map (·.1):=by
     have:=congrArg (List.map (·.1)) aT;rw[map_map,map_map]at this;exact this
    have M8:cA (upd H6 z.ra (.dK (Tb.dk fW z.pl))) m bL pk (Z++[(o,⟨J,N,pl⟩)]):=M.add (z:=⟨J,N,pl⟩) eo o7
     (by rw[ai (Ne.symm dz.2.1),kH];rw[kH]at b5;exact o6 _ _ b5 (Ne.symm b0))
     (by rw[ai (Ne.symm dz.2.2.1),kH];exact o6 _ _ cT (Ne.symm cP))
     (by show upd H6 z.ra _ J=_;rw[ai bz];exact b8)
     (by show upd H6 z.ra _ N=_;rw[ai da,o6 _ _ ek (Ne.symm bd),EH aT])
     (λy I=>by
      obtain⟨⟨a7,a1,a2⟩,a3⟩:=bY y I;exact⟨a7,by rw[ai (λw=>by rw[w,hF]at a3;cases a3)];exact a1,a2⟩)
     (by rw[cx];exact bv)
     (λy I=>by
      have h1:y.1∈pl.map (·.1):=List.mem_map.mpr ⟨y,I,rfl⟩;rw[cx]at h1;obtain⟨y',h2,h3⟩:=List.mem_map.mp h1;rw[<-h3];exact M.rg _ O y' h2) f1 f2 bd
    refine as _ _ ⟨pk,_,M8,p0,⟨λb u e w=>o7 b u e λy=>w (y.elim (λy=>.inr (.inl y)) λy=>.inr (.inr (.inl y))),λb w=>?_⟩,by rw[length_append];exact le_refl _,λt'=>?_,λt' q=>?_⟩
    .rcases w with w|w|w|⟨x,hx,w⟩
     .exact .inl (.inl w)
     .exact .inl (.inr (.inl w))
     .exact .inl (.inr (.inr (.inl w)))
     .rcases List.mem_append.mp hx with hx|hx
      .exact .inl (.inr (.inr (.inr ⟨x,hx,w⟩)))
      .rw[List.mem_singleton.mp hx]at w;rcases w with w|w|⟨y,I,w⟩
       .rw[w];exact .inr f1
       .rw[w];exact .inr f2
       .rw[w];exact .inr (d4 (bY y I).2)
    .unfold hZ;rw[Tb.bK t' eo];by_cases c:t'=o
     .rw[if_pos c,decide_eq_true c];rfl
     .rw[if_neg c,decide_eq_false c];rfl
    .unfold eZ;rw[Tb.bK t' eo];by_cases c:t'=o
     .rw[if_pos c,if_pos c,R];show(Tb.look pl q).map (·.2)=(Tb.look z.pl q).map (·.2);have h1:=jK (λx:Addr×Int=>x.2) q pl;have h2:=jK (λx:Addr×Int=>x.2) q z.pl;rw[<-h1, <-h2];show Tb.look (pl.map λy=>(y.1,y.2.2)) q=Tb.look (z.pl.map λy=>(y.1,y.2.2)) q;rw[aT]
     .rw[if_neg c,if_neg c]
  |peek t ad n =>
   refine dQ λ_ _ L G=>?_;refine dP (bA rfl) bw rfl (ks_ne (by dsimp only[de];decide +kernel)) (bB (G _ _ _ ?_));clear L G;refine dQ λ_ _ L G=>?_;refine dP (bA rfl) bw rfl (ks_ne (by dsimp only[de];decide +kernel)) (bB (G _ _ _ ?_));clear L G;refine dQ λ_ _ L G=>?_;refine dP (bA rfl) bw rfl (ks_ne (by dsimp only[de];decide +kernel)) (bB (G _ _ _ ?_));clear L G;refine dQ λ_ _ L G=>?_;refine dP (bA rfl) bw rfl (ks_ne (by dsimp only[de];decide +kernel)) (bB (G _ _ _ ?_));clear L G;refine dQ λ_ _ L G=>?_;refine dP (bA rfl) bw rfl (ks_ne (by dsimp only[de];decide +kernel)) (bB (G _ _ _ ?_));clear L G;refine dQ λ_ _ L G=>?_;refine eqT (bA rfl) bw rfl (c6 (L _ _ _ ?_));clear L G;obtain⟨z,R,ej,ch⟩:=fi;obtain⟨a0,a1,n1⟩:=ee _ _ _ rfl;have O:=Tb.aA R;refine⟨_,rfl,d,_,_,.int ad,rfl,rfl,bR.of am,rfl,_,rfl,d,_,_,.int ad,rfl,rfl,bR.of am,rfl,_,rfl,d,_,_,.int n,rfl,rfl,bR.of am,rfl,_,_,rfl,rfl,_,_,rfl,⟨af,af,af,af⟩,?_⟩;refine fm (lo:=ad) (n:=(ad+(n:Int)-ad).toNat) (λi ys H2=>ys.length=i/\H2=H1) ⟨rfl,rfl⟩ ?_ ?_
   .rintro i ys H2 hi ⟨hl,rfl⟩;obtain⟨y,I⟩:∃y,Tb.look z.pl ((ad+(i:Int))/8)=some y:=by
     cases e:Tb.look z.pl ((ad+(i:Int))/8)with
     |some y=>exact⟨y,rfl⟩
     |none=>exact absurd e (ch i af)
    obtain⟨ns,S,Y⟩:=M1.cl _ O _ (Tb.aA I);obtain⟨b1,_⟩:=at_of (xs:=ns) (i:=(ad+(i:Int))%8) (n:=8) af af af;exact⟨_,rfl,_,rfl,m.lr,iT z,rfl,dR M1.hr R,_,rfl,_,_,rfl,rfl,⟨av,av⟩,z.ra,fW y,rfl,dR (M1.rm _ O) I,_,rfl,_,_,rfl,rfl,(by show(0:Int)<8;decide),y.1,_,_,_,rfl,rfl,bE.of S,b1,af,by rw[length_append,hl];rfl,rfl⟩
   .rintro ys H2 ⟨hl,rfl⟩ l bI;have s2:=Tb.au (X:=.lst ys) bI;exact k _ pk Z (.ref l) (M1.same s2) p0 ⟨λb o e _=>s2 _ _ (s1 _ _ e),λb w=>.inl w⟩ (le_succ _) (λ_=>rfl) λ_ _=>rfl
  |poke t ad c cs =>
   refine dQ λ_ _ L G=>?_;refine dP (bA rfl) bw rfl (ks_ne (by dsimp only[de];decide +kernel)) (bB (G _ _ _ ?_));clear L G;refine dQ λ_ _ L G=>?_;refine dP (bA rfl) bw rfl (ks_ne (by dsimp only[de];decide +kernel)) (bB (G _ _ _ ?_));clear L G;refine dQ λ_ _ L G=>?_;refine dP (bA rfl) bw rfl (ks_ne (by dsimp only[de];decide +kernel)) (bB (G _ _ _ ?_));clear L G;refine dQ λ_ _ L G=>?_;refine dP (bA rfl) bw rfl (ks_ne (by dsimp only[de];decide +kernel)) (bB (G _ _ _ ?_));clear L G;refine dQ λ_ _ L G=>?_;refine dP (bA rfl) bw rfl (ks_ne (by dsimp only[de];decide +kernel)) (bB (G _ _ _ ?_));clear L G;refine dQ λ_ _ L G=>?_;refine dP (bA rfl) bw rfl (ks_ne (by dsimp only[de];decide +kernel)) (bB (G _ _ _ ?_));clear L G;obtain⟨z,R,ej,ch⟩:=fi;obtain⟨d8,a0,a1,n1⟩:=dO _ _ _ _ rfl;have O:=Tb.aA R;have c4:=s1 _ _ (hd.2 _ _ _ _ rfl);have dz:=M.d3 _ O;have aB:=M.rs _ O _ O;have bv:¬ cM m Z d:=λw=>by
    rcases M1.alive d w with⟨_,e⟩|⟨_,e⟩
    .rw[am]at e;cases e
    .rw[am]at e;cases e
   refine⟨_,rfl,d,_,_,.ref c,rfl,rfl,bR.of am,rfl,c,rfl,⟨_,bE.of c4⟩,?_⟩;refine zg (K:=K) (a:=c) (xs:=cs.map V.int) (λi σ H2=>zL λ(v8 v9 ci:Option V) (ab:Int) (pl:List (Int×Addr×Int))=>Fl (σ=[some (.ref m.md),some (.ref d),some (.ref m.lr),some (.ref m.ls),some (.str "poke"),some (.int t),none,none,v8,v9,ci]) (cA H2 m bL ab (Tb.aX Z t ⟨z.ra,z.sa,pl⟩)) (0<=ab) ((pl.map λy=>(y.1,y.2.1))=(z.pl.map λy=>(y.1,y.2.1))) ((∀q,(∃j:Nat,j<i/\(ad+j)/8=q)->∃v,(Tb.look pl q).map (·.2)=some v/\v≠0)) ((∀q,(¬ ∃j:Nat,j<i/\(ad+j)/8=q)->(Tb.look pl q).map (·.2)=(Tb.look z.pl q).map (·.2))) (Off (cM m Z) H1 H2))
    ⟨_,_,_,pk,z.pl,rfl,by rw[BH M.nd R];exact M1,p0,rfl,λq ⟨j,h,_⟩=>af,λ_ _=>rfl,λ_ _ e _=>e⟩ (λi σ H2 _ z0=>by obtain⟨_,_,_,_,_,_,_,_,_,_,_,o2⟩:=z0;exact bE.of (o2 _ _ c4 d8)) ?_ ?_
   .rintro i x σ H2 T' hx hT ⟨v8,v9,ci,ab,pl,rfl,M2,p2,be,ac,bm,o2⟩;have hi:i<cs.length:=(by simpa using(List.getElem?_eq_some_iff.mp hx).1);rw[getElem?_map]at hx;obtain⟨bc,_,rfl⟩:=Option.map_eq_some_iff.mp hx;have ap:=xK (y:=(⟨z.ra,z.sa,pl⟩:MT)) R;have U:=Tb.aA ap;have sT:=Tb.au (X:=.tup [.int i,.int bc]) hT;have M3:=M2.same sT;refine⟨T',[.int i,.int bc],rfl,bR.of ae,rfl,_,_,rfl,_,_,rfl,rfl,?_⟩;have dM:=sT _ _ (o2 _ _ am bv);have O3:Off (cM m Z) H1 (upd H2 T' (.tup [.int i,.int bc])):=λb o e w=>sT _ _ (o2 _ _ e w);generalize upd H2 T' (.tup [.int i,.int bc])=H3 at *;refine⟨_,rfl,d,_,_,.int ad,rfl,rfl,bR.of dM,rfl,_,rfl,_,_,rfl,rfl,?_⟩;obtain⟨y,I⟩:∃y,Tb.look pl ((ad+(i:Int))/8)=some y:=by
     cases e:Tb.look pl ((ad+(i:Int))/8)with
     |some y=>exact⟨y,rfl⟩
     |none=>exact absurd ((wY be _).mp e) (ch i hi)
    obtain⟨ns,S,Y⟩:=M3.cl _ U _ (Tb.aA I);have S:H3 y.1=some (.lst (ns.map V.int)):=S;have hj:u4 (ns.map V.int).length ((ad+(i:Int))%8)=some ((ad+(i:Int))%8).toNat:=by
     unfold u4;rw[length_map,if_pos af,if_pos af]
    refine⟨_,rfl,_,rfl,_,rfl,m.lr,_,rfl,dR M3.hr ap,_,rfl,_,_,rfl,rfl,⟨av,av⟩,z.ra,_,rfl,dR (M3.rm _ U) I,_,rfl,_,_,rfl,rfl,(by show(0:Int)<8;decide),y.1,_,_,_,rfl,rfl,S,hj,?_⟩;rw[<-map_set];have M4:=M3.C2 S (ns':=ns.set ((ad+(i:Int))%8).toNat bc) (by rw[length_set];exact Y);obtain⟨y',et,dd⟩:∃y'∈z.pl,y'.2.1=y.1:=by
     have h1:((ad+(i:Int))/8,y.1)∈pl.map λy=>(y.1,y.2.1):=List.mem_map.mpr ⟨_,Tb.aA I,rfl⟩;rw[be]at h1;obtain⟨y',h2,h3⟩:=List.mem_map.mp h1;exact⟨y',h2,(Prod.mk.inj h3).2⟩
    have O4:Off (cM m Z) H1 (upd H3 y.1 (.lst ((ns.set ((ad+(i:Int))%8).toNat bc).map V.int))):=λb o e w=>by
     rw[ai (λh=>w (.inr (.inr (.inr ⟨_,O,.inr (.inr ⟨y',et,h.trans dd.symm⟩)⟩))))];exact O3 b o e w
    generalize upd H3 y.1 (.lst ((ns.set ((ad+(i:Int))%8).toNat bc).map V.int))=H4 at *;dsimp only;refine xP λQ L G=>?_;refine⟨_,rfl,rfl,_,rfl,?_⟩;have c9:∀Hx,Hx=H4->Q true Hx:=λHx ex=>by
     subst ex;refine L _ ?_;refine⟨_,rfl,m.md,.int ab,rfl,M4.g (E7 _ _ _ _),_,_,rfl,rfl,_,rfl,m.md,_,rfl,fQ.k (k:=Sum.inr "pokes") M4.hm (by show 4<sizeLine;omega),?_⟩;dsimp only;rw[Am];have o5:Off (· = m.md) Hx (upd Hx m.md (.dK (mH m.lr m.ls bL (ab+1)))):=Off.wr rfl;have g5:dq (upd Hx m.md (.dK (mH m.lr m.ls bL (ab+1)))) m.md (.str "pokes") (some (.int (ab+1))):=by
      have q:=dq.k (k:=Sum.inr "pokes") (H:=upd Hx m.md (.dK (mH m.lr m.ls bL (ab+1)))) ae;rw[E7]at q;exact q
     refine⟨_,rfl,m.md,.int (ab+1),rfl,g5,_,rfl,_,rfl,m.ls,_,rfl,dR (o5 _ _ M4.hs (Ne.symm M.n3.2.1)) ap,_,rfl,_,_,rfl,rfl,⟨av,av⟩,z.sa,_,rfl,fQ.k (k:=Sum.inl ((ad+(i:Int))/8)) (o5 _ _ (M4.st _ U) dz.2.2.2.1) (by rw[Tb.cq];have:pl.length<=64:=M2.len U;show pl.length<_;omega),?_⟩;have e6:putK (Tb.dk iS pl) (Sum.inl ((ad+(i:Int))/8)) (.int (ab+1))=Tb.dk iS (Tb.aX pl ((ad+(i:Int))/8) (y.1,ab+1)):=Tb.gO (f:=iS) (a:=(y.1,ab+1)) I;have e7:Tb.dk fW (Tb.aX pl ((ad+(i:Int))/8) (y.1,ab+1))=Tb.dk fW pl:=Tb.p7 (f:=fW) (a:=(y.1,ab+1)) (b:=y) (M2.np _ U) I rfl;have o6:Off (λb=>b=m.md\/b=z.ra\/b=z.sa) Hx (upd (upd Hx m.md (.dK (mH m.lr m.ls bL (ab+1)))) z.sa (.dK (putK (Tb.dk iS pl) (Sum.inl ((ad+(i:Int))/8)) (.int (ab+1))))):=λb o e w=>(by rw[ai (λy=>w (.inr (.inr y))),ai (λy=>w (.inl y))];exact e);have M7:=M4.C8 (pk':=ab+1) (pl:=Tb.aX pl ((ad+(i:Int))/8) (y.1,ab+1)) ap o6 (by rw[ai (Ne.symm dz.2.2.2.1),ae]) (by show upd _ z.sa _ z.ra=_;rw[ai aB,ai dz.1,e7];exact M4.rm _ U) (by show upd _ z.sa _ z.sa=_;rw[ae,e6]) (λu hu=>by
       have ep:∃u'∈pl,u'.2.1=u.2.1:=by
        rcases Tb.mem_set hu with rfl|⟨hu,_⟩
        .exact⟨_,Tb.aA I,rfl⟩
        .exact⟨u,hu,rfl⟩
       obtain⟨u',h1,h2⟩:=ep;obtain⟨a7,J,N⟩:=M4.cl _ U u' h1;rw[<-h2];exact⟨a7,o6 _ _ J (λw=>by
        rcases w with w|w|w
        .rw[w,M4.hm]at J;cases J
        .rw[w,M4.rm _ U]at J;cases J
        .rw[w,M4.st _ U]at J;cases J),N⟩) (by rw[Tb.eX];exact M2.np _ U) (λu hu=>by
       rcases Tb.mem_set hu with rfl|⟨hu,_⟩
       .have h9:=M2.rg _ U ((ad+(i:Int))/8,y) (Tb.aA I);exact h9
       .exact M2.rg _ U u hu)
     rw[yT]at M7;refine⟨_,_,_,ab+1,Tb.aX pl ((ad+(i:Int))/8) (y.1,ab+1),rfl,M7,af,?_,λq hq=>?_,λq hq=>?_,λb o e w=>o6 b o (O4 b o e w) λu=>w ?_⟩
     .rw[<-be];unfold Tb.aX;rw[map_map];refine map_congr_left λu hu=>?_;show((if u.1=(ad+(i:Int))/8 then((ad+(i:Int))/8,(y.1,ab+1))else u).1,(if u.1=(ad+(i:Int))/8 then((ad+(i:Int))/8,(y.1,ab+1))else u).2.1)=(u.1,u.2.1);by_cases cc:u.1=(ad+(i:Int))/8
      .have h1:=Tb.bX (M2.np _ U) hu;rw[cc,I]at h1;rw[if_pos cc, <-cc,Option.some.inj h1]
      .rw[if_neg cc]
     .rw[Tb.bS q I];by_cases cc:q=(ad+(i:Int))/8
      .rw[if_pos cc];exact⟨ab+1,rfl,af⟩
      .rw[if_neg cc];obtain⟨j,h1,h2⟩:=hq;refine ac q ⟨j,?_,h2⟩;by_cases cr:j=i
       .subst cr;exact absurd h2.symm cc
       .omega
     .rw[Tb.bS q I,if_neg (λcc=>hq ⟨i,Nat.lt_succ_self _,cc.symm⟩)];exact bm q λ⟨j,h1,h2⟩=>hq ⟨j,lt_succ_of_lt h1,h2⟩
     .rcases u with u|u|u
      .exact .inl u
      .exact .inr (.inr (.inr ⟨_,O,.inl u⟩))
      .exact .inr (.inr (.inr ⟨_,O,.inr (.inl u)⟩))
    refine gF (λ_=>c9 _ rfl) (λc0=>?_);refine⟨_,rfl,_,_,rfl,rfl,(by show(0:Int)<8;decide),rfl,_,rfl,?_⟩;refine vQ (λ_=>c9 _ rfl) (λc8=>G _ ?_);have c0:¬ ((i:Nat):Int)=0:=λh=>c0 (by rw[h];simp);have c8:¬ (ad+(i:Int))%8=0:=λh=>c8 (decide_eq_true (show V.int ((ad+(i:Int))%8)=V.int 0 by rw[h]));refine⟨_,_,_,ab,pl,rfl,M4,p2,be,λq ⟨j,h1,h2⟩=>?_,λq hq=>bm q λ⟨j,h1,h2⟩=>hq ⟨j,lt_succ_of_lt h1,h2⟩,O4⟩;by_cases cr:j=i
    .subst cr;exact ac q ⟨j-1,af,af⟩
    .exact ac q ⟨j,af,h2⟩
   .rintro σ H2 ⟨v8,v9,ci,ab,pl,rfl,M2,p2,be,ac,bm,o2⟩;rw[length_map]at ac bm;have em:∀y∈pl,(∃y'∈z.pl,y.2.1=y'.2.1)\/H y.2.1=none:=λy I=>by
     have h1:(y.1,y.2.1)∈pl.map λy=>(y.1,y.2.1):=List.mem_map.mpr ⟨y,I,rfl⟩;rw[be]at h1;obtain⟨y',h2,h3⟩:=List.mem_map.mp h1;exact .inl ⟨y',h2,(Prod.mk.inj h3).2.symm⟩
    refine as _ _ ⟨ab,_,M2,p2,⟨λb o e w=>o2 b o (s1 b o e) w,lT R em⟩,by rw[Tb.gc];omega,si R,λt' q=>?_⟩;rw[tV R];by_cases cc:t'=t
    .by_cases Y:q∈Rm.aO ad cs.length
     .rw[if_pos ⟨cc,Y⟩,if_pos cc];exact ac q (fC.mp Y)
     .rw[if_neg (λh=>Y h.2),if_pos cc,bm q (λh=>Y (fC.mpr h)),cc,rF R]
    .rw[if_neg (λh=>cc h.1),if_neg cc]
end
noncomputable abbrev nU:Stmt:=top 49
inductive sC (vs:List V) (H:Hp) (Q:VK) (e3:XK):Prop
 |mk (n:Int) (m:MA) (bL pk:Int) (Z:Zs) (tl:Addr) (ts:List Int) (_:vs=[.int n,.ref m.md,.ref tl]) (_:cA H m bL pk Z) (_:Z≠[]) (_:Z.length<=1000) (_:H tl=some (.lst (ts.map V.int))) (_:ts.length=5) (_:∀(H':Hp) (d:Addr) (D:Dd),aZ H H'->qH H' d D->xB D->(∀t ad c cs,D=.poke t ad c cs->H c=none)->(∀o,D=.close o->∃t,t≠o/\∃z,Tb.look Z t=some z)->Q (.ref d) H'):sC vs H Q e3
inductive mj (vs:List V) (H:Hp) (Q:VK) (e3:XK):Prop
 |mk (t:Addr) (st:Int) (nf ns:Nat) (_:vs=[.ref t,.int st,.int nf,.int ns]) (_:((st=0/\H t=some (.tup [.str "blank"]))\/(st≠0/\∃(b:Bool) (n:Nat),H t=some (.tup (iQ b n))/\n<(if b=true then nf else ns)))) (_:∀H',aZ H H'->Q (.bl true) H'):mj vs H Q e3
section
variable {P:Program}{w:World}{K:PySem.W.Frag}{mg:Str->Option Value}{base:Heap}
theorem CV:aC ["_law_found","_law_stand","_law_frames","_law_slots"] ["_law_found","_law_stand","_law_frames","_law_slots"] (ar nU):=⟨rfl,rfl,rfl,ah,rfl,ah,ah⟩
theorem wR {f:Addr}{fd:FuncData}(F:cN K "_law_placed" "_law_placed" nU f fd) (T:lD mg) (ab:Df P w K mg base aW 1 "_law_whole" oW):bg P w K mg base aW 2 f fd ["_law_found","_law_stand","_law_frames","_law_slots"] mj:=by
 refine F.ok CV (λvs H Q E h=>?_) (λac A outer s H vs Q E N h=>?_)
 .obtain⟨t,st,nf,ns,rfl,_⟩:=h;rfl
 .obtain⟨t,st,nf,ns,rfl,h,k⟩:=h;refine⟨_,(ag (aS (az bN (pv 1) ak (aG _)) (ao (aE (sj (aN dr (by rfl) T.yL bM (aa (pv 0) (aa (dW (v:=.ty "tuple") (by rfl) T.tuple gL rfl) aj))) (oU (jv (pf N.gM) (pv 0) (cF (aa aI aj)) (aG _)))))) aF)
   (ag (aS (PW.pt (gp (yh (gb (aN dr (by rfl) T.yL bM (aa (pv 0) (aa (dW (v:=.ty "tuple") (by rfl) T.tuple gL rfl) aj))))) (gp (az BC (aN bC (by rfl) T.len boot_len (aa (pv 0) aj)) ak (aG _)) (gh (az gf (aY a9 (pv 0) ak (λ_ _=>rfl)) (cF (aa aI (aa aI aj))) (by with_unfolding_all rfl)))))) (ao (aE nD)) aF)
   (ao (aE (sj (pc ab N aw (aa (aY a9 (pv 0) ak (λ_ _=>rfl)) aj)) (oU (yf E2 fV ak (aY a9 (pv 0) ak (λ_ _=>rfl)) (aY cm (bU (aa (pv 2) (aa (pv 3) aj))) (bO dU (by rfl) T.int gJ (aa (jv bN (aY a9 (pv 0) ak (λ_ _=>rfl)) aI (aG _)) aj)) (λ_ _=>rfl))))))))),?_⟩
  try dsimp only[cxK]
  refine⟨_,rfl,rfl,_,rfl,?_⟩;rcases h with⟨Y,G⟩|⟨S,b,n,G,hn⟩
  .subst Y;refine c6 ?_;refine⟨_,rfl,.ref t,"tuple",_,true,rfl,.tup G,uu _,true,rfl,c6 ?_⟩;refine⟨_,rfl,by show 1<=sizeLine;decide,λp J=>?_⟩;have I:=Tb.au (X:=.tup [V.str "blank"]) J;exact⟨t,p,_,_,rfl,rfl,bR.of (I _ _ G),bR.of ae,rfl,rfl,k _ I⟩
  .rw[decide_eq_false (λe=>S (by injection e))];refine bB (vq ?_);dsimp only;refine bV λ_ ji je=>?_;refine⟨_,rfl,.ref t,"tuple",_,true,rfl,.tup G,uu _,true,rfl,bB ?_⟩;refine⟨_,rfl,t,_,rfl,.inr (bR.of G),rfl,_,rfl,?_⟩;refine gF (λc=>absurd c (by show ¬ (!decide (V.int (2:Nat)=V.int 2))=true;decide)) (λ_=>?_);refine⟨_,rfl,t,_,0,_,rfl,rfl,bR.of G,rfl,by show 2<=sizeLine;decide,λp J=>?_⟩;have I:=Tb.au (X:=.tup [V.str "frame",V.str "slot"]) J;refine⟨p,_,rfl,.inr (bR.of ae),rfl,rfl,_,rfl,?_⟩;have R:(!Bx (V.str (if b=true then "frame" else "slot")) [V.str "frame",V.str "slot"])=false:=(by cases b<;>decide +kernel);rw[R];refine je _ ?_;have L:=I _ _ G;generalize upd H p (.tup [V.str "frame",V.str "slot"])=H1 at *;refine⟨_,rfl,t,_,1,_,rfl,rfl,bR.of L,rfl,n,rfl,true,rfl,c6 ?_⟩;refine⟨_,rfl,t,_,1,.int n,rfl,rfl,bR.of L,rfl,0,n,rfl,rfl,_,rfl,?_⟩;rw[decide_eq_true af];refine c6 ?_;refine⟨_,rfl,_,rfl,by show 2<=sizeLine;decide,λl hl=>?_⟩;have O:=Tb.au (X:=.lst [V.int nf,V.int ns]) hl;refine⟨_,rfl,t,_,0,_,rfl,rfl,bR.of (O _ _ L),rfl,rfl,.inr ⟨_,rfl,l,_,_,_,rfl,rfl,bE.of ae,at2 _,?_⟩⟩;have U:(if decide (V.str (if b=true then "frame" else "slot")=V.str "slot")=true then V.int ns else V.int nf)=V.int (if b=true then nf else ns:Nat):=by
    cases b
    .rw[if_pos ah];rfl
    .rw[if_neg ah];rfl
   rw[U];refine⟨_,_,rfl,rfl,?_⟩;show Q (V.bl (decide ((n:Int)<((if b=true then nf else ns:Nat):Int)))) _;rw[decide_eq_true af];exact k _ (I.trans O)
theorem mP:aC ["_law_m","_law_model_here","_law_tasks","_law_rooms","_law_there","_law_kind","_law_rest","_law_task","_law_pages","_law_other","_law_left","_law_at","_law_address"] ["_law_m","_law_model_here","_law_tasks"] (ar yJ):=⟨rfl,rfl,rfl,ah,rfl,ah,ah⟩
theorem AJ {f:Addr}{fd:FuncData}(F:cN K "_law_busy" "_law_busy" yJ f fd) (T:lD mg) (bm:Df P w K mg base aW 1 "_law_held" kK) (bb:Df P w K mg base aW 1 "_law_cells" jO):bg P w K mg base aW 2 f fd ["_law_m","_law_model_here","_law_tasks"] sC:=by
 refine F.ok mP (λvs H Q E h=>?_) (λbI A outer s H vs Q E hr h=>?_)
 .obtain⟨n,m,bL,pk,Z,tl,ts,rfl,_⟩:=h;rfl
 .obtain⟨n,m,bL,pk,Z,tl,ts,rfl,M,zn,lz,be,l5,k⟩:=h;have hs:sizeLine=16777216:=sizeLine_eq;refine⟨_,(ag (aK (i:=3) mP.nd rfl (Or.inl rfl) (bq (bh hr) (pv 1) aI (λ_ _=>rfl)))
   (ag (aK (i:=4) mP.nd rfl (Or.inl rfl) (aN (jy rfl) (by rfl) T.sorted jX (aa (pv 3) aj)))
   (ag (CJ (i:=5) (j:=6) rfl mP.nd rfl rfl av rfl rfl (aa (ay bD (pv 0) ak) (aa (ay bF (pv 0) ak) aj)) rfl)
   (ag (aK (i:=7) mP.nd rfl (Or.inl rfl) (aY cm (pv 4) (ay bD (ay bF (pv 0) ak) (aN bC (by rfl) T.len boot_len (aa (pv 4) aj))) (λ_ _=>rfl)))
   (ag (aK (i:=8) mP.nd rfl (Or.inl rfl) (aN (jy rfl) (by rfl) T.sorted jX (aa (bq (bh hr) (pv 3) (pv 7) (λ_ _=>rfl)) aj)))
   (ag (aK (i:=9) mP.nd rfl (Or.inl rfl) (aY cm (pv 2) (ay bD (pv 6) (aN bC (by rfl) T.len boot_len (aa (pv 2) aj))) (λ_ _=>rfl)))
   (ag (aS (PW.pt (gp (az fV (pv 5) ak (aG _)) (gh (az (B6 hr.gM) (pv 8) (bU aj) (aG _))))) (ag (aK (i:=10) mP.nd rfl (Or.inl rfl) (ay oi (bq (bh hr) (pv 1) aI (λ_ _=>rfl)) (pc bm hr aw (aa (pv 1) aj))))
   (ao (aE (cF (aa aI (aa (pv 7) (aa (ay bD (pv 6) ak) (aa (ay bu ak (ay bD (ay bF (pv 6) ak) (aN (nv rfl) (by rfl) T.max ya (aa ak (aa (aN (vT rfl) (by rfl) T.min C5 (aa ak (aa (pv 10) aj))) aj))))) aj)))))))) aF)
   (ag (aS (PW.pt (k8 (az fV (pv 5) ak (aG _)) (jI (gU (eT (bh hr) (pv 9) (pv 3)))))) (ao (aE (cF (aa aI (aa (pv 7) (aa (pv 9) aj)))))) aF)
   (ag (aS (PW.pt (k8 (az bN (pv 5) ak (aG _)) (jI (az BC (pv 9) (pv 7) (aG _))))) (ao (aE (cF (aa aI (aa (pv 9) aj))))) aF)
   (ag (aK (i:=11) mP.nd rfl (Or.inl rfl) (ay bD (pv 6) (aN bC (by rfl) T.len boot_len (aa (pv 8) aj))))
   (ag (aS (az bN (pv 5) ak (aG _)) (ao (aE (cF (aa aI (aa (pv 7) (aa (aY cm (pv 8) (pv 11) (λ_ _=>rfl)) (aa ak aj))))))) aF)
   (ag (aK (i:=12) mP.nd rfl (Or.inl rfl) (ay bu (ay eY ak (aY cm (pv 8) (pv 11) (λ_ _=>rfl))) (ay bD (ay bF (pv 6) ak) ak)))
   (ag (aS (az fV (pv 5) ak (aG _)) (ao (aE (cF (aa aI (aa (pv 7) (aa (pv 12) (aa (ay bu ak (ay bD (ay bF (pv 6) ak) ak)) aj))))))) aF)
   (ao (aE (cF (aa aI (aa (pv 7) (aa (pv 12) (aa (pc bb hr aw (aa (ay bF (pv 6) ak) (aa (ay bu ak (ay bD (ay bF (pv 6) ak) ak)) aj))) aj)))))))))))))))))))),?_⟩
  try dsimp only[cxK]
  have bl:(Tb.dk iT Z).map (·.1)=(Z.map (·.1)).map Sum.inl:=(by unfold Tb.dk;rw[map_map,map_map];rfl);refine gy λ_ I=>?_;refine⟨_,rfl,m.md,.ref m.lr,rfl,M.g (Bf _ _ _ _),I _ _ ?_⟩;clear I;refine gy λ_ I=>?_;refine⟨_,rfl,m.lr,_,Z.map (·.1),rfl,M.hr,bl,M.nd,by rw[length_map];exact lz,λY ks a7 ap _=>I _ _ ?_⟩;clear I;have s1:=Tb.au (X:=.lst (ks.map V.int)) a7;have h1:upd H Y (.lst (ks.map V.int)) Y=some (.lst (ks.map V.int)):=ae;have M1:=M.same s1;generalize upd H Y (.lst (ks.map V.int))=H1 at *;have bv:0<ks.length:=by
   rw[ap.length_eq,length_map];exact List.length_pos_iff.mpr zn
  refine⟨_,rfl,_,_,rfl,rfl,(by show(0:Int)<16;decide),_,rfl,_,_,rfl,rfl,⟨av,av⟩,_,_,rfl,?_⟩;have bx:=emod_nonneg n (show(16:Int)≠0 by decide);have bG:=emod_lt_of_pos n (show(0:Int)<16 by decide);dsimp only;generalize n%16=kd at *;generalize n/96=G;refine gy λ_ I=>?_;obtain⟨b1,b2⟩:=at_of (xs:=ks) (i:=n/16%(ks.length:Int)) (n:=ks.length) (emod_nonneg _ af) (emod_lt_of_pos _ af) rfl;generalize ks.getD (n/16%(ks.length:Int)).toNat 0=tk at b1 b2;refine⟨_,rfl,_,rfl,_,_,rfl,rfl,⟨av,av⟩,_,rfl,Y,_,rfl,.inl (bE.of h1),_,_,rfl,rfl,by show(0:Int)<((ks.map V.int).length:Nat);rw[length_map];lia,Y,_,_,.int tk,rfl,rfl,bE.of h1,by rw[length_map];exact b1,I _ _ ?_⟩;clear I;obtain⟨z,ez⟩:∃z,Tb.look Z tk=some z:=by
   have h2:=ap.mem_iff.mp b2;cases e:Tb.look Z tk with
   |some z=>exact⟨z,rfl⟩
   |none=>exact absurd h2 (Tb.cj e)
  have ac:=Tb.aA ez;have a6:(Tb.dk fW z.pl).map (·.1)=(z.pl.map (·.1)).map Sum.inl:=(by unfold Tb.dk;rw[map_map,map_map];rfl);refine gy λ_ I=>?_;refine⟨_,rfl,_,rfl,m.lr,_,rfl,dR M1.hr ez,z.ra,_,z.pl.map (·.1),rfl,M1.rm _ ac,a6,M1.np _ ac,by rw[length_map];have:z.pl.length<=64:=M1.len ac;lia,λN ps bi a5 _=>I _ _ ?_⟩;clear I;have s2:=Tb.au (X:=.lst (ps.map V.int)) bi;have h2:upd H1 N (.lst (ps.map V.int)) N=some (.lst (ps.map V.int)):=ae;have M2:=M1.same s2;have S2:=s1.trans s2;generalize upd H1 N (.lst (ps.map V.int))=H2 at *;have aB:=S2 _ _ be;refine gy λ_ I=>?_;obtain⟨b3,_⟩:=at_of (xs:=ts) (i:=G%5) (n:=5) af af af;generalize ts.getD (G%5).toNat 0=O at b3;refine⟨_,rfl,_,rfl,_,rfl,tl,_,rfl,.inl (bE.of aB),_,_,rfl,rfl,by show(0:Int)<((ts.map V.int).length:Nat);rw[length_map,l5];decide,tl,_,_,.int O,rfl,rfl,bE.of aB,by rw[length_map,l5];exact b3,I _ _ ?_⟩;clear I;have bz:∀q∈ps,0<=q/\q<64:=λq hq=>by
   obtain⟨y,hy,e⟩:=List.mem_map.mp (a5.mem_iff.mp hq);rw[<-e];exact M.rg _ ac y hy
  have ab:∀{R d} (D:Dd),aZ H2 R->qH R d D->xB D->(∀t ad c cs,D=.poke t ad c cs->H c=none)->(∀o,D=.close o->∃t,t≠o/\∃z,Tb.look Z t=some z)->Q (.ref d) R:=λ{R d} D sx a1 a2 a3 a4=>k R d D (S2.trans sx) a1 a2 a3 a4;refine jV (λσ H9=>aZ H2 H9/\ps≠[]/\σ=[some (.int n),some (.ref m.md),some (.ref tl),some (.ref m.lr),some (.ref Y),some (.int kd),some (.int G),some (.int tk),some (.ref N),some (.int O),none,none,none]) (λ_ QQ S L=>?A) ?B
  case A =>
   have mp:∀R,aZ H2 R->QQ true R:=λR sx=>by
    have Mx:=M2.same sx;refine S _ ?_;refine⟨_,rfl,m.md,.int bL,rfl,Mx.g (Ca _ _ _ _),_,rfl,m,bL,pk,Z,rfl,Mx,lz,λH4 s4=>?_⟩;refine⟨_,_,rfl,rfl,?_⟩;have mx:∀U:Int,0<(if (if U<9 then U else 9)>1 then(if U<9 then U else 9)else 1)/\(if (if U<9 then U else 9)>1 then(if U<9 then U else 9)else 1)<=(9:Int):=λU=>(by split<;>split<;>lia);obtain⟨x1,x2⟩:=mx (bL-r6 Z);have r0:=emod_nonneg G (show(64:Int)≠0 by decide);have r1:=emod_lt_of_pos G (show(0:Int)<64 by decide);have q0:=emod_nonneg (G/64) (show(if (if bL-r6 Z<9 then bL-r6 Z else 9)>1 then(if bL-r6 Z<9 then bL-r6 Z else 9)else 1)≠0 by omega +splitNatSub);have q1:=emod_lt_of_pos (G/64) x1;refine⟨_,rfl,_,rfl,_,_,rfl,rfl,(by show(0:Int)<64;decide),_,rfl,_,_,rfl,rfl,⟨av,av⟩,_,rfl,_,_,rfl,_,_,rfl,_,_,rfl,rfl,x1,_,_,rfl,rfl,by show 4<=sizeLine;decide,λd hd=>?_⟩;refine ab (.map tk (G%64) (1+G/64%(if (if bL-r6 Z<9 then bL-r6 Z else 9)>1 then(if bL-r6 Z<9 then bL-r6 Z else 9)else 1))) (sx.trans (s4.trans (Tb.au hd))) ⟨ae,λ_ _ _ _ e=>by cases e⟩ ⟨r0,r1,by omega +splitNatSub,by omega +splitNatSub⟩ (λ_ _ _ _ e=>by cases e) (λ_ e=>by cases e)
   refine⟨_,rfl,_,_,rfl,rfl,_,rfl,?_⟩;by_cases c2:kd<2
   .rw[decide_eq_true c2];exact c6 (mp _ (aZ.refl H2))
   .rw[decide_eq_false c2];refine bB ?_;refine⟨_,rfl,av,λl3 bc=>?_⟩;have J:=Tb.au (X:=.lst []) bc;refine⟨N,l3,_,_,rfl,rfl,bE.of (J _ _ h2),bE.of ae,gX _,rfl,_,rfl,?_⟩;cases ps with
    |nil=>exact mp _ J
    |cons q r=>exact L _ ⟨J,(λe=>by cases e),rfl⟩
  case B =>
  rintro σ H3 ⟨J,pn,rfl⟩;have M3:=M2.same J;have bn:0<ps.length:=List.length_pos_iff.mpr pn;refine jV (λσ H9=>H9=H3/\σ=[some (.int n),some (.ref m.md),some (.ref tl),some (.ref m.lr),some (.ref Y),some (.int kd),some (.int G),some (.int tk),some (.ref N),some (.int O),none,none,none]) (λ_ QQ S L=>?A2) ?B2
  case A2 =>
   refine⟨_,rfl,_,_,rfl,rfl,_,rfl,?_⟩;by_cases c2:kd<5
   .rw[decide_eq_true c2];refine c6 ?_;refine⟨_,rfl,_,rfl,m.lr,_,rfl,eU (t:=O) M3.hr,?_⟩;cases eo:Tb.look Z O with
    |some _=>exact⟨false,rfl,L _ ⟨rfl,rfl⟩⟩
    |none =>
     refine⟨true,rfl,S _ ?_⟩;exact⟨_,rfl,_,rfl,by show 3<=sizeLine;decide,λd hd=>ab (.copy tk O) (J.trans (Tb.au hd)) ⟨ae,λ_ _ _ _ e=>by cases e⟩ trivial (λ_ _ _ _ e=>by cases e) (λ_ e=>by cases e)⟩
   .rw[decide_eq_false c2];exact bB (L _ ⟨rfl,rfl⟩)
  case B2 =>
  rintro σ bd ⟨e3,rfl⟩;subst e3;refine jV (λσ H9=>H9=bd/\σ=[some (.int n),some (.ref m.md),some (.ref tl),some (.ref m.lr),some (.ref Y),some (.int kd),some (.int G),some (.int tk),some (.ref N),some (.int O),none,none,none]) (λ_ QQ S L=>?A3) ?B3
  case A3 =>
   refine⟨_,rfl,rfl,_,rfl,?_⟩;refine gF (λ_=>?_) (λ_=>L _ ⟨rfl,rfl⟩);refine⟨_,rfl,_,rfl,rfl,_,rfl,?_⟩;refine vQ (λc3=>S _ ?_) (λ_=>L _ ⟨rfl,rfl⟩);have c3:O≠tk:=λe=>(by rw[e]at c3;simp at c3);exact⟨_,rfl,by show 2<=sizeLine;decide,λd hd=>ab (.close O) (J.trans (Tb.au hd)) ⟨ae,λ_ _ _ _ e=>by cases e⟩ trivial (λ_ _ _ _ e=>by cases e) (λo e=>by cases e;exact⟨tk,Ne.symm c3,z,ez⟩)⟩
  case B3 =>
  rintro σ H4 ⟨e4,rfl⟩;subst e4;have am:=J _ _ h2;have p0:0<=G%(ps.length:Int):=emod_nonneg _ af;have p1:G%(ps.length:Int)<ps.length:=emod_lt_of_pos _ af;obtain⟨b5,b6⟩:=at_of (xs:=ps) (i:=G%(ps.length:Int)) (n:=ps.length) p0 p1 rfl;generalize ps.getD (G%(ps.length:Int)).toNat 0=pq at b5 b6;obtain⟨z0,z1⟩:=bz pq b6;refine gy λ_ I=>?_;refine⟨_,rfl,_,rfl,N,_,rfl,.inl (bE.of am),_,_,rfl,rfl,by show(0:Int)<((ps.map V.int).length:Nat);rw[length_map];lia,I _ _ ?_⟩;clear I;rw[length_map];refine jV (λσ H9=>H9=H4/\σ=[some (.int n),some (.ref m.md),some (.ref tl),some (.ref m.lr),some (.ref Y),some (.int kd),some (.int G),some (.int tk),some (.ref N),some (.int O),none,some (.int (G%(ps.length:Int))),none]) (λ_ QQ S L=>?A4) ?B4
  case A4 =>
   refine⟨_,rfl,rfl,_,rfl,?_⟩;refine vQ (λ_=>S _ ?_) (λ_=>L _ ⟨rfl,rfl⟩);exact⟨_,rfl,_,rfl,_,rfl,N,_,_,.int pq,rfl,rfl,bE.of am,b5,by show 4<=sizeLine;decide,λd hd=>ab (.drop tk pq 1) (J.trans (Tb.au hd)) ⟨ae,λ_ _ _ _ e=>by cases e⟩ ⟨z0,z1,av,av⟩ (λ_ _ _ _ e=>by cases e) (λ_ e=>by cases e)⟩
  case B4 =>
  rintro σ H5 ⟨e5,rfl⟩;subst e5;have a0:=emod_nonneg (G/64) (show(8:Int)≠0 by decide);have a1:=emod_lt_of_pos (G/64) (show(0:Int)<8 by decide);have m0:=emod_nonneg (G/512) (show(11:Int)≠0 by decide);have m1:=emod_lt_of_pos (G/512) (show(0:Int)<11 by decide);obtain⟨nn,aT⟩:∃nn:Nat,(nn:Int)=1+G/512%11:=⟨(1+G/512%11).toNat,af⟩;refine gy λ_ I=>?_;refine⟨_,rfl,_,rfl,N,_,_,.int pq,rfl,rfl,bE.of am,b5,_,_,rfl,rfl,.inl ⟨av,av⟩,_,rfl,_,_,rfl,rfl,⟨av,av⟩,_,_,rfl,rfl,(by show(0:Int)<8;decide),_,_,rfl,rfl,I _ _ ?_⟩;clear I
  try dsimp only
  refine bV λQQ S L=>?_;refine⟨_,rfl,_,_,rfl,rfl,_,rfl,?_⟩;by_cases as:kd<10
  .rw[decide_eq_true as];refine S _ ?_;refine⟨_,rfl,_,rfl,_,rfl,_,_,rfl,rfl,⟨av,av⟩,_,_,rfl,rfl,(by show(0:Int)<11;decide),_,_,rfl,rfl,by show 4<=sizeLine;decide,λd hd=>?_⟩;dsimp only at *;refine ab (.peek tk (8*pq+G/64%8) nn) (J.trans (Tb.au hd)) ⟨?_,λ_ _ _ _ e=>by cases e⟩ ⟨af,af,af,af⟩ (λ_ _ _ _ e=>by cases e) (λ_ e=>by cases e);show upd H5 d _ d=some (.tup [.str "peek",.int tk,.int (8*pq+G/64%8),.int nn]);rw[ae,aT]
  .rw[decide_eq_false as];refine L _ ?_;refine⟨_,rfl,_,rfl,_,rfl,_,_,rfl,rfl,⟨av,av⟩,_,rfl,_,_,rfl,rfl,⟨av,av⟩,_,_,rfl,rfl,(by show(0:Int)<11;decide),_,_,rfl,rfl,G/4096,nn,by rw[aT];rfl,af,λcs H6 cl lc s6 ba h6=>?_⟩;refine⟨by show 4<=sizeLine;decide,λd hd=>?_⟩;have s7:=Tb.au (X:=.tup [V.str "poke",V.int tk,V.int (8*pq+G/64%8),V.ref cl]) hd;refine ab (.poke tk (8*pq+G/64%8) cl cs) (J.trans (s6.trans s7)) ⟨ae,λ_ _ _ _ e=>by cases e;exact s7 _ _ h6⟩ ⟨af,af,af,af⟩ (λ_ _ _ _ e=>by cases e;exact S2.free (J.free ba)) (λ_ e=>by cases e)
end
structure z7 (c:CA) (H:Hp) (M:Addr->Prop) (a:RA) (m:MA) (nf ns k:Nat) (s:Pg.PS) (cv:Int->Int->List Int) (pk:Int) (W:eF) (Z:Zs):Prop where
 R:ax c H M a s W
 ri:Pg.RI s (ents W)
 cv:Cv s W cv
 D:cA H m (bL s) pk Z
 p0:0<=pk
 sp:∀b,cM m Z b->M b/\¬ a.own W b
 tw:Tw W Z
 lf:(s.ow true).length=nf
 ls:(s.ow false).length=ns
 zn:Z≠[]
 lw:W.length<=k
 lz:Z.length<=k
section
variable {c:CA}{H H' H2:Hp}{M M':Addr->Prop}{a:RA}{m:MA}{nf ns k:Nat}{s s':Pg.PS}{cv:Int->Int->List Int}{pk tt:Int}{W W':eF}{Z Z':Zs}
theorem z7.same (S:z7 c H M a m nf ns k s cv pk W Z) (e:aZ H H'):z7 c H' M a m nf ns k s cv pk W Z:=⟨S.R.same e,S.ri,S.cv,S.D.same e,S.p0,S.sp,S.tw,S.lf,S.ls,S.zn,S.lw,S.lz⟩
theorem zH (R:ax c H M a s W) (D:cA H m tt pk Z) (sp:∀b,cM m Z b->M b/\¬ a.own W b) {pk':Int}(G:cA H' m tt pk' Z') (st:xH m H Z H' Z') :
  ax c H' (λb=>(M b/\¬ cM m Z b)\/cM m Z' b) a s W/\∀b,cM m Z' b->((M b/\¬ cM m Z b)\/cM m Z' b)/\¬ a.own W b:=by
 refine⟨R.Bb (B:=cM m Z) st.1 sp D.alive (λb z=>z.elim (λz=>.inl z.1) λz=>(st.2 b z).elim (λz=>.inl (sp b z).1) .inr) (λb z w=>.inl ⟨z,w⟩) (λb z e=>?_),λb z=>⟨.inr z,?_⟩⟩
 .rcases z with z|z
  .cases F:H b with
   |none=>exact R.mt b z.1 F
   |some u=>rw[st.1 b u F z.2]at e;cases e
  .rcases G.alive b z with⟨_,h⟩|⟨_,h⟩
   .rw[e]at h;cases h
   .rw[e]at h;cases h
 .rcases st.2 b z with z|z
  .exact(sp b z).2
  .exact λw=>R.mt b (R.dD b w) z
theorem qW (D:cA H m tt pk Z) (sp:∀b,cM m Z b->M b/\¬ a.own W b) (st:Step H M (a.own W) H' M' (a.own W')):cA H' m tt pk Z/\∀b,cM m Z b->M' b/\¬ a.own W' b:=by
 refine⟨D.off st.off λb z=>(sp b z).2,λb z=>⟨st.mm b (sp b z).1 (sp b z).2,λw=>?_⟩⟩;rcases st.on b w with w|w
 .exact(sp b z).2 w
 .rcases D.alive b z with⟨_,h⟩|⟨_,h⟩
  .rw[w]at h;cases h
  .rw[w]at h;cases h
theorem rh {α J:Type}{l:List (Int×α)}{F:List (Int×J)}(N:(l.map (·.1)).Nodup) (L:(F.map (·.1)).Nodup) (h:∀q,Tb.look l q=none↔Tb.look F q=none):(l.map (·.1)).Perm (F.map (·.1)):=by
 have G:∀{I:Type}{l:List (Int×I)}{q:Int},q∈l.map (·.1)↔¬ Tb.look l q=none:=λ{I l q}=>⟨λh e=>Tb.cj e h,λh=>by
  cases e:Tb.look l q with
  |none=>exact absurd e h
  |some a=>exact List.mem_map.mpr ⟨_,Tb.aA e,rfl⟩⟩
 rw[List.perm_ext_iff_of_nodup N L];intro q;rw[G,G,h q]
theorem Tw.look (T:Tw W Z) (t:Int):Tb.look W t=none↔Tb.look Z t=none:=by
 have h:=T.h t;unfold hW hZ at h;cases G:Tb.look W t with
 |none=>cases F:Tb.look Z t with
  |none=>exact⟨λ_=>rfl,λ_=>rfl⟩
  |some z=>rw[G,F]at h;cases h
 |some x=>cases F:Tb.look Z t with
  |none=>rw[G,F]at h;cases h
  |some z=>exact⟨nofun,nofun⟩
theorem Tw.vW (T:Tw W Z) {t:Int}{x:TD}{z:MT}(I:Tb.look W t=some x) (J:Tb.look Z t=some z) (q:Int):Tb.look x.t q=none↔Tb.look z.pl q=none:=by
 have h:=T.e t q;rw[rT I,rF J]at h;cases G:Tb.look x.t q with
 |none=>cases F:Tb.look z.pl q with
  |none=>exact⟨λ_=>rfl,λ_=>rfl⟩
  |some z=>rw[G,F]at h;cases h
 |some x=>cases F:Tb.look z.pl q with
  |none=>rw[G,F]at h;cases h
  |some z=>exact⟨nofun,nofun⟩
theorem Tw.get (T:Tw W Z) {t:Int}{z:MT}(F:Tb.look Z t=some z):∃x,Tb.look W t=some x:=by
 cases e:Tb.look W t with
 |some x=>exact⟨x,rfl⟩
 |none=>rw[(T.look t).mp e]at F;cases F
theorem xN {l F:List Int}(p:l.Perm F):l.sum=F.sum:=by
 induction p with
 |nil=>rfl
 |cons x _ I=>rw[sum_cons,sum_cons,I]
 |swap x y l=>rw[sum_cons,sum_cons,sum_cons,sum_cons];lia
 |trans _ _ J G=>exact J.trans G
theorem Tw.len (T:Tw W Z) (R:ax c H M a s W) (D:cA H m tt pk Z) {t:Int}{x:TD}{z:MT}(F:Tb.look W t=some x) (G:Tb.look Z t=some z):x.t.length=z.pl.length:=by
 have:=(rh (R.tb _ (Tb.aA F)).nd (D.np _ (Tb.aA G)) (T.vW F G)).length_eq;rw[length_map,length_map]at this;exact this
theorem Tw.held (T:Tw W Z) (R:ax c H M a s W) (D:cA H m tt pk Z):r6 Z=((ents W).length:Int):=by
 rw[<-lU];have p:=(rh R.nd D.nd T.look).symm;have q:=xN (p.map λt:Int=>(((Tb.look W t).map λx=>(x.t.length:Int)).getD 0));rw[map_map,map_map]at q;unfold r6 heldW;rw[show(Z.map λx=>(x.2.pl.length:Int))=Z.map ((λt:Int=>(((Tb.look W t).map λx=>(x.t.length:Int)).getD 0))∘(·.1))from map_congr_left λx F=>by
  have G:=Tb.bX D.nd F;obtain⟨y,I⟩:=T.get G;show((x.2.pl.length:Nat):Int)=(((Tb.look W x.1).map λx=>(x.t.length:Int)).getD 0);rw[I, <-T.len R D I G];rfl]
 rw[q];refine congrArg List.sum (map_congr_left λx F=>?_);show(((Tb.look W x.1).map λx=>(x.t.length:Int)).getD 0)=(x.2.t.length:Int);rw[Tb.bX R.nd F];rfl
theorem vm {x:TD}{z:MT}{ad:Int}{n:Nat}(N:∀q,Tb.look x.t q=none↔Tb.look z.pl q=none) (R:0<=ad) (h:uV z.pl ad n):¬ Rm.dn ad n (x.t.map (·.1)):=by
 obtain⟨h1,h2⟩:=h;rintro(w|⟨w,F⟩)
 .lia
 .rcases F with F|F
  .unfold Rm.cn Rm.jq Rm.iw at F;lia
  .refine F λq O=>?_;have L:q∈Rm.aO ad n:=by
    unfold Rm.aO;rw[if_neg af];exact O
   obtain⟨j,J,e⟩:=fC.mp L;have I:=h2 j J;rw[e]at I;cases G:Tb.look x.t q with
   |none=>exact absurd ((N q).mp G) I
   |some v=>exact List.mem_map.mpr ⟨_,Tb.aA G,rfl⟩
theorem Ec (T:Tw W Z) (R:ax c H M a s W) (D:cA H m tt pk Z) {Dd:Dd}(ok:xB Dd) (f:CQ Z (bL s) Dd):Bn W (bL s) Dd:=by
 have N:=T.held R D;cases Dd with
 |begin t=>exact ok
 |close t=>obtain⟨z,F⟩:=f;exact T.get F
 |map t p S =>
  obtain⟨z,F,I,J,O⟩:=f;obtain⟨x,G⟩:=T.get F;exact⟨x,G,I,λq L=>(T.vW G F q).mpr (J q L),by rw[<-N];exact O⟩
 |drop t p S =>
  obtain⟨z,F,I,J⟩:=f;obtain⟨x,G⟩:=T.get F;exact⟨x,G,I,λq L w=>J q L ((T.vW G F q).mp w)⟩
 |peek t ad n =>
  obtain⟨z,F,I⟩:=f;obtain⟨x,G⟩:=T.get F;exact⟨x,G,vm (T.vW G F) ok.1 I,ok.1,ok.2.1,ok.2.2.2⟩
 |poke t ad U cs =>
  obtain⟨z,F,I⟩:=f;obtain⟨x,G⟩:=T.get F;exact⟨x,G,vm (T.vW G F) ok.1 I,ok.1,ok.2.1,ok.2.2.2⟩
 |copy t o =>
  obtain⟨z,F,I,J⟩:=f;obtain⟨x,G⟩:=T.get F;exact⟨x,G,(T.look o).mpr I,by rw[<-N,T.len R D G F];exact J⟩
end
inductive pK (c:CA) (vs:List V) (H:Hp) (Q:VK) (e3:XK):Prop
 |mk (n:Int) (_:vs=[.int n]) (_:∀(H':Hp) (t:Addr) (M:Addr->Prop) (a:RA) (m:MA) (s:Pg.PS) (cv:Int->Int->List Int) (pk:Int) (W:eF) (Z:Zs),aZ H H'->z7 c H' M a m (iM n) (jh n) 1 s cv pk W Z->(∀b,M b->H b=none)->H' t=some (.tup [.ref a.rp,.ref m.md])->Q (.ref t) H'):pK c vs H Q e3
section
variable {P:Program}{w:World}{K:PySem.W.Frag}{mg:Str->Option Value}{base:Heap}
theorem yF:aC ["_law_m","_law_frames","_law_slots","_law_kept","_law_model_here"] ["_law_m"] (ar uP):=⟨rfl,rfl,rfl,ah,rfl,ah,ah⟩
theorem yl {f ac:Addr}{fd ad:FuncData}{c:CA}(F:cN K "_law_begun" "_law_begun" uP f fd) (TR:qU K mg c) (MK:Fh P w K mg base c) (MR:Mk K c.C ac) (bc:mg "Rooms" = some (.ref c.C)) (a5:Df P w K mg base aW 1 "_law_sizes" kT) (aB:bg P w K mg base aW 5 ac ad ["self","frames","slots"] (nQ c)) (bd:Binds K ad ["self","frames","slots"] []) (a6:Df P w K mg base aW 1 "_law_model" pB) (a0:Df P w K mg base aW 1 "_law_done" oV):bg P w K mg base aW 7 f fd ["_law_m"] (pK c):=by
 refine F.ok yF (λvs H Q E h=>?_) (λbn A outer s H vs Q E I h=>?_)
 .obtain⟨n,rfl,_⟩:=h;rfl
 .obtain⟨n,rfl,k⟩:=h;have hs:sizeLine=16777216:=sizeLine_eq;obtain⟨_,f2,bi⟩:=xq n;obtain⟨_,bv⟩:=yk n;refine⟨_,(ag (cI (pc a5 I aw (aa (pv 0) aj)) (dF rfl (bo (a8 (i:=1) yF.nd rfl (Or.inl rfl)) (bo (a8 (i:=2) yF.nd rfl (Or.inl rfl)) cW))))
   (ag (aK (i:=3) yF.nd rfl (Or.inl rfl) (kU MR aB (I.mono av) (by rfl) bc bd .nil aw (aa (pv 1) (aa (pv 2) aj))))
   (ag (aK (i:=4) yF.nd rfl (Or.inl rfl) (pc a6 I aw (aa (ay bu (pv 1) (pv 2)) aj)))
   (ag (aL (pm (pv 3) TR.cl MK.Ho I aw (aa ak aj)))
   (ag (aL (pc a0 I aw (aa (pv 4) (aa (cF (aa aI (aa ak aj))) aj))))
   (ao (aE (cF (aa (pv 3) (aa (pv 4) aj)))))))))),?_⟩
  refine⟨_,rfl,n,rfl,λH1 t1 s1 bm ba=>⟨t1,_,rfl,bR.of ba,rfl,_,_,rfl,_,_,rfl,rfl,?_⟩⟩;refine⟨_,rfl,_,rfl,λrp dx np ap bl=>⟨rp,dx,iM n,jh n,rfl,af,by omega +splitNatSub,af,ae,λH2 M a ea R fr o2=>⟨rfl,?_⟩⟩⟩;have s2:aZ H1 H2:=λb u e=>o2 b u (by rw[ai (aq e np),ai (aq e ap)];exact e) (aq e np);have am:∀b,M b->H b=none:=λb z=>s1.free (cz (cz (fr b z)).2).2;clear o2 fr;rw[<-ea];have et:bL (s0 (iM n) (jh n))=((iM n:Nat):Int)+((jh n:Nat):Int):=by
   unfold bL;rw[show((s0 (iM n) (jh n)).ow true).length=iM n from length_replicate,show((s0 (iM n) (jh n)).ow false).length=jh n from length_replicate];lia
  refine⟨_,rfl,_,rfl,_,_,rfl,rfl,_,rfl,λH3 m S g1 g2 g3 D3=>?_⟩;rw[<-et]at D3;have L:=s1.trans s2;have a4:∀b,cM m [] b->H3 b≠none:=λb z e=>by
   rcases D3.alive b z with⟨_,h⟩|⟨_,h⟩
   .rw[e]at h;cases h
   .rw[e]at h;cases h
  have N:∀b,cM m [] b->H2 b=none:=λb z=>by
   rcases z with z|z|z|⟨x,G,_⟩
   .rw[z];exact g1
   .rw[z];exact g2
   .rw[z];exact g3
   .cases G
  have R3:=R.Bb (H':=H3) (B:=λ_=>False) (M':=λb=>M b\/cM m [] b) (λb o e _=>S b o e) (λb z=>z.elim) (λb z=>z.elim) (λb z=>z.elim .inl λz=>.inr (N b z)) (λb z _=>.inl z) (λb z e=>z.elim (λz=>(R.same S).mt b z e) λz=>a4 b z e);have a1:∀b,cM m [] b->(M b\/cM m [] b)/\¬ a.own [] b:=λb z=>⟨.inr z,λw=>R.mt b (R.dD b w) (N b z)⟩;obtain⟨a7,ho⟩:=R3.ob;refine⟨_,rfl,a.rp,a7,_,rfl,ho,gB _ _ _ ah ah ah,_,a,_,[],1,rfl,R3,rfl,zero_le _,λH4 M4 y ey R4 ab=>?_⟩;obtain⟨D4,U⟩:=qW D3 a1 ab;have Y:∀b,M4 b->H b=none:=λb z=>by
   rcases ab.mn b z with z|z
   .exact z.elim (am b) λz=>L.free (N b z)
   .exact L.free (S.free z)
  have S4:aZ H H4:=λb u e=>ab.off b u (S _ _ (L _ _ e)) λw=>by
   have:=R3.dD b w;rcases this with h|h
   .rw[am b h]at e;cases e
   .rw[L.free (N b h)]at e;cases e
  refine⟨_,rfl,by show 2<=sizeLine;decide,λd hd=>?_⟩;have J:=Tb.au (X:=.tup [V.str "begin",V.int 1]) hd;refine⟨m,_,0,[],d,.begin 1,rfl,D4.same J,Int.le_refl _,zero_le _,⟨ae,λ_ _ _ _ e=>by cases e⟩,rfl,(λ_ _ _ _ e=>by cases e),(λ_ _ _ e=>by cases e),λH6 a2 O v D6 p6 z6 l6 h6 e6=>?_⟩;have R5:=R4.same J;obtain⟨R6,aT⟩:=zH R5 (D4.same J) U D6 z6;have bb:∀b,((M4 b/\¬ cM m [] b)\/cM m O b)->H b=none:=λb z=>by
   rcases z with z|z
   .exact Y b z.1
   .rcases z6.2 b z with z|z
    .exact Y b (U b z).1
    .exact S4.free (J.free z)
  have S6:aZ H H6:=λb u e=>z6.1 b u (J _ _ (S4 _ _ e)) λw=>(by rw[Y b (U b w).1]at e;cases e);refine⟨_,rfl,_,rfl,by show 2<=sizeLine;decide,λtp a3=>?_⟩;have st:=Tb.au (X:=.tup [.ref a.rp,.ref m.md]) a3;have be:Pg.RI (s0 (iM n) (jh n)) (ents ([]++[(1,y)])):=by
   rw[qK,ey];exact EM af
  have T0:Tw [] []:=⟨λ_=>rfl,λ_ _=>rfl⟩;have T6:Tw ([]++[(1,y)]) O:=T0.next (D:=.begin 1) (λt'=>by
    unfold hW;rw[Tb.bK t' rfl];by_cases z:t'=1
    .rw[if_pos z,decide_eq_true z];rfl
    .rw[if_neg z,decide_eq_false z];rfl) h6 (λt' q=>by
    unfold eW;rw[Tb.bK t' rfl];by_cases z:t'=1
    .rw[if_pos z,if_pos z,bind_some,ey];rfl
    .rw[if_neg z,if_neg z]) e6
  have as:O≠[]:=λe=>by
   have:=T6.h 1;rw[e]at this;unfold hW hZ at this;rw[Tb.bK 1 rfl,if_pos rfl]at this;cases this
  refine k _ tp _ a m _ (λ_ _=>[]) a2 _ O (S6.trans st) (z7.same ⟨R6,be,λt x G q e he=>?_,D6,p6,aT,T6,length_replicate,length_replicate,as,le_refl _,l6⟩ st) bb ae;rw[Tb.bK t rfl]at G;by_cases z:t=1
  .rw[if_pos z]at G;cases G;rw[ey]at he;cases he
  .rw[if_neg z]at G;cases G
end
noncomputable abbrev jj:Stmt:=top 50
inductive rQ (K:PySem.W.Frag) (vs:List V) (H:Hp) (Q:VK) (e3:XK):Prop
 |mk (a:Addr) (ns:List Int) (_:vs=[.ref a]) (_:bE K H a (ns.map V.int)) (_:ns.length<=63) (_:∀H',Q (.bl true) H'):rQ K vs H Q e3
section
variable {P:Program}{w:World}{K:PySem.W.Frag}{mg:Str->Option Value}{base:Heap}
theorem eD:aC ["_law_script","_law_m","_law_frames","_law_slots","_law_kept","_law_model_here","_law_low","_law_tasks","_law_k","_law_number_here","_law_deed","_law_task","_law_stands","_law_page"] ["_law_script"] (ar jj):=⟨rfl,rfl,rfl,ah,rfl,ah,ah⟩
theorem BJ {f:Addr}{fd:FuncData}{c:CA}(F:cN K "law" "law" jj f fd) (T:lD mg) (TR:qU K mg c) (MK:Fh P w K mg base c) (dM:Df P w K mg base aW 2 "_law_number" (kX K)) (fl:Df P w K mg base aW 1 "_law_sizes" kT) (ew:Df P w K mg base aW 7 "_law_begun" (pK c)) (e7:Df P w K mg base aW 2 "_law_busy" sC) (go:Df P w K mg base aW 2 "_law_due" zD) (e0:Df P w K mg base aW 1 "_law_done" oV) (e8:Df P w K mg base aW 11 "_law_called" (lH c)) (f3:Df P w K mg base aW 2 "_law_placed" mj) :
  bg P w K mg base aW 12 f fd ["_law_script"] (rQ K):=by
 refine F.ok eD (λvs H Q E h=>?_) (λg4 A outer s H vs Q E hr h=>?_)
 .obtain⟨a,ns,rfl,_⟩:=h;rfl
 .obtain⟨sc,ns,rfl,cS,g6,k⟩:=h;have hs:sizeLine=16777216:=sizeLine_eq;have df:(ar jj).names.lookup ("_law_number" : Str)=some NameKind.globalImplicit:=ah;have ga:(ar jj).names.lookup ("_law_sizes" : Str)=some NameKind.globalImplicit:=ah;have f6:(ar jj).names.lookup ("_law_begun" : Str)=some NameKind.globalImplicit:=ah;have e4:(ar jj).names.lookup ("range" : Str)=some NameKind.globalImplicit:=ah;have e9:(ar jj).names.lookup ("max" : Str)=some NameKind.globalImplicit:=ah;have dV:(ar jj).names.lookup ("len" : Str)=some NameKind.globalImplicit:=ah;have fH:(ar jj).names.lookup ("_law_busy" : Str)=some NameKind.globalImplicit:=ah;have eP:(ar jj).names.lookup ("_law_due" : Str)=some NameKind.globalImplicit:=ah;have eA:(ar jj).names.lookup ("_law_done" : Str)=some NameKind.globalImplicit:=ah;have ev:(ar jj).names.lookup ("_law_called" : Str)=some NameKind.globalImplicit:=ah;have eC:(ar jj).names.lookup ("_law_placed" : Str)=some NameKind.globalImplicit:=ah;refine⟨_,(ag (aK (i:=1) eD.nd rfl (Or.inl rfl) (pc (hg:=df) dM hr aw (aa (pv 0) (aa ak aj))))
   (ag (cI (pc (hg:=ga) fl hr aw (aa (pv 1) aj)) (dF rfl (bo (a8 (i:=2) eD.nd rfl (Or.inl rfl)) (bo (a8 (i:=3) eD.nd rfl (Or.inl rfl)) cW))))
   (ag (cI (pc (hg:=f6) ew hr aw (aa (pv 1) aj)) (dF rfl (bo (a8 (i:=4) eD.nd rfl (Or.inl rfl)) (bo (a8 (i:=5) eD.nd rfl (Or.inl rfl)) cW))))
   (ag (aK (i:=6) eD.nd rfl (Or.inl rfl) (aY cm (bU (aa ak (aa (ay oi (Bj xU ak) (ay bD (ay bF (pv 1) ak) (ay pE ak ak))) aj))) (ay bD (ay bF (pv 1) ak) ak) (λ_ _=>rfl)))
   (ag (aK (i:=7) eD.nd rfl (Or.inl rfl) (bU (aa ak (aa ak (aa (ay bu (ay bD (ay bF (pv 1) ak) (ay pE ak ak)) ak) (aa (pv 6) (aa ak aj)))))))
   (ag (cU PassesOwn.never rfl (eS e4 T.range (aa ak (aa (aN (nv rfl) e9 T.max ya (aa ak (aa (aN bC dV T.len boot_len (aa (cL fX (pv 0) eM (cJ ak)) aj)) aj))) aj))) (a8 (i:=8) eD.nd rfl (Or.inl rfl)) (ag (aK (i:=9) eD.nd rfl (Or.inl rfl) (pc (hg:=df) dM hr aw (aa (pv 0) (aa (pv 8) aj))))
   (ag (aK (i:=10) eD.nd rfl (Or.inl rfl) (pc (hg:=fH) e7 hr aw (aa (pv 9) (aa (pv 5) (aa (pv 7) aj)))))
   (ag (aS (PW.pt (k8 (az bN (aY a9 (pv 10) ak (λ_ _=>rfl)) aI (aG _)) (jI (az bN (ay bD (ay bF (pv 9) ak) ak) ak (aG _))))) (ao (aK (i:=10) eD.nd rfl (Or.inl rfl) (ay zZ (cL jo (pv 10) eM (cJ ak)) (cF (aa (ay j4 (bU (aa ak aj)) (aN bC dV T.len boot_len (aa (aY a9 (pv 10) ak (λ_ _=>rfl)) aj))) aj))))) aF)
   (ag (aS (az bN (pc (hg:=eP) go hr aw (aa (pv 5) (aa (pv 10) aj))) aI (aG _)) (ag (aL (pc (hg:=eA) e0 hr aw (aa (pv 5) (aa (pv 10) aj))))
   (ao (aL (pc (hg:=ev) e8 hr aw (aa (pv 4) (aa (pv 10) aj)))))) aF)
   (ao (kC (cU PassesOwn.never rfl (qF (bq (bh hr) (pv 5) aI (λ_ _=>rfl))) (dF rfl (bo (a8 (i:=11) eD.nd rfl (Or.inl rfl)) (bo (a8 (i:=12) eD.nd rfl (Or.inl rfl)) cW))) (ag (kC (cU PassesOwn.never rfl (oj (pv 12)) (a8 (i:=13) eD.nd rfl (Or.inl rfl)) (ao (aS (yh (gb (pc (hg:=eC) f3 hr aw (aa (pm (pv 4) TR.cl MK.zN hr aw (aa (pv 11) (aa (pv 13) aj))) (aa (bq (bh hr) (pv 12) (pv 13) (λ_ _=>rfl)) (aa (pv 2) (aa (pv 3) aj))))))) (ao (aE nD)) aF))))
   (ao (cU PassesOwn.never rfl (fh (bU (aa (Bj xU ak) (aa ak (aa (ay bD (pv 9) ak) (aa (ay pE ak ak) aj)))))) (a8 (i:=13) eD.nd rfl (Or.inl rfl)) (ao (aS (PW.pt (k8 (gU (eT (bh hr) (pv 13) (pv 12))) (jI (az Aw (pm (pv 4) TR.cl MK.zN hr aw (aa (pv 11) (aa (pv 13) aj))) lW (aG _))))) (ao (aE nD)) aF)))))))))))))
   (ao (aE nD)))))))),?_⟩
  try dsimp only[cxK]
  refine gy λ_ jt=>?_;refine⟨_,rfl,sc,ns,0,rfl,cS,af,af,λG H1 s1=>jt _ _ ?_⟩;clear jt;refine⟨_,rfl,G,rfl,λH2 t2 s2 _ h2=>⟨t2,_,rfl,bR.of h2,rfl,_,_,rfl,_,_,rfl,rfl,?_⟩⟩;refine⟨_,rfl,G,rfl,λH3 t3 M a m L cv pk W Z s3 S3 d5 h3=>⟨t3,_,rfl,bR.of h3,rfl,_,_,rfl,_,_,rfl,rfl,?_⟩⟩;have fr:∀b,M b->H b=none:=λb z=>s1.free (s2.free (d5 b z));have dd:=s1.trans (s2.trans s3);clear d5 h3 h2 s1 s2 s3;dsimp only;refine gy λ_ jt=>?_;have w0:=emod_nonneg (G/20000) (show(2:Int)≠0 by decide);have w1:=emod_lt_of_pos (G/20000) (show(0:Int)<2 by decide);obtain⟨b1,_⟩:=at_of (xs:=[0, -1-G/20000%10^toNat 59]) (i:=G/20000%2) (n:=2) w0 w1 rfl;generalize g0:([0, -1-G/20000%10^toNat 59]:List Int).getD (G/20000%2).toNat 0=lo at b1;refine⟨_,rfl,_,rfl,_,_,rfl,rfl,⟨av,av⟩,_,_,rfl,rfl,⟨av,av,av⟩,_,_,rfl,rfl,(by show(0:Int)<10^toNat 59;decide),_,_,rfl,rfl,by show 2<=sizeLine;decide,λl0 d7=>⟨_,rfl,_,_,rfl,rfl,⟨av,av⟩,_,_,rfl,rfl,(by show(0:Int)<2;decide),l0,_,_,.int lo,rfl,rfl,bE.of ae,b1,jt _ _ ?_⟩⟩;clear jt;have s4:=Tb.au (X:=.lst ([0, -1-G/20000%10^toNat 59].map V.int)) d7;refine gy λ_ jt=>?_;refine⟨_,rfl,_,_,rfl,rfl,⟨av,av⟩,_,_,rfl,rfl,⟨av,av,av⟩,_,_,rfl,rfl,(by show(0:Int)<10^toNat 59;decide),_,_,rfl,rfl,_,rfl,by show 5<=sizeLine;decide,λtl ch=>jt _ _ ?_⟩;clear jt;have s5:=Tb.au (X:=.lst ([1,2,G/20000%10^toNat 59+3,lo,12].map V.int)) ch;generalize dO:([1,2,G/20000%10^toNat 59+3,lo,12]:List Int)=ts at s5;have l5:ts.length=5:=(by rw[<-dO];rfl);have S5:z7 c (upd (upd H3 l0 (.lst ([0, -1-G/20000%10^toNat 59].map V.int))) tl (.lst (ts.map V.int))) M a m (iM G) (jh G) 1 L cv pk W Z:=S3.same (s4.trans s5);have d8:upd (upd H3 l0 (.lst ([0, -1-G/20000%10^toNat 59].map V.int))) tl (.lst (ts.map V.int)) tl=some (.lst (ts.map V.int)):=ae;have b7:aZ H (upd (upd H3 l0 (.lst ([0, -1-G/20000%10^toNat 59].map V.int))) tl (.lst (ts.map V.int))):=dd.trans (s4.trans s5);have c7:¬ M tl:=λz=>S3.R.mt tl z (s4.free ch);subst dO;show mE _ _ _ _ (upd (upd H3 l0 (.lst ([0, -1-G/20000%10^toNat 59].map V.int))) tl (.lst ([1,2,G/20000%10^toNat 59+3,lo,12].map V.int)));clear s4 s5;generalize ([1,2,G/20000%10^toNat 59+3,lo,12]:List Int)=ts at *;clear d7 ch S3 dd;generalize upd (upd H3 l0 (.lst ([0, -1-G/20000%10^toNat 59].map V.int))) tl (.lst (ts.map V.int))=H5 at *;have da:=Rm.d0 cS (b7 _);have ec:eK (ns.map V.int) none (some (63:Int))=(ns.take 63).map V.int:=Rm.sF (s:=63);refine⟨_,rfl,_,rfl,sc,_,rfl,da,λp6 dj=>?_⟩;have s6:=Tb.au (X:=.lst (eK (ns.map V.int) none (some (63:Int)))) dj;refine⟨p6,_,rfl,.inl (bE.of ae),_,_,rfl,?_⟩;rw[ec]at s6 ⊢;rw[length_map,length_take];generalize eN:(if ((min 63 ns.length:Nat):Int)>6 then((min 63 ns.length:Nat):Int)else 6)=N;have hN:6<=N/\N<=63:=(by rw[<-eN];split<;>omega);refine⟨_,_,rfl,⟨av,av,af,af⟩,?_⟩;refine gZ (lo:=1) (n:=(N-1).toNat) (λi σ H7=>EG λ(v8 v9 d2 bb bd ab:Option V) (M:Addr->Prop) (L:Pg.PS) (cv:Int->Int->List Int) (pk:Int) (W:eF) (Z:Zs)=>r9 (σ=[some (.ref sc),some (.int G),some (.int (iM G)),some (.int (jh G)),some (.ref a.rp),some (.ref m.md),some (.int lo),some (.ref tl),v8,v9,d2,bb,bd,ab]) (z7 c H7 M a m (iM G) (jh G) (i+1) L cv pk W Z) (aZ H H7) ((∀b,M b->H b=none)) (H7 tl=some (.lst (ts.map V.int))) (¬ M tl))
   ⟨_,_,_,_,_,_,M,L,cv,pk,W,Z,rfl,S5.same s6,b7.trans s6,fr,s6 _ _ d8,c7⟩ ?_ (λσ H7 _=>k H7)
  clear dj s6 d8 c7 fr S5 b7 da ec M L cv pk W Z;rintro i σ H7 hi ⟨v8,v9,d2,bb,bd,ab,M,L,cv,pk,W,Z,rfl,S7,cP,bl,c9,bv⟩;refine gy λ_ jt=>?_;refine⟨_,rfl,_,rfl,sc,ns,1+i,by rw[Int.natCast_add];rfl,Rm.d0 cS (cP _),af,af,λnh H8 s8=>jt _ _ ?_⟩;clear jt;have S8:=S7.same s8;have d1:=cP.trans s8;have ce:=s8 _ _ c9;clear S7 cP c9 s8;refine gy λ_ jt=>?_;refine⟨_,rfl,_,rfl,_,rfl,nh,m,_,pk,Z,tl,ts,rfl,S8.D,S8.zn,by have:=S8.lz;omega,ce,l5,λH9 d D s9 hd U ci bc=>jt _ _ ?_⟩;clear jt;have S9:=S8.same s9;have ea:=d1.trans s9;have dp:=s9 _ _ ce;have a6:∀t ad I cs,D=.poke t ad I cs->¬ cM m Z I:=λt ad I cs e w=>by
   rcases S8.D.alive I w with⟨_,h⟩|⟨_,h⟩
   .rw[ci t ad I cs e]at h;cases h
   .rw[ci t ad I cs e]at h;cases h
  clear S8 d1 ce ci;have c1:yX (u3 D) 0=some (.str (de D)):=(by cases D<;>rfl);refine jV (λσ b0=>wX λ(d':Addr) (D':Dd)=>r9 (σ=[some (.ref sc),some (.int G),some (.int (iM G)),some (.int (jh G)),some (.ref a.rp),some (.ref m.md),some (.int lo),some (.ref tl),some (.int (1+(i:Int))),some (.int nh),some (.ref d'),bb,bd,ab]) (aZ H9 b0) (qH b0 d' D') (xB D') ((∀t ad I cs,D'=.poke t ad I cs->¬ cM m Z I)) ((∀o,D'=.close o->∃t,t≠o/\∃z,Tb.look Z t=some z))) (λbe QQ ji je=>?A) ?B
  case A =>
   refine⟨_,rfl,d,_,0,_,rfl,rfl,bR.of hd.1,c1,rfl,_,rfl,?_⟩;refine gF (λcp=>?_) (λ_=>je _ ⟨d,D,rfl,aZ.refl _,hd,U,a6,bc⟩);refine⟨_,rfl,_,_,rfl,rfl,⟨av,av⟩,_,_,rfl,rfl,(by show(0:Int)<4;decide),rfl,_,rfl,?_⟩;refine vQ (λ_=>ji _ ?_) (λ_=>je _ ⟨d,D,rfl,aZ.refl _,hd,U,a6,bc⟩);have ep:de D = "poke" := by
    have:=of_decide_eq_true cp;exact V.str.inj this
   obtain⟨t,ad,I,cs,rfl⟩:∃t ad I cs,D=.poke t ad I cs:=by
    cases D with
    |poke t ad I cs=>exact⟨t,ad,I,cs,rfl⟩
    |begin t=>exact absurd ep (show ¬ (("begin" : Str) = "poke")by decide +kernel)
    |close t=>exact absurd ep (show ¬ (("close" : Str) = "poke")by decide +kernel)
    |map t p q=>exact absurd ep (show ¬ (("map" : Str) = "poke")by decide +kernel)
    |drop t p q=>exact absurd ep (show ¬ (("drop" : Str) = "poke")by decide +kernel)
    |peek t p q=>exact absurd ep (show ¬ (("peek" : Str) = "poke")by decide +kernel)
    |copy t p=>exact absurd ep (show ¬ (("copy" : Str) = "poke")by decide +kernel)
   obtain⟨a0,a1,n1,n2⟩:=U;have fa:=hd.2 _ _ _ _ rfl;have c2:H9 d=some (.tup [.str "poke",.int t,.int ad,.ref I]):=hd.1;refine⟨_,rfl,_,rfl,d,_,rfl,bR.of c2,λcw=>absurd cw (by rintro⟨_,cw⟩;exact absurd (show HT.cQ 4 4 (some 3)=4 from cw) av),λ_ p1 fT=>?_⟩;have e3:eK [V.str "poke",V.int t,V.int ad,V.ref I] none (some 3)=[V.str "poke",V.int t,V.int ad]:=rfl;rw[e3];have q1:=Tb.au (X:=.tup [V.str "poke",V.int t,V.int ad]) fT;have g1:upd H9 p1 (.tup [V.str "poke",V.int t,V.int ad]) p1=some (.tup [V.str "poke",V.int t,V.int ad]):=ae;generalize upd H9 p1 (.tup [V.str "poke",V.int t,V.int ad])=HA at *;refine⟨av,λl1 f7=>?_⟩;have q2:=Tb.au (X:=.lst [V.int 0]) f7;refine⟨_,rfl,d,_,3,.ref I,rfl,rfl,bR.of (q2 _ _ (q1 _ _ c2)),rfl,I,_,rfl,.inl (bE.of (q2 _ _ (q1 _ _ fa))),l1,_,_,rfl,rfl,ae,by rw[length_map];omega,by rw[length_map];omega,by rw[length_singleton,length_map];omega,λl2 dl=>?_⟩;have ee:(replicate (((cs.map V.int).length:Nat):Int).toNat [V.int 0]).flatten=(replicate cs.length (0:Int)).map V.int:=by
    rw[length_map,show(((cs.length:Nat):Int)).toNat=cs.length from toNat_natCast _,rep1,List.map_replicate]
   rw[ee];have q3:=Tb.au (X:=.lst ((replicate cs.length (0:Int)).map V.int)) dl;refine⟨by show 1<=sizeLine;decide,λp4 f8=>?_⟩;have q4:=Tb.au (X:=.tup [V.ref l2]) f8;refine⟨p1,p4,_,_,rfl,rfl,bR.of (q4 _ _ (q3 _ _ (q2 _ _ g1))),bR.of ae,(λe=>by cases e),by show 3+1<=sizeLine;omega,(λe=>by cases e),λ_ p5 eo=>?_⟩;have q5:=Tb.au (X:=.tup [V.str "poke",V.int t,V.int ad,V.ref l2]) eo;have qq:=q1.trans (q2.trans (q3.trans (q4.trans q5)));refine be _ _ ⟨p5,.poke t ad l2 (replicate cs.length 0),rfl,qq,⟨ae,λ_ _ _ _ e=>by cases e;exact q5 _ _ (q4 _ _ ae)⟩,⟨a0,a1,by rw[length_replicate];exact n1,by rw[length_replicate];exact n2⟩,λ_ _ _ _ e w=>?_,λ_ e=>by cases e⟩;cases e;have f2:H9 l2=none:=q1.free (q2.free dl);rcases S9.D.alive _ w with⟨_,h⟩|⟨_,h⟩
   .rw[f2]at h;cases h
   .rw[f2]at h;cases h
  case B =>
  clear c1 a6 bc U hd;rintro σ b0 ⟨d',D',rfl,b5,hd,U,a6,bc⟩;have bn:=S9.same b5;have b6:=ea.trans b5;have cx:=b5 _ _ dp;clear S9 ea dp b5 s9;refine jV (λσ O=>Dv λ(M:Addr->Prop) (L:Pg.PS) (cv:Int->Int->List Int) (pk:Int) (W:eF) (Z:Zs)=>r9 (σ=[some (.ref sc),some (.int G),some (.int (iM G)),some (.int (jh G)),some (.ref a.rp),some (.ref m.md),some (.int lo),some (.ref tl),some (.int (1+(i:Int))),some (.int nh),some (.ref d'),bb,bd,ab]) (z7 c O M a m (iM G) (jh G) (i+1+1) L cv pk W Z) (aZ H O) ((∀b,M b->H b=none)) (O tl=some (.lst (ts.map V.int))) (¬ M tl)) (λbe QQ ji je=>?A2) ?B2
  case A2 =>
   have up:∀{Hx},aZ b0 Hx->z7 c Hx M a m (iM G) (jh G) (i+1+1) L cv pk W Z:=λsx=>by
    have S:=bn.same sx;exact⟨S.R,S.ri,S.cv,S.D,S.p0,S.sp,S.tw,S.lf,S.ls,S.zn,Nat.le_succ_of_le S.lw,Nat.le_succ_of_le S.lz⟩
   refine⟨_,rfl,_,rfl,m,_,pk,Z,d',D',rfl,bn.D,by have:=bn.lz;omega,hd,U,λr O aB et=>⟨rfl,_,rfl,?_⟩⟩;refine vQ (λcr=>ji _ ?_) (λ_=>je _ ⟨M,L,cv,pk,W,Z,rfl,up aB,b6.trans aB,bl,aB _ _ cx,bv⟩);have fi:=et (V.str.inj (of_decide_eq_true cr));have J:=bn.same aB;have b3:qH O d' D':=⟨aB _ _ hd.1,λt ad I cs e=>aB _ _ (hd.2 t ad I cs e)⟩;refine⟨_,rfl,_,rfl,m,_,pk,Z,d',D',rfl,J.D,J.p0,by have:=J.lz;omega,b3,fi,(λt ad I cs e=>?_),(λt ad n e=>?_),λas e6 Z2 v c8 eH a5 gv a7 ek=>?_⟩
   .subst e;exact⟨a6 _ _ _ _ rfl,U.1,U.2.1,U.2.2.2⟩
   .subst e;exact⟨U.1,U.2.1,U.2.2.2⟩
   obtain⟨b8,fI⟩:=zH J.R J.D J.sp c8 a5;have d9:aZ H as:=λb u e=>a5.1 b u (aB _ _ (b6 _ _ e)) λw=>(by rw[bl b (J.sp b w).1]at e;cases e);have d6:∀b,((M b/\¬ cM m Z b)\/cM m Z2 b)->H b=none:=λb z=>by
    rcases z with z|z
    .exact bl b z.1
    .rcases a5.2 b z with z|z
     .exact bl b (J.sp b z).1
     .exact(b6.trans aB).free z
   have c5:=aB _ _ cx;have dz:=a5.1 _ _ c5 λw=>bv (J.sp _ w).1;have dL:¬ ((M tl/\¬ cM m Z tl)\/cM m Z2 tl):=λz=>by
    rcases z with z|z
    .exact bv z.1
    .rcases a5.2 _ z with z|z
     .exact bv (J.sp _ z).1
     .rw[c5]at z;cases z
   have fD:∀{b xs},O b=some (.tup xs)->¬ cM m Z b:=λe w=>by
    rcases J.D.alive _ w with⟨_,h⟩|⟨_,h⟩
    .rw[e]at h;cases h
    .rw[e]at h;cases h
   have ge:qH as d' D':=⟨a5.1 _ _ b3.1 (fD b3.1),λt ad I cs e=>a5.1 _ _ (b3.2 t ad I cs e) (a6 t ad I cs e)⟩;refine⟨_,rfl,_,rfl,_,a,L,W,cv,d',D',rfl,b8,J.ri,J.cv,by have:=J.lw;omega,ge,Ec J.tw J.R J.D U fi,λap cT bz fo fe v bG ef fc bI cC g5 ej em=>?_⟩;obtain⟨gm,gl⟩:=qW c8 fI bI;have fv:=J.tw.next ej a7 em ek;have f9:aZ H ap:=λb u e=>bI.off b u (d9 _ _ e) λw=>(by rw[d6 b (b8.dD b w)]at e;cases e);have eq:∀b,cT b->H b=none:=λb z=>(bI.mn b z).elim (d6 b) λz=>d9.free z;have ei:=bI.off _ _ dz λw=>dL (b8.dD _ w);have fn:¬ cT tl:=λz=>(bI.mn _ z).elim dL λz=>(by rw[dz]at z;cases z);have el:Z2≠[]:=λe=>by
    have hh:∀t,hZ Z2 t=false:=λt=>(by rw[e];rfl);obtain⟨t0,bx⟩:∃t0,hZ Z t0=true:=by
     cases f1:Z with
     |nil=>exact absurd f1 J.zn
     |cons x r =>
      refine⟨x.1,?_⟩;unfold hZ;rw[Tb.aM,if_pos rfl];rfl
    cases D' with
    |begin t=>exact absurd U id
    |close o =>
     obtain⟨t1,n1,z1,eb⟩:=bc o rfl;have:=a7 t1;rw[hh t1,decide_eq_true n1]at this;unfold hZ at this;rw[eb]at this;cases this
    |copy t o=>have:=a7 t0;rw[hh t0,bx]at this;simp at this
    |map t p q=>have:=a7 t0;rw[hh t0,bx]at this;cases this
    |drop t p q=>have:=a7 t0;rw[hh t0,bx]at this;cases this
    |peek t p q=>have:=a7 t0;rw[hh t0,bx]at this;cases this
    |poke t p q r=>have:=a7 t0;rw[hh t0,bx]at this;cases this
   refine be _ _ ⟨cT,bz,fe,e6,fo,Z2,rfl,⟨bG,ef,fc,?_,eH,gl,fv,(cC true).trans J.lf,(cC false).trans J.ls,el,?_,?_⟩,f9,eq,ei,fn⟩
   .rw[zr cC];exact gm
   .have:=J.lw;omega
   .have:=J.lz;omega
  case B2 =>
  clear bc a6 U hd bn b6 cx bv bl M L cv pk W Z;rintro σ O ⟨M,L,cv,pk,W,Z,rfl,S,Sm,fr,hT,nM⟩;have dm:M m.ls/\¬ a.own W m.ls:=S.sp _ (.inr (.inr (.inl rfl)));have hn:∀(Y:Obj) u',H m.ls≠some (.frz Y u'):=λY u' w=>(by rw[fr _ dm.1]at w;cases w);refine⟨_,rfl,m.md,.ref m.ls,rfl,S.D.g (EO _ _ _ _),m.ls,_,rfl,S.D.hs,hn,λY=>?_⟩;have oF:Off (· = m.ls) O (upd O m.ls (.frz Y (.dK (Tb.dk iY Z)))):=Off.wr rfl;have hF:upd O m.ls (.frz Y (.dK (Tb.dk iY Z))) m.ls=some (.frz Y (.dK (Tb.dk iY Z))):=ae;have RF:ax c (upd O m.ls (.frz Y (.dK (Tb.dk iY Z)))) M a L W:=S.R.Bb (B:=(· = m.ls)) oF (λb z=>by rw[z];exact dm) (λb z=>.inr ⟨_,(congrArg O z).trans S.D.hs⟩) (λb z=>.inl z) (λb z _=>z) (λb z e=>by
   by_cases q:b=m.ls
   .rw[q,hF]at e;cases e
   .rw[ai q]at e;exact S.R.mt b z e)
  have fz:∀x∈Z,upd O m.ls (.frz Y (.dK (Tb.dk iY Z))) x.2.sa=some (.dK (Tb.dk iS x.2.pl)):=λx hx=>oF _ _ (S.D.st x hx) (S.D.d3 x hx).2.2.2.2.2;generalize gt:upd O m.ls (.frz Y (.dK (Tb.dk iY Z)))=HF at *;refine nK (a:=m.ls) (o:=Y) (kvs:=Tb.dk iY Z) (λj σ as=>Dy λ(bb bd ab:Option V)=>σ=[some (.ref sc),some (.int G),some (.int (iM G)),some (.int (jh G)),some (.ref a.rp),some (.ref m.md),some (.int lo),some (.ref tl),some (.int (1+(i:Int))),some (.int nh),some (.ref d'),bb,bd,ab]/\aZ HF as) ⟨_,_,_,rfl,aZ.refl _⟩ (λj σ as _ z0=>by obtain⟨_,_,_,_,ba⟩:=z0;exact ba _ _ hF) ?_ ?_
  .rintro j kk v σ as T' hk f4 ⟨fy,f5,fu,rfl,ba⟩;have bm:(Z.map λx:Int×MT=>((Sum.inl x.1:Key),iY x.2))[j]?=some (kk,v):=hk;rw[getElem?_map]at bm;obtain⟨x,hx,e⟩:=Option.map_eq_some_iff.mp bm;cases e;have b4:=mem_of_getElem? hx;have ez:Tb.look Z x.1=some x.2:=Tb.bX S.D.nd b4;obtain⟨xx,b2⟩:=S.tw.get ez;have gd:=S.tw.vW b2 ez;have sT:=Tb.au (X:=.tup [kV (Sum.inl x.1),iY x.2]) f4;refine⟨T',[.int x.1,.ref x.2.sa],rfl,bR.of ae,rfl,_,_,rfl,_,_,rfl,rfl,?_⟩;have bz:=ba.trans sT;generalize upd as T' (.tup [kV (Sum.inl x.1),iY x.2])=ap at *;have bY:=bz _ _ (fz x b4);have c3:M x.2.sa/\¬ a.own W x.2.sa:=S.sp _ (.inr (.inr (.inr ⟨x,b4,.inr (.inl rfl)⟩)));have c4:∀(Y:Obj) u',H x.2.sa≠some (.frz Y u'):=λY u' w=>(by rw[fr _ c3.1]at w;cases w);have bG:=RF.same bz;refine share (λσ aT=>∃ab:Option V,σ=[some (.ref sc),some (.int G),some (.int (iM G)),some (.int (jh G)),some (.ref a.rp),some (.ref m.md),some (.int lo),some (.ref tl),some (.int (1+(i:Int))),some (.int nh),some (.ref d'),some (.int x.1),some (.ref x.2.sa),ab]/\aZ ap aT) (λu' be=>?A3) ?B3
   case A3 =>
    refine⟨_,rfl,x.2.sa,_,rfl,bY,c4,λa2=>?_⟩;have oG:Off (· = x.2.sa) ap (upd ap x.2.sa (.frz a2 (.dK (Tb.dk iS x.2.pl)))):=Off.wr rfl;have hG:upd ap x.2.sa (.frz a2 (.dK (Tb.dk iS x.2.pl))) x.2.sa=some (.frz a2 (.dK (Tb.dk iS x.2.pl))):=ae;have RG:ax c (upd ap x.2.sa (.frz a2 (.dK (Tb.dk iS x.2.pl)))) M a L W:=bG.Bb (B:=(· = x.2.sa)) oG (λb z=>by rw[z];exact c3) (λb z=>.inr ⟨_,(congrArg ap z).trans bY⟩) (λb z=>.inl z) (λb z _=>z) (λb z e=>by
     by_cases q:b=x.2.sa
     .rw[q,hG]at e;cases e
     .rw[ai q]at e;exact bG.mt b z e)
    generalize gs:upd ap x.2.sa (.frz a2 (.dK (Tb.dk iS x.2.pl)))=HG at *;refine rP (a:=x.2.sa) (o:=a2) (kvs:=Tb.dk iS x.2.pl) (λq σ aT=>∃ab:Option V,σ=[some (.ref sc),some (.int G),some (.int (iM G)),some (.int (jh G)),some (.ref a.rp),some (.ref m.md),some (.int lo),some (.ref tl),some (.int (1+(i:Int))),some (.int nh),some (.ref d'),some (.int x.1),some (.ref x.2.sa),ab]/\aZ HG aT) ⟨_,rfl,aZ.refl _⟩ (λq σ aT _ z0=>by obtain⟨_,_,ac⟩:=z0;exact ac _ _ hG) ?_ ?_
    .rintro q kk v σ aT hk ⟨c0,rfl,ac⟩;have bm:(x.2.pl.map λy:Int×Addr×Int=>((Sum.inl y.1:Key),iS y.2))[q]?=some (kk,v):=hk;rw[getElem?_map]at bm;obtain⟨y,hy,e⟩:=Option.map_eq_some_iff.mp bm;cases e;have ft:=mem_of_getElem? hy;have ey:Tb.look x.2.pl y.1=some y.2:=Tb.bX (S.D.np x b4) ft;have dT:=RG.same ac;obtain⟨dx,ho⟩:=dT.ob;refine nameQ ?_;dsimp only;refine xP λQQ ji je=>?_;refine⟨_,rfl,a.rp,dx,_,rfl,ho,gB _ _ _ ah ah ah,_,rfl,_,rfl,M,a,L,W,x.1,y.1,xx,rfl,dT,S.ri,b2,λa4 v am a3=>?_⟩;have bi:=ac.trans am;have hg:dq a4 x.2.sa (.int y.1) (some (iS y.2)):=.inl ⟨_,Sum.inl y.1,.inr ⟨a2,bi _ _ hG⟩,rfl,by rw[Tb.cD,ey];rfl⟩;have te:=S.tw.e x.1 y.1;rw[rT b2,rF ez,ey]at te;have te:(Tb.look xx.t y.1).map isNone=some (decide (y.2.2=0)):=te;obtain⟨en,he,d4⟩:=Option.map_eq_some_iff.mp te;rw[he]at a3;obtain⟨tt,rfl,e5⟩:∃tt,v=.ref tt/\((y.2.2=0/\a4 tt=some (.tup [.str "blank"]))\/(y.2.2≠0/\∃(b:Bool) (n:Nat),a4 tt=some (.tup (iQ b n))/\n<(if b=true then iM G else jh G))):=by
      cases en with
      |none =>
       obtain⟨tt,e1,e2⟩:=a3;exact⟨tt,e1,.inl ⟨of_decide_eq_true d4.symm,e2⟩⟩
      |some kx =>
       obtain⟨tt,b,n,e1,e2,e3⟩:=a3;refine⟨tt,e1,.inr ⟨of_decide_eq_false d4.symm,b,n,e3,?_⟩⟩;obtain⟨_,_,_,g2,_,_⟩:=S.ri.good.va _ _ _ e2;have g3:=(List.getElem?_eq_some_iff.mp g2).1;cases b
       .rw[if_neg av, <-S.ls];exact g3
       .rw[if_pos rfl, <-S.lf];exact g3
     refine⟨_,rfl,_,rfl,x.2.sa,_,rfl,hg,_,rfl,_,rfl,tt,y.2.2,iM G,jh G,rfl,e5,λfx b9=>⟨true,rfl,?_⟩⟩;exact je _ ⟨_,rfl,bi.trans b9⟩
    .rintro σ aT ⟨c0,rfl,ac⟩;refine⟨x.2.sa,a2,_,ac _ _ hG,c4,be _ _ ⟨_,rfl,λb u e=>?_⟩⟩;by_cases w:b=x.2.sa
     .rw[w,ae, <-e,w,bY]
     .rw[ai w];exact ac _ _ (oG _ _ e w)
   case B3 =>
    rintro σ aT ⟨c0,rfl,ac⟩;refine⟨_,rfl,_,rfl,_,_,rfl,rfl,(by show(0:Int)<64;decide),_,_,rfl,rfl,⟨av,av,av⟩,by show 4<=sizeLine;decide,λl hl=>?_⟩;have sl:=Tb.au (X:=.lst ([-1,64,nh%64,10^toNat 50].map V.int)) hl;have db:upd aT l (.lst ([-1,64,nh%64,10^toNat 50].map V.int)) l=some (.lst ([-1,64,nh%64,10^toNat 50].map V.int)):=ae;refine⟨l,rfl,⟨_,bE.of db⟩,?_⟩;refine dY (K:=K) (a:=l) (xs:=[-1,64,nh%64,10^toNat 50].map V.int) (λq σ a4=>∃ab:Option V,σ=[some (.ref sc),some (.int G),some (.int (iM G)),some (.int (jh G)),some (.ref a.rp),some (.ref m.md),some (.int lo),some (.ref tl),some (.int (1+(i:Int))),some (.int nh),some (.ref d'),some (.int x.1),some (.ref x.2.sa),ab]/\aZ (upd aT l (.lst ([-1,64,nh%64,10^toNat 50].map V.int))) a4) ⟨_,rfl,aZ.refl _⟩ (λq σ a4 _ z0=>by obtain⟨_,_,am⟩:=z0;exact bE.of (am _ _ db)) ?_ ?_
    .rintro q u σ a4 hu ⟨f0,rfl,am⟩;rw[getElem?_map]at hu;obtain⟨pg,_,rfl⟩:=Option.map_eq_some_iff.mp hu;have bi:=(ac.trans sl).trans am;have fk:=bi _ _ bY;have dI:=bG.same bi;obtain⟨dx,ho⟩:=dI.ob;refine nameQ ?_;dsimp only;refine xP λQQ ji je=>?_;refine⟨_,rfl,_,rfl,x.2.sa,_,rfl,eU (t:=pg) fk,?_⟩;cases ep:Tb.look x.2.pl pg with
     |some _=>exact⟨false,rfl,je _ ⟨_,rfl,am⟩⟩
     |none =>
      refine⟨true,rfl,c6 ?_⟩;refine⟨_,rfl,a.rp,dx,_,rfl,ho,gB _ _ _ ah ah ah,_,rfl,_,rfl,M,a,L,W,x.1,pg,xx,rfl,dI,S.ri,b2,λfx v b9 a3=>?_⟩;rw[(gd pg).mpr ep]at a3;have a3:v=.non:=a3;subst a3;exact⟨rfl,_,rfl,je _ ⟨_,rfl,am.trans b9⟩⟩
    .rintro σ a4 ⟨f0,rfl,am⟩;exact⟨_,_,_,rfl,bz.trans (ac.trans (sl.trans am))⟩
  .rintro σ as ⟨fy,f5,fu,rfl,ba⟩;have ca:aZ O (upd as m.ls (.dK (Tb.dk iY Z))):=λb u e=>by
    by_cases w:b=m.ls
    .rw[w,ae, <-e,w,S.D.hs]
    .rw[ai w];exact ba _ _ (oF _ _ e w)
   exact⟨m.ls,Y,_,ba _ _ hF,hn,_,_,_,_,_,_,M,L,cv,pk,W,Z,rfl,S.same ca,Sm.trans ca,fr,ca _ _ hT,nM⟩
end
end Lw
namespace Hd
open PySem PySem.W PyProof.Rows
def pQ:List Obj->List Obj×List Obj
 | []=>([],[])
 | [a]=>([a],[])
 |a::b::r=>(a::(pQ r).1,b::(pQ r).2)
def build:Nat->List Obj->BT
 |0,_=>.nil
 |_+1,[]=>.nil
 |f+1,o::r=>.node o (build f (pQ r).1) (build f (pQ r).2)
def topT (tb:String->Option Builtin) (p:Program) (w:World) (m:Nat) (an:Option Value):Nat->SharedT->Thread->Option SharedT
 |0,_,_=>none
 |k+1,x,t=>match through t with
  |true=>some x
  |false=>match stepOk m an t with
   |false=>none
   |true=>match stepT (denote tb) p w x t with
    |some (y,u)=>topT tb p w m an k y u
    |none=>none
theorem topT_of {tb:String->Option Builtin}{p:Program}{w:World}{m:Nat}{an:Option Value}:∀{k:Nat}{x z:SharedT}{t:Thread},topT tb p w m an k x t=some z->topRun tb p w m an k x.abs t=some z.abs:=by
 intro k
 induction k with
 |zero=>intro x z t e;cases e
 |succ k F =>
  intro x z t e;unfold topT at e;unfold topRun;cases a:through t with
  |true=>rw[a]at e;cases e;rfl
  |false =>
   rw[a]at e;cases b:stepOk m an t with
   |false=>rw[b]at e;cases e
   |true =>
    rw[b]at e;cases c:stepT (denote tb) p w x t with
    |none=>rw[c]at e;cases e
    |some r =>
     obtain⟨y,u⟩:=r;rw[c]at e;rw[stepT_spec c];exact F e
def xZ (p q:Program) (loose:List Str) (G:Shared->Bool) (F:Bool) (h:Heap) (s:Shared):=
 (staticsOk (importedModules p.main.body) h s.heap&&namesBound p s.heap&&gensDone s&&laidKept h s.heap,openSeen q loose (importedModules p.main.body) G F s)
theorem Ak {p q:Program}{loose:List Str}{J:Shared->Bool}{α:Type}{O:Shared->α}{I:World->α}{N M m:Nat}{L:Bool}{H:Params->Heap}{T:Params->BT}{life:Life}{gs:Array GenState}{d:Drawn}{k:Nat}{an:Option Value}
  (Y:∀w:World,(fencedOpening treeTable p w N).map (λs=>(s.heap,s.gens,s.drawn,s.toks))=some (H w.params,gs,d,k))
  (S:∀P,absHeap (T P) m life=H P)
  (hS:∀w:World,((H w.params).isNs mainGlobals&&gs.size==0,(H w.params).objs.size,(H w.params).nsMap mainGlobals "__annotations__")=(true,m,an))
  (le:Nat.ble M N=true)
  (run:∀(w:World) (os:OsState),(topT treeTable p w m an M ⟨T w.params,m,life,gs,d,k,os⟩ (topStub p)).map (λs=>(xZ p q loose J L (H w.params) s.abs,O s.abs))=some ((true,openGood q loose),I w)) :
  LeftO p q loose J O I N L:=by
 intro w;obtain⟨s,a,b⟩:=Option.map_eq_some_iff.mp (Y w);obtain⟨h,G,d',F,os⟩:=s;simp only[Prod.mk.injEq]at b;obtain⟨rfl,rfl,rfl,rfl⟩:=b;have z:=hS w;simp only[Prod.mk.injEq]at z;obtain⟨z1,z2,z3⟩:=z;obtain⟨x,c,e⟩:=Option.map_eq_some_iff.mp (run w os);have r:=topT_of c;have U:(SharedT.mk (T w.params) m life G d' F os).abs=⟨H w.params,G,d',F,os⟩:=by
  unfold SharedT.abs;rw[S]
 rw[U]at r;have r:=topRun_mono (N-M) _ _ _ _ r;rw[show M+(N-M)=N from Nat.add_sub_cancel' (Nat.le_of_ble_eq_true le)]at r;simp only[xZ,Prod.mk.injEq]at e;obtain⟨⟨e1,R⟩,e3⟩:=e;have t:topFrom treeTable p w N ⟨H w.params,G,d',F,os⟩=some x.abs:=by
  unfold topFrom;dsimp only;rw[z1,z2,z3,r];simp only[bind_some,e1]
 unfold openEnds;rw[a];simp only[bind_some,t,Option.map_some,R,e3]
theorem both {r:OpenRow}{q:Program}{loose:List Str}{d:DefRec}{F:List (Str×Expr)}{N:Nat}(H:Hook)
  (h1:defOf q r.name=some (d,F)) (h2:r.prog.theDef r.name=some (d.params,d.body,d.scope)) (R:kwWritten? d.params.kwonlyargs d.params.kw_defaults=some F) (J:(!r.writes||r.records.isEmpty)=true)
  (O:r.wellSaid=true) (I:(chainsOk q&&opensWell r.prog&&(frees r.toRowW&&r.within.isEmpty))=true) (L:r.prog.bare) (G:r.toRowW.promised)
  (h:LeftO r.prog q loose (λs=>xlAt q [] s&&recOk r.records s) H.obs H.val N/\WalkO q loose (XL q []) H.says r.toRowW d F λf vs=>PySem.call f vs):r.Holds :=
 holds_open h.1 H.of H.keeps (λs e=>xl_of s (Bool.and_eq_true_iff.mp e).1) XL.keeps h1 h2 R (λs e=>recFacts_of (Bool.and_eq_true_iff.mp e).2) J O I L G h.2
noncomputable def Br (P:Params):BT:=build 12 (boot_heap P).objs.toList
def q:Program:=PySem.W.view PySem.Challenge.pw_ownroom_k13_blank_pages [50]
def loose:List Str:=[Str.ofString "_wall",Str.ofString "__name__",Str.ofString "KernelError",Str.ofString "ValueError",Str.ofString "NoOwner",Str.ofString "NoTask",Str.ofString "NoPage",Str.ofString "NoRoom",Str.ofString "Taken",Str.ofString "PAGE_CELLS",Str.ofString "Store",Str.ofString "lift",Str.ofString "settle",Str.ofString "Paging",Str.ofString "ROOM_PAGES",Str.ofString "room_of",Str.ofString "refuse_second_room",Str.ofString "refuse_above",Str.ofString "pages_from",Str.ofString "refuse_unmapped",Str.ofString "pages_to_map",Str.ofString "pages_to_drop",Str.ofString "pages_of_cells",Str.ofString "run_within",Str.ofString "pages_with",Str.ofString "STEP_PAGES",Str.ofString "own_copy",Str.ofString "Table",Str.ofString "BLANK",Str.ofString "Rooms",Str.ofString "_law_mixed",Str.ofString "_law_number",Str.ofString "_law_whole",Str.ofString "_law_cells",Str.ofString "_law_model",Str.ofString "_law_held",Str.ofString "_law_stretch",Str.ofString "_law_due",Str.ofString "_law_done",Str.ofString "_law_called",Str.ofString "_law_numbers",Str.ofString "_law_sizes",Str.ofString "_law_busy",Str.ofString "_law_begun",Str.ofString "_law_placed"]
local macro_rules | `(tactic| o_head $H) => `(tactic| refine Hd.both (q:=Hd.q) (loose:=Hd.loose) (N:=100000) $H (by rfl) (by rfl) (by rfl) (by rfl) (by assumption) ah ⟨rfl,rfl,rfl,rfl,rfl,ah⟩ ?$(Lean.mkIdent `hw):ident ?$(Lean.mkIdent `hc):ident)
open_top top for PySem.Challenge.rw_ownroom_k13_blank_pages
def at_:List Addr:=[2,3,15,17,18,20,21,22,29,30,31,32,35,42,43,44,47,54,55,56,59,66,67,68,71,78,79,80,83,90,91,92,102,104,105,107,108,109,111,112,114,115,116,118,119,121,122,123,125,126,128,129,130,132,133,135,136,137,139,140,142,143,144,146,147,149,150,151,153,154,156,157,158,160,161,163,164,165,166,167,168,169,172,174,175,177,178,179,181,182,184,185,193,195,196,198,199,200,202,203,205,206,207,209,210,212,213,214,216,217,219,220,221,223,224,226,227,228,230,231,233,234,235,237,238,240,241,242,244,245,247,248,249,251,252,254,255,256,258,259,261,262,263,265,266,268,269,270,272,273,275,276,277,279,280,282,283,284,286,287,289,290,291,292,293,294,295,298,300,301,303,304,305,307,308,310,311,312,314,315,317,318,319,321,322,324,325,326,328,329,331,332,333,335,336,338,339,340,342,343,345,346,347,349,350,352,353,354,356,357,359,360,361,364,365,366,369,370,378,380,381,383,384,385,387,388,390,391,392,394,395,397,398,399,401,402,404,405,406,408,409,411,412,413,415,416,418,419,420,421,422,423,424,427,435,437,438,440,441,442,444,445,447,448,449,451,452,454,455,456,458,459,461,462,463,465,466,468,469,470,472,473,475,476,477,479,480,482,483,484,486,487,489,490,491,494,495,496,498,499,501,502,503,505,506,508,509,510,512,513,515,516,517,519,520,522,523,524,526,527,529,530,531,532,533,534,535,538,540,541,543,544,545,547,548,550,551,552,554,555,557,558,559,561,562,564,565,566,568,569,571,572,573,576,577,578,581,582,583,586,587,588,591,592,593,595,596,598,599,605,607,608,610,611,612,614,615,617,618,619,621,622,624,625,626,628,629,631,632,633,635,636,638,639]
noncomputable def lhs (w:World) (os:OsState):=
 (topT treeTable PySem.Challenge.pw_ownroom_k13_blank_pages w 11 (some (.ref 6)) 100000 ⟨Br w.params,11, {},Array.mk [],boot_drawn,boot_toks,os⟩ (topStub PySem.Challenge.pw_ownroom_k13_blank_pages)).map
  λs=>(xZ PySem.Challenge.pw_ownroom_k13_blank_pages q loose (λs=>xlAt q [] s&&recOk PySem.Challenge.rw_ownroom_k13_blank_pages.row.records s) true (boot_heap w.params) s.abs,at_.map s.abs.heap.get?)
noncomputable def GN (K:Frag):=some ((true,openGood q loose),K.map λp=>some p.2)
theorem lhs_self:lhs=lhs:=rfl
theorem xp:GN=GN:=rfl
name_quick hdL for Hd.lhs by Hd.lhs_self
name_quick hdR for Hd.GN by Hd.xp
noncomputable def rhs (w:World):=some ((true,openGood q loose),(Hd.top.heap_39 w.params).map λp=>some p.2)
theorem same_ (w:World) (os:OsState):PySem.W.Fast.hdL w os=PySem.W.Fast.hdR (Hd.top.heap_39 w.params):=by kernel_rfl
theorem run_ (w:World) (os:OsState):lhs w os=rhs w:=((congrFun (congrFun PySem.W.Fast.hdL_eq w) os).trans (same_ w os)).trans (congrFun PySem.W.Fast.hdR_eq (Hd.top.heap_39 w.params)).symm
end Hd
namespace Lw
open PySem L2
def Al:Nat->(List Value->Prop)->Prop
 |0,p=>p []
 |n+1,p=>∀a,Al n λl=>p (a::l)
theorem al:∀{n:Nat}{p:List Value->Prop},Al n p->∀us:List Value,us.length=n->p us
 |0,_,h,us,e=>by cases List.eq_nil_of_length_eq_zero e;exact h
 |n+1,_,h,us,e=>by
  cases us with
  |nil=>cases e
  |cons a us=>exact al (h a) us (Nat.succ.inj e)
inductive MI (K:PySem.W.Frag) (C:Addr) (m q:Str) (st:Stmt) (ps:List Str):Prop
 |mk (f:Addr) (fd:FuncData) (_:cN K m q st f fd) (_:Binds K fd ps []) (_:Meth K C m f):MI K C m q st ps
inductive DI (K:PySem.W.Frag) (x:Str) (st:Stmt) (ps:List Str):Prop
 |mk (f:Addr) (fd:FuncData) (_:cN K x x st f fd) (_:Binds K fd ps []) (_:nsIn K mainGlobals x=some (some (.ref f))):DI K x st ps
section
variable {K:PySem.W.Frag}{C f:Addr}{m q:Str}{st:Stmt}{ps:List Str}{od an:Option Addr}{sl:Array (Option Value)}{oc kV dc pm cd ct:Value}
theorem MI.of (a:findIn K (.ref C) m=some (some (.ref f))) (i:isFn K (.ref f)=true) (l:K.lookup f=some ⟨oc,od,.func (fnOf m q (fq st) (eG st) (ar st) .none kV dc pm an cd ct),sl⟩) (c:codeIn K cd q=true) (k:keepIn K (.ref f)=true)
  (b:∀kV G pm an F ct,Al ps.length λus=>bindArgs (fnOf m q (fq st) (eG st) (ar st) .none kV G pm an F ct) ⟨us,[]⟩=pure (ps.zip us)):MI K C m q st ps :=
 ⟨_,_,oe l c k,(oe l c k).binds λ_ _ _ _ _ _=>al (b _ _ _ _ _ _),a,i,k⟩
theorem DI.of (a:nsIn K mainGlobals m=some (some (.ref f))) (l:K.lookup f=some ⟨oc,od,.func (fnOf m m (fq st) (eG st) (ar st) .none kV dc pm an cd ct),sl⟩) (c:codeIn K cd m=true) (k:keepIn K (.ref f)=true)
  (b:∀kV G pm an F ct,Al ps.length λus=>bindArgs (fnOf m m (fq st) (eG st) (ar st) .none kV G pm an F ct) ⟨us,[]⟩=pure (ps.zip us)):DI K m st ps :=
 ⟨_,_,oe l c k,(oe l c k).binds λ_ _ _ _ _ _=>al (b _ _ _ _ _ _),a⟩
inductive CI (K:PySem.W.Frag) (C:Addr) (x:Str):Prop
 |mk (_:nsIn K mainGlobals x=some (some (.ref C))) (_:qt K C) (_:makesIn K C=true) (_:keepIn K (.ref C)=true):CI K C x
end
def NI (K:PySem.W.Frag):List Str->Prop
 | []=>True
 |x::l=>nsIn K mainGlobals x=some none/\NI K l
def AI (K:PySem.W.Frag) (C:Addr):List Str->Prop
 | []=>True
 |x::l=>findIn K (.ref C) x=some none/\AI K C l
theorem all_mk {l:PySem.W.OpenLaw}{w:World}{K:PySem.W.Frag}{h:Heap}{mg:Str->Option Value}{fa J F L I aB:Addr}{eo t8 t9:Tok}{cx:Value}{fc:Option Addr}{hR:Array (Option Value)}{ap:Array Value}{nB:Nat}(X:K.In h) (G:h.Ns mainGlobals mg) (o7:mg "law" = some (.ref fa)) :
  CI K J "Store" -> AI K J ["owners","contents"]->MI K J "__init__" "Store.__init__" St.lL ["self","many"]->MI K J "take" "Store.take" St.xQ ["self"]->MI K J "less" "Store.less" St.yc ["self","n"]->MI K J "more" "Store.more" St.yj ["self","n"]->MI K J "free" "Store.free" St.yH ["self"]->MI K J "count" "Store.count" St.sN ["self","n"]->MI K J "cells" "Store.cells" St.tJ ["self","n"]->MI K J "put" "Store.put" St.Ck ["self","n","cells"]->MI K J "refuse_free" "Store.refuse_free" St.pF ["self","n"]->CI K F "Paging" -> AI K F ["frames","slots","places","last_sheet","in_frames"]->MI K F "__init__" "Paging.__init__" St.tM ["self","frames","slots"]->MI K F "new_sheet" "Paging.new_sheet" St.jS ["self","cells"]->MI K F "share" "Paging.share" St.tN ["self","sheet"]->MI K F "leave" "Paging.leave" St.tq ["self","sheet"]->MI K F "cells" "Paging.cells" St.pR ["self","sheet"]->MI K F "change" "Paging.change" St.oS ["self","sheet","cells"]->MI K F "fetch" "Paging.fetch" St.uh ["self","sheet"]->MI K F "bring_in" "Paging.bring_in" St.lh ["self","sheet","moved"]->MI K F "put_out" "Paging.put_out" St.oK ["self","sheet"]->MI K F "place" "Paging.place" St.tE ["self","sheet"]->MI K F "number_of" "Paging.number_of" St.j5 ["self","sheet"]->MI K F "store_of" "Paging.store_of" St.lq ["self","sheet"]->MI K F "count" "Paging.count" St.oo ["self","sheet"]->CI K L "Table" -> AI K L ["first_step"]->MI K L "__init__" "Table.__init__" Tb.lL ["self"]->MI K L "get" "Table.get" Tb.C1 ["self","page"]->MI K L "lay" "Table.lay" Tb.Dq ["self","page","entry"]->MI K L "clear" "Table.clear" Tb.t6 ["self","page"]->MI K L "pages" "Table.pages" Tb.tR ["self"]->CI K I "Rooms" -> AI K I ["paging","total","rooms"]->MI K I "__init__" "Rooms.__init__" St.ug ["self","frames","slots"]->MI K I "begin" "Rooms.begin" St.oH ["self","task"]->MI K I "close" "Rooms.close" St.oE ["self","task"]->MI K I "map" "Rooms.map" St.y4 ["self","task","page","many"]->MI K I "drop" "Rooms.drop" St.sR ["self","task","page","many"]->MI K I "peek" "Rooms.peek" St.tL ["self","task","address","many"]->MI K I "poke" "Rooms.poke" St.tQ ["self","task","address","cells"]->MI K I "copy" "Rooms.copy" St.uJ ["self","task","other"]->MI K I "held" "Rooms.held" St.tG ["self"]->MI K I "place" "Rooms.place" St.ox ["self","task","page"]->MI K I "leave_pages" "Rooms.leave_pages" St.pA ["self","table","pages"]->MI K I "cells_of" "Rooms.cells_of" St.qk ["self","entry"]->MI K I "sheet_with" "Rooms.sheet_with" St.pU ["self","entry","cells"]->DI K "lift" St.zG ["store","n"]->DI K "settle" St.pC ["store","moved"]->DI K "own_copy" Tb.vD ["value"]->DI K "room_of" St.pM ["rooms","task"]->DI K "refuse_second_room" St.oY ["rooms","task"]->DI K "refuse_above" St.sk ["held","total"]->DI K "pages_from" Rm.iD ["page","many"]->DI K "refuse_unmapped" Rm.kh ["mapped","pages"]->DI K "pages_to_map" Rm.uz ["mapped","page","many"]->DI K "pages_to_drop" Rm.qe ["mapped","page","many"]->DI K "pages_of_cells" Rm.lQ ["mapped","address","many"]->DI K "run_within" Rm.qg ["whole","address","many"]->DI K "pages_with" Rm.xr ["whole","address","cells"]->DI K "_law_mixed" Lw.uF ["_law_cell","_law_k"]->DI K "_law_number" Lw.pS ["_law_script","_law_k"]->DI K "_law_whole" Lw.t7 ["_law_found"]->DI K "_law_cells" Lw.mD ["_law_m","_law_many"]->DI K "_law_model" Lw.uf ["_law_total"]->DI K "_law_held" Lw.uw ["_law_model_here"]->DI K "_law_stretch" Lw.mh ["_law_room","_law_address","_law_many"]->DI K "_law_due" Lw.B9 ["_law_model_here","_law_deed"]->DI K "_law_done" Lw.yd ["_law_model_here","_law_deed"]->DI K "_law_called" Lw.oh ["_law_kept","_law_deed"]->DI K "_law_sizes" Lw.uc ["_law_m"]->DI K "_law_busy" Lw.yJ ["_law_m","_law_model_here","_law_tasks"]->DI K "_law_begun" Lw.uP ["_law_m"]->DI K "_law_placed" Lw.nU ["_law_found","_law_stand","_law_frames","_law_slots"]->DI K "law" Lw.jj ["_law_script"]->nsIn K mainGlobals "ROOM_PAGES" = some (some (.int 64 eo))->nsIn K mainGlobals "PAGE_CELLS" = some (some (.int 8 t8))->nsIn K mainGlobals "STEP_PAGES" = some (some (.int 8 t9))->NI K ["range","enumerate","sum","int","isinstance","min","max","list","len","dict","bool","tuple","sorted","all","any","zip"]->nsIn K mainGlobals "BLANK" = some (some (.ref aB))->K.lookup aB=some ⟨cx,fc,.seq ap nB,hR⟩->cx=.type "tuple" -> Vals [V.str "blank"] ap.toList->ap.size<=1 ->
  ∃fd:FuncData,(∀(s:Shared) (v:Value),BindsTo s fd ⟨[v],[]⟩ [("_law_script",v)])/\∀base:Heap,K.In base->base.Ns mainGlobals mg->bg l.prog w K mg base aW 12 fa fd ["_law_script"] (rQ K):=by
 intro h0 h1 h2 h3 h4 h5 h6 h7 h8 h9 fI k0 ih hH mN oC jr n9 nC o5 ew hC hO j1 ha io me he ll em o9 hq ii pi lz fk kt i6 kn fi hf o2 lw kv i2 hg go it k3 g3 hh hA l4 ko hu hI hj ia ev ek ik ls hB fu o6 o1 i9 nq g4 n1 mb op ki nT fe hb q0 q1 q2 hQ yB lB oB vB wB;obtain⟨m8,je,mw,mB⟩:=h0;obtain⟨la,fT,_⟩:=h1;obtain⟨f1,d1,F1,b1,M1⟩:=h2;obtain⟨f2,d2,F2,b2,M2⟩:=h3;obtain⟨f3,d3,F3,b3,M3⟩:=h4;obtain⟨f4,d4,F4,b4,M4⟩:=h5;obtain⟨f5,d5,F5,b5,M5⟩:=h6;obtain⟨f6,d6,F6,b6,M6⟩:=h7;obtain⟨f7,d7,F7,b7,M7⟩:=h8;obtain⟨f8,d8,F8,b8,M8⟩:=h9;obtain⟨f9,d9,F9,b9,M9⟩:=fI;obtain⟨hk,kQ,il,k2⟩:=k0;obtain⟨e3,pW,pY,og,hP,_⟩:=ih;obtain⟨v9,ru,nn,e0,a4⟩:=hH;obtain⟨ql,sr,gl,m1,g1⟩:=mN;obtain⟨rt,rg,lm,fz,hv⟩:=oC;obtain⟨s4,sx,ne,e4,py⟩:=jr;obtain⟨vu,s5,hT,hN,p4⟩:=n9;obtain⟨vl,qq,nd,pu,l7⟩:=nC;obtain⟨q7,r5,mp,ni,n3⟩:=o5;obtain⟨ww,v8,o0,oL,jt⟩:=ew;obtain⟨sw,ux,lf,ld,en⟩:=hC;obtain⟨s7,rr,eq,ht,pT⟩:=hO;obtain⟨wE,ua,l5,hK,ob⟩:=j1;obtain⟨sB,up,ge,mt,l6⟩:=ha;obtain⟨qb,ul,pw,li,hl⟩:=io;obtain⟨ea,ga,c3,ca⟩:=me;obtain⟨m2,_⟩:=he;obtain⟨rk,vn,j2,bd,ad⟩:=ll;obtain⟨v0,sy,kw,ol,iv⟩:=em;obtain⟨wh,vS,hm,el,n2⟩:=o9;obtain⟨v1,sU,nO,g7,g5⟩:=hq;obtain⟨r7,qj,oG,oD,i0⟩:=ii;obtain⟨pl,m0,nw,fH⟩:=pi;obtain⟨nI,hF,i8,_⟩:=lz;obtain⟨sL,so,lA,mv,b0⟩:=fk;obtain⟨r2,r0,e9,pp,nt⟩:=kt;obtain⟨qa,wn,g9,gd,k1⟩:=i6;obtain⟨ut,uy,n7,e2,pq⟩:=kn;obtain⟨ws,rp,oI,fo,pa⟩:=fi;obtain⟨wZ,ra,ka,hp,gt⟩:=hf;obtain⟨ti,qs,nh,gs,g0⟩:=o2;obtain⟨vr,s6,hz,g8,hc⟩:=lw;obtain⟨sc,sd,pe,i3,nz⟩:=kv;obtain⟨rm,sa,fD,l3,i7⟩:=i2;obtain⟨t2,wP,g6,hM,hr⟩:=hg;obtain⟨r4,tw,l1,l0,lr⟩:=go;obtain⟨s1,rc,fy,et,m3⟩:=it;obtain⟨p5,qi,a2,eP,nk⟩:=k3;obtain⟨q6,tp,cp,nb,pD⟩:=g3;obtain⟨wf,q4,aT,bb,dL⟩:=hh;obtain⟨v3,sT,c1,hn,mn⟩:=hA;obtain⟨w0,qn,bx,iF,gm⟩:=l4;obtain⟨r1,q5,ee,ot,n4⟩:=ko;obtain⟨rs,rv,cw,hD,nM⟩:=hu;obtain⟨r8,rb,ch,lv,gv⟩:=hI;obtain⟨wv,u8,dV,ei,l2⟩:=hj;obtain⟨v4,v7,ce,n0,po⟩:=ia;obtain⟨sS,rx,c4,hE,eH⟩:=ev;obtain⟨q3,u1,db,nR,ho⟩:=ek;obtain⟨wS,sn,bv,eA,nS⟩:=ik;obtain⟨r3,sb,dm,hx,na⟩:=ls;obtain⟨t0,ry,dz,hS,ib⟩:=hB;obtain⟨tn,u2,a7,e8,nP⟩:=fu;obtain⟨rz,sA,dd,i1,ov⟩:=o6;obtain⟨s8,wT,a3,eC,p3⟩:=o1;obtain⟨ri,t3,a6,e6,hy⟩:=i9;obtain⟨rB,t1,c7,ej,n6⟩:=nq;obtain⟨s9,p6,cc,pn,ms⟩:=g4;obtain⟨ub,wl,dT,pd,nx⟩:=n1;obtain⟨tr,s3,bm,lb,nL⟩:=mb;obtain⟨se,v6,dO,kk,e5⟩:=op;obtain⟨q9,tz,c2,g2,i5⟩:=ki;obtain⟨qw,sK,bz,fr,hd⟩:=nT;obtain⟨wp,re,c8,p1,e7⟩:=fe;obtain⟨va,o4,dl,ro,oF⟩:=hb;obtain⟨cr,im,ci,f0,bG,nF,lc,U,ab,ba,jp,c5,bl,n8,md,hG,_⟩:=hQ;have e:=o7.symm.trans (mg_of X G oF);cases e;refine⟨o4,λs v=>?_,λbase _ _=>?_⟩
 .obtain⟨oc,od,kV,s2,pm,an,rn,ct,sm,rfl,lk,ss⟩:=dl.ex;exact .of_eq rfl
 have TS:St.Txt K mg J:=⟨je,la,fT,mg_none_of X G ab,mg_none_of X G U,⟨_,mg_of X G q1,⟨_,rfl⟩⟩⟩;have TT:Tb.Txt K mg L:=⟨ga,m2,⟨_,mg_of X G q2,⟨_,rfl⟩⟩⟩;have TQ:Tb.yq mg:=⟨mg_none_of X G bG,mg_none_of X G c5,mg_none_of X G U,mg_none_of X G ba,mg_none_of X G ab,mg_none_of X G bl⟩;have SX:Rm.yy mg:=⟨⟨_,mg_of X G q0,⟨_,rfl⟩⟩,⟨_,mg_of X G q1,⟨_,rfl⟩⟩,mg_none_of X G U,mg_none_of X G cr,mg_none_of X G ab⟩;have TP:St.nc K mg F:=⟨kQ,e3,pW,pY,og,hP,mg_none_of X G U⟩;have N:St.qU K mg ⟨I,F,J,L⟩:=⟨m0,nI,hF,i8,⟨aB,mg_of X G yB,.inr ⟨_,ap,nB,lB,oB,rfl,le_trans wB av,vB⟩⟩,⟨_,mg_of X G q1,⟨_,rfl⟩⟩,mg_none_of X G ab,mg_none_of X G ci,mg_none_of X G hG⟩;have MT:Lw.lD mg:=⟨mg_none_of X G cr,mg_none_of X G im,mg_none_of X G ci,mg_none_of X G f0,mg_none_of X G bG,mg_none_of X G nF,mg_none_of X G lc,mg_none_of X G U,mg_none_of X G ab,mg_none_of X G ba,mg_none_of X G jp,mg_none_of X G c5,mg_none_of X G bl,mg_none_of X G n8,mg_none_of X G md⟩;have lx:=St.oX (P:=l.prog) (w:=w) (base:=base) F1 TS;have ac:=Md.mk _ _ _ (St.xy (P:=l.prog) (w:=w) (base:=base) F6 TS) b6 M6;have as:=Md.mk _ _ _ (St.wV F9 TS ac) b9 M9;have ef:=Md.mk _ _ _ (St.AA F3 TS as) b3 M3;have da:=Md.mk _ _ _ (St.zq F7 TS as) b7 M7;have dM:=Md.mk _ _ _ (St.BS F8 TS as) b8 M8;have bI:=Md.mk _ _ _ (St.zY F4 TS as) b4 M4;have j3:=Md.mk _ _ _ (St.Ab (P:=l.prog) (w:=w) (base:=base) F2 TS) b2 M2;have ec:=Md.mk _ _ _ (St.Bd (P:=l.prog) (w:=w) (base:=base) F5 TS) b5 M5;have nl:=Df.mk _ _ _ (Tb.yb (P:=l.prog) (w:=w) (base:=base) aT TQ) bb (mg_of X G dL) aT.kp;have GC:=Df.mk _ _ _ (Tb.Ay aT TQ nl) bb (mg_of X G dL) aT.kp;have a5:=Tb.oX (P:=l.prog) (w:=w) (base:=base) j2 TT;have Y:=Md.mk _ _ _ (Tb.Cm kw TT GC) ol iv;have a1:=Md.mk _ _ _ (Tb.C0 hm TT GC) el n2;have lp:=Md.mk _ _ _ (Tb.yU (P:=l.prog) (w:=w) (base:=base) nO TT TQ) g7 g5;have R:=Md.mk _ _ _ (Tb.xD (P:=l.prog) (w:=w) (base:=base) oG TT TQ) oD i0;have GP:=Df.mk _ _ _ (Rm.nV (P:=l.prog) (w:=w) (base:=base) cw SX) hD (mg_of X G nM) cw.kp;have GU:=Df.mk _ _ _ (Rm.rW (P:=l.prog) (w:=w) (base:=base) (mg:=mg) ch) lv (mg_of X G gv) ch.kp;have GM:=Df.mk _ _ _ (Rm.yD dV GP) ei (mg_of X G l2) dV.kp;have GD:=Df.mk _ _ _ (Rm.wD ce GP GU) n0 (mg_of X G po) ce.kp;have GO:=Df.mk _ _ _ (Rm.uE c4 SX GP GU) hE (mg_of X G eH) c4.kp;have pr:=Df.mk _ _ _ (Rm.xb (P:=l.prog) (w:=w) (base:=base) db SX) nR (mg_of X G ho) db.kp;have e1:=Df.mk _ _ _ (Rm.AG (P:=l.prog) (w:=w) (base:=base) bv SX) eA (mg_of X G nS) bv.kp;have bn:=Df.mk _ _ _ (St.zT a2 TS da ac ef) eP (mg_of X G nk) a2.kp;have bc:=Df.mk _ _ _ (St.vJ cp TS j3 dM ac bI) nb (mg_of X G pD) cp.kp;have a0:=Md.mk _ _ _ (St.zw (CS:=J) (P:=l.prog) (w:=w) (base:=base) eq TP) ht pT;have S:=Md.mk _ _ _ (St.qJ l5 TP a0) hK ob;have am:=Md.mk _ _ _ (St.tD ge TP a0) mt l6;have no:=Md.mk _ _ _ (St.wz pw TP TS am S ac) li hl;have ep:=Md.mk _ _ _ (St.wd hT TP TS am S da) hN p4;have hw:=Md.mk _ _ _ (St.tP lf TP bn bc S) ld en;have bi:=Md.mk _ _ _ (St.rC o0 TP TS ec hw bc) oL jt;have dj:=Md.mk _ _ _ (St.oa gl TP TS ec bi) m1 g1;have eb:=Md.mk _ _ _ (St.yP mp TP a0 bi bn) ni n3;have fl:=Md.mk _ _ _ (St.xv lm TP TS am S bI) fz hv;have dI:=Md.mk _ _ _ (St.yZ ne TP TS am S ef ac) e4 py;have oR:=Md.mk _ _ _ (St.vU nd TP TS no dj dI eb S dM) pu l7;have om:=St.zu nn TP ⟨mw,M1.at_,M1.fn,mB⟩ (mg_of X G m8) lx b1;have O:=Df.mk _ _ _ (St.wA (P:=l.prog) (w:=w) (base:=base) (mg:=mg) c1) hn (mg_of X G mn) c1.kp;have GS:=Df.mk _ _ _ (St.wW (P:=l.prog) (w:=w) (base:=base) (mg:=mg) bx) iF (mg_of X G gm) bx.kp;have GA:=Df.mk _ _ _ (St.yx (P:=l.prog) (w:=w) (base:=base) (mg:=mg) ee) ot (mg_of X G n4) ee.kp;have mu:=St.ze (c:=⟨I,F,J,L⟩) lA N ⟨il,a4.at_,a4.fn,k2⟩ (mg_of X G hk) om e0;have c0:=Md.mk _ _ _ (St.mK (c:=⟨I,F,J,L⟩) g6 N TT TP Y lp dI) hM hr;have ln:=Md.mk _ _ _ (St.AB (c:=⟨I,F,J,L⟩) oI N TT O GD R c0) fo pa;have fx:=Md.mk _ _ _ (St.vX (c:=⟨I,F,J,L⟩) g9 N TT O R c0) gd k1;have eN:=Md.mk _ _ _ (St.wF (c:=⟨I,F,J,L⟩) e9 N ⟨c3,ad.at_,ad.fn,ca⟩ (mg_of X G ea) GS a5 bd) pp nt;have c9:=Md.mk _ _ _ (St.sE (c:=⟨I,F,J,L⟩) l1 N TP ep) l0 lr;have ft:=Md.mk _ _ _ (St.oN (c:=⟨I,F,J,L⟩) fy N TP dj oR) et m3;have dp:=Md.mk _ _ _ (St.xG (c:=⟨I,F,J,L⟩) pe N TT R) i3 nz;have o3:=Md.mk _ _ _ (St.vR (c:=⟨I,F,J,L⟩) fD N TT TP O Y a0) l3 i7;have hY:=Md.mk _ _ _ (St.zV (c:=⟨I,F,J,L⟩) n7 N TT O GM GA R dp a1) e2 pq;have fv:=Md.mk _ _ _ (St.xW (c:=⟨I,F,J,L⟩) ka N TT TP O GO pr R Y eb c9) hp gt;have mx:=Md.mk _ _ _ (St.yn (c:=⟨I,F,J,L⟩) nh N TT O GO e1 R Y a1 c9 ft) gs g0;have ji:=Md.mk _ _ _ (St.yw (c:=⟨I,F,J,L⟩) hz N TT TP ⟨c3,ad.at_,ad.fn,ca⟩ (mg_of X G ea) O GS GA a5 bd R dp Y a1 fl) g8 hc;have KT:Lw.Fh l.prog w K mg base ⟨I,F,J,L⟩:=⟨eN,fx,hY,ln,ji,fv,mx,o3⟩;have iN:=Df.mk _ _ _ (Lw.xS (P:=l.prog) (w:=w) (base:=base) (mg:=mg) dm) hx (mg_of X G na) dm.kp;have ez:=Df.mk _ _ _ (Lw.wj dz MT iN) hS (mg_of X G ib) dz.kp;have i4:=Df.mk _ _ _ (Lw.xA (P:=l.prog) (w:=w) (base:=base) a7 MT) e8 (mg_of X G nP) a7.kp;have hL:=Df.mk _ _ _ (Lw.uN (P:=l.prog) (w:=w) (base:=base) dd MT) i1 (mg_of X G ov) dd.kp;have be:=Df.mk _ _ _ (Lw.yR (P:=l.prog) (w:=w) (base:=base) (mg:=mg) dO) kk (mg_of X G e5) dO.kp;have on:=Df.mk _ _ _ (Lw.zf (P:=l.prog) (w:=w) (base:=base) (mg:=mg) a3) eC (mg_of X G p3) a3.kp;have bY:=Df.mk _ _ _ (Lw.zB (P:=l.prog) (w:=w) (base:=base) a6 MT) e6 (mg_of X G hy) a6.kp;have ey:=Df.mk _ _ _ (Lw.ur (P:=l.prog) (w:=w) (base:=base) c7 MT) ej (mg_of X G n6) c7.kp;have p0:=Df.mk _ _ _ (Lw.Dl cc MT bY ey) pn (mg_of X G ms) cc.kp;have df:=Df.mk _ _ _ (Lw.Ah (P:=l.prog) (w:=w) (base:=base) dT MT) pd (mg_of X G nx) dT.kp;have oA:=Df.mk _ _ _ (Lw.vN bm N KT) lb (mg_of X G nL) bm.kp;have mm:=Df.mk _ _ _ (Lw.wR c8 MT i4) p1 (mg_of X G e7) c8.kp;have n5:=Df.mk _ _ _ (Lw.AJ c2 MT bY hL) g2 (mg_of X G i5) c2.kp;have kd:=Df.mk _ _ _ (Lw.yl bz N KT ⟨nw,b0.at_,b0.fn,fH⟩ (mg_of X G pl) be mu mv on df) fr (mg_of X G hd) bz.kp;exact Lw.BJ dl MT N KT ez be kd n5 p0 df oA mm
theorem walk {l:PySem.W.OpenLaw}{q:Program}{loose:List Str}{R:(Str->Option Value)->Heap->Prop}{G:World->Heap->Prop}{d:DefRec}{K:Params->PySem.W.Frag}(O:l.most=some 63) (L:d.params.defaults=[])
  (J:∀(w:World) (h:Heap),G w h->(K w.params).In h)
  (F:∀(w:World) (mg:Str->Option Value) (I:Addr) (h:Heap),(K w.params).In h->h.Ns mainGlobals mg->mg d.name=some (.ref I) ->
   ∃fd:FuncData,(∀(s:Shared) (u:Value),BindsTo s fd ⟨[u],[]⟩ [("_law_script",u)])/\∀base:Heap,(K w.params).In base->base.Ns mainGlobals mg->bg l.prog w (K w.params) mg base aW 12 I fd ["_law_script"] (rQ (K w.params))) :
  PySem.W.WalkO q loose R G l.row.toRowW d [] (λf vs=>PySem.call f vs):=
 L2.Ar (n:=63) (k:=12) (x := "_law_script") (CX:=λ_=>aW) (sp:=λw=>rQ (K w.params)) O av L ⟨rfl,av,av⟩ J F (λ_ _ a ns N _ S=>⟨a,ns,rfl,S,N,λ_=>rfl⟩) λ_ _ _ _ _ z=>z
end Lw
open PySem PySem.W PyProof.Rows
theorem PySem.Challenge.cw_ownroom_k13_blank_pages_holds : PySem.Challenge.rw_ownroom_k13_blank_pages.Holds := by
 refine Hd.top ⟨Hd.Ak (H:=boot_heap) (T:=Hd.Br) (life:={}) (m:=11) (M:=100000) (gs:=Array.mk []) (d:=boot_drawn) (k:=boot_toks) (an:=some (.ref 6)) (boot_open (by kernel_rfl) av (λs=>by kernel_rfl)) (λP=>by kernel_rfl) (λw=>by kernel_rfl) av (λw os=>Hd.run_ w os),?_⟩
 k_fill
 refine Lw.walk (l:=PySem.Challenge.rw_ownroom_k13_blank_pages) rfl rfl (λw h Y=>PySem.W.kIn_of Y) ?F
 case F =>
  intro w mg fa h KX G hmg;apply Lw.all_mk KX G hmg
  all_goals first
   |(apply Lw.MI.of<;>first|k_is|(first|exact λ_ _ _ _ _ _ _=>rfl|exact λ_ _ _ _ _ _ _ _=>rfl|exact λ_ _ _ _ _ _ _ _ _=>rfl|exact λ_ _ _ _ _ _ _ _ _ _=>rfl|exact λ_ _ _ _ _ _ _ _ _ _ _=>rfl))
   |(apply Lw.DI.of<;>first|k_is|(first|exact λ_ _ _ _ _ _ _=>rfl|exact λ_ _ _ _ _ _ _ _=>rfl|exact λ_ _ _ _ _ _ _ _ _=>rfl|exact λ_ _ _ _ _ _ _ _ _ _=>rfl|exact λ_ _ _ _ _ _ _ _ _ _ _=>rfl))
   |(apply Lw.CI.mk;k_is;(constructor<;>k_is);k_is;k_is)
   |(unfold Lw.NI;repeat' first|apply And.intro|exact trivial|k_is|unfold Lw.NI)
   |(unfold Lw.AI;repeat' first|apply And.intro|exact trivial|k_is|unfold Lw.AI)
   |k_is|k_exc|rfl|exact .cons ⟨_,rfl⟩ .nil|exact le_refl 1
