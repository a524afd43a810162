import PyProof.Rows.All
import Wide.All
import OpenK.AllK
import Wide.FinOn
import Lean
import PyProof.EqAt
import PyProof.EqKinds
import PyProof.TupleCall
import PySem.Challenge.RW_ownroom_k15_owners_counted
inductive x8 {α β:Type}(p:α->β->Prop):Prop
 |mk (x0:α) (x1:β) (_:p x0 x1):x8 p
inductive FR {α β γ:Type}(p:α->β->γ->Prop):Prop
 |mk (x0:α) (x1:β) (x2:γ) (_:p x0 x1 x2):FR p
inductive Gu {α β γ δ:Type}(p:α->β->γ->δ->Prop):Prop
 |mk (x0:α) (x1:β) (x2:γ) (x3:δ) (_:p x0 x1 x2 x3):Gu p
inductive AH {α β γ δ ε:Type}(p:α->β->γ->δ->ε->Prop):Prop
 |mk (x0:α) (x1:β) (x2:γ) (x3:δ) (x4:ε) (_:p x0 x1 x2 x3 x4):AH p
inductive ES {α β γ δ ε ζ:Type}(p:α->β->γ->δ->ε->ζ->Prop):Prop
 |mk (x0:α) (x1:β) (x2:γ) (x3:δ) (x4:ε) (x5:ζ) (_:p x0 x1 x2 x3 x4 x5):ES p
inductive qQ (A0 A1 A2:Prop):Prop
 |mk (_:A0) (_:A1) (_:A2):qQ A0 A1 A2
inductive C1 (A0 A1 A2 A3:Prop):Prop
 |mk (_:A0) (_:A1) (_:A2) (_:A3):C1 A0 A1 A2 A3
inductive DV (A0 A1 A2 A3 A4:Prop):Prop
 |mk (_:A0) (_:A1) (_:A2) (_:A3) (_:A4):DV A0 A1 A2 A3 A4
inductive xa (A0 A1 A2 A3 A4 A5:Prop):Prop
 |mk (_:A0) (_:A1) (_:A2) (_:A3) (_:A4) (_:A5):xa A0 A1 A2 A3 A4 A5
inductive Gx (A0 A1 A2 A3 A4 A5 A6:Prop):Prop
 |mk (_:A0) (_:A1) (_:A2) (_:A3) (_:A4) (_:A5) (_:A6):Gx A0 A1 A2 A3 A4 A5 A6
inductive GN (A0 A1 A2 A3 A4 A5 A6 A7:Prop):Prop
 |mk (_:A0) (_:A1) (_:A2) (_:A3) (_:A4) (_:A5) (_:A6) (_:A7):GN A0 A1 A2 A3 A4 A5 A6 A7
inductive Gg (A0 A1 A2 A3 A4 A5 A6 A7 A8 A9 A10:Prop):Prop
 |mk (_:A0) (_:A1) (_:A2) (_:A3) (_:A4) (_:A5) (_:A6) (_:A7) (_:A8) (_:A9) (_:A10):Gg A0 A1 A2 A3 A4 A5 A6 A7 A8 A9 A10
inductive Ft (A0 A1 A2 A3 A4 A5 A6 A7 A8 A9 A10 A11 A12:Prop):Prop
 |mk (_:A0) (_:A1) (_:A2) (_:A3) (_:A4) (_:A5) (_:A6) (_:A7) (_:A8) (_:A9) (_:A10) (_:A11) (_:A12):Ft A0 A1 A2 A3 A4 A5 A6 A7 A8 A9 A10 A11 A12
set_option Elab.async false
set_option linter.all false
set_option tactic.hygienic false
set_option maxRecDepth 100000
open PySem.W (Frag)
set_option maxHeartbeats 0
local macro_rules | `(tactic| omega) => `(tactic| lia)
theorem ao {p:Prop}(h:p:=by decide +kernel):p:=h
theorem av {p:Prop}(h:p:=by decide):p:=h
theorem af {p:Prop}(h:p:=by omega):p:=h
open PySem.W (instObj methodObj lookIn plainGet hasDictIn findIn handedIn plainGet_of isFn plainOver takerIn makesIn emptyDict keepIn kitOne kia_one kitx_list kitx_tuple kitx_dict callWith_K callWith_K0 fnOf codeIn KdlSrc kdl_dict nsIn mg_of mg_none_of)
open PySem.F (slot_dict_get entry_dict_get plainAttrs_dict plainAttrs_list slot_list_remove slot_list_extend type_list_extend)
open List (mem_cons_self mem_cons_of_mem mem_append_left getElem?_set_self getElem?_set_ne mem_append_right length_cons map_cons length_map append_nil of_mem_zip replicate length_take getElem?_map take_sublist mem_of_getElem? length_append length_replicate size_toArray length_drop map_nil length_set all_cons any_cons replicate_succ flatten_cons foldl append_assoc length_singleton getElem_mem find?_cons length_nil filter_cons getElem?_eq_getElem drop_sublist take_append_drop pairwise_append perm_append_comm getElem_take drop_eq_getElem_cons take_of_length_le reverse_append take_zero ext_getElem? map_map mem_cons not_mem_nil mem_singleton length_range map_set map_append filter_eq_self map_congr_left take_succ take_length nodup_nil flatMap_append map_take range_succ sum_cons getElem_of_mem filter take_add_one mem_map flatMap_cons)
open Nat (lt_of_lt_of_le lt_irrefl ne_of_lt le_trans le_of_lt ne_of_gt le_refl zero_le le_succ lt_succ_of_lt min_eq_left zero_add min_eq_right)
open Int (toNat_natCast emod_nonneg toNat emod_lt_of_pos)
open Option (getD_none isSome_map getD_some bind_some isNone)
open Array (length_toList toList getElem?_toList toList_push toList_extract toList_append size_push toList_reverse)
open PySem
namespace L2
open PySem PySem.Spec PyProof.Rows
abbrev Key:=Sum Int Str
def l8:Key->Value->Bool
 |.inl k,v=>Value.isInt k v
 |.inr x,v=>Value.isStrOf x v
def HR (w:World):Key->Int
 |.inl k=>hashInt k
 |.inr x=>hashStr w x
theorem cn:∀{k:Key}{v:Value},l8 k v=true->(∃i t,k=Sum.inl i/\v=Value.int i t)\/(∃x t,k=Sum.inr x/\v=Value.str x t)
 |.inl i,v,h=>by
  obtain⟨t,e⟩:=Value.isInt_shape (k:=i) (v:=v) h;exact .inl ⟨i,t,rfl,e⟩
 |.inr x,v,h=>by
  obtain⟨t,e⟩:=Value.isStrOf_shape (x:=x) (v:=v) h;exact .inr ⟨x,t,rfl,e⟩
theorem xE (i:Int) (t:Tok):l8 (.inl i) (.int i t)=true:=by simp[l8,Value.isInt]
theorem wR (x:Str) (t:Tok):l8 (.inr x) (.str x t)=true:=by simp[l8,Value.isStrOf]
theorem Dr (a b:Int):decide ((Sum.inl a:Key)=Sum.inl b)=(a==b):=by
 by_cases e:a=b
 .subst e;simp
 .have h:¬ (Sum.inl a:Key)=Sum.inl b:=λq=>e (Sum.inl.inj q);rw[decide_eq_false h];exact(beq_eq_false_iff_ne.mpr e).symm
theorem D1 (a b:Str):decide ((Sum.inr a:Key)=Sum.inr b)=decide (a=b):=by
 by_cases e:a=b
 .subst e;simp
 .have h:¬ (Sum.inr a:Key)=Sum.inr b:=λq=>e (Sum.inr.inj q);rw[decide_eq_false h,decide_eq_false e]
theorem CB (a:Int) (b:Str):decide ((Sum.inl a:Key)=Sum.inr b)=false:=decide_eq_false (λq=>nomatch q)
theorem Dc (a:Str) (b:Int):decide ((Sum.inr a:Key)=Sum.inl b)=false:=decide_eq_false (λq=>nomatch q)
def bt (prog:Program) (w:World):PySem.KeyKind prog w Key where
 is:=l8
 hash:=HR w
 inj:=λv a b L I=>by
  rcases cn L with⟨i,t,rfl,rfl⟩|⟨x,t,rfl,rfl⟩
  .rcases cn I with⟨j,u,rfl,e⟩|⟨y,u,rfl,e⟩
   .injection e with F _;rw[F]
   .exact nomatch e
  .rcases cn I with⟨j,u,rfl,e⟩|⟨y,u,rfl,e⟩
   .exact nomatch e
   .injection e with F _;rw[F]
 byValue:=λk v h=>by
  rcases cn h with⟨i,t,rfl,rfl⟩|⟨x,t,rfl,rfl⟩<;>rfl
 pyHash:=λG h=>by
  rcases cn G with⟨i,t,rfl,rfl⟩|⟨x,t,rfl,rfl⟩
  .exact wpAny_pyHash_int h
  .exact wpAny_pyHash_str h
 eqBool:=λJ G h=>by
  rcases cn J with⟨i,t,rfl,rfl⟩|⟨x,t,rfl,rfl⟩
  .rcases cn G with⟨j,u,rfl,rfl⟩|⟨y,u,rfl,rfl⟩
   .rw[Dr]at h;exact wpAny_eqBool_int h
   .rw[CB]at h;exact SeqAt.EqAt.int_str i t y u _ _ _ _ h
  .rcases cn G with⟨j,u,rfl,rfl⟩|⟨y,u,rfl,rfl⟩
   .rw[Dc]at h;exact SeqAt.EqAt.str_int x t j u _ _ _ _ h
   .rw[D1]at h;exact wpAny_eqBool_str h
 «strs» := λk x t v h=>by
  rcases cn h with⟨i,u,rfl,e⟩|⟨y,u,rfl,e⟩
  .exact nomatch e
  .injection e with F _;subst F;cases v<;>rfl
theorem rN (prog:Program) (w:World) (i:Int) (t:Tok):(bt prog w).is (.inl i) (.int i t)=true:=xE i t
theorem qZ (prog:Program) (w:World) (x:Str) (t:Tok):(bt prog w).is (.inr x) (.str x t)=true:=wR x t
inductive V where
 |non|bl (b:Bool)|int (i:Int)|str (x:Str)|byt (b:Array UInt8)|flt (b:UInt64)|ref (a:Addr)|ty (n:String)
 deriving DecidableEq
def RelV:V->Value->Prop
 |.non,u=>u=Value.none
 |.bl b,u=>u=Value.bool b
 |.int i,u=>∃t,u=Value.int i t
 |.str x,u=>∃t,u=Value.str x t
 |.byt b,u=>∃t,u=Value.bytes b t
 |.flt b,u=>∃t,u=Value.float b t
 |.ref a,u=>u=Value.ref a
 |.ty n,u=>u=Value.type n
abbrev Vals:List V->List Value->Prop:=Paired RelV
theorem Vals.length {xs:List V}{us:List Value}(r:Vals xs us):xs.length=us.length:=Paired.length r
theorem Vals.get:∀{xs:List V}{us:List Value}{i:Nat}{x:V},Vals xs us->xs[i]?=some x->∃u,us[i]?=some u/\RelV x u
 |_,_,_,_,.nil,e=>by simp at e
 |_,_,0,_,.cons r _,e=>by simp at e;subst e;exact⟨_,rfl,r⟩
 |_,_,i+1,x,.cons _ t,e=>by
  obtain⟨u,h1,h2⟩:=Vals.get (i:=i) (x:=x) t (by simpa using e);exact⟨u,by simpa using h1,h2⟩
theorem Vals.set {x:V}{u:Value}(r:RelV x u):∀{xs:List V}{us:List Value}(i:Nat),Vals xs us->Vals (xs.set i x) (us.set i u)
 |_,_,_,.nil=>.nil
 |_,_,0,.cons _ t=>.cons r t
 |_,_,i+1,.cons q t=>.cons q (Vals.set r i t)
theorem Vals.append:∀{xs ys:List V}{us ws:List Value},Vals xs us->Vals ys ws->Vals (xs++ys) (us++ws)
 |_,_,_,_,.nil,s=>s
 |_,_,_,_,.cons r t,s=>.cons r (Vals.append t s)
theorem Vals.take:∀{xs:List V}{us:List Value}(n:Nat),Vals xs us->Vals (xs.take n) (us.take n)
 |_,_,0,_=>.nil
 |_,_,_+1,.nil=>.nil
 |_,_,n+1,.cons r t=>.cons r (Vals.take n t)
theorem Vals.drop:∀{xs:List V}{us:List Value}(n:Nat),Vals xs us->Vals (xs.drop n) (us.drop n)
 |_,_,0,r=>r
 |_,_,_+1,.nil=>.nil
 |_,_,n+1,.cons _ t=>Vals.drop n t
def fK:Option V->Option Value->Prop
 |some v,some u=>RelV v u
 |none,none=>True
 |_,_=>False
def KV {κ:Type}:List (κ×V)->List (κ×Value)->Prop:=Paired λ(p:κ×V) (q:κ×Value)=>p.1=q.1/\RelV p.2 q.2
def kV:Key->V
 |.inl i=>.int i
 |.inr x=>.str x
inductive HO where
  |lst (xs:List V)
  |tup (xs:List V)
  |dK (kvs:List (Key×V))|dT (kvs:List (List Key×V))
  |set (S:Int->Bool) (n:Nat)
  |ins (C dx:Addr) (fs:List (Str×V))
  |own (x:Addr)
  |xd (fs:List (Str×V))
  |met (f x:Addr)
  |rng (lo hi:Int)
  |frz (o:Obj) (u:HO)
  |tbl (ps:Array Value)
  |ext (φ:Heap->Prop)
abbrev Hp:=Addr->Option HO
def upd (H:Hp) (a:Addr) (o:HO):Hp:=λb=>if b=a then some o else H b
theorem ae {H:Hp}{a:Addr}{o:HO}:upd H a o a=some o:=by unfold upd;rw[if_pos rfl]
theorem ah {H:Hp}{a b:Addr}{o:HO}(h:b≠a):upd H a o b=H b:=by unfold upd;rw[if_neg h]
theorem cE {H:Hp}{a b:Addr}{o u:HO}(h:H a=some o) (h':H b=some u) (d:o≠u):a≠b:=by
 intro e;subst e;rw[h]at h';exact d (Option.some.inj h')
theorem ar {H:Hp}{a b:Addr}{o:HO}(h:H a=some o) (h':H b=none):a≠b:=by
 intro e;subst e;rw[h]at h';cases h'
section
variable (P:Program) (w:World)
def bV (H:Hp) (h:Heap) (a:Addr):HO->Prop
 |.lst xs=>xs.length<=sizeLine/\∃(its:List Value) (n:Nat),Vals xs its/\h.get? a=some { cls:=.type "list",data:=.seq its.toArray n }
 |.tup xs=>xs.length<=sizeLine/\∃its:List Value,Vals xs its/\IsTup h a its.toArray
 |.dK kvs=>kvs.length<=sizeLine/\(a==sysModules)=false/\∃vs,KV kvs vs/\h.DictOf (bt P w) a vs
 |.dT kvs=>kvs.length<=sizeLine/\(a==sysModules)=false/\∃xs:List (List Key×Addr×Value),
   Paired (λ(p:List Key×V) (q:List Key×Addr×Value)=>p.1=q.1/\H q.2.1=some (.tup (p.1.map kV))/\RelV p.2 q.2.2) kvs xs /\
   ∃o es ep,h.get? a=some o/\o.ExactDict/\o.data=.dict es ep/\es.toList=xs.map (entryOfKey (tupleKind (bt P w)))/\(xs.map (·.1)).Nodup
 |.set S n=>h.SetOf (intKind P w) a S n
 |.ins C dx fs=>H dx=some (.own a)/\fs.length<=1000/\dx≠a/\h.get? a=some (instObj C dx) /\
   ∃mA,h.Ns1 dx mA/\(∀f,fK (fs.lookup f) (mA f))/\PySem.Within mA (fs.map (·.1))
 |.own _=>∃o,h.get? a=some o
 |.xd fs=>∃mA,h.Ns1 a mA/\∀f,fK (fs.lookup f) (mA f)
 |.rng lo hi=>∃t u v,h.get? a=some { cls:=.type "range",data:=.fields #[.int lo t,.int hi u,.int 1 v] }
 |.frz o u=>h.get? a=some o/\bV H h a u
 |.tbl ps=>h.get? a=some { cls:=.none,data:=.fields ps }
 |.met f x=>h.get? a=some (methodObj (.ref f) (.ref x))
 |.ext F=>F h/\(∃o,h.get? a=some o)/\∀h1 h2:Heap, F h1->(∀o,h1.get? a=some o->h2.get? a=some o)->F h2
def iZ (H:Hp) (h:Heap):Prop:=∀a o,H a=some o->bV P w H h a o
end
section
variable {P:Program}{w:World}{H H':Hp}{h h':Heap}{a:Addr}{o:HO}
theorem bV.lt (x:bV P w H h a o):a<h.objs.size:=by
 cases o with
 |lst xs=>obtain⟨_,_,_,_,e⟩:=x;exact Heap.lt_size e
 |tup xs=>obtain⟨_,_,_,p⟩:=x;exact p.lt
 |dK kvs=>obtain⟨_,_,_,_,o,_,_,e,_⟩:=x;exact Heap.lt_size e
 |dT kvs=>obtain⟨_,_,_,_,o,_,_,e,_⟩:=x;exact Heap.lt_size e
 |set S n=>obtain⟨o,_,_,_,e,_⟩:=x;exact Heap.lt_size e
 |ins C dx fs=>obtain⟨_,_,_,e,_⟩:=x;exact Heap.lt_size e
 |own y=>obtain⟨_,e⟩:=x;exact Heap.lt_size e
 |xd fs=>obtain⟨_,⟨_,_,_,e,_⟩,_⟩:=x;exact Heap.lt_size e
 |rng lo hi=>obtain⟨_,_,_,e⟩:=x;exact Heap.lt_size e
 |frz F u=>obtain⟨e,_⟩:=x;exact Heap.lt_size e
 |tbl ps=>exact Heap.lt_size (show h.get? a=some _ from x)
 |met f y=>exact Heap.lt_size (show h.get? a=some _ from x)
 |ext G=>obtain⟨_,⟨_,e⟩,_⟩:=x;exact Heap.lt_size e
theorem Paired.zF {α I:Type}{F G:α->I->Prop}:∀{l₁:List α}{l₂:List I},Paired F l₁ l₂->(∀a b,F a b->G a b)->Paired G l₁ l₂
 |_,_,.nil,_=>.nil
 |_,_,.cons r t,f=>.cons (f _ _ r) (Paired.zF t f)
theorem bV.qz (x:bV P w H h a o) (k:∀b u,(b=a\/H b=some (.own a))->h.get? b=some u->h'.get? b=some u)
  (I:∀b,H b=some (.own a)->H' b=some (.own a)) (J:∀b xs,H b=some (.tup xs)->H' b=some (.tup xs)):bV P w H' h' a o:=by
 induction o with
 |lst xs=>obtain⟨z,its,n,r,e⟩:=x;exact⟨z,its,n,r,k _ _ (.inl rfl) e⟩
 |tup xs=>obtain⟨z,its,r,F,e,c⟩:=x;exact⟨z,its,r,F,k _ _ (.inl rfl) e,c⟩
 |dK kvs=>obtain⟨z,y,vs,r,F,es,ep,e,c⟩:=x;exact⟨z,y,vs,r,F,es,ep,k _ _ (.inl rfl) e,c⟩
 |dT kvs =>
  obtain⟨z,y,xs,r,F,es,ep,e,c⟩:=x;exact⟨z,y,xs,Paired.zF r λp q z=>⟨z.1,J _ _ z.2.1,z.2.2⟩,F,es,ep,k _ _ (.inl rfl) e,c⟩
 |set S n=>obtain⟨F,es,ep,t,e,c⟩:=x;exact⟨F,es,ep,t,k _ _ (.inl rfl) e,c⟩
 |ins C dx fs =>
  obtain⟨d,z,N,e,mA,⟨od,es,ep,L,c⟩,r⟩:=x;exact⟨I _ d,z,N,k _ _ (.inl rfl) e,mA,⟨od,es,ep,k _ _ (.inr d) L,c⟩,r⟩
 |own y=>obtain⟨F,e⟩:=x;exact⟨F,k _ _ (.inl rfl) e⟩
 |xd fs=>obtain⟨mA,⟨od,es,ep,e,c⟩,r⟩:=x;exact⟨mA,⟨od,es,ep,k _ _ (.inl rfl) e,c⟩,r⟩
 |rng lo hi=>obtain⟨t,u,v,e⟩:=x;exact⟨t,u,v,k _ _ (.inl rfl) e⟩
 |frz F u G=>obtain⟨e,q⟩:=x;exact⟨k _ _ (.inl rfl) e,G q⟩
 |tbl ps =>
  have e:h.get? a=some { cls:=.none,data:=.fields ps }:=x;show h'.get? a=some { cls:=.none,data:=.fields ps };exact k a _ (.inl rfl) e
 |met f y =>
  have e:h.get? a=some (methodObj (.ref f) (.ref y)):=x;show h'.get? a=some (methodObj (.ref f) (.ref y));exact k a _ (.inl rfl) e
 |ext O=>obtain⟨p,⟨o,e⟩,st⟩:=x;exact⟨st _ _ p λo q=>k _ _ (.inl rfl) q,⟨o,k _ _ (.inl rfl) e⟩,st⟩
theorem iZ.lt (x:iZ P w H h) (e:H a=some o):a<h.objs.size:=(x a o e).lt
theorem iZ.fresh (x:iZ P w H h) (e:h.objs.size<=a):H a=none:=by
 cases q:H a with
 |none=>rfl
 |some u=>exact absurd (lt_of_lt_of_le (x.lt q) e) (lt_irrefl _)
theorem iZ.kept (x:iZ P w H h) (k:∀b u,h.get? b=some u->h'.get? b=some u):iZ P w H h':=λa o e =>
 (x a o e).qz (λb u _ q=>k b u q) (λ_ q=>q) λ_ _ q=>q
theorem iZ.laid (x:iZ P w H h) (k:∀b u,h.get? b=some u->h'.get? b=some u) (I:h.objs.size<=a) (new:bV P w (upd H a o) h' a o):iZ P w (upd H a o) h':=λb u e=>by
 have F:=x.fresh I;by_cases G:b=a
 .subst G;rw[ae]at e;cases e;exact new
 .rw[ah G]at e;exact(x b u e).qz (λc v _ q=>k c v q) (λc q=>by rw[ah (ar q F)];exact q) λc xs q=>by rw[ah (ar q F)];exact q
end
def Rd (H:Hp) (a:Addr) (u:HO):Prop:=H a=some u\/∃o,H a=some (.frz o u)
theorem Rd.ok {P:Program}{w:World}{H:Hp}{h:Heap}{a:Addr}{u:HO}(r:Rd H a u) (x:iZ P w H h):bV P w H h a u:=by
 rcases r with r|⟨o,r⟩
 .exact x a u r
 .obtain⟨_,q⟩:=x a _ r;exact q
def EU:Option HO->Prop
 |some (.lst _)=>True
 |some (.dK _)=>True
 |some (.dT _)=>True
 |some (.set _ _)=>True
 |some (.ins _ _ _)=>True
 |some (.ext _)=>True
 |_=>False
section
variable {P:Program}{w:World}{H:Hp}{h h':Heap}{x e:Addr}{o':HO}
theorem iZ.write (ok:iZ P w H h) (F:EU (H x)) (N:e=x\/H e=some (.own x)) (k:∀b u,b≠e->h.get? b=some u->h'.get? b=some u) (R:∃u,h'.get? e=some u)
  (new:bV P w (upd H x o') h' x o'):iZ P w (upd H x o') h':=λb u q=>by
 have O:∀c y,H c=some (.own y)->c≠x:=λc y r z=>(by subst z;rw[r]at F;exact F);have S:∀c xs,H c=some (.tup xs)->c≠x:=λc xs r z=>(by subst z;rw[r]at F;exact F);by_cases G:b=x
 .subst G;rw[ae]at q;cases q;exact new
 .rw[ah G]at q;by_cases I:b=e
  .have L:H b=some (.own x):=by
    rcases N with z|z
    .exact absurd (I.trans z) G
    .rw[I];exact z
   rw[q]at L;cases L;obtain⟨v,U⟩:=R;exact⟨v,by rw[I];exact U⟩
  .refine(ok b u q).qz (λc v J r=>k c v ?_ r) (λc r=>by rw[ah (O c b r)];exact r) λc xs r=>(by rw[ah (S c xs r)];exact r);rcases J with rfl|J
   .exact I
   .rintro rfl;rcases N with z|z
    .exact O c b J z
    .rw[J]at z;cases z;exact G rfl
end
structure Un (fs ex:List Addr) (H H':Hp) (h h':Heap):Prop where
 keep:∀b o,h.get? b=some o->H b=none->b∉fs->b∉ex->h'.get? b=some o
 slot:∀b o,h.get? b=some o->H b=none->b∈fs->b∉ex->∃sl,h'.get? b=some { o with slots:=sl }
 free:∀b o,h.get? b=some o->H b=none->b∉ex->H' b=none
 there:∀b o,h.get? b=some o->b∉ex->∃o',h'.get? b=some o'
 qo:∀b xs,H b=some (.tup xs)->H' b=some (.tup xs)
 nr:∀b o u,H b=some (.frz o u)->H' b=some (.frz o u)
 qy:∀b ps,H b=some (.tbl ps)->∃more,H' b=some (.tbl (ps++more))
section
variable {fs fs' ex ex':List Addr}{H H1 H2:Hp}{h h1 h2 h':Heap}{a x e:Addr}{o:HO}
theorem Un.any (u:Un fs ex H H1 h h1) {b:Addr}{F:Obj}(q:h.get? b=some F) (n:H b=none) (G:b∉ex):∃sl,h1.get? b=some { F with slots:=sl }:=by
 by_cases I:b∈fs
 .exact u.slot b F q n I G
 .exact⟨F.slots,u.keep b F q n I G⟩
theorem Un.kept (k:∀b u,h.get? b=some u->h'.get? b=some u):Un fs ex H H h h' :=
 ⟨λb F q _ _ _=>k b F q,λb F q _ _ _=>⟨F.slots,k b F q⟩,λ_ _ _ n _=>n,λb F q _=>⟨F,k b F q⟩,λ_ _ q=>q,λ_ _ _ q=>q,λ_ ps q=>⟨#[],by rw[q];simp⟩⟩
theorem Un.refl:Un fs ex H H h h:=Un.kept λ_ _ q=>q
theorem Un.laid (k:∀b u,h.get? b=some u->h'.get? b=some u) (G:h.objs.size<=a) (F:H a=none):Un fs ex H (upd H a o) h h' where
 keep:=λb u q _ _ _=>k b u q
 slot:=λb u q _ _ _=>⟨u.slots,k b u q⟩
 free:=λb u q n _=>by rw[ah (ne_of_lt (lt_of_lt_of_le (Heap.lt_size q) G))];exact n
 there:=λb u q _=>⟨u,k b u q⟩
 qo:=λb xs q=>by rw[ah (ar q F)];exact q
 nr:=λb u xs q=>by rw[ah (ar q F)];exact q
 qy:=λb ps q=>⟨#[],by rw[ah (ar q F),q];simp⟩
theorem Un.write (F:EU (H x)) (O:e=x\/H e=some (.own x)) (k:∀b u,b≠e->h.get? b=some u->h'.get? b=some u) (N:∃u,h'.get? e=some u):Un fs ex H (upd H x o) h h':=by
 have J:∀b,H b=none->b≠x:=λb n z=>(by subst z;rw[n]at F;exact F);have I:∀b,H b=none->b≠e:=λb n z=>by
  subst z;rcases O with r|r
  .exact J b n r
  .rw[n]at r;cases r
 have G:∀b u,H b=some u->¬ EU (some u)->b≠x:=λb u q nm z=>(by subst z;rw[q]at F;exact nm F);refine⟨λb u q n _ _=>k b u (I b n) q,λb u q n _ _=>⟨u.slots,k b u (I b n) q⟩,λb u q n _=>by rw[ah (J b n)];exact n,λb u q _=>?_,
  λb xs q=>by rw[ah (G b _ q λz=>z)];exact q,λb u xs q=>by rw[ah (G b _ q λz=>z)];exact q,λb ps q=>⟨#[],by rw[ah (G b _ q λz=>z),q];simp⟩⟩
 by_cases L:b=e
 .subst L;exact N
 .exact⟨u,k b u L q⟩
end
def Gm (h:Heap) (H:Hp):List Addr:=(List.range h.objs.size).filter λa=>(H a).isSome
def qL (h:Heap) (H:Hp):Heap:=PySem.W.hideAll h (Gm h H)
theorem xi (h:Heap) (H:Hp):(qL h H).objs.size=h.objs.size:=PySem.W.hideAll_size _ _
theorem yw {h:Heap}{H:Hp}{b:Addr}{o:Obj}(e:h.get? b=some o) (n:H b=none):(qL h H).get? b=some o :=
 PySem.W.hideAll_get _ e λF=>by
  have q:(H b).isSome=true:=(List.mem_filter.mp F).2;rw[n]at q;simp at q
theorem AK {h:Heap}{H:Hp}{b:Addr}{o:Obj}(e:(qL h H).get? b=some o):h.get? b=some o/\H b=none:=by
 have F:h.get? b=some o:=PySem.W.of_hideAll (Gm h H) e;refine⟨F,?_⟩;cases q:H b with
 |none=>rfl
 |some x =>
  have G:b∈Gm h H:=List.mem_filter.mpr ⟨List.mem_range.mpr (Heap.lt_size F),by simp[q]⟩;have z:(qL h H).get? b=none:=PySem.W.hideAll_none (Gm h H) G;rw[z]at e;cases e
structure Mod (K:Frag) (mg:Str->Option Value) (base:Heap):Prop where
 Fc:K.In base
 glob:base.Ns mainGlobals mg
 blt:∃mb,base.Ns builtinsNs mb/\∀x:Str,x ≠ "__name__" -> mb x=bootBuiltins x
 nolimit:base.NoLimit
structure Cx where
 prog:Program
 w:World
 K:Frag
 mg:Str->Option Value
 base:Heap
 A:Around
 N:List Str
 s₀:Shared
 H₀:Hp
 env:Env
 outer:List Env
 stack:List Env
 ex:List Addr
 fn:Str->Bool
 calm:Bool
 pn:List (Addr×Obj)
 xe:Value->Shared->Prop
def yc (l:List Env):List Addr:=l.filterMap (·.frame)
abbrev Cx.fs (X:Cx):List Addr:=yc X.outer
def Gn (F:Scope) (x:Str):Prop:=F.names.lookup x=some .local\/F.names.lookup x=some .cell\/F.names.lookup x=some .free
def Loc (F:Scope) (x:Str):Prop:=F.names.lookup x=some .local\/F.names.lookup x=some .cell
def Look (env:Env) (h:Heap) (m:Str->Option Value) (x:Str) (u:Value):Prop :=
 (env.kindOf x=some .local/\m x=some u)\/((env.kindOf x=some .cell\/env.kindOf x=some .free)/\∃c,env.cells.lookup x=some c/\h.IsCell c (some u))
structure Cx.Ok (X:Cx):Prop where
 mod:Mod X.K X.mg X.base
 kind:X.env.scope.kind=.function
 glob:X.env.globals=mainGlobals
 blt:X.env.builtins=builtinsNs
 above:X.s₀.heap.objs.size<=X.env.locals
 inj:∀x y c,X.env.cells.lookup x=some c->X.env.cells.lookup y=some c->x=y
 has:∀x,(X.env.kindOf x=some .cell\/X.env.kindOf x=some .free)->∃c,X.env.cells.lookup x=some c
 Ew:∀x c,X.fn x=true->X.env.cells.lookup x=some c->X.s₀.heap.objs.size<=c
 hd:X.calm=true->X.A.handled=none
 frames:X.A.frames=some X.stack
 Fu:X.stack=X.outer\/(X.stack=X.env::X.outer/\X.env.frame=some X.env.locals)
 HQ:∀b∈X.ex,b≠X.env.locals/\∀x c,X.env.cells.lookup x=some c->c≠b
 bs:∀b o,X.base.get? b=some o->X.s₀.heap.get? b=some o/\X.H₀ b=none
 AG:X.base.objs.size<=X.s₀.heap.objs.size
 wU:∀b o,X.base.get? b=some o->b∉X.ex
 xu:∀b∈X.ex,b∉X.fs
 kr:X.s₀.heap.FunFrames X.base X.outer
 Cs:∀b∈X.fs,X.H₀ b=none
structure Inv (X:Cx) (pins:List (Addr×Obj)) (σ:List (Option V)) (H:Hp) (s:Shared):Prop where
 ok:X.Ok
 os:s.os=X.s₀.os
 bare:AllBare s.gens
 base:Un X.fs X.ex X.H₀ H X.s₀.heap s.heap
 loc:∃m,s.heap.Ns X.env.locals m/\∀(i:Nat) (x:Str) (v:V),X.N[i]?=some x->σ[i]?=some (some v)->Gn X.env.scope x->∃u,RelV v u/\Look X.env s.heap m x u
 cell:∀x c,X.env.cells.lookup x=some c->∃v,s.heap.IsCell c v
 free:H X.env.locals=none
 gF:∀x c,X.env.cells.lookup x=some c->H c=none
 pin:∀p∈X.pn++pins,s.heap.get? p.1=some p.2/\H p.1=none/\p.1≠X.env.locals/\p.1∉X.fs/\∀v,p.2.data≠.cell v
 bG:iZ X.prog X.w H s.heap
 len:σ.length=X.N.length
section
variable {X:Cx}{pins:List (Addr×Obj)}{σ:List (Option V)}{H H':Hp}{s:Shared}{h':Heap}
theorem Cx.Ok.He (ok:X.Ok) {b:Addr}{o:Obj}(e:X.base.get? b=some o):b∉X.fs:=λF=>by
 have:=(ok.kr.mem F).1;rw[e]at this;cases this
theorem Inv.bs (I:Inv X pins σ H s):∀b o,X.base.get? b=some o->s.heap.get? b=some o/\H b=none:=λb o e =>
 ⟨I.base.keep b o (I.ok.bs b o e).1 (I.ok.bs b o e).2 (I.ok.He e) (I.ok.wU b o e),I.base.free b o (I.ok.bs b o e).1 (I.ok.bs b o e).2 (I.ok.wU b o e)⟩
theorem Inv.bk (I:Inv X pins σ H s):∀b o,X.base.get? b=some o->s.heap.get? b=some o:=λb o e=>(I.bs b o e).1
theorem Inv.mod (I:Inv X pins σ H s):Mod X.K X.mg X.base:=I.ok.mod
theorem Inv.kh (I:Inv X pins σ H s):X.K.In s.heap:=I.ok.mod.Fc.keeps I.bk
theorem Inv.lt (I:Inv X pins σ H s):X.env.locals<s.heap.objs.size:=let ⟨_,F,_⟩:=I.loc;F.lt
theorem Inv.sz (I:Inv X pins σ H s):X.s₀.heap.objs.size<=s.heap.objs.size:=le_trans I.ok.above (le_of_lt I.lt)
theorem Inv.EW (I:Inv X pins σ H s) {a:Addr}(h:s.heap.objs.size<=a):a∉X.fs:=λG=>by
 obtain⟨_,o,F,_⟩:=I.ok.kr.mem G;exact absurd (lt_of_lt_of_le (Heap.lt_size F) (le_trans I.sz h)) (lt_irrefl _)
theorem Inv.DS (I:Inv X pins σ H s):∀x c,X.env.cells.lookup x=some c->c≠X.env.locals:=λx c e z=>by
 obtain⟨v,o,F,hd⟩:=I.cell x c e;obtain⟨m,⟨o',es,ep,J,G,_⟩,_⟩:=I.loc;rw[z,J]at F;cases F;rw[G]at hd;cases hd
theorem Inv.kr (I:Inv X pins σ H s):s.heap.FunFrames X.base X.outer:=by
 have all:∀(l:List Env),(∀b∈yc l,b∈X.fs)->X.s₀.heap.FunFrames X.base l->s.heap.FunFrames X.base l:=by
  intro l
  induction l with
  |nil=>intro _ _;trivial
  |cons env r O =>
   intro hs R;obtain⟨N,⟨L,o,F,Y,U,hd⟩,S⟩:=R;have G:L∈X.fs:=hs L (by unfold yc;rw[List.filterMap_cons,F];exact mem_cons_self);obtain⟨sl,e⟩:=I.base.slot L o U (I.ok.Cs L G) G λz=>I.ok.xu L z G;exact⟨N,⟨L,_,F,Y,e,hd⟩,O (λb J=>hs b (by unfold yc;rw[List.filterMap_cons,F];exact mem_cons_of_mem _ J)) S⟩
 exact all X.outer (λ_ J=>J) I.ok.kr
theorem Inv.stack (I:Inv X pins σ H s):s.heap.FunFrames X.base X.stack:=by
 rcases I.ok.Fu with e|⟨e,F⟩
 .rw[e];exact I.kr
 .rw[e];obtain⟨m,G,_⟩:=I.loc;refine .cons (by rw[I.ok.kind];decide) F G ?_ I.kr;exact Heap.get?_none_of_le (le_trans I.ok.AG I.ok.above)
theorem Inv.qD (I:Inv X pins σ H s):∀b∈yc X.stack,b∈X.env.locals::X.fs:=λb F=>by
 rcases I.ok.Fu with e|⟨e,G⟩
 .rw[e]at F;exact mem_cons_of_mem _ F
 .rw[e]at F;unfold yc at F;rw[List.filterMap_cons,G]at F;exact F
theorem Inv.wj (I:Inv X pins σ H s):∀b∈yc X.stack,H b=none:=λb F=>by
 rcases List.mem_cons.mp (I.qD b F)with e|F
 .rw[e];exact I.free
 .obtain⟨_,o,G,_⟩:=I.ok.kr.mem F;exact I.base.free b o G (I.ok.Cs b F) λz=>I.ok.xu b z F
theorem Inv.step {g':Array GenState}{t':Nat}{d':Drawn}{ch:List Addr}(I:Inv X pins σ H s)
  (N:∀b∈ch,(b∈X.ex\/X.s₀.heap.objs.size<=b)/\b≠X.env.locals/\(∀x c,X.env.cells.lookup x=some c->c≠b)/\∀p∈X.pn++pins,p.1≠b)
  (keep:∀b o,b≠X.env.locals->b∉X.fs->b∉ch->s.heap.get? b=some o->H b=none->h'.get? b=some o)
  (slot:∀b o,b≠X.env.locals->b∈X.fs->b∉ch->s.heap.get? b=some o->H b=none->∃sl,h'.get? b=some { o with slots:=sl }) (free:∀b o,b∉ch->s.heap.get? b=some o->H b=none->H' b=none)
  (there:∀b o,b∉ch->s.heap.get? b=some o->∃o',h'.get? b=some o')
  (qo:∀b xs,H b=some (.tup xs)->H' b=some (.tup xs)) (nr:∀b o u,H b=some (.frz o u)->H' b=some (.frz o u)) (qy:∀b ps,H b=some (.tbl ps)->∃ac,H' b=some (.tbl (ps++ac)))
  (ns:∀m,s.heap.Ns X.env.locals m->h'.Ns X.env.locals m) (bG:iZ X.prog X.w H' h') (hg:AllBare g') :
  Inv X pins σ H' { s with heap:=h',gens:=g',drawn:=d',toks:=t' }:=by
 have ab:∀b o,X.s₀.heap.get? b=some o->b≠X.env.locals:=λb o e=>ne_of_lt (lt_of_lt_of_le (Heap.lt_size e) I.ok.above);have S:∀b o,X.s₀.heap.get? b=some o->b∉X.ex->b∉ch:=λb o e F J=>by
  rcases(N b J).1 with z|z
  .exact F z
  .exact absurd (lt_of_lt_of_le (Heap.lt_size e) z) (lt_irrefl _)
 have Y:∀x c,X.env.cells.lookup x=some c->∀v,s.heap.IsCell c v->h'.IsCell c v:=λx c e v ad=>by
  obtain⟨o,L,hd⟩:=ad;have R:c∉ch:=λz=>(N c z).2.2.1 x c e rfl;by_cases hc:c∈X.fs
  .obtain⟨sl,q⟩:=slot c o (I.DS x c e) hc R L (I.gF x c e);exact⟨_,q,hd⟩
  .exact⟨o,keep c o (I.DS x c e) hc R L (I.gF x c e),hd⟩
 refine⟨I.ok,I.os,hg,⟨λb o e n J F=>?_,λb o e n J F=>?_,λb o e n F=>?_,λb o e F=>?_,λb xs e=>qo b xs (I.base.qo b xs e),λb o xs e=>nr b o xs (I.base.nr b o xs e),λb ps e=>?_⟩,?_,λx c e=>?_,?_,λx c e=>?_,λp U=>?_,bG,I.len⟩
 .exact keep b o (ab b o e) J (S b o e F) (I.base.keep b o e n J F) (I.base.free b o e n F)
 .obtain⟨sl,G⟩:=I.base.slot b o e n J F;obtain⟨am,O⟩:=slot b _ (ab b o e) J (S b o e F) G (I.base.free b o e n F);exact⟨am,O⟩
 .obtain⟨o',G⟩:=I.base.there b o e F;exact free b o' (S b o e F) G (I.base.free b o e n F)
 .obtain⟨o',G⟩:=I.base.there b o e F;exact there b o' (S b o e F) G
 .obtain⟨m1,G⟩:=I.base.qy b ps e;obtain⟨m2,O⟩:=qy b _ G;exact⟨m1++m2,by rw[O,Array.append_assoc]⟩
 .obtain⟨m,hn,hl⟩:=I.loc;refine⟨m,ns m hn,λi x v G O e3=>?_⟩;obtain⟨u,r,l⟩:=hl i x v G O e3;refine⟨u,r,?_⟩;rcases l with l|⟨k,c,e,z⟩
  .exact .inl l
  .exact .inr ⟨k,c,e,Y x c e _ z⟩
 .obtain⟨v,z⟩:=I.cell x c e;exact⟨v,Y x c e v z⟩
 .obtain⟨m,⟨o,_,_,L,_⟩,_⟩:=I.loc;exact free _ o (λz=>(N _ z).2.1 rfl) L I.free
 .obtain⟨v,o,L,hd⟩:=I.cell x c e;exact free c o (λz=>(N c z).2.2.1 x c e rfl) L (I.gF x c e)
 .obtain⟨e,n,ne,nf,d⟩:=I.pin p U;have R:p.1∉ch:=λz=>(N p.1 z).2.2.2 p U rfl;exact⟨keep p.1 p.2 ne nf R e n,free p.1 p.2 R e n,ne,nf,d⟩
theorem Inv.un {t':Nat}(I:Inv X pins σ H s) (u:Un X.fs [] H H' s.heap h') (O:iZ X.prog X.w H' h'):Inv X pins σ H' { s with heap:=h',toks:=t' }:=by
 obtain⟨m,⟨o,es,ep,J,r⟩,_⟩:=id I.loc;obtain⟨sl,N⟩:=u.any J I.free (by simp);exact I.step (g':=s.gens) (d':=s.drawn) (ch:=[]) (λ_ z=>nomatch z) (λb o _ F _ e n=>u.keep b o e n F (by simp)) (λb o _ F _ e n=>u.slot b o e n F (by simp)) (λb o _ e n=>u.free b o e n (by simp)) (λb o _ e=>u.there b o e (by simp)) u.qo u.nr u.qy (λU L=>by
  obtain⟨o',es',R,G,S⟩:=L;rw[J]at G;cases G;exact⟨_,es',R,N,S⟩) O I.bare
theorem Inv.call {g':Array GenState}{t':Nat}{d':Drawn}{ch:List Addr}(I:Inv X pins σ H s) (u:Un (yc X.stack) ch H H' s.heap h') (S:iZ X.prog X.w H' h') (hg:AllBare g')
  (J:∀b∈ch,(b∈X.ex\/X.s₀.heap.objs.size<=b)/\b≠X.env.locals/\(∀x c,X.env.cells.lookup x=some c->c≠b)/\∀p∈X.pn++pins,p.1≠b) :
  Inv X pins σ H' { s with heap:=h',gens:=g',drawn:=d',toks:=t' }:=by
 obtain⟨m,⟨o,es,ep,N,r⟩,_⟩:=id I.loc;obtain⟨sl,G⟩:=u.any N I.free λz=>(J _ z).2.1 rfl;exact I.step (ch:=ch) J (λb o G Y F e n=>u.keep b o e n (λz=>(List.mem_cons.mp (I.qD b z)).elim G Y) F) (λb o _ _ F e n=>u.any e n F) (λb o F e n=>u.free b o e n F) (λb o F e=>u.there b o e F) u.qo u.nr u.qy (λm' O=>by
  obtain⟨o',es',R,L,U⟩:=O;rw[N]at L;cases L;exact⟨_,es',R,G,U⟩) S hg
theorem Inv.turned {t':Nat}{F:Addr}(I:Inv X pins σ H s) (k:∀b o,b≠F->s.heap.get? b=some o->h'.get? b=some o) (U:H F=none) (J:F≠X.env.locals)
  (h1:F∈X.ex\/X.s₀.heap.objs.size<=F) (h2:∀x c,X.env.cells.lookup x=some c->c≠F) (R:∀p∈X.pn++pins,p.1≠F):Inv X pins σ H { s with heap:=h',toks:=t' }:=by
 have L:∀b u,H b=some u->b≠F:=λb u e z=>(by rw[z,U]at e;cases e);refine I.step (g':=s.gens) (d':=s.drawn) (ch:=[F]) (λb O=>?_) (λb o _ _ G e _=>k b o (λz=>G (by simp[z])) e) (λb o _ _ G e _=>⟨o.slots,k b o (λz=>G (by simp[z])) e⟩) (λ_ _ _ _ n=>n)
  (λb o G e=>⟨o,k b o (λz=>G (by simp[z])) e⟩) (λ_ _ e=>e) (λ_ _ _ e=>e) (λb ps e=>⟨#[],by rw[e];simp⟩) (λm N=>?_) (λb u e=>?_) I.bare
 .have e:b=F:=(by simpa using O);subst e;exact⟨h1,J,h2,R⟩
 .obtain⟨o,es,ep,S,r⟩:=N;exact⟨o,es,ep,k _ o (Ne.symm J) S,r⟩
 .refine(I.bG b u e).qz (λc v G q=>k c v ?_ q) (λ_ q=>q) λ_ _ q=>q;rcases G with z|z
  .rw[z];exact L b u e
  .exact L c _ z
theorem Inv.tok (I:Inv X pins σ H s) (t:Nat):Inv X pins σ H { s with toks:=t }:=I.un (h':=s.heap) (t':=t) Un.refl I.bG
theorem Inv.kept {t':Nat}(I:Inv X pins σ H s) (k:∀b u,s.heap.get? b=some u->h'.get? b=some u):Inv X pins σ H { s with heap:=h',toks:=t' }:=I.un (Un.kept k) (I.bG.kept k)
theorem Inv.laid {a:Addr}{o:HO}{t':Nat}(I:Inv X pins σ H s) (k:∀b u,s.heap.get? b=some u->h'.get? b=some u) (F:s.heap.objs.size<=a) (new:bV X.prog X.w (upd H a o) h' a o) :
  Inv X pins σ (upd H a o) { s with heap:=h',toks:=t' }:=I.un (Un.laid k F (I.bG.fresh F)) (I.bG.laid k F new)
theorem Inv.write {x e:Addr}{o:HO}{t':Nat}(I:Inv X pins σ H s) (J:EU (H x)) (G:e=x\/H e=some (.own x)) (k:∀b u,b≠e->s.heap.get? b=some u->h'.get? b=some u) (F:∃u,h'.get? e=some u)
  (new:bV X.prog X.w (upd H x o) h' x o):Inv X pins σ (upd H x o) { s with heap:=h',toks:=t' }:=I.un (Un.write J G k F) (I.bG.write J G k F new)
theorem Inv.lh {F:List (Addr×Obj)}(I:Inv X pins σ H s) (h:∀p∈F,s.heap.get? p.1=some p.2/\H p.1=none/\p.1≠X.env.locals/\p.1∉X.fs/\∀v,p.2.data≠.cell v):Inv X F σ H s :=
 ⟨I.ok,I.os,I.bare,I.base,I.loc,I.cell,I.free,I.gF,λp G=>(List.mem_append.mp G).elim (λz=>I.pin p (mem_append_left _ z)) (h p),I.bG,I.len⟩
theorem sE {N:List Str}(F:N.Nodup) {i j:Nat}{x:Str}(a:N[i]?=some x) (b:N[j]?=some x):i=j:=by
 obtain⟨h1,I⟩:=List.getElem?_eq_some_iff.mp a;obtain⟨h2,G⟩:=List.getElem?_eq_some_iff.mp b;exact(List.getElem_inj F).mp (I.trans G.symm)
theorem nE {M:Model}{A:Around}{E:Value->Shared->Prop}{i:Nat}{x:Str}{v:V}{u:Value}{Q:Unit->Shared->Prop}(I:Inv X pins σ H s) (hN:X.N.Nodup) (hi:X.N[i]?=some x) (J:Loc X.env.scope x) (r:RelV v u)
  (h:∀s',Inv X pins (σ.set i (some v)) H s'->(∃a,Heap.SameBut a s.heap s'.heap/\(a=X.env.locals\/X.env.cells.lookup x=some a))->Q () s') (hf:X.fn x=true\/X.env.scope.names.lookup x=some .local:=by first|exact .inl rfl|exact .inr rfl|assumption):wpAny M A (storeName X.env x u) Q E s:=by
 obtain⟨m,hn,hl⟩:=id I.loc;have a2:(X.env.scope.kind == .class||(X.env.scope.kind == .module&&X.env.locals != X.env.globals))=false:=(by rw[I.ok.kind];rfl);have am:i<σ.length:=(by rw[I.len];exact(List.getElem?_eq_some_iff.mp hi).1);have DS:=I.DS;have ap:∀{a:Addr}{h':Heap},(∃o,s.heap.get? a=some o/\H a=none)->Heap.SameBut a s.heap h'->iZ X.prog X.w H h':=λ{a h'} ha hs b ob e=>by
  obtain⟨_,_,ac⟩:=ha;refine(I.bG b ob e).qz (λc U G q=>(hs.2 c ?_).trans q) (λ_ q=>q) λ_ _ q=>q;rintro rfl;rcases G with rfl|G
  .rw[ac]at e;cases e
  .rw[ac]at G;cases G
 rcases J with O|O
 .refine wpAny_storeName_local O hn (λh' a0 hs=>?_) a2;obtain⟨oL,_,_,a1,_⟩:=id hn;refine h _ ⟨I.ok,I.os,I.bare,⟨λb o e n S J=>?_,λb o e n S J=>?_,I.base.free,λb o e J=>?_,I.base.qo,I.base.nr,I.base.qy⟩,⟨_,a0,λj y v' F L e3=>?_⟩,λy c e=>?_,I.free,I.gF,λp hp=>?_,ap ⟨oL,a1,I.free⟩ hs,by simpa using I.len⟩ ⟨_,hs,.inl rfl⟩
  .exact(hs.2 b (ne_of_lt (lt_of_lt_of_le (Heap.lt_size e) I.ok.above))).trans (I.base.keep b o e n S J)
  .obtain⟨sl,F⟩:=I.base.slot b o e n S J;exact⟨sl,(hs.2 b (ne_of_lt (lt_of_lt_of_le (Heap.lt_size e) I.ok.above))).trans F⟩
  .obtain⟨o',F⟩:=I.base.there b o e J;exact⟨o',(hs.2 b (ne_of_lt (lt_of_lt_of_le (Heap.lt_size e) I.ok.above))).trans F⟩
  .by_cases R:j=i
   .subst R;rw[hi]at F;cases F;rw[getElem?_set_self am]at L;cases L;exact⟨u,r,.inl ⟨O,by simp⟩⟩
   .rw[getElem?_set_ne (Ne.symm R)]at L;obtain⟨u',r',q⟩:=hl j y v' F L e3;refine⟨u',r',?_⟩;rcases q with⟨k,e⟩|⟨k,c,e,z⟩
    .refine .inl ⟨k,?_⟩;have:y≠x:=λe=>R (sE hN F (e▸hi));simp[this,e]
    .exact .inr ⟨k,c,e,z.sameBut hs (DS y c e)⟩
  .obtain⟨U,z⟩:=I.cell y c e;exact⟨U,z.sameBut hs (DS y c e)⟩
  .obtain⟨e,n,ne,nf,d⟩:=I.pin p hp;exact⟨(hs.2 p.1 ne).trans e,n,ne,nf,d⟩
 .have ab:X.fn x=true:=by
   rcases hf with z|z
   .exact z
   .rw[z]at O;cases O
  obtain⟨c,G⟩:=I.ok.has x (.inl O);obtain⟨U,z⟩:=I.cell x c G;refine wpAny_storeName_cell I.ok.kind O G z (λh' aB hs=>?_);obtain⟨oc,ad,aT⟩:=id z;refine h { s with heap:=h' } ⟨I.ok,I.os,I.bare,⟨λb o e n S J=>?_,λb o e n S J=>?_,I.base.free,λb o e J=>?_,I.base.qo,I.base.nr,I.base.qy⟩,⟨m,hn.sameBut hs (Ne.symm (DS x c G)),λj y v' F L e3=>?_⟩,λy Y e=>?_,I.free,I.gF,λp hp=>?_,ap ⟨oc,ad,I.gF x c G⟩ hs,by simpa using I.len⟩ ⟨c,hs,.inr G⟩
  .exact(hs.2 b (ne_of_lt (lt_of_lt_of_le (Heap.lt_size e) (I.ok.Ew x c ab G)))).trans (I.base.keep b o e n S J)
  .obtain⟨sl,F⟩:=I.base.slot b o e n S J;exact⟨sl,(hs.2 b (ne_of_lt (lt_of_lt_of_le (Heap.lt_size e) (I.ok.Ew x c ab G)))).trans F⟩
  .obtain⟨o',F⟩:=I.base.there b o e J;exact⟨o',(hs.2 b (ne_of_lt (lt_of_lt_of_le (Heap.lt_size e) (I.ok.Ew x c ab G)))).trans F⟩
  .by_cases R:j=i
   .subst R;rw[hi]at F;cases F;rw[getElem?_set_self am]at L;cases L;exact⟨u,r,.inr ⟨.inl O,c,G,aB⟩⟩
   .rw[getElem?_set_ne (Ne.symm R)]at L;obtain⟨u',r',q⟩:=hl j y v' F L e3;refine⟨u',r',?_⟩;rcases q with q|⟨k,Y,e,z'⟩
    .exact .inl q
    .refine .inr ⟨k,Y,e,z'.sameBut hs ?_⟩;rintro rfl;exact R (sE hN F (I.ok.inj _ _ _ e G▸hi))
  .by_cases as:Y=c
   .subst as;exact⟨_,aB⟩
   .obtain⟨w2,z2⟩:=I.cell y Y e;exact⟨w2,z2.sameBut hs as⟩
  .obtain⟨e,n,ne,nf,d⟩:=I.pin p hp;refine⟨(hs.2 p.1 ?_).trans e,n,ne,nf,d⟩;intro q;rw[q,ad]at e;have q':oc=p.2:=Option.some.inj e;exact d U (by rw[<-q'];exact aT)
theorem hV {M:Model}{A:Around}{E:Value->Shared->Prop}{i:Nat}{x:Str}{v:V}{u:Value}{Q:Unit->Shared->Prop}(I:Inv X pins σ H s) (G:X.N.Nodup) (hi:X.N[i]?=some x) (L:Loc X.env.scope x) (r:RelV v u)
  (h:∀s',Inv X pins (σ.set i (some v)) H s'->Q () s') (J:X.fn x=true\/X.env.scope.names.lookup x=some .local:=by first|exact .inl rfl|exact .inr rfl|assumption):wpAny M A (storeName X.env x u) Q E s :=
 nE I G hi L r (λs' F _=>h s' F) J
theorem Inv.E8 {s':Shared}{ch:List Addr}(I:Inv X pins σ H s) (J:s'.os=s.os) (u:Un (yc X.stack) ch H H' s.heap s'.heap) (G:iZ X.prog X.w H' s'.heap) (hg:AllBare s'.gens)
  (F:∀b∈ch,(b∈X.ex\/X.s₀.heap.objs.size<=b)/\b≠X.env.locals/\(∀x c,X.env.cells.lookup x=some c->c≠b)/\∀p∈X.pn++pins,p.1≠b):Inv X pins σ H' s':=by
 obtain⟨h',g',d',t',o'⟩:=s';have e:o'=s.os:=J;subst e;exact I.call (g':=g') (t':=t') (d':=d') u G hg F
end
abbrev XK:=Value->Option Addr->Hp->Prop
abbrev St:=List (Option V)
abbrev VK:=V->Hp->Prop
abbrev TE:=St->Hp->VK->Prop
abbrev TT:=St->Hp->(Bool->Hp->Prop)->Prop
abbrev TA:=St->Hp->(List V->Hp->Prop)->Prop
structure Ends where
 nx:St->Hp->Prop
 rt:VK
 bk:St->Hp->Prop:=λ_ _=>False
 ct:St->Hp->Prop:=λ_ _=>False
abbrev TS:=Ends->St->Hp->Prop
def EP (X:Cx) (pins:List (Addr×Obj)) (σ:St) (Q:VK) (u:Value) (s':Shared):Prop:=∃v H',Inv X pins σ H' s'/\RelV v u/\Q v H'
def TP (X:Cx) (pins:List (Addr×Obj)) (σ:St) (Q:Bool->Hp->Prop) (b:Bool) (s':Shared):Prop:=∃H',Inv X pins σ H' s'/\Q b H'
def AP (X:Cx) (pins:List (Addr×Obj)) (σ:St) (Q:List V->Hp->Prop) (us:List Value) (s':Shared):Prop:=∃vs H',Inv X pins σ H' s'/\Vals vs us/\Q vs H'
def SP (X:Cx) (pins:List (Addr×Obj)) (D:Ends) (f:Flow) (s':Shared):Prop :=
 match f with
 |.next=>∃F H',Inv X pins F H' s'/\D.nx F H'
 |.brk=>∃F H',Inv X pins F H' s'/\D.bk F H'
 |.cont=>∃F H',Inv X pins F H' s'/\D.ct F H'
 |.ret u=>∃v F H',Inv X pins F H' s'/\RelV v u/\D.rt v H'
def PE (X:Cx) (e:Expr) (t:TE):Prop :=
 ∀(pins:List (Addr×Obj)) (s:Shared) (σ:St) (H:Hp) (Q:VK),Inv X pins σ H s->t σ H Q->wpAny (model X.prog X.w) X.A (eval e X.env) (EP X pins σ Q) X.xe s
def PT (X:Cx) (e:Expr) (t:TT):Prop :=
 ∀(pins:List (Addr×Obj)) (s:Shared) (σ:St) (H:Hp) (Q:Bool->Hp->Prop),Inv X pins σ H s->t σ H Q->wpAny (model X.prog X.w) X.A (isTrue e X.env (eval e X.env)) (TP X pins σ Q) X.xe s
def PW (X:Cx) (e:Expr) (t:TT):Prop :=
 ∀(F:Sem Value) (pins:List (Addr×Obj)) (s:Shared) (σ:St) (H:Hp) (Q:Bool->Hp->Prop),Inv X pins σ H s->t σ H Q->wpAny (model X.prog X.w) X.A (isTrue e X.env F) (TP X pins σ Q) X.xe s
theorem PW.pt {X:Cx}{e:Expr}{t:TT}(h:PW X e t):PT X e t:=h _
def PA (X:Cx) (es:List Expr) (t:TA):Prop :=
 ∀(pos:Pos) (pins:List (Addr×Obj)) (s:Shared) (σ:St) (H:Hp) (Q:List V->Hp->Prop),Inv X pins σ H s->t σ H Q->wpAny (model X.prog X.w) X.A (spliced (backTo pos (starEach es X.env))) (AP X pins σ Q) X.xe s
def PS (X:Cx) (st:Stmt) (t:TS):Prop :=
 ∀(pins:List (Addr×Obj)) (s:Shared) (σ:St) (H:Hp) (D:Ends),Inv X pins σ H s->t D σ H->wpAny (model X.prog X.w) X.A (exec st X.env) (SP X pins D) X.xe s
def vG (X:Cx) (st:List Stmt) (t:TS):Prop :=
 ∀(pins:List (Addr×Obj)) (s:Shared) (σ:St) (H:Hp) (D:Ends),Inv X pins σ H s->t D σ H->wpAny (model X.prog X.w) X.A (execs st X.env) (SP X pins D) X.xe s
theorem bT {α:Type}{t:Sem α}{Q F:α->Shared->Prop}{M:Model}{A:Around}{E:Value->Shared->Prop}{s:Shared}(h:wpAny M A t Q E s) (G:∀a s,Q a s->F a s):wpAny M A t F E s:=wpAny_mono h G λ_ _ x=>x
section
variable {X:Cx}
inductive Br (i:Nat) (σ:St) (H:Hp) (Q:VK):Prop
 |mk (v:_) (_:σ[i]?=some (some v)) (_:Q v H):Br i σ H Q
def tC (v:V):TE:=λ_ H Q=>Q v H
theorem Ei {i:Nat}{x:Str}{pos:Pos}(S:X.N[i]?=some x) (U:Gn X.env.scope x) (hd:(x==("__debug__" : Str))=false:=by decide) (R:(x==("__classdict__" : Str))=false:=by decide):PE X (.Name x pos) (Br i):=by
 intro pins s σ H Q I h;obtain⟨v,e,h⟩:=h;obtain⟨m,hn,Y⟩:=I.loc;obtain⟨u,r,l⟩:=Y i x v S e U;have G:EP X pins σ Q u s:=⟨v,H,I,r,h⟩;rcases l with⟨F,O⟩|⟨F,c,J,L⟩
 .exact wpAny_Name (wpAny_loadName_local I.ok.kind F hn O G) hd
 .rcases F with F|F
  .exact wpAny_Name (wpAny_loadName_cell I.ok.kind F J L G) hd
  .exact wpAny_Name (wpAny_loadName_free I.ok.kind F J L G R) hd
theorem ak {i j pos}:PE X (.Constant (.int i) j pos) (tC (.int i)):=λ_ _ _ H _ I h=>wpAny_Constant_int ⟨.int i,H,I.tok _,⟨_,rfl⟩,h⟩
theorem lJ {b j pos}:PE X (.Constant (.bool b) j pos) (tC (.bl b)):=λ_ _ _ H _ I h=>Constant_bool ⟨.bl b,H,I,rfl,h⟩
theorem pW {j pos}:PE X (.Constant .none j pos) (tC .non):=λ_ _ _ H _ I h=>Constant_none ⟨.non,H,I,rfl,h⟩
theorem aI {x j pos}:PE X (.Constant (.str x) j pos) (tC (.str x)):=λ_ _ _ H _ I h=>Calls.Constant_str ⟨.str x,H,I.tok _,⟨_,rfl⟩,h⟩
def Gl (X:Cx) (x:Str):Prop:=X.env.kindOf x=some .globalImplicit
theorem ly {E:Value->Shared->Prop}{pins:List (Addr×Obj)}{s:Shared}{σ:St}{H:Hp}{x:Str}{u:Value}{pos:Pos}{Q:Value->Shared->Prop}(I:Inv X pins σ H s) (hg:Gl X x) (F:X.mg x=some u) (h:Q u s)
  (hd:(x==("__debug__" : Str))=false:=by decide):wpAny (model X.prog X.w) X.A (eval (.Name x pos) X.env) Q E s :=
 Calls.Name_function_global I.ok.kind hg (Calls.loadGlobal_global (by rw[I.ok.glob];exact I.mod.glob.keeps I.bk) F h) hd
theorem gx {E:Value->Shared->Prop}{pins:List (Addr×Obj)}{s:Shared}{σ:St}{H:Hp}{x:Str}{u:Value}{pos:Pos}{Q:Value->Shared->Prop}(I:Inv X pins σ H s) (hg:Gl X x) (F:X.mg x=none) (G:bootBuiltins x=some u) (h:Q u s)
  (J:x ≠ "__name__" := by decide) (hd:(x==("__debug__" : Str))=false:=by decide):wpAny (model X.prog X.w) X.A (eval (.Name x pos) X.env) Q E s:=by
 obtain⟨L,h1,h2⟩:=I.mod.blt;exact Calls.Name_function_global I.ok.kind hg (Calls.loadGlobal_builtin (by rw[I.ok.glob];exact I.mod.glob.keeps I.bk) F (by rw[I.ok.blt];exact h1.keeps I.bk) ((h2 x J).trans G) h) hd
theorem cj {x:Str}{v:V}{u:Value}{pos:Pos}(hg:Gl X x) (F:X.mg x=some u) (r:RelV v u) (hd:(x==("__debug__" : Str))=false:=by decide):PE X (.Name x pos) (tC v):=
 λ_ _ _ H _ I h=>ly I hg F ⟨v,H,I,r,h⟩ hd
theorem d0 {x:Str}{v:V}{u:Value}{pos:Pos}(hg:Gl X x) (F:X.mg x=none) (J:bootBuiltins x=some u) (r:RelV v u) (G:x ≠ "__name__" := by decide) (hd:(x==("__debug__" : Str))=false:=by decide):PE X (.Name x pos) (tC v):=
 λ_ _ _ H _ I h=>gx I hg F J ⟨v,H,I,r,h⟩ G hd
variable {a b:Expr}{ta tb:TE}{pos:Pos}
def PC (X:Cx) (G:CmpOp) (a b:Expr) (t:TE):Prop :=
 ∀(pins:List (Addr×Obj)) (s:Shared) (σ:St) (H:Hp) (Q:VK),Inv X pins σ H s->t σ H Q ->
  wpAny (model X.prog X.w) X.A (eval a X.env) (λv I=>wpAny (model X.prog X.w) X.A (eval b X.env) (λu F=>wpAny (model X.prog X.w) X.A (compareOp G v u) (EP X pins σ Q) X.xe F) X.xe I) X.xe s
inductive ID (t:TE) (Q:Bool->Hp->Prop) (x:V) (H1:Hp):Prop
 |mk (c:_) (_:x=.bl c) (_:Q c H1):ID t Q x H1
def tB (t:TE):TT:=λσ H Q=>t σ H λx H1=>ID t Q x H1
theorem uf {F:CmpOp}{t:TE}(h:PC X F a b t) (h1:behindInMarks F b=false:=by first|exact nobehind _ av av|rfl):PE X (.Compare a [F] [b] pos) t:=λpins s σ H Q I G=>wpAny_Compare1 (h pins s σ H Q I G) h1
theorem iU {F:CmpOp}{t:TE}(h:PC X F a b t) (h1:behindInMarks F b=false:=by first|exact nobehind _ av av|rfl):PT X (.Compare a [F] [b] pos) (tB t):=by
 intro pins s σ H Q I G;refine wpAny_isTrue_Compare1 (bT (h pins s σ H _ I G) λv R h1=>bT h1 λu U h2=>bT h2 λc S L=>?_) h1;obtain⟨x,H1,N,O,J⟩:=L;obtain⟨d,rfl,q⟩:=J;cases O;exact wpAny_truthy_bool ⟨H1,N,q⟩
theorem fQ {e:Expr}{t:TE}(h:PE X e t) (L:∀F,isTrue e X.env F=(do let v <-F;standAt e.pos;holding [v] (truthy v)):=by intro _;rfl):PT X e (tB t):=by
 intro pins s σ H Q I J;refine isTrue_plain (bT (h pins s σ H _ I J) λv S G=>?_) (L _);obtain⟨x,H1,O,R,N⟩:=G;obtain⟨d,rfl,q⟩:=N;cases R;exact wpAny_truthy_bool ⟨H1,O,q⟩
variable {tA tB':TT}{rest:List Expr}
def Hg (t u:TT):TT:=λσ H Q=>t σ H λc H1=>if c=true then u σ H1 Q else Q false H1
def Jj (t u:TT):TT:=λσ H Q=>t σ H λc H1=>if c=true then Q true H1 else u σ H1 Q
def HP (t:TT):TT:=λσ H Q=>t σ H λc H1=>Q (!c) H1
theorem pZ (F:PT X a tA):PW X (.BoolOp .And [a] pos) tA:=by
 intro J pins s σ H Q I h;refine isTrue_and (bT (F pins s σ H Q I h) λc G e=>?_);cases c with
 |true=>exact isTrue_and_nil e
 |false=>exact e
theorem eY (F:PT X a tA):PW X (.BoolOp .Or [a] pos) tA:=by
 intro J pins s σ H Q I h;refine isTrue_or (bT (F pins s σ H Q I h) λc G e=>?_);cases c with
 |false=>exact isTrue_or_nil e
 |true=>exact e
theorem uv (R:PT X a tA) (N:PW X (.BoolOp .And (b::rest) pos) tB'):PW X (.BoolOp .And (a::b::rest) pos) (Hg tA tB'):=by
 intro O pins s σ H Q I h;refine isTrue_and (bT (R pins s σ H _ I h) λc J L=>?_);obtain⟨H1,G,F⟩:=L;cases c with
 |true=>exact N O pins J σ H1 Q G F
 |false=>exact⟨H1,G,F⟩
theorem gj (R:PT X a tA) (N:PW X (.BoolOp .Or (b::rest) pos) tB'):PW X (.BoolOp .Or (a::b::rest) pos) (Jj tA tB'):=by
 intro O pins s σ H Q I h;refine isTrue_or (bT (R pins s σ H _ I h) λc J L=>?_);obtain⟨H1,G,F⟩:=L;cases c with
 |true=>exact⟨H1,G,F⟩
 |false=>exact N O pins J σ H1 Q G F
theorem ve (F:PT X a tA):PT X (.UnaryOp .Not a pos) (HP tA):=by
 intro pins s σ H Q I h;exact isTrue_not (F pins s σ H (λc H1=>Q (!c) H1) I h)
inductive yX (ta tb:TE) (σ:St) (Q:VK) (x:V) (H1:Hp):Prop
 |mk (c:_) (_:x=.bl c) (_:if c=true then tb σ H1 Q else Q (.bl false) H1):yX ta tb σ Q x H1
def FO (ta tb:TE):TE:=λσ H Q=>ta σ H λx H1=>yX ta tb σ Q x H1
inductive Cg (ta tb:TE) (σ:St) (Q:VK) (x:V) (H1:Hp):Prop
 |mk (c:_) (_:x=.bl c) (_:if c=true then Q (.bl true) H1 else tb σ H1 Q):Cg ta tb σ Q x H1
def Hu (ta tb:TE):TE:=λσ H Q=>ta σ H λx H1=>Cg ta tb σ Q x H1
inductive Ao (ta:TE) (Q:VK) (x:V) (H1:Hp):Prop
 |mk (c:_) (_:x=.bl c) (_:Q (.bl (!c)) H1):Ao ta Q x H1
def EZ (ta:TE):TE:=λσ H Q=>ta σ H λx H1=>Ao ta Q x H1
theorem yh {op} {t:TE}(h:PE X a t):PE X (.BoolOp op [a] pos) t:=λpins s σ H Q I F=>BoolOp_one (h pins s σ H Q I F)
theorem Cz (N:PE X a ta) (L:PE X (.BoolOp .And (b::rest) pos) tb):PE X (.BoolOp .And (a::b::rest) pos) (FO ta tb):=by
 intro pins s σ H Q I h;refine BoolOp_and (bT (N pins s σ H _ I h) λv J O=>?_);obtain⟨x,H1,G,R,F⟩:=O;obtain⟨c,rfl,F⟩:=F;cases R;refine wpAny_truthy_bool ?_;cases c with
 |true=>exact L pins J σ H1 Q G F
 |false=>exact⟨.bl false,H1,G,rfl,F⟩
theorem EN (N:PE X a ta) (L:PE X (.BoolOp .Or (b::rest) pos) tb):PE X (.BoolOp .Or (a::b::rest) pos) (Hu ta tb):=by
 intro pins s σ H Q I h;refine BoolOp_or (bT (N pins s σ H _ I h) λv J O=>?_);obtain⟨x,H1,G,R,F⟩:=O;obtain⟨c,rfl,F⟩:=F;cases R;refine wpAny_truthy_bool ?_;cases c with
 |false=>exact L pins J σ H1 Q G F
 |true=>exact⟨.bl true,H1,G,rfl,F⟩
theorem DM (L:PE X a ta):PE X (.UnaryOp .Not a pos) (EZ ta):=by
 intro pins s σ H Q I h;refine UnaryOp_ (bT (L pins s σ H _ I h) λv O J=>?_);obtain⟨x,H1,G,N,F⟩:=J;obtain⟨c,rfl,F⟩:=F;cases N;exact not_of (wpAny_truthy_bool ⟨.bl (!c),H1,G,rfl,F⟩)
end
def bq (K:Frag) (H:Hp) (a:Addr) (xs:List V):Prop :=
 Rd H a (.lst xs) \/
  ∃(o:Obj) (its:Array Value) (n:Nat),K.lookup a=some o/\o.cls=.type "list" /\ o.dict=none/\o.data=.seq its n/\its.size<=sizeLine/\Vals xs its.toList
def bR (K:Frag) (H:Hp) (a:Addr) (xs:List V):Prop :=
 Rd H a (.tup xs) \/
  ∃(o:Obj) (its:Array Value) (n:Nat),K.lookup a=some o/\o.cls=.type "tuple" /\ o.data=.seq its n/\its.size<=sizeLine/\Vals xs its.toList
def Hl:Value->Option V
 |.none=>some .non
 |.bool b=>some (.bl b)
 |.int i _=>some (.int i)
 |.str x _=>some (.str x)
 |.bytes b _=>some (.byt b)
 |.float b _=>some (.flt b)
 |.ref a=>some (.ref a)
 |.type n=>some (.ty n)
 |_=>none
theorem RelV.abs {x:V}{u:Value}(r:RelV x u):Hl u=some x:=by
 cases x with
 |non=>cases r;rfl
 |bl _=>cases r;rfl
 |int _=>obtain⟨t,rfl⟩:=r;rfl
 |str _=>obtain⟨t,rfl⟩:=r;rfl
 |byt _=>obtain⟨t,rfl⟩:=r;rfl
 |flt _=>obtain⟨t,rfl⟩:=r;rfl
 |ref _=>cases r;rfl
 |ty _=>cases r;rfl
theorem RelV.inj {x y:V}{u:Value}(r:RelV x u) (q:RelV y u):x=y:=Option.some.inj (r.abs.symm.trans q.abs)
theorem Vals.inj:∀{xs ys:List V}{us:List Value},Vals xs us->Vals ys us->xs=ys
 |_,_,_,.nil,.nil=>rfl
 |_,_,_,.cons r t,.cons F t'=>by rw[r.inj F,Vals.inj t t']
section
variable {X:Cx}{pins:List (Addr×Obj)}{σ:St}{H:Hp}{s:Shared}{a:Addr}{xs ys:List V}
theorem bq.of {K:Frag}(h:H a=some (.lst xs)):bq K H a xs:=.inl (.inl h)
theorem bR.of {K:Frag}(h:H a=some (.tup xs)):bR K H a xs:=.inl (.inl h)
theorem Inv.list (I:Inv X pins σ H s) (h:bq X.K H a xs):∃its:List Value,Vals xs its/\PlainL s.heap a its.toArray/\xs.length<=sizeLine:=by
 rcases h with h|⟨o,its,n,F,G,hd,hs,J,r⟩
 .obtain⟨z,its,n,r,e⟩:=h.ok I.bG;exact⟨its,r,⟨_,n,e,rfl,rfl,rfl⟩,z⟩
 .refine⟨its.toList,r,⟨o,n,I.kh a o F,G,hd,by simpa using hs⟩,?_⟩;have e:=r.length;simp only[length_toList]at e;omega
theorem Inv.tuple (I:Inv X pins σ H s) (h:bR X.K H a xs):∃its:List Value,Vals xs its/\IsTup s.heap a its.toArray/\xs.length<=sizeLine:=by
 rcases h with h|⟨o,its,n,F,G,hs,J,r⟩
 .obtain⟨z,its,r,p⟩:=h.ok I.bG;exact⟨its,r,p,z⟩
 .refine⟨its.toList,r,⟨o,I.kh a o F,G,n,by simpa using hs⟩,?_⟩;have e:=r.length;simp only[length_toList]at e;omega
theorem Inv.gL (I:Inv X pins σ H s) (h:bq X.K H a xs) (h':bq X.K H a ys):xs=ys:=by
 obtain⟨its,r,⟨o,n,e,_,_,d⟩,_⟩:=I.list h;obtain⟨its',J,⟨o',L,F,_,_,d'⟩,_⟩:=I.list h';rw[e]at F;cases F;rw[d]at d';injection d' with G _;have:its=its':=(by simpa using congrArg toList G);subst this;exact r.inj J
theorem Inv.oK (I:Inv X pins σ H s) (h:bR X.K H a xs) (h':bR X.K H a ys):xs=ys:=by
 obtain⟨its,r,⟨o,e,_,n,d⟩,_⟩:=I.tuple h;obtain⟨its',J,⟨o',F,_,L,d'⟩,_⟩:=I.tuple h';rw[e]at F;cases F;rw[d]at d';injection d' with G _;have:its=its':=(by simpa using congrArg toList G);subst this;exact r.inj J
end
abbrev Cx.m7 (X:Cx) (E:Value->Shared->Prop):Cx:={ X with xe:=E }
abbrev Cx.CQ (X:Cx):Cx:=X.m7 λ_ _=>False
theorem Cx.Ok.m7 {X:Cx}(ok:X.Ok) (E:Value->Shared->Prop):(X.m7 E).Ok :=
 ⟨ok.mod,ok.kind,ok.glob,ok.blt,ok.above,ok.inj,ok.has,ok.Ew,ok.hd,ok.frames,ok.Fu,ok.HQ,ok.bs,ok.AG,ok.wU,ok.xu,ok.kr,ok.Cs⟩
theorem Cx.Ok.hU {X:Cx}{E:Value->Shared->Prop}(ok:(X.m7 E).Ok):X.Ok :=
 ⟨ok.mod,ok.kind,ok.glob,ok.blt,ok.above,ok.inj,ok.has,ok.Ew,ok.hd,ok.frames,ok.Fu,ok.HQ,ok.bs,ok.AG,ok.wU,ok.xu,ok.kr,ok.Cs⟩
section
variable {X:Cx}{pins:List (Addr×Obj)}{σ:St}{H:Hp}{s:Shared}{E:Value->Shared->Prop}
theorem Inv.m7 (I:Inv X pins σ H s) (E:Value->Shared->Prop):Inv (X.m7 E) pins σ H s:=⟨I.ok.m7 E,I.os,I.bare,I.base,I.loc,I.cell,I.free,I.gF,I.pin,I.bG,I.len⟩
theorem Inv.hU (I:Inv (X.m7 E) pins σ H s):Inv X pins σ H s:=⟨I.ok.hU,I.os,I.bare,I.base,I.loc,I.cell,I.free,I.gF,I.pin,I.bG,I.len⟩
theorem SP.hU {D:Ends}{f:Flow}{s':Shared}(h:SP (X.m7 E) pins D f s'):SP X pins D f s':=by
 cases f with
 |next=>obtain⟨F,H',I,q⟩:=h;exact⟨F,H',I.hU,q⟩
 |brk=>obtain⟨F,H',I,q⟩:=h;exact⟨F,H',I.hU,q⟩
 |cont=>obtain⟨F,H',I,q⟩:=h;exact⟨F,H',I.hU,q⟩
 |ret u=>obtain⟨v,F,H',I,r,q⟩:=h;exact⟨v,F,H',I.hU,r,q⟩
theorem vG.CQ {st:List Stmt}{t:TS}(h:vG X.CQ st t):vG X st t:=λpins s σ H D I F =>
 wpAny_mono (h pins s σ H D (I.m7 _) F) (λ_ _ q=>q.hU) λ_ _ z=>False.elim z
end
section
variable {X:Cx}{st:Stmt}{rest:List Stmt}{t u:TS}{e:Expr}{te:TE}{pos:Pos}
def rS:TS:=λD σ H=>D.nx σ H
def ml (t u:TS):TS:=λD σ H=>t { D with nx:=u D } σ H
theorem aF:vG X [] rS:=λ_ _ σ H _ I h=>wpAny_execs_nil ⟨σ,H,I,h⟩
theorem ag (h1:PS X st t) (h2:vG X rest u):vG X (st::rest) (ml t u):=by
 intro pins s σ H D I h;refine wpAny_execs_cons (bT (h1 pins s σ H { D with nx:=u D } I h) λf F q=>?_);cases f with
 |next =>
  obtain⟨J,H',G,q⟩:=q;exact h2 pins F J H' D G q
 |ret v=>exact q
 |brk=>exact q
 |cont=>exact q
theorem aj (h1:PS X st t):vG X [st] t:=by
 intro pins s σ H D I h;refine wpAny_execs_cons (bT (h1 pins s σ H D I h) λf F q=>?_);cases f with
 |next=>exact wpAny_execs_nil q
 |ret v=>exact q
 |brk=>exact q
 |cont=>exact q
theorem Inv.quiet {pins:List (Addr×Obj)}{σ:St}{H:Hp}{s:Shared}(I:Inv X pins σ H s):interactive X.env=false:=by simp[interactive,I.ok.kind]
def Fo (te:TE):TS:=λD σ H=>te σ H λ_ H1=>D.nx σ H1
theorem aL (G:PE X e te) (hs:swapsWith e none pos.line X.env=pure false:=by rfl):PS X (.Expr e pos) (Fo te):=by
 intro pins s σ H D I h;exact wpAny_Expr_any (bT (G pins s σ H _ I h) λv N J=>by obtain⟨x,H1,F,O,L⟩:=J;exact⟨σ,H1,F,L⟩) I.quiet hs
def DU (te:TE):TS:=λD σ H=>te σ H D.rt
theorem aE (G:PE X e te):PS X (.Return (some e) pos) (DU te):=by
 intro pins s σ H D I h;exact wpAny_Return_some (bT (G pins s σ H _ I h) λv O N=>by obtain⟨x,H1,F,L,J⟩:=N;exact⟨x,σ,H1,F,L,J⟩)
def EV:TS:=λD _ H=>D.rt .non H
theorem qq:PS X (.Return none pos) EV:=λ_ _ σ H _ I h=>wpAny_Return_none ⟨.non,σ,H,I,rfl,h⟩
def wV (c:TT) (t u:TS):TS:=λD σ H=>c σ H λb H1=>if b=true then t D σ H1 else u D σ H1
theorem aS {c:Expr}{a b:List Stmt}{tc:TT}(R:PT X c tc) (O:vG X a t) (L:vG X b u):PS X (.If c a b pos) (wV tc t u):=by
 intro pins s σ H D I h;refine wpAny_If (bT (R pins s σ H _ I h) λd F N=>?_);obtain⟨H1,J,G⟩:=N;cases d with
 |true=>exact O pins F σ H1 D J G
 |false=>exact L pins F σ H1 D J G
def yD:TS:=λ_ _ _=>False
theorem dP:PS X st yD:=λ_ _ _ _ _ _ h=>h.elim
theorem cN {sts:List Stmt}:vG X sts yD:=λ_ _ _ _ _ _ h=>h.elim
end
abbrev TG:=V->St->Hp->(St->Hp->Prop)->Prop
abbrev Ex:=List V->St->Hp->(St->Hp->Prop)->Prop
def PG (X:Cx) (G:Expr) (t:TG):Prop :=
 ∀(pins:List (Addr×Obj)) (s:Shared) (σ:St) (H:Hp) (v:V) (u:Value) (Q:St->Hp->Prop),Inv X pins σ H s->RelV v u->t v σ H Q ->
  wpAny (model X.prog X.w) X.A (assign G X.env u) (λ_ s'=>∃F H',Inv X pins F H' s'/\Q F H') X.xe s
def G8 (X:Cx) (ts:List Expr) (t:Ex):Prop :=
 ∀(pins:List (Addr×Obj)) (s:Shared) (σ:St) (H:Hp) (vs:List V) (us:List Value) (Q:St->Hp->Prop),Inv X pins σ H s->Vals vs us->t vs σ H Q ->
  wpAny (model X.prog X.w) X.A (assignInOrder ((assignEach ts X.env).map (·.2)) us) (λ_ s'=>∃F H',Inv X pins F H' s'/\Q F H') X.xe s
abbrev wK:=V->V->V->Hp->(Hp->Prop)->Prop
def AR (X:Cx) (t:wK):Prop :=
 ∀(pins:List (Addr×Obj)) (s:Shared) (σ:St) (H:Hp) (o i v:V) (ov F u:Value) (Q:Hp->Prop),Inv X pins σ H s->RelV o ov->RelV i F->RelV v u->t o i v H Q ->
  wpAny (model X.prog X.w) X.A (setItem ov F u) (λ_ s'=>∃H',Inv X pins σ H' s'/\Q H') X.xe s
abbrev GY:=V->V->Hp->VK->Prop
def HH (X:Cx) (F:Operator) (t:GY):Prop :=
 ∀(pins:List (Addr×Obj)) (s:Shared) (σ:St) (H:Hp) (x y:V) (v u:Value) (Q:VK),Inv X pins σ H s->RelV x v->RelV y u->t x y H Q ->
  wpAny (model X.prog X.w) X.A (inplaceOp F v u) (EP X pins σ Q) X.xe s
section
variable {X:Cx}{pos:Pos}
def r9 (i:Nat):TG:=λv σ H Q=>Q (σ.set i (some v)) H
theorem aX {i:Nat}{x:Str}(G:X.N.Nodup) (hi:X.N[i]?=some x) (L:Loc X.env.scope x) (J:X.fn x=true\/X.env.scope.names.lookup x=some .local:=by first|exact .inl rfl|exact .inr rfl|assumption):PG X (.Name x pos) (r9 i):=by
 intro pins s σ H v u Q I r h;exact wpAny_assign_Name (hV I G hi L r (λs' F=>⟨_,H,F,h⟩) J)
def HZ:Ex:=λvs σ H Q=>vs=[]/\Q σ H
inductive Aj (t:TG) (u:Ex) (vs:List V) (σ:St) (H:Hp) (Q:St->Hp->Prop):Prop
 |mk (v:_) (r:_) (_:vs=v::r) (_:t v σ H λσ' H'=>u r σ' H' Q):Aj t u vs σ H Q
theorem cI:G8 X [] HZ:=by
 intro pins s σ H vs us Q I r h;obtain⟨e,h⟩:=h;subst e;cases r;exact assignInOrder_nil ⟨σ,H,I,h⟩
theorem a9 {e:Expr}{es:List Expr}{t:TG}{u:Ex}(h1:PG X e t) (h2:G8 X es u)
  (hs:(assignEach (e::es) X.env).map (·.2)=assign e X.env::(assignEach es X.env).map (·.2):=by rfl):G8 X (e::es) (Aj t u):=by
 intro pins s σ H vs us Q I r h;obtain⟨v,S,N,h⟩:=h;subst N;cases r with
 |cons r R =>
  rw[hs];refine assignInOrder_cons (bT (h1 pins s σ H _ _ _ I r h) λ_ F L=>?_);obtain⟨G,H1,O,J⟩:=L;exact h2 pins F G H1 _ _ Q O R J
inductive FI (K:Frag) (n:Nat) (t:Ex) (v:V) (σ:St) (H:Hp) (Q:St->Hp->Prop):Prop
 |mk (a:_) (xs:_) (_:v=.ref a) (_:bR K H a xs) (_:xs.length=n) (_:t xs σ H Q):FI K n t v σ H Q
theorem dw {es:List Expr}{k:Nat}{t:Ex}{n:Nat}(U:X.calm=true) (h:G8 X es t)
  (hn:(assignEach es X.env).length=n:=by rfl) (J:(assignEach es X.env).findIdx? (·.1)=none:=by rfl):PG X (.Tuple es k pos) (FI X.K n t):=by
 intro pins s σ H v u Q I r F;obtain⟨a,xs,L,N,O,F⟩:=F;subst L;cases r;obtain⟨its,G,R,hz⟩:=I.tuple N;refine assign_Tuple_tuple (I.ok.hd U) R (by simp[hn, <-O,G.length]) J λh' Y=>?_;have S:Inv X pins σ H { s with heap:=h' }:=I.kept (t':=s.toks) λb o e=>Y b o (ne_of_lt (Heap.lt_size e)) e;exact h pins _ σ H xs _ Q S (by simpa using G) F
def HI (to G:TE) (t:wK):TG:=λv σ H Q=>to σ H λo H1=>G σ H1 λi H2=>t o i v H2 λF=>Q σ F
theorem dS {o i:Expr}{to G:TE}{t:wK}(U:PE X o to) (hi:PE X i G) (hs:AR X t)
  (ha:∀v,assign (.Subscript o i pos) X.env v=(do
   let ov <-holding [v] (eval o X.env)
   let F <-holding [v,ov] (eval i X.env)
   standAt pos
   holding [v,ov,F] (setItem ov F v)
   release [v,ov,F] []):=by intro _;rfl):PG X (.Subscript o i pos) (HI to G t):=by
 intro pins s σ H v u Q I r h;rw[ha];refine wpAny_bind (wpAny_holding (bT (U pins s σ H _ I h) λov J R=>?_));obtain⟨x,H1,I1,r1,N⟩:=R;refine wpAny_bind (wpAny_holding (bT (hi pins J σ H1 _ I1 N) λF s2 ab=>?_));obtain⟨y,H2,Y,r2,S⟩:=ab;refine wpAny_bind (wpAny_standAt (wpAny_bind (wpAny_holding (bT (hs pins s2 σ H2 x y v ov F u _ Y r1 r2 r S) λ_ s3 ac=>?_))));obtain⟨H3,L,O⟩:=ac;exact wpAny_release ⟨σ,H3,L,O⟩
def Bo (te:TE) (g:TG):TS:=λD σ H=>te σ H λx H1=>g x σ H1 D.nx
theorem cG {tg e:Expr}{te:TE}{g:TG}(J:PE X e te) (hg:PG X tg g) (hs:swapsWithSole [tg] e pos.line X.env=pure false:=by rfl) (G:swappedStores [tg] e X.env=pure none:=by rfl)
  (h1:(assignEach [tg] X.env).map (·.2)=[assign tg X.env]:=by rfl):PS X (.Assign [tg] e pos) (Bo te g):=by
 intro pins s σ H D I h;refine wpAny_Assign_stores (bT (J pins s σ H _ I h) λv F O=>?_) hs G;obtain⟨x,H1,N,R,L⟩:=O;rw[h1];exact bT (hg pins F σ H1 x v _ N R L) λ_ S q=>q
theorem aK {i:Nat}{x:Str}{e:Expr}{te:TE}{pos':Pos}(F:X.N.Nodup) (hi:X.N[i]?=some x) (S:Loc X.env.scope x) (G:PE X e te) (hs:swapsWith e (some (.Name x pos')) pos.line X.env=pure false:=by rfl) (O:X.fn x=true\/X.env.scope.names.lookup x=some .local:=by first|exact .inl rfl|exact .inr rfl|assumption) :
  PS X (.Assign [.Name x pos'] e pos) (Bo te (r9 i)):=by
 intro pins s σ H D I h;refine wpAny_Assign_Name (bT (G pins s σ H _ I h) λv s1 L=>?_) hs;obtain⟨y,H1,R,Y,J⟩:=L;exact hV R F hi S Y (λs2 U=>⟨_,H1,U,J⟩) O
def Hf (i j:Nat) (ta:TA):TS:=λD σ H=>ta σ H λvs H1=>x8 λv w=>vs=[v,w]/\D.nx ((σ.set i (some v)).set j (some w)) H1
theorem CW {i j:Nat}{x y:Str}{a b:Expr}{ta:TA}{px O pt:Pos}{kt k2 pt2} (hc:X.calm=true) (R:X.N.Nodup) (hi:X.N[i]?=some x) (hj:X.N[j]?=some y) (am:i≠j)
  (U:X.env.scope.names.lookup x=some .local) (S:X.env.scope.names.lookup y=some .local) (ha:PA X [a,b] ta)
  (hw:swappedStores [.Tuple [.Name x px,.Name y O] kt pt] (.Tuple [a,b] k2 pt2) X.env=pure (some [x,y]))
  (hs:swapsWithSole [.Tuple [.Name x px,.Name y O] kt pt] (.Tuple [a,b] k2 pt2) pos.line X.env=pure false:=by rfl) :
  PS X (.Assign [.Tuple [.Name x px,.Name y O] kt pt] (.Tuple [a,b] k2 pt2) pos) (Hf i j ta):=by
 intro pins s σ H D I h;rw[exec_Assign_arm];refine wpAny_bind (wpAny_standAt ?_);rw[hs];refine wpAny_bind (wpAny_pure ?_);rw[if_neg av];refine wpAny_bind (Tuple_ (bT (ha _ pins s σ H _ I h) λus F ac=>?_));obtain⟨vs,H1,I1,r1,L⟩:=ac;obtain⟨v,w,e1,L⟩:=L;subst e1;obtain⟨G,J,rfl,rv,ab⟩:∃G J,us=[G,J]/\RelV v G/\RelV w J:=by
  cases r1 with
  |cons p q =>
   cases q with
   |cons p' q' =>
    cases q';exact⟨_,_,rfl,p,p'⟩
 refine wpAny_newObj_type ?_ (by show 2<=sizeLine;decide);have I2:Inv X pins σ H1 { F with heap:=F.heap.push { cls:=.type "tuple",data:=.seq [G,J].toArray } }:=I1.kept (t':=F.toks) λb o e=>Heap.get?_push_of_some _ e;rw[hw];refine wpAny_bind (wpAny_pure ?_);show wpAny (model X.prog X.w) X.A (do rule "assign.swapped-stores";let items <-unpackItems (.ref F.heap.objs.size) 2 none;assignInOrder [λv=>bindName X.env y v,λv=>bindName X.env x v] items.reverse;pure Flow.next) _ _ _;refine wpAny_bind (wpAny_rule (wpAny_bind (unpackItems_tuple (items := #[G,J]) (I.ok.hd hc) (IsTup.new F.heap _) λh' ad=>?_)));have I3:=I2.kept (h':=h') (t':=F.toks) λb o e=>ad b o (ne_of_lt (Heap.lt_size e)) e;show wpAny _ _ (assignInOrder [λv=>bindName X.env y v,λv=>bindName X.env x v] [J,G]>>=λ_=>pure Flow.next) _ _ _;refine wpAny_bind (assignInOrder_cons (wpAny_bindName (hV I3 R hj (.inl S) ab (λs2 I4=>?_) (.inr S))));refine assignInOrder_cons (wpAny_bindName (hV I4 R hi (.inl U) rv (λs3 Y=>assignInOrder_nil (wpAny_pure ?_)) (.inr U)));rw[List.set_comm _ _ (Ne.symm am)]at Y;exact⟨_,H1,Y,L⟩
def Ff (to G te:TE) (O:V->V->Hp->VK->Prop) (I:GY) (J:wK):TS:=λD σ H=>to σ H λo H1=>G σ H1 λi H2=>O o i H2 λx F=>te σ F λy L=>I x y L λz N=>J o i z N λR=>D.nx σ R
def Fv (X:Cx) (t:V->V->Hp->VK->Prop):Prop :=
 ∀(pins:List (Addr×Obj)) (s:Shared) (σ:St) (H:Hp) (o i:V) (ov F:Value) (Q:VK),Inv X pins σ H s->RelV o ov->RelV i F->t o i H Q ->
  wpAny (model X.prog X.w) X.A (getItem ov F) (EP X pins σ Q) X.xe s
theorem pY {o i e:Expr}{to N te:TE}{S:V->V->Hp->VK->Prop}{O:GY}{R:wK}{U:Operator}{tpos:Pos}(ho:PE X o to) (hi:PE X i N) (hg:Fv X S) (he:PE X e te) (hp:HH X U O) (hs:AR X R)
  (ha:∀ov F new,augStore i ov F new=(do holding [new,ov,F] (setItem ov F new);release [new,ov,F] [];pure .next):=by intros;rfl):PS X (.AugAssign (.Subscript o i tpos) U e pos) (Ff to N te S O R):=by
 intro pins s σ H D I h;refine wpAny_AugAssign_SubscriptAny (bT (ho pins s σ H _ I h) λov s1 ab=>?_) ha;obtain⟨G,H1,I1,L,q1⟩:=ab;refine bT (hi pins s1 σ H1 _ I1 q1) λF s2 am=>?_;obtain⟨J,H2,I2,Y,q2⟩:=am;refine bT (hg pins s2 σ H2 G J ov F _ I2 L Y q2) λas s3 ap=>?_;obtain⟨x3,H3,I3,r3,q3⟩:=ap;refine bT (he pins s3 σ H3 _ I3 q3) λv s4 ad=>?_;obtain⟨x4,H4,I4,r4,q4⟩:=ad;refine bT (hp pins s4 σ H4 x3 x4 as v _ I4 r3 r4 q4) λnew s5 aB=>?_;obtain⟨x5,H5,I5,r5,q5⟩:=aB;exact bT (hs pins s5 σ H5 G J x5 ov F new _ I5 L Y r5 q5) λ_ s6 ac=>by obtain⟨H6,I6,q6⟩:=ac;exact⟨σ,H6,I6,q6⟩
def IJ (f:Int->Int->Int):GY:=λx y H Q=>∃i j,x=.int i/\y=.int j/\Q (.int (f i j)) H
theorem Ae:HH X .Add (IJ λi j=>i+j):=by
 intro pins s σ H x y v u Q I J L h;obtain⟨i,j,F,G,q⟩:=h;subst F;subst G;obtain⟨t,rfl⟩:=J;obtain⟨t',rfl⟩:=L;exact iadd_int ⟨.int _,H,I.tok _,⟨_,rfl⟩,q⟩
theorem DL:HH X .Sub (IJ λi j=>i-j):=by
 intro pins s σ H x y v u Q I J L h;obtain⟨i,j,F,G,q⟩:=h;subst F;subst G;obtain⟨t,rfl⟩:=J;obtain⟨t',rfl⟩:=L;exact isub_int ⟨.int _,H,I.tok _,⟨_,rfl⟩,q⟩
end
section
variable {X:Cx}{pos:Pos}
def Ec (c:TT) (tb:TS):TS:=λD σ H=>∃W:Nat->St->Hp->Prop,(∃m,W m σ H)/\∀m σ H,W m σ H ->
 c σ H λb H1=>if b=true then ∃N:St->Hp->Prop,(∀G H',N G H'->∃F,F<m/\W F G H')/\tb { D with nx:=N,ct:=N,bk:=D.nx } σ H1 else D.nx σ H1
theorem rH {c:Expr}{body:List Stmt}{tc:TT}{tb:TS}(hp:PassesOwn (model X.prog X.w) X.A X.env X.xe) (hc:PT X c tc) (hb:vG X body tb):PS X (.While c body [] pos) (Ec tc tb):=by
 intro pins s σ H D I h;obtain⟨W,⟨m0,w0⟩,ac⟩:=h;refine wpAny_While (codeAny_whileLoop (λn s'=>∃ab H',Inv X pins ab H' s'/\W n ab H') ?_ m0 ⟨σ,H,I,w0⟩);rintro n s1 ⟨J,H1,I1,w1⟩;refine wpAny_passesOwn hp (bT (hc pins s1 J H1 _ I1 (ac n J H1 w1)) λb s2 ad=>?_);obtain⟨H2,I2,O⟩:=ad;cases b with
 |true =>
  obtain⟨N,hN,O⟩:=O;rw[if_pos rfl];refine wpAny_passesOwn hp (bT (hb pins s2 J H2 _ I2 O) λf s3 L=>?_);cases f with
  |next =>
   obtain⟨G,F,S,n3⟩:=L;obtain⟨Y,R,U⟩:=hN G F n3;exact⟨Y,R,G,F,S,U⟩
  |cont =>
   obtain⟨G,F,S,n3⟩:=L;obtain⟨Y,R,U⟩:=hN G F n3;exact⟨Y,R,G,F,S,U⟩
  |brk=>exact L
  |ret v=>exact L
 |false =>
  rw[if_neg Bool.false_ne_true];exact wpAny_execs_nil ⟨J,H2,I2,O⟩
end
structure It where
 go:Nat->Hp->Prop
 AJ:Nat->Hp->V->Hp->Prop
 stop:Nat->Hp->Prop
def ff (X:Cx) (pins:List (Addr×Obj)) (H:Hp) (b:Addr):Prop :=
 H b=none/\b≠X.env.locals/\b∉X.fs/\(b∈X.ex\/X.s₀.heap.objs.size<=b)/\(∀x c,X.env.cells.lookup x=some c->c≠b)/\∀p∈X.pn++pins,p.1≠b
theorem Inv.iD {X:Cx}{pins:List (Addr×Obj)}{σ:St}{H H':Hp}{s:Shared}{b:Addr}(I:Inv X pins σ H s) (F:s.heap.objs.size<=b) (J:H' b=none):ff X pins H' b:=by
 refine⟨J,ne_of_gt (lt_of_lt_of_le I.lt F),I.EW F,.inr (le_trans I.sz F),λx c e z=>?_,λp G z=>?_⟩
 .obtain⟨v,q⟩:=I.cell x c e;exact absurd (lt_of_lt_of_le q.lt (by rw[z];exact F)) (lt_irrefl _)
 .exact absurd (lt_of_lt_of_le (Heap.lt_size (I.pin p G).1) (by rw[z];exact F)) (lt_irrefl _)
structure Turn (P:Program) (w:World) (K:Frag) (tg:Expr) (J:It) (fp:List Addr) (it:Addr) (tn:Nat->Heap->Prop):Prop where
 mem:it∈fp
 obj:∀i h,tn i h->∀b∈fp,∃o,h.get? b=some o/\∀v,o.data≠.cell v
 keep:∀i h h',tn i h->(∀b∈fp,∀o,h.get? b=some o->h'.get? b=some o)->tn i h'
 item:∀(X:Cx),X.prog=P->X.w=w->X.K=K->X.calm=true->∀(i:Nat) (pins:List (Addr×Obj)) (s:Shared) (σ:St) (H:Hp) (E:Value->Shared->Prop),Inv X pins σ H s->(∀b∈fp,ff X pins H b)->tn i s.heap->J.go i H ->
  wpAny (model P w) X.A (pyNext (.ref it)) (λr s1=>∃u,r=some u /\
   wpAny (model P w) X.A (letOwnedTupleGo tg (.ref it) u) (λ_ s2=>∃x H',Inv X pins σ H' s2/\RelV x u/\J.AJ i H x H'/\tn (i+1) s2.heap/\∀b∈fp,H' b=none) E s1) E s
 done:∀(X:Cx),X.prog=P->X.w=w->X.K=K->X.calm=true->∀(i:Nat) (pins:List (Addr×Obj)) (s:Shared) (σ:St) (H:Hp) (E:Value->Shared->Prop),Inv X pins σ H s->(∀b∈fp,ff X pins H b)->tn i s.heap->J.stop i H ->
  wpAny (model P w) X.A (pyNext (.ref it)) (λr s1=>r=none/\Inv X pins σ H s1) E s
 self:∀(A:Around) (i:Nat) (s:Shared) (Q:Value->Shared->Prop) (E:Value->Shared->Prop),tn i s.heap->Q (.ref it) s->wpAny (model P w) A (pyIter (.ref it)) Q E s
abbrev TI:=St->Hp->(It->Hp->Prop)->Prop
def IA (X:Cx) (pins:List (Addr×Obj)) (σ:St) (tg:Expr) (R:It->Hp->Prop) (L:Value) (I:Shared):Prop :=
 ∃(F:Addr) (fp:List Addr) (G:Nat->Heap->Prop) (J:It) (H':Hp),L=.ref F/\Inv X pins σ H' I/\Turn X.prog X.w X.K tg J fp F G/\G 0 I.heap/\(∀b∈fp,ff X pins H' b)/\R J H'
def PI (X:Cx) (tg iter:Expr) (wi:TI):Prop :=
 ∀(pins:List (Addr×Obj)) (s:Shared) (σ:St) (H:Hp) (R:It->Hp->Prop),Inv X pins σ H s->wi σ H R ->
  wpAny (model X.prog X.w) X.A (eval iter X.env) (λv F=>wpAny (model X.prog X.w) X.A (pyIter v) (IA X pins σ tg R) X.xe F) X.xe s
theorem nN {M:Model}{A:Around}{E:Value->Shared->Prop}{s:Shared}{tg:Expr}{G:Addr}{u:Value}{o:Obj}{n:String}{vs:Array Value}{Q:Unit->Shared->Prop}(J:s.heap.get? G=some o) (I:o.cls=.type n) (hd:o.data=.fields vs)
  (L:["enumerate","zip","dict_itemiterator","dict_reverseitemiterator","odict_iterator","itertools.zip_longest","itertools.pairwise"].contains n=false) (F:Q () s):wpAny M A (letOwnedTupleGo tg (.ref G) u) Q E s:=by
 unfold letOwnedTupleGo;cases tg<;>first
  |exact wpAny_pure F
  |(cases u<;>first
    |exact wpAny_pure F
    |(refine wpAny_bind (wpAny_load J ?_)
      rw[I,hd];show wpAny M A (if (["enumerate","zip","dict_itemiterator","dict_reverseitemiterator","odict_iterator","itertools.zip_longest","itertools.pairwise"].contains n&&vs[0]?==some (rawInt _))=true then _ else _) Q E s;rw[if_neg (by intro h;rw[L,Bool.false_and]at h;cases h)];exact wpAny_pure F))
def Ds (K:Frag) (a:Addr):It :=
 ⟨λi H=>∃xs x,bq K H a xs/\xs[i]?=some x,λi H x H'=>H'=H/\∀xs,bq K H a xs->xs[i]?=some x,λi H=>∃xs,bq K H a xs/\xs.length<=i⟩
def GX (K:Frag) (a:Addr):It :=
 ⟨λi H=>∃xs x,bR K H a xs/\xs[i]?=some x,λi H x H'=>H'=H/\∀xs,bR K H a xs->xs[i]?=some x,λi H=>∃xs,bR K H a xs/\xs.length<=i⟩
def BX (lo:Int) (n:Nat):It:=⟨λi _=>i<n,λi H x H'=>H'=H/\x=.int (lo+i),λi _=>n<=i⟩
theorem wF {P:Program}{w:World}{K:Frag}{tg:Expr}(a F:Addr):Turn P w K tg (Ds K a) [F] F (λi h=>h.IsListIter F a i) where
 mem:=by simp
 obj:=λi h st b G=>by
  have e:b=F:=(by simpa using G);subst e;obtain⟨o,e,c,d⟩:=st;exact⟨o,e,λv z=>by rw[d]at z;cases z⟩
 keep:=λi h h' st k=>st.at λo e=>k F (by simp) o e
 item:=by
  intro X N R hK hc i pins s σ H E I J st hg;subst N R hK;obtain⟨xs,x,L,U⟩:=hg;obtain⟨its,rv,p,hz⟩:=I.list L;obtain⟨u,hu,ru⟩:=rv.get U;obtain⟨f0,Y,f2,S,f4,O⟩:=J F (by simp);refine wpAny_pyNext_list_item st p.isList (x:=u) (by simpa using hu) λh' ab sb=>?_;have I1:Inv X pins σ H { s with heap:=h' }:=I.turned (t':=s.toks) (λb o G e=>(sb.2 b G).trans e) f0 Y S f4 O;obtain⟨o,e,c,d⟩:=id ab;exact⟨u,rfl,nN (s:={ s with heap:=h' }) e c d av ⟨x,H,I1,ru,⟨rfl,λys hy=>by rw[I.gL hy L];exact U⟩,ab,λb G=>(J b G).1⟩⟩
 done:=by
  intro X N R hK hc i pins s σ H E I J st hg;subst N R hK;obtain⟨xs,L,U⟩:=hg;obtain⟨its,rv,p,hz⟩:=I.list L;obtain⟨f0,Y,f2,S,f4,O⟩:=J F (by simp);have hl:=rv.length;exact wpAny_pyNext_list_end (I.ok.hd hc) st p.isList (by simp;omega) λh' eb=>⟨rfl,I.turned (t':=s.toks) (λb o G e=>eb b o G e) f0 Y S f4 O⟩
 self:=λ_ _ _ _ _ st h=>wpAny_pyIter_listiter st h
theorem uQ {P:Program}{w:World}{K:Frag}{tg:Expr}(a F:Addr):Turn P w K tg (GX K a) [F] F (λi h=>h.IsTupleIter F a i) where
 mem:=by simp
 obj:=λi h st b G=>by
  have e:b=F:=(by simpa using G);subst e;obtain⟨o,e,c,d⟩:=st;exact⟨o,e,λv z=>by rw[d]at z;cases z⟩
 keep:=λi h h' st k=>st.at λo e=>k F (by simp) o e
 item:=by
  intro X N R hK hc i pins s σ H E I J st hg;subst N R hK;obtain⟨xs,x,L,U⟩:=hg;obtain⟨its,rv,p,hz⟩:=I.tuple L;obtain⟨u,hu,ru⟩:=rv.get U;obtain⟨f0,Y,f2,S,f4,O⟩:=J F (by simp);refine wpAny_pyNext_tuple_item st (show s.heap.IsTuple a its.toArray from p) (x:=u) (by simpa using hu) λh' ab sb=>?_;have I1:Inv X pins σ H { s with heap:=h' }:=I.turned (t':=s.toks) (λb o G e=>(sb.2 b G).trans e) f0 Y S f4 O;obtain⟨o,e,c,d⟩:=id ab;exact⟨u,rfl,nN (s:={ s with heap:=h' }) e c d av ⟨x,H,I1,ru,⟨rfl,λys hy=>by rw[I.oK hy L];exact U⟩,ab,λb G=>(J b G).1⟩⟩
 done:=by
  intro X N R hK hc i pins s σ H E I J st hg;subst N R hK;obtain⟨xs,L,U⟩:=hg;obtain⟨its,rv,p,hz⟩:=I.tuple L;obtain⟨f0,Y,f2,S,f4,O⟩:=J F (by simp);have hl:=rv.length;exact wpAny_pyNext_tuple_end (I.ok.hd hc) st (show s.heap.IsTuple a its.toArray from p) (by simp;omega) λh' eb=>⟨rfl,I.turned (t':=s.toks) (λb o G e=>eb b o G e) f0 Y S f4 O⟩
 self:=λ_ _ _ _ _ st h=>wpAny_pyIter_tupleiter st h
theorem tJ {P:Program}{w:World}{K:Frag}{tg:Expr}(F:Addr) (lo:Int) (n:Nat):Turn P w K tg (BX lo n) [F] F (λi h=>IsRangeIter h F (lo+(i:Nat)*1) ((n:Int)-(i:Nat)) 1) where
 mem:=by simp
 obj:=λi h st b G=>by
  have e:b=F:=(by simpa using G);subst e;exact⟨_,st,λv z=>by
   have z':Data.fields _=Data.cell v:=z;cases z'⟩
 keep:=λi h h' st k=>k F (by simp) _ st
 item:=by
  intro X L O hK hc i pins s σ H E I J st hg;subst L O hK;obtain⟨U,S,f2,R,Y,N⟩:=J F (by simp);have W:=Walks.range (prog:=X.prog) (w:=X.w) (I.ok.hd hc) F lo 1 n;refine W.item i s _ _ hg st λv h' tk hv ab kk=>?_;obtain⟨t,rfl⟩:=hv;have I1:Inv X pins σ H { s with heap:=h',toks:=tk }:=I.turned (λb o G e=>kk b o (by simpa using G) e) U S R Y N;refine⟨_,rfl,nN (s:={ s with heap:=h',toks:=tk }) (n := "range_iterator") ab rfl rfl av ⟨.int (lo+i),H,I1,⟨t,?_⟩,⟨rfl,rfl⟩,ab,λb G=>(J b G).1⟩⟩;rw[Int.mul_one]
 done:=by
  intro X L O hK hc i pins s σ H E I J st hg;subst L O hK;obtain⟨U,S,f2,R,Y,N⟩:=J F (by simp);exact wpAny_pyNext_range_end (I.ok.hd hc) st (by have:n<=i:=hg;omega) λh' eb=>⟨rfl,I.turned (t':=s.toks) (λb o G e=>eb b o G e) U S R Y N⟩
 self:=λ_ _ _ _ _ st h=>wpAny_pyIter_rangeiter st h
section
variable {X:Cx}{tg:Expr}
def Fw (K:Frag) (tl:TE):TI:=λσ H R=>tl σ H λx H1=>∃a,x=.ref a/\(∃xs,bq K H1 a xs)/\R (Ds K a) H1
def HA (K:Frag) (tl:TE):TI:=λσ H R=>tl σ H λx H1=>∃a,x=.ref a/\(∃xs,bR K H1 a xs)/\R (GX K a) H1
theorem fA {l:Expr}{tl:TE}(O:PE X l tl):PI X tg l (Fw X.K tl):=by
 intro pins s σ H R I h;refine bT (O pins s σ H _ I h) λv F L=>?_;obtain⟨x,H1,G,U,J⟩:=L;obtain⟨a,e,⟨xs,N⟩,q⟩:=J;subst e;cases U;obtain⟨its,rv,p,Y⟩:=G.list N;refine wpAny_pyIter_list p.isList ?_;refine⟨F.heap.objs.size,[F.heap.objs.size],_,_,H1,rfl,G.kept (t':=F.toks) λb o e=>Heap.get?_push_of_some _ e,wF a _,⟨_,Heap.get?_push_size _ rfl,rfl,rfl⟩,λb S=>?_,q⟩;have e:b=F.heap.objs.size:=(by simpa using S);subst e;exact G.iD (le_refl _) (G.bG.fresh (le_refl _))
theorem CV {l:Expr}{tl:TE}(O:PE X l tl):PI X tg l (HA X.K tl):=by
 intro pins s σ H R I h;refine bT (O pins s σ H _ I h) λv F J=>?_;obtain⟨x,H1,G,U,L⟩:=J;obtain⟨a,e,⟨xs,N⟩,q⟩:=L;subst e;cases U;obtain⟨its,rv,p,Y⟩:=G.tuple N;refine wpAny_pyIter_tuple (show F.heap.IsTuple a its.toArray from p) ?_;refine⟨F.heap.objs.size,[F.heap.objs.size],_,_,H1,rfl,G.kept (t':=F.toks) λb o e=>Heap.get?_push_of_some _ e,uQ a _,⟨_,Heap.get?_push_size _ rfl,rfl,rfl⟩,λb S=>?_,q⟩;have e:b=F.heap.objs.size:=(by simpa using S);subst e;exact G.iD (le_refl _) (G.bG.fresh (le_refl _))
theorem sf {pins:List (Addr×Obj)}{σ:St}{H:Hp}{s:Shared}{R:It->Hp->Prop}{E:Value->Shared->Prop}{lo hi:Int}{t u v:Tok}{tk:Nat}(I:Inv X pins σ H s) (h1 : -(2^62)<=lo) (h2:lo<2^62) (N : -(2^62)<=hi) (G:hi<2^62)
  (q:R (BX lo (hi-lo).toNat) H):wpAny (model X.prog X.w) X.A (pyIter (.ref s.heap.objs.size)) (IA X pins σ tg R) E { s with heap:=s.heap.push { cls:=.type "range",data:=.fields #[.int lo t,.int hi u,.int 1 v] },toks:=tk }:=by
 refine wpAny_pyIter_range (IsRange.new ..) (small_one h1 h2 N G) ?_;have F:Inv X pins σ H { s with heap:=s.heap.push { cls:=.type "range",data:=.fields #[.int lo t,.int hi u,.int 1 v] },toks:=tk }:=I.kept λb o e=>Heap.get?_push_of_some _ e;refine⟨(s.heap.push { cls:=.type "range",data:=.fields #[.int lo t,.int hi u,.int 1 v] }).objs.size,[(s.heap.push { cls:=.type "range",data:=.fields #[.int lo t,.int hi u,.int 1 v] }).objs.size],_,_,H,rfl,
  F.kept (t':=tk) λb o e=>Heap.get?_push_of_some _ e,tJ _ lo (hi-lo).toNat,?_,λb L=>?_,q⟩
 .have J:lo+((0:Nat):Int)*1=lo:=(by simp);have O:(((hi-lo).toNat:Nat):Int)-((0:Nat):Int)=Builtin.Range.rangeSize lo hi 1:=(by rw[rangeSize_one];split<;>omega);show IsRangeIter _ _ (lo+((0:Nat):Int)*1) ((((hi-lo).toNat:Nat):Int)-((0:Nat):Int)) 1;rw[J,O];exact Heap.get?_push_size _ rfl
 .have e:b=(s.heap.push { cls:=.type "range",data:=.fields #[.int lo t,.int hi u,.int 1 v] }).objs.size:=(by simpa using L);subst e;exact F.iD (le_refl _) (F.bG.fresh (le_refl _))
def E6 (ta:TA):TI:=λσ H R=>ta σ H λvs H1=>∃j:Int,vs=[.int j] /\ -(2^62)<=j/\j<2^62/\R (BX 0 j.toNat) H1
def FU (ta:TA):TI:=λσ H R=>ta σ H λvs H1=>x8 λ(i j:Int)=>qQ (vs=[.int i,.int j]) ((-(2^62)<=i/\i<2^62 /\ -(2^62)<=j/\j<2^62)) (R (BX i (j-i).toNat) H1)
theorem xw {a:Expr}{ta:TA}{p pos:Pos}(hg:Gl X "range") (G:X.mg "range" = none) (N:PA X [a] ta) (hs:starEach [a] X.env=[(false,eval a X.env)]:=by rfl):PI X tg (.Call (.Name "range" p) [a] [] pos) (E6 ta):=by
 intro pins s σ H R I h;refine Call_ (gx I hg G boot_range (PyProof.Rows.callWith_type1 (bT (N pos pins s σ H _ I h) λus Y L=>?_) hs rfl));obtain⟨vs,H1,J,U,F⟩:=L;obtain⟨j,e,F,O,q⟩:=F;subst e;cases U with
 |cons r S =>
  cases S;obtain⟨t,rfl⟩:=r;exact call_range_1 (sf J af af F O (by simpa using q))
theorem eR {a b:Expr}{ta:TA}{p pos:Pos}(hg:Gl X "range") (L:X.mg "range" = none) (ha:PA X [a,b] ta) (hs:starEach [a,b] X.env=[(false,eval a X.env),(false,eval b X.env)]:=by rfl) (J:starEach [b] X.env=[(false,eval b X.env)]:=by rfl) :
  PI X tg (.Call (.Name "range" p) [a,b] [] pos) (FU ta):=by
 intro pins s σ H R I h;refine Call_ (gx I hg L boot_range (PyProof.Rows.callWith_type1 (bT (ha pos pins s σ H _ I h) λus s1 ⟨vs,H1,I1,U,F⟩=>?_) (by rw[hs,J]) (by rw[J];rfl)));obtain⟨i,j,e,⟨F,S,N,O⟩,q⟩:=F;subst e;cases U with
 |cons r G =>
  cases G with
  |cons Y G =>
   cases G;obtain⟨t,rfl⟩:=r;obtain⟨t',rfl⟩:=Y;exact call_range_2 (sf I1 F S N O q)
def Hj (wi:TI) (g:TG) (tb:TS):TS:=λD σ H=>wi σ H λJ H1=>∃W:Nat->Nat->St->Hp->Prop,(∃m,W 0 m σ H1)/\∀i m σ H,W i m σ H ->
 (J.stop i H/\D.nx σ H)\/(J.go i H/\∃N:St->Hp->Prop,(∀G H',N G H'->∃F,F<m/\W (i+1) F G H')/\∀x H',J.AJ i H x H'->g x σ H' λI H2=>tb { D with nx:=N,ct:=N,bk:=D.nx } I H2)
def mU (fp:List Addr) (h:Heap):List (Addr×Obj):=fp.filterMap λb=>(h.get? b).map λo=>(b,o)
theorem gy {fp:List Addr}{h:Heap}{b:Addr}{o:Obj}(F:b∈fp) (e:h.get? b=some o):(b,o)∈mU fp h:=List.mem_filterMap.mpr ⟨b,F,by rw[e];rfl⟩
theorem xT {fp:List Addr}{h:Heap}{p:Addr×Obj}(G:p∈mU fp h):p.1∈fp/\h.get? p.1=some p.2:=by
 obtain⟨b,I,e⟩:=List.mem_filterMap.mp G;cases q:h.get? b with
 |none=>rw[q]at e;cases e
 |some o =>
  rw[q]at e;have F:(b,o)=p:=Option.some.inj e;subst F;exact⟨I,q⟩
theorem Inv.pinned {pins:List (Addr×Obj)}{σ:St}{H:Hp}{s:Shared}{fp:List Addr}(I:Inv X pins σ H s) (N:∀b∈fp,ff X pins H b) (R:∀b∈fp,∃o,s.heap.get? b=some o/\∀v,o.data≠.cell v):Inv X (pins++mU fp s.heap) σ H s :=
 I.lh λp L=>(List.mem_append.mp L).elim (λz=>I.pin p (mem_append_right _ z)) λz=>by
  obtain⟨G,e⟩:=xT z;obtain⟨O,S,J,_⟩:=N p.1 G;obtain⟨o,F,d⟩:=R p.1 G;rw[e]at F;cases F;exact⟨e,O,S,J,d⟩
theorem Inv.mQ {pins pl:List (Addr×Obj)}{σ:St}{H:Hp}{s:Shared}(I:Inv X (pins++pl) σ H s):Inv X pins σ H s:=I.lh λp F=>I.pin p (mem_append_right _ (mem_append_left _ F))
theorem cO {iter:Expr}{body:List Stmt}{wi:TI}{g:TG}{tb:TS}{pos:Pos}(hp:PassesOwn (model X.prog X.w) X.A X.env X.xe) (hc:X.calm=true) (hi:PI X tg iter wi) (hg:PG X tg g) (O:vG X body tb)
  (hs:∀x,foldedSetIterable iter X.env x=pure x:=by intro _;rfl):PS X (.For tg iter body [] pos) (Hj wi g tb):=by
 intro pins s σ H D I h;refine wpAny_For (bT (hi pins s σ H _ I h) λv s1 h1=>bT h1 λa6 s2 h2=>?_) hs;obtain⟨it,fp,tn,J,H2,e,I2,T,a3,f2,W,⟨m0,w0⟩,a0⟩:=h2;subst e;have ac:∀{H':Hp},(∀b∈fp,H' b=none)->∀b∈fp,ff X pins H' b:=λhn b O=>⟨hn b O,(f2 b O).2⟩;refine codeAny_forLoop_any (λn s'=>∃i Y H',Inv X pins Y H' s'/\tn i s'.heap/\(∀b∈fp,H' b=none)/\W i n Y H') ?_ m0 ⟨0,σ,H2,I2,a3,λb O=>(f2 b O).1,w0⟩;rintro n s3 ⟨i,U,H3,I3,ad,am,w3⟩;rcases a0 i n U H3 w3 with⟨a4,qn⟩|⟨go,N,hN,step⟩
 .refine wpAny_passesOwn hp (bT (T.done X rfl rfl rfl hc i pins s3 U H3 X.xe I3 (ac am) ad a4) λr s4 ap=>?_);obtain⟨hr,I4⟩:=ap;subst hr;exact wpAny_execs_nil ⟨U,H3,I4,qn⟩
 .refine wpAny_passesOwn hp (bT (T.item X rfl rfl rfl hc i pins s3 U H3 X.xe I3 (ac am) ad go) λr s4 a5=>?_);obtain⟨u,hr,h4⟩:=a5;subst hr;refine wpAny_passesOwn hp (bT h4 λ_ s5 as=>?_);obtain⟨x,H5,I5,r5,y5,ab,aT⟩:=as;have a2:=I5.pinned (ac aT) (T.obj _ _ ab);refine wpAny_passesOwn hp (bT (hg _ s5 U H5 x u _ a2 r5 (step x H5 y5)) λ_ s6 aB=>?_);obtain⟨a1,H6,I6,q6⟩:=aB;refine wpAny_passesOwn hp (bT (O _ s6 a1 H6 _ I6 q6) λf s7 R=>?_);have again:∀{L:St}{F:Hp},Inv X (pins++mU fp s5.heap) L F s7->N L F->∃m,m<n/\∃i Y H',Inv X pins Y H' s7/\tn i s7.heap/\(∀b∈fp,H' b=none)/\W i m Y H':=λ{L F} G S=>by
   obtain⟨m',hm,w7⟩:=hN L F S;refine⟨m',hm,i+1,L,F,G.mQ,T.keep _ _ _ ab λb O o e=>(G.pin (b,o) (mem_append_right _ (mem_append_right _ (gy O e)))).1,λb O=>?_,w7⟩;obtain⟨o,e,d⟩:=T.obj _ _ ab b O;exact(G.pin (b,o) (mem_append_right _ (mem_append_right _ (gy O e)))).2.1
  cases f with
  |next=>obtain⟨L,F,G,S⟩:=R;exact again G S
  |cont=>obtain⟨L,F,G,S⟩:=R;exact again G S
  |brk=>obtain⟨L,F,G,R⟩:=R;exact⟨L,F,G.mQ,R⟩
  |ret v=>obtain⟨x7,L,F,G,r7,R⟩:=R;exact⟨x7,L,F,G.mQ,r7,R⟩
end
theorem eT {K:Frag}{a:Addr}{xs:List V}{g:TG}{tb:TS}{D:Ends}{σ:St}{H:Hp}(Pv:Nat->St->Hp->Prop) (O:Pv 0 σ H) (R:∀i σ H,i<=xs.length->Pv i σ H->bq K H a xs)
  (hs:∀i x σ H,xs[i]?=some x->Pv i σ H->g x σ H λF H2=>tb { D with nx:=Pv (i+1),ct:=Pv (i+1),bk:=D.nx } F H2) (hd:∀σ H,Pv xs.length σ H->D.nx σ H) :
  ∃W:Nat->Nat->St->Hp->Prop,(∃m,W 0 m σ H)/\∀i m σ H,W i m σ H ->
   ((Ds K a).stop i H/\D.nx σ H)\/((Ds K a).go i H/\∃N:St->Hp->Prop,(∀G H',N G H'->∃I,I<m/\W (i+1) I G H')/\∀x H',(Ds K a).AJ i H x H'->g x σ H' λF H2=>tb { D with nx:=N,ct:=N,bk:=D.nx } F H2):=by
 refine⟨λi m σ H=>m=xs.length-i/\i<=xs.length/\Pv i σ H,⟨xs.length,by simp,zero_le _,O⟩,?_⟩;rintro i m σ H ⟨rfl,hi,p⟩;have q:=R i σ H hi p;by_cases J:i<xs.length
 .refine .inr ⟨⟨xs,xs[i],q,by simp[J]⟩,Pv (i+1),λG H' L=>⟨xs.length-(i+1),af,rfl,J,L⟩,λx H' y=>?_⟩;obtain⟨e,y⟩:=y;subst e;exact hs i x σ _ (y xs q) p
 .have e:i=xs.length:=af;subst e;exact .inl ⟨⟨xs,q,le_refl _⟩,hd σ H p⟩
theorem ig {lo:Int}{n:Nat}{g:TG}{tb:TS}{D:Ends}{σ:St}{H:Hp}(Pv:Nat->St->Hp->Prop) (O:Pv 0 σ H)
  (hs:∀i σ H,i<n->Pv i σ H->g (.int (lo+i)) σ H λF H2=>tb { D with nx:=Pv (i+1),ct:=Pv (i+1),bk:=D.nx } F H2) (hd:∀σ H,Pv n σ H->D.nx σ H) :
  ∃W:Nat->Nat->St->Hp->Prop,(∃m,W 0 m σ H)/\∀i m σ H,W i m σ H ->
   ((BX lo n).stop i H/\D.nx σ H)\/((BX lo n).go i H/\∃N:St->Hp->Prop,(∀I H',N I H'->∃J,J<m/\W (i+1) J I H')/\∀x H',(BX lo n).AJ i H x H'->g x σ H' λF H2=>tb { D with nx:=N,ct:=N,bk:=D.nx } F H2):=by
 refine⟨λi m σ H=>m=n-i/\i<=n/\Pv i σ H,⟨n,by simp,zero_le _,O⟩,?_⟩;rintro i m σ H ⟨rfl,hi,p⟩;by_cases G:i<n
 .refine .inr ⟨G,Pv (i+1),λI H' L=>⟨n-(i+1),af,rfl,G,L⟩,λx H' y=>?_⟩;obtain⟨e,y⟩:=y;subst e y;exact hs i σ _ G p
 .have e:i=n:=af;subst e;exact .inl ⟨le_refl _,hd σ H p⟩
abbrev R2:=V->V->Hp->VK->Prop
def kB (X:Cx) (f:Value->Value->Sem Value) (r:R2):Prop :=
 ∀(pins:List (Addr×Obj)) (s:Shared) (σ:St) (H:Hp) (x y:V) (v u:Value) (Q:VK),Inv X pins σ H s->RelV x v->RelV y u->r x y H Q ->
  wpAny (model X.prog X.w) X.A (f v u) (EP X pins σ Q) X.xe s
def Ib (X:Cx) (f:Value->Sem Value) (r:V->Hp->VK->Prop):Prop :=
 ∀(pins:List (Addr×Obj)) (s:Shared) (σ:St) (H:Hp) (x:V) (v:Value) (Q:VK),Inv X pins σ H s->RelV x v->r x H Q ->
  wpAny (model X.prog X.w) X.A (f v) (EP X pins σ Q) X.xe s
def dr (X:Cx) (f:Value) (r:List V->Hp->VK->Prop):Prop :=
 ∀(pins:List (Addr×Obj)) (s:Shared) (σ:St) (H:Hp) (xs:List V) (us:List Value) (Q:VK),Inv X pins σ H s->Vals xs us->r xs H Q ->
  wpAny (model X.prog X.w) X.A (call f us) (EP X pins σ Q) X.xe s
def Et (r:R2) (ta tb:TE):TE:=λσ H Q=>ta σ H λx H1=>tb σ H1 λy H2=>r x y H2 Q
def IT (r:V->Hp->VK->Prop) (ta:TE):TE:=λσ H Q=>ta σ H λx H1=>r x H1 Q
inductive rI (C:Int->Int->Prop) (g:Int->Int->V) (x:V) (y:V) (H:Hp) (Q:VK):Prop
 |mk (i:_) (j:_) (_:x=.int i) (_:y=.int j) (_:C i j) (_:Q (g i j) H):rI C g x y H Q
inductive Cj (g:Int->Int->V) (x:V) (y:V) (H:Hp) (Q:VK):Prop
 |mk (i:_) (j:_) (_:x=.int i) (_:y=.int j) (_:Q (g i j) H):Cj g x y H Q
inductive rU (g:Int->V) (x:V) (H:Hp) (Q:VK):Prop
 |mk (i:_) (_:x=.int i) (_:Q (g i) H):rU g x H Q
section
variable {X:Cx}{a b c:Expr}{ta tb tc:TE}{pos:Pos}
theorem DF (ha:PE X a ta) (N:PE X b tb) {pins:List (Addr×Obj)}{s:Shared}{σ:St}{H:Hp}{R:V->V->Hp->Prop}(I:Inv X pins σ H s)
  (h:ta σ H λx H1=>tb σ H1 λy H2=>R x y H2) {Q:Value->Shared->Prop}{f:Value->Value->Sem Value}
  (L:∀v u F x y H2,Inv X pins σ H2 F->RelV x v->RelV y u->R x y H2->wpAny (model X.prog X.w) X.A (f v u) Q X.xe F) :
  wpAny (model X.prog X.w) X.A (eval a X.env) (λv O=>wpAny (model X.prog X.w) X.A (eval b X.env) (λu U=>wpAny (model X.prog X.w) X.A (f v u) Q X.xe U) X.xe O) X.xe s:=by
 refine bT (ha pins s σ H _ I h) λv G Y=>?_;obtain⟨x,H1,S,r1,J⟩:=Y;refine bT (N pins G σ H1 _ S J) λu F ab=>?_;obtain⟨y,H2,I2,r2,q2⟩:=ab;exact L v u F x y H2 I2 r1 r2 q2
theorem ay {F:Operator}{r:R2}(N:kB X (binaryOp F) r) (L:PE X a ta) (G:PE X b tb):PE X (.BinOp a F b pos) (Et r ta tb):=by
 intro pins s σ H Q I h;exact wpAny_BinOp (DF L G I h λv u R x y H2 O S J q=>N pins R σ H2 x y v u Q O S J q)
theorem E3 {F:UnaryOp}{r:V->Hp->VK->Prop}(O:Ib X (unaryOp F) r) (N:PE X a ta):PE X (.UnaryOp F a pos) (IT r ta):=by
 intro pins s σ H Q I h;exact UnaryOp_ (bT (N pins s σ H _ I h) λv G S=>by obtain⟨x,H1,L,R,J⟩:=S;exact O pins G σ H1 x v Q L R J)
theorem Ha {f:Value->Value->Sem Value}{C:Int->Int->Prop}{g:Int->Int->Int}
  (rule:∀(i j:Int) (t u:Tok) (s:Shared) (Q:Value->Shared->Prop) (E:Value->Shared->Prop),C i j->Q (.int (g i j) s.toks) { s with toks:=s.toks+1 }->wpAny (model X.prog X.w) X.A (f (.int i t) (.int j u)) Q E s) :
  kB X f (rI C λi j=>.int (g i j)):=by
 intro pins s σ H x y v u Q I J F h;obtain⟨i,j,rfl,rfl,G,q⟩:=h;obtain⟨t,rfl⟩:=J;obtain⟨t',rfl⟩:=F;exact rule i j t t' s _ _ G ⟨.int (g i j),H,I.tok _,⟨_,rfl⟩,q⟩
theorem EK {f:Value->Value->Sem Value}{g:Int->Int->Int}
  (rule:∀(i j:Int) (t u:Tok) (s:Shared) (Q:Value->Shared->Prop) (E:Value->Shared->Prop),Q (.int (g i j) s.toks) { s with toks:=s.toks+1 }->wpAny (model X.prog X.w) X.A (f (.int i t) (.int j u)) Q E s) :
  kB X f (Cj λi j=>.int (g i j)):=by
 intro pins s σ H x y v u Q I G F h;obtain⟨i,j,rfl,rfl,q⟩:=h;obtain⟨t,rfl⟩:=G;obtain⟨t',rfl⟩:=F;exact rule i j t t' s _ _ ⟨.int (g i j),H,I.tok _,⟨_,rfl⟩,q⟩
theorem CP {f:Value->Value->Sem Value}{g:Int->Int->Bool}
  (rule:∀(i j:Int) (t u:Tok) (s:Shared) (Q:Value->Shared->Prop) (E:Value->Shared->Prop),Q (.bool (g i j)) s->wpAny (model X.prog X.w) X.A (f (.int i t) (.int j u)) Q E s) :
  kB X f (Cj λi j=>.bl (g i j)):=by
 intro pins s σ H x y v u Q I G F h;obtain⟨i,j,rfl,rfl,q⟩:=h;obtain⟨t,rfl⟩:=G;obtain⟨t',rfl⟩:=F;exact rule i j t t' s _ _ ⟨.bl (g i j),H,I,rfl,q⟩
def Il (i j:Int):Prop:=0<j/\j<1073741824
def Hq (i j:Int):Prop:=0<=j/\j<=1000000/\i.natAbs<2^64
def Ah (i j:Int):Prop:=(-(2^64)<i/\i<2^64)\/(-(2^64)<j/\j<2^64)
theorem Ah.ok {i j:Int}(h:Ah i j):IntMulOk i j:=by
 rcases h with⟨h1,h2⟩|⟨h1,h2⟩
 .exact .of_left (intBits_le_64 h1 h2)
 .exact .of_right (intBits_le_64 h1 h2)
theorem bu:kB X (binaryOp .Add) (Cj λi j=>.int (i+j)):=EK λ_ _ _ _ _ _ _ q=>add_int q
theorem pI:kB X (binaryOp .Sub) (Cj λi j=>.int (i-j)):=EK λ_ _ _ _ _ _ _ q=>sub_int q
theorem eX:kB X (binaryOp .Mult) (rI Ah λi j=>.int (i*j)):=Ha λ_ _ _ _ _ _ _ F q=>mul_int q F.ok
theorem bJ:kB X (binaryOp .FloorDiv) (rI Il λi j=>.int (i/j)):=Ha λi j _ _ _ _ _ F q=>by
 have h1:(0:Int)<j:=F.1;have h2:j<1073741824:=F.2;exact floordiv_int af (by rw[Int.fdiv_eq_ediv_of_nonneg i af];exact q) (.inl (PyProof.noPylong_small af))
theorem bH:kB X (binaryOp .Mod) (rI (λ_ j=>0<j) λi j=>.int (i%j)):=Ha λi j _ _ _ _ _ F q=>by
 have h1:(0:Int)<j:=F;exact mod_int' af (by rw[Int.fmod_eq_emod_of_nonneg i af];exact q)
theorem uE:kB X (binaryOp .Pow) (rI Hq λi j=>.int (i^j.toNat)):=Ha λ_ _ _ _ _ _ _ F q=>pow_int_small F.1 F.2.1 F.2.2 q
theorem Jp {f:Value->Sem Value}{g:Int->Int}
  (rule:∀(i:Int) (t:Tok) (s:Shared) (Q:Value->Shared->Prop) (E:Value->Shared->Prop),Q (.int (g i) s.toks) { s with toks:=s.toks+1 }->wpAny (model X.prog X.w) X.A (f (.int i t)) Q E s) :
  Ib X f (rU λi=>.int (g i)):=by
 intro pins s σ H x v Q I F h;obtain⟨i,rfl,q⟩:=h;obtain⟨t,rfl⟩:=F;exact rule i t s _ _ ⟨.int (g i),H,I.tok _,⟨_,rfl⟩,q⟩
theorem Eg:Ib X (unaryOp .USub) (rU λi=>.int (-i)):=Jp λ_ _ _ _ _ q=>neg_int q
end
def Bf:V->V->Bool
 |.non,.non=>true|.non,.int _=>true|.int _,.non=>true|.non,.bl _=>true|.bl _,.non=>true|.non,.str _=>true|.str _,.non=>true
 |.int _,.int _=>true|.bl _,.bl _=>true|.str _,.str _=>true|.byt _,.byt _=>true
 |.int _,.str _=>true|.str _,.int _=>true|.bl _,.str _=>true|.str _,.bl _=>true
 |_,_=>false
def Ia:R2:=λx y H Q=>Bf x y=true/\Q (.bl (decide (x=y))) H
def Jh:R2:=λx y H Q=>Bf x y=true/\Q (.bl (!decide (x=y))) H
theorem wk {i j:Int}:decide (V.int i=V.int j)=(i==j):=by
 rw[Bool.eq_iff_iff];simp
theorem zG {i j:Bool}:decide (V.bl i=V.bl j)=(i==j):=by
 rw[Bool.eq_iff_iff];simp
theorem wz {i j:Str}:decide (V.str i=V.str j)=(i==j):=by
 rw[Bool.eq_iff_iff];simp
theorem vX {i j:Array UInt8}:decide (V.byt i=V.byt j)=(i.toList==j.toList):=by
 rw[Bool.eq_iff_iff];cases i;cases j;simp
section
variable {X:Cx}{a b c:Expr}{ta tb tc:TE}{pos:Pos}
theorem bL {pins:List (Addr×Obj)}{σ:St}{H:Hp}{s:Shared}{Q:VK}{k F:Bool}(I:Inv X pins σ H s) (q:Q (.bl k) H) (e:k=F):EP X pins σ Q (.bool F) s:=by
 subst e;exact⟨.bl k,H,I,rfl,q⟩
theorem bW:kB X (compareOp .Eq) Ia:=by
 intro pins s σ H x y v u Q I G F h;obtain⟨hs,q⟩:=h;cases x with
 |non =>
  cases G;cases y with
  |non=>cases F;exact PySem.EqNone.eq_none_none (bL I q (by simp))
  |bl j=>cases F;exact PySem.EqNone.eq_none_bool (bL I q (by simp))
  |int j=>obtain⟨t',rfl⟩:=F;exact PySem.EqNone.eq_none_int (bL I q (by simp))
  |str j=>obtain⟨t',rfl⟩:=F;exact PySem.EqNone.eq_none_str (bL I q (by simp))
  |_=>exact absurd (show false=true from hs) Bool.false_ne_true
 |bl i =>
  cases G;cases y with
  |non=>cases F;exact PySem.EqNone.eq_bool_none (bL I q (by simp))
  |bl j=>cases F;exact eq_bool (bL I q zG)
  |str j=>obtain⟨t',rfl⟩:=F;exact PySem.EqMixed.eq_bool_str (bL I q (by simp))
  |_=>exact absurd (show false=true from hs) Bool.false_ne_true
 |int i =>
  obtain⟨t,rfl⟩:=G;cases y with
  |non=>cases F;exact PySem.EqNone.eq_int_none (bL I q (by simp))
  |int j=>obtain⟨t',rfl⟩:=F;exact eq_int (bL I q wk)
  |str j=>obtain⟨t',rfl⟩:=F;exact PySem.EqMixed.eq_int_str (bL I q (by simp))
  |_=>exact absurd (show false=true from hs) Bool.false_ne_true
 |str i =>
  obtain⟨t,rfl⟩:=G;cases y with
  |non=>cases F;exact PySem.EqNone.eq_str_none (bL I q (by simp))
  |bl j=>cases F;exact PySem.EqMixed.eq_str_bool (bL I q (by simp))
  |int j=>obtain⟨t',rfl⟩:=F;exact PySem.EqMixed.eq_str_int (bL I q (by simp))
  |str j=>obtain⟨t',rfl⟩:=F;exact eq_str (bL I q wz)
  |_=>exact absurd (show false=true from hs) Bool.false_ne_true
 |byt i =>
  obtain⟨t,rfl⟩:=G;cases y with
  |byt j=>obtain⟨t',rfl⟩:=F;exact PySem.W.eq_bytes (bL I q vX)
  |_=>exact absurd (show false=true from hs) Bool.false_ne_true
 |_=>cases y<;>exact absurd (show false=true from hs) Bool.false_ne_true
theorem yW:kB X (compareOp .NotEq) Jh:=by
 intro pins s σ H x y v u Q I G F h;obtain⟨hs,q⟩:=h;cases x with
 |non =>
  cases G;cases y with
  |non=>cases F;exact PySem.EqNone.ne_none_none (bL I q (by simp))
  |bl j=>cases F;exact PySem.EqNone.ne_none_bool (bL I q (by simp))
  |int j=>obtain⟨t',rfl⟩:=F;exact PySem.EqNone.ne_none_int (bL I q (by simp))
  |str j=>obtain⟨t',rfl⟩:=F;exact PySem.EqNone.ne_none_str (bL I q (by simp))
  |_=>exact absurd (show false=true from hs) Bool.false_ne_true
 |bl i =>
  cases G;cases y with
  |non=>cases F;exact PySem.EqNone.ne_bool_none (bL I q (by simp))
  |bl j=>cases F;exact ne_bool (bL I q (congrArg not zG))
  |str j=>obtain⟨t',rfl⟩:=F;exact PySem.EqMixed.ne_bool_str (bL I q (by simp))
  |_=>exact absurd (show false=true from hs) Bool.false_ne_true
 |int i =>
  obtain⟨t,rfl⟩:=G;cases y with
  |non=>cases F;exact PySem.EqNone.ne_int_none (bL I q (by simp))
  |int j=>obtain⟨t',rfl⟩:=F;exact ne_int (bL I q (congrArg not wk))
  |str j=>obtain⟨t',rfl⟩:=F;exact PySem.EqMixed.ne_int_str (bL I q (by simp))
  |_=>exact absurd (show false=true from hs) Bool.false_ne_true
 |str i =>
  obtain⟨t,rfl⟩:=G;cases y with
  |non=>cases F;exact PySem.EqNone.ne_str_none (bL I q (by simp))
  |bl j=>cases F;exact PySem.EqMixed.ne_str_bool (bL I q (by simp))
  |int j=>obtain⟨t',rfl⟩:=F;exact PySem.EqMixed.ne_str_int (bL I q (by simp))
  |str j=>obtain⟨t',rfl⟩:=F;exact ne_str (bL I q (congrArg not wz))
  |_=>exact absurd (show false=true from hs) Bool.false_ne_true
 |byt i =>
  obtain⟨t,rfl⟩:=G;cases y with
  |byt j=>obtain⟨t',rfl⟩:=F;exact PySem.W.ne_bytes (bL I q (congrArg not vX))
  |_=>exact absurd (show false=true from hs) Bool.false_ne_true
 |_=>cases y<;>exact absurd (show false=true from hs) Bool.false_ne_true
theorem gG:kB X (compareOp .Lt) (Cj λi j=>.bl (decide (i<j))):=CP λ_ _ _ _ _ _ _ q=>lt_int q
theorem iJ:kB X (compareOp .Gt) (Cj λi j=>.bl (decide (j<i))):=CP λ_ _ _ _ _ _ _ q=>gt_int q
theorem Fb:kB X (compareOp .GtE) (Cj λi j=>.bl (decide (j<=i))):=CP λ_ _ _ _ _ _ _ q=>ge_int q
theorem DJ:kB X (compareOp .Is) (λx y H Q=>y=.non/\Q (.bl (decide (x=.non))) H):=by
 intro pins s σ H x y v u Q I F G h;obtain⟨rfl,q⟩:=h;cases G;refine is_none_gen (bL I q ?_);cases x<;>first
  |(cases F;rfl)
  |(obtain⟨t,rfl⟩:=F;rfl)
theorem aH (b:Expr) {F:CmpOp}(h:F≠.In:=by decide) (h2:F≠.NotIn:=by decide):behindInMarks F b=false:=by
 have I:(F==CmpOp.In)=false:=by cases F<;>first|rfl|exact absurd rfl h
 have G:(F==CmpOp.NotIn)=false:=by cases F<;>first|rfl|exact absurd rfl h2
 cases b<;>simp[behindInMarks,I,G]
theorem kW {F:CmpOp}{r:R2}(O:kB X (compareOp F) r) (N:PE X a ta) (J:PE X b tb) (G:behindInMarks F b=false):PE X (.Compare a [F] [b] pos) (Et r ta tb):=by
 intro pins s σ H Q I h;exact wpAny_Compare1 (DF N J I h λv u S x y H2 R U L q=>O pins S σ H2 x y v u Q R U L q) G
inductive ye (t:TE) (Q:Bool->Hp->Prop) (x:V) (H':Hp):Prop
 |mk (k:_) (_:x=.bl k) (_:Q k H'):ye t Q x H'
def yO (t:TE):TT:=λσ H Q=>t σ H λx H'=>ye t Q x H'
theorem aC {F:CmpOp}{r:R2}(ho:kB X (compareOp F) r) (ha:PE X a ta) (R:PE X b tb) (G:behindInMarks F b=false):PT X (.Compare a [F] [b] pos) (yO (Et r ta tb)):=by
 intro pins s σ H Q I h;refine wpAny_isTrue_Compare1 (bT (ha pins s σ H _ I h) λv J ⟨x,H1,S,r1,O⟩=>bT (R pins J σ H1 _ S O) λu U ⟨y,H2,I2,r2,q2⟩ =>
  bT (ho pins U σ H2 x y v u _ I2 r1 r2 q2) λc s3 ⟨z,N,L,Y,k,e,q3⟩=>?_) G
 subst e;cases Y;exact wpAny_truthy_bool ⟨N,L,q3⟩
theorem mh:(sizeLine:Nat)<2^63:=by rw[sizeLine_eq];decide
theorem vals1 {x:V}{us:List Value}(r:Vals [x] us):∃u,us=[u]/\RelV x u:=by
 cases r with
 |cons F G=>cases G;exact⟨_,rfl,F⟩
theorem vals2 {x y:V}{us:List Value}(r:Vals [x,y] us):∃u F,us=[u,F]/\RelV x u/\RelV y F:=by
 cases r with
 |cons J L =>
  cases L with
  |cons G I=>cases I;exact⟨_,_,rfl,J,G⟩
theorem nG (G:X.calm=true):dr X (.builtin "max") (λxs H Q=>∃i j,xs=[.int i,.int j]/\Q (.int (if j>i then j else i)) H):=by
 intro pins s σ H xs us Q I r h;obtain⟨i,j,rfl,q⟩:=h;obtain⟨u,J,rfl,⟨t,rfl⟩,⟨t',rfl⟩⟩:=vals2 r;refine max_two_ints (I.ok.hd G) λh' tk k=>⟨_,H,I.kept k,?_,q⟩;by_cases F:j>i
 .rw[if_pos F,if_pos F];exact⟨_,rfl⟩
 .rw[if_neg F,if_neg F];exact⟨_,rfl⟩
theorem wA (G:X.calm=true):dr X (.builtin "min") (λxs H Q=>∃i j,xs=[.int i,.int j]/\Q (.int (if j<i then j else i)) H):=by
 intro pins s σ H xs us Q I r h;obtain⟨i,j,rfl,q⟩:=h;obtain⟨u,J,rfl,⟨t,rfl⟩,⟨t',rfl⟩⟩:=vals2 r;refine min_two_ints (I.ok.hd G) λh' tk k=>⟨_,H,I.kept k,?_,q⟩;by_cases F:j<i
 .rw[if_pos F,if_pos F];exact⟨_,rfl⟩
 .rw[if_neg F,if_neg F];exact⟨_,rfl⟩
theorem dW:dr X (.type "int") (λxs H Q=>(∃i,xs=[.int i]/\Q (.int i) H)\/∃k,xs=[.bl k]/\Q (.int (if k then 1 else 0)) H):=by
 intro pins s σ H xs us Q I r h;rcases h with⟨i,rfl,q⟩|⟨k,rfl,q⟩
 .obtain⟨u,rfl,t,rfl⟩:=vals1 r;exact call_int_int ⟨.int i,H,I,⟨_,rfl⟩,q⟩
 .obtain⟨u,rfl,F⟩:=vals1 r;cases F;exact call_int_bool ⟨.int (if k then 1 else 0),H,I.tok _,⟨_,rfl⟩,q⟩
end
structure sW (h:Heap) (x dx C:Addr) (mA:Str->Option Value):Prop where
 obj:h.get? x=some (instObj C dx)
 ns:h.Ns1 dx mA
 ne:dx≠x
theorem wL {h:Heap}{dx:Addr}{mA:Str->Option Value}(n:h.Ns1 dx mA):∃od,h.get? dx=some od/\∀name,lookIn name od=some (mA name):=by
 obtain⟨o,es,ep,N,hd,G,_,F⟩:=n;refine⟨o,N,λname=>?_⟩;have e:=F name;unfold nsFind findBy at e;rw[<-Array.find?_toList]at e;unfold lookIn;rw[hd];dsimp only
 set_option tactic.hygienic true in split
 .rename_i y q;rw[q]at e;exact congrArg some e
 .rename_i q;rw[q]at e;have a:es.toList.any (·.refKey)=false:=by
   rw[List.any_eq_false];intro y I;obtain⟨z,t,J⟩:=G y (Array.mem_toList_iff.mp I);simp[DictEntry.refKey,J]
  have L:¬ es.toList.any (·.refKey)=true:=(by rw[a];exact Bool.false_ne_true);rw[if_neg L];exact congrArg some e
theorem sW.look {h:Heap}{x dx C:Addr}{mA:Str->Option Value}(I:sW h x dx C mA):∃od,PySem.W.InstAt h x (instObj C dx) C (some od)/\∀name,lookIn name od=some (mA name):=
 let ⟨od,G,F⟩:=wL I.ns
 ⟨od,⟨I.obj,rfl,rfl,G⟩,F⟩
section
variable {prog:Program}{w:World}{A:Around}{E:Value->Shared->Prop}{s:Shared}{K:Frag}{x dx C f:Addr}{mA:Str->Option Value}{name:Str}{v:Value}
theorem get_map {R:Bool}{Q:Value->Shared->Prop}(X:K.In s.heap) (I:sW s.heap x dx C mA) (hg:plainGet K C name=true) (N:hasDictIn K C=true)
  (L:findIn K (.ref C) name=some none) (O:mA name=some v) (F:handedIn v=true) (h:Q v { s with toks:=s.toks+1 }) :
  wpAny (model prog w) A (getAttr (.ref x) name R) Q E s:=by
 obtain⟨od,J,G⟩:=I.look;exact PySem.W.get_value X J (plainGet_of hg).1 (PySem.W.findObj_own N L rfl (by rw[G,O])) F h
theorem yY {pl:Sem Bool}{Q:Value×List Value->Shared->Prop}(X:K.In s.heap) (I:sW s.heap x dx C mA) (hg:plainGet K C name=true)
  (G:findIn K (.ref C) name=some (some (.ref f))) (N:isFn K (.ref f)=true) (L:mA name=none) (h:Q (.ref f,[.ref x]) s) :
  wpAny (model prog w) A (getMethod (.ref x) name pl) Q E s:=by
 obtain⟨od,J,F⟩:=I.look;exact PySem.W.method_fn X J (plainGet_of hg).1 (plainGet_of hg).2 G (beq_iff_eq.mp N) (by show(lookIn name od).map (·.isSome)=some false;rw[F,L];rfl) h
theorem BD {ns:List Str}{Q:Unit->Shared->Prop}(X:K.In s.heap) (I:sW s.heap x dx C mA)
  (hs:findIn K (.ref C) "__setattr__" = some (some (.builtin "object.__setattr__"))) (O:plainOver K C=true) (U:takerIn K C name=some none) (hh:hasDictIn K C=true)
  (N:PySem.Within mA ns) (hsz:ns.length<=sizeLine)
  (h:∀h',sW h' x dx C (λy=>if y=name then some v else mA y)->Heap.SameBut dx s.heap h'->Q () { s with heap:=h',toks:=s.toks+2 }) :
  wpAny (model prog w) A (setAttr (.ref x) name v) Q E s:=by
 obtain⟨od,J,hl⟩:=I.look;refine PySem.W.set_plain X J hs (PySem.W.osa_open (s:={ s with toks:=s.toks+1 }) (r:=none) X J O U λb=>?_);obtain⟨cd,hc,L⟩:=PySem.W.any_some hh;have hx:s.heap.get? x=some ⟨.ref C,some dx,.plain, #[]⟩:=I.obj;refine wpAny_bind (wpAny_pure (wpAny_bind (wpAny_bind (wpAny_loadPart hx (wpAny_bind (PySem.W.Looks.here (s:={ s with toks:=s.toks+1 }) (PySem.W.looks_clsIn X hc) ?_))))));rw[L];refine wpAny_pure (a:=some dx) (wpAny_bind (wpAny_pure (wpAny_bind ?_)));refine wpAny_nsSet1 (s:={ s with toks:=s.toks+1 }) I.ns λh' G F=>?_;obtain⟨oD,ac,ab,Y,S,R⟩:=G.count (PySem.Within.cons name v N);refine wpAny_bind (wpAny_lookBehind Y (by rw[S];exact pastItsLine_dict (le_trans R (by rw[length_cons];omega))) ?_);exact wpAny_pure (h _ ⟨(F.2 _ (Ne.symm I.ne)).trans I.obj,G,I.ne⟩ F)
theorem yo {R:Result->Shared->Prop}{vs:List Value}{F:List (Str×Value)}(X:K.In s.heap) (G:makesIn K C=true)
  (hi:findIn K (.ref C) "__init__" = some (some (.ref f))) (I:PySem.W.typeIn K (.ref f)=some (.type "function"))
  (h:codeAny (model prog w) (A.under (.builtin "type.__call__" ⟨.ref C::vs,F⟩)) (.call (.ref f) ⟨.ref (s.heap.objs.size+1)::vs,F⟩) (PySem.W.InitBack (s.heap.objs.size+1) R)
   { s with heap:=(s.heap.push emptyDict).push (instObj C s.heap.objs.size) }) :
  codeAny (model prog w) A (.call (.ref C) ⟨vs,F⟩) R s:=by
 obtain⟨J,g,d,t,os⟩:=s;exact PySem.W.make_core (PySem.W.makes_of X G) (PySem.W.looks_findIn X hi) (λself=>PySem.W.bind_fn X self I) (.inl rfl) h
end
def bo (f:Str) (v:V):List (Str×V)->List (Str×V)
 | []=>[(f,v)]
 |(g,x)::r=>if g=f then(g,v)::r else(g,x)::bo f v r
theorem aD (f g:Str) (v:V):∀fs:List (Str×V),(bo f v fs).lookup g=if g=f then some v else fs.lookup g
 | []=>by
  show List.lookup g [(f,v)]=_;by_cases h:g=f
  .have F:(g==f)=true:=beq_iff_eq.mpr h;simp only[List.lookup,F,if_pos h]
  .have F:(g==f)=false:=beq_eq_false_iff_ne.mpr h;simp only[List.lookup,F,if_neg h]
 |(k,x)::r=>by
  have I:=aD f g v r;rw[show bo f v ((k,x)::r)=(if k=f then(k,v)::r else(k,x)::bo f v r)from rfl];by_cases G:k=f
  .rw[if_pos G];by_cases h:g=k
   .have F:(g==k)=true:=beq_iff_eq.mpr h;simp only[List.lookup,F,if_pos (h.trans G)]
   .have F:(g==k)=false:=beq_eq_false_iff_ne.mpr h;simp only[List.lookup,F,if_neg (λe:g=f=>h (e.trans G.symm))]
  .rw[if_neg G];by_cases h:g=k
   .have F:(g==k)=true:=beq_iff_eq.mpr h;simp only[List.lookup,F,if_neg (λe:g=f=>G (h.symm.trans e))]
   .have F:(g==k)=false:=beq_eq_false_iff_ne.mpr h;simp only[List.lookup,F];exact I
theorem kA (f:Str) (v:V):∀fs:List (Str×V),f∈(bo f v fs).map (·.1)/\∀g,g∈fs.map (·.1)->g∈(bo f v fs).map (·.1)
 | []=>⟨by simp[bo],λg h=>by simp at h⟩
 |(k,x)::r=>by
  obtain⟨G,I⟩:=kA f v r;rw[show bo f v ((k,x)::r)=(if k=f then(k,v)::r else(k,x)::bo f v r)from rfl];by_cases F:k=f
  .rw[if_pos F];subst F;exact⟨by simp,λg h=>by simpa using h⟩
  .rw[if_neg F];refine⟨?_,λg h=>?_⟩
   .rw[map_cons];exact mem_cons_of_mem _ G
   .rw[map_cons]at h ⊢;rcases List.mem_cons.mp h with e|e
    .exact List.mem_cons.mpr (.inl e)
    .exact mem_cons_of_mem _ (I g e)
theorem kD (f:Str) (v:V):∀fs:List (Str×V),(bo f v fs).length<=fs.length+1
 | []=>by simp[bo]
 |(k,x)::r=>by
  have G:=kD f v r;rw[show bo f v ((k,x)::r)=(if k=f then(k,v)::r else(k,x)::bo f v r)from rfl];by_cases F:k=f
  .rw[if_pos F,length_cons,length_cons];omega
  .rw[if_neg F,length_cons,length_cons];omega
theorem fK.some_of {v:V}{o:Option Value}(r:fK (some v) o):∃u,o=some u/\RelV v u:=by
 cases o with
 |none=>exact(show False from r).elim
 |some u=>exact⟨u,rfl,r⟩
theorem fK.none_of {o:Option Value}(r:fK none o):o=none:=by
 cases o with
 |none=>rfl
 |some u=>exact(show False from r).elim
theorem xn {v:V}{u:Value}(r:RelV v u):handedIn u=true:=by
 cases v with
 |non=>cases(show u=Value.none from r);rfl
 |bl b=>cases(show u=Value.bool b from r);rfl
 |int i=>obtain⟨t,e⟩:=(show ∃t,u=Value.int i t from r);cases e;rfl
 |str x=>obtain⟨t,e⟩:=(show ∃t,u=Value.str x t from r);cases e;rfl
 |byt b=>obtain⟨t,e⟩:=(show ∃t,u=Value.bytes b t from r);cases e;rfl
 |flt b=>obtain⟨t,e⟩:=(show ∃t,u=Value.float b t from r);cases e;rfl
 |ref a=>cases(show u=Value.ref a from r);rfl
 |ty n=>cases(show u=Value.type n from r);rfl
section
variable {P:Program}{w:World}{H H':Hp}{h h':Heap}{a C dx:Addr}{fs fs':List (Str×V)}
theorem kX (G:iZ P w H h) (e:H a=some (.ins C dx fs)):∃mA,sW h a dx C mA/\(∀f,fK (fs.lookup f) (mA f))/\PySem.Within mA (fs.map (·.1))/\fs.length<=1000/\H dx=some (.own a):=by
 obtain⟨d,z,I,F,mA,n,r,q⟩:=(show bV P w H h a (.ins C dx fs)from G a _ e);exact⟨mA,⟨F,n,I⟩,r,q,z,d⟩
end
structure qR (K:Frag) (C:Addr):Prop where
 pg:plainGet K C Str.empty=true
 hd:hasDictIn K C=true
 po:plainOver K C=true
 sa:findIn K (.ref C) "__setattr__" = some (some (.builtin "object.__setattr__"))
theorem qR.get {K:Frag}{C:Addr}(c:qR K C) (f:Str):plainGet K C f=true:=c.pg
def cQ (K:Frag) (C:Addr) (f:Str):Prop:=findIn K (.ref C) f=some none
theorem cQ.FQ {K:Frag}{C:Addr}{f:Str}(n:cQ K C f):takerIn K C f=some none:=by
 unfold takerIn;rw[show findIn K (.ref C) f=some none from n];rfl
structure Meth (K:Frag) (C:Addr) (m:Str) (f:Addr):Prop where
 at_:findIn K (.ref C) m=some (some (.ref f))
 fn:isFn K (.ref f)=true
 kp:keepIn K (.ref f)=true
section
variable {X:Cx}{pins:List (Addr×Obj)}{σ:St}{H:Hp}{s:Shared}{a C dx:Addr}{fs:List (Str×V)}{f:Str}{v:V}{A:Around}{E:Value->Shared->Prop}
theorem lS {b:Bool}{Q:Value->Shared->Prop}(I:Inv X pins σ H s) (e:H a=some (.ins C dx fs)) (c:qR X.K C) (n:cQ X.K C f) (l:fs.lookup f=some v)
  (h:∀u s',Inv X pins σ H s'->RelV v u->Q u s'):wpAny (model X.prog X.w) A (getAttr (.ref a) f b) Q E s:=by
 obtain⟨mA,O,r,_,_,_⟩:=kX I.bG e;obtain⟨u,G,F⟩:=fK.some_of (v:=v) (o:=mA f) (by rw[<-l];exact r f);exact get_map I.kh O (c.get f) c.hd n G (xn F) (h u _ (I.tok _) F)
theorem mL {m:Str}{g:Addr}{pl:Sem Bool}{Q:Value×List Value->Shared->Prop}(I:Inv X pins σ H s) (e:H a=some (.ins C dx fs)) (c:qR X.K C) (k:Meth X.K C m g) (l:fs.lookup m=none)
  (h:Q (.ref g,[.ref a]) s):wpAny (model X.prog X.w) A (getMethod (.ref a) m pl) Q E s:=by
 obtain⟨mA,O,r,_,_,_⟩:=kX I.bG e;have F:mA m=none:=fK.none_of (by rw[<-l];exact r m);exact yY I.kh O (c.get m) k.at_ k.fn F h
theorem mY {y:V}{u:Value}{Q:Unit->Shared->Prop}(I:Inv X pins σ H s) (e:H a=some (.ins C dx fs)) (c:qR X.K C) (n:cQ X.K C f) (U:fs.length<1000) (S:RelV y u)
  (h:∀s',Inv X pins σ (upd H a (.ins C dx (bo f y fs))) s'->Q () s'):wpAny (model X.prog X.w) A (setAttr (.ref a) f u) Q E s:=by
 obtain⟨mA,O,r,wi,_,G⟩:=kX I.bG e;have N:(fs.map (·.1)).length<=sizeLine:=(by rw[length_map,sizeLine_eq];omega);refine BD I.kh O c.sa c.po n.FQ c.hd wi N λh' F L=>h _ ?_;have hd:∃o,h'.get? dx=some o:=let ⟨o,_,_,J,_⟩:=F.ns;⟨o,J⟩;refine I.write (x:=a) (e:=dx) (by rw[e];exact True.intro) (.inr G) (λb q R z=>(L.2 b R).trans z) hd ?_;refine⟨by rw[ah O.ne];exact G,?_,O.ne,F.obj,_,F.ns,λg=>?_,λg hg=>?_⟩
 .have:=kD f y fs;omega
 .show fK ((bo f y fs).lookup g) (if g=f then some u else mA g);rw[aD];by_cases q:g=f
  .rw[if_pos q,if_pos q];exact S
  .rw[if_neg q,if_neg q];exact r g
 .by_cases q:g=f
  .rw[q];exact(kA f y fs).1
  .refine(kA f y fs).2 g (wi g λz=>hg ?_);show(if g=f then some u else mA g)=none;rw[if_neg q];exact z
theorem Inv.made (I:Inv X pins σ H s):Inv X pins σ (upd (upd H s.heap.objs.size (.own (s.heap.objs.size+1))) (s.heap.objs.size+1) (.ins C s.heap.objs.size []))
  { s with heap:=(s.heap.push emptyDict).push (instObj C s.heap.objs.size) }:=by
 have F:(s.heap.push emptyDict).get? s.heap.objs.size=some emptyDict:=Heap.get?_push_size s.heap rfl;have R:((s.heap.push emptyDict).push (instObj C s.heap.objs.size)).get? (s.heap.objs.size+1)=some (instObj C s.heap.objs.size):=by
  have:=Heap.get?_push_size (s.heap.push emptyDict) (o:=instObj C s.heap.objs.size) rfl
  rwa [Heap.size_push]at this
 have N:(s.heap.push emptyDict).Ns s.heap.objs.size (λ_=>none):=⟨emptyDict, #[],_,F,rfl,(λe J=>absurd J (by simp)),λ_=>rfl⟩;have O:=I.laid (a:=s.heap.objs.size) (o:=.own (s.heap.objs.size+1)) (h':=s.heap.push emptyDict) (t':=s.toks) (λb u q=>Heap.get?_push_of_some _ q) (le_refl _) ⟨_,F⟩;refine O.laid (a:=s.heap.objs.size+1) (o:=.ins C s.heap.objs.size []) (t':=s.toks) (λb u q=>Heap.get?_push_of_some _ q) (Nat.le_of_eq (Heap.size_push _ _)) ?_;have G:s.heap.objs.size≠s.heap.objs.size+1:=ne_of_lt (Nat.lt_succ_self _);refine⟨by rw[ah G,ae],zero_le _,G,R,λ_=>none,(Heap.Ns1.of_empty N).at λo q=>Heap.get?_push_of_some _ q,λ_=>True.intro,λy L=>absurd rfl L⟩
theorem BW {prog:Program}{w:World}{env:Env}{e:Expr}{f:Str}{pos:Pos}{s:Shared}{Q:Value->Shared->Prop}(F:attributeBase e f env (eval e env)=eval e env)
  (h:wpAny (model prog w) A (eval e env) (λo G=>wpAny (model prog w) A (getAttr o f true) Q E G) E s):wpAny (model prog w) A (eval (.Attribute e f pos) env) Q E s :=
 Attribute_any_ h (by rw[arm_eval_Attribute,F])
end
inductive Cr (K:Frag) (ta:TE) (f:Str) (Q:VK) (x:V) (H1:Hp):Prop
 |mk (a:_) (C:_) (dx:_) (fs:_) (v:_) (_:x=.ref a) (_:H1 a=some (.ins C dx fs)) (_:qR K C) (_:cQ K C f) (_:fs.lookup f=some v) (_:Q v H1):Cr K ta f Q x H1
def BJ (K:Frag) (ta:TE) (f:Str):TE:=λσ H Q=>ta σ H λx H1=>Cr K ta f Q x H1
def HU (K:Frag) (ta tv:TE) (f:Str):TS:=λD σ H=>tv σ H λy H1=>ta σ H1 λx H2=>Gu λa C dx fs=>xa (x=.ref a) (H2 a=some (.ins C dx fs)) (qR K C) (cQ K C f) (fs.length<1000) (D.nx σ (upd H2 a (.ins C dx (bo f y fs))))
def EG (X:Cx) (F:Operator) (rd:V->V->Hp->VK->Prop):Prop :=
 ∀(pins:List (Addr×Obj)) (s:Shared) (σ:St) (H:Hp) (x y:V) (u v:Value) (Q:VK),Inv X pins σ H s->RelV x u->RelV y v->rd x y H Q->wpAny (model X.prog X.w) X.A (inplaceOp F u v) (EP X pins σ Q) X.xe s
def AV (K:Frag) (ta tv:TE) (rd:V->V->Hp->VK->Prop) (f:Str):TS:=λD σ H=>ta σ H λx H1=>AH λa C dx fs v=>xa (x=.ref a) (H1 a=some (.ins C dx fs)) (qR K C) (cQ K C f) (fs.lookup f=some v) (tv σ H1 λy H2=>rd v y H2 λz F=>∃G fs',F a=some (.ins C G fs')/\fs'.length<1000/\D.nx σ (upd F a (.ins C G (bo f z fs'))))
section
variable {X:Cx}{o e value:Expr}{f:Str}{pos pos' tpos:Pos}{ta tv:TE}
theorem aJ (F:PE X e ta) (J:attributeBase e f X.env (eval e X.env)=eval e X.env):PE X (.Attribute e f pos) (BJ X.K ta f):=by
 intro pins s σ H Q I h;refine BW J (bT (F pins s σ H _ I h) λu U L=>?_);obtain⟨x,H1,N,G,a,C,dx,fs,v,ex,R,c,n,l,q⟩:=L;subst ex;obtain rfl:u=Value.ref a:=G;exact lS N R c n l λu' Y S O=>⟨v,H1,S,O,q⟩
theorem fb (ha:PE X o ta) (J:PE X value tv) (hs:swapsWith value (some (.Attribute o f pos')) pos.line X.env=pure false):PS X (.Assign [.Attribute o f pos'] value pos) (HU X.K ta tv f):=by
 intro pins s σ H D I h;refine plainObj_wpAny_Assign_Attribute (bT (J pins s σ H _ I h) λu F S=>?_) hs;obtain⟨y,H1,U,L,q⟩:=S;refine bT (ha pins F σ H1 _ U q) λov s2 Y=>?_;obtain⟨x,H2,O,R,a,C,dx,fs,ex,ea,c,n,l,N⟩:=Y;subst ex;obtain rfl:ov=Value.ref a:=R;exact mY O ea c n l L λs3 G=>⟨σ,_,G,N⟩
theorem xS {F:Operator}{rd:V->V->Hp->VK->Prop}(ha:PE X o ta) (L:PE X value tv) (ab:EG X F rd):PS X (.AugAssign (.Attribute o f tpos) F value pos) (AV X.K ta tv rd f):=by
 intro pins s σ H D I h;refine wpAny_AugAssign_AttributeAny (bT (ha pins s σ H _ I h) λov s1 N=>?_);obtain⟨x,H1,I1,rx,a,C,dx,fs,v,ex,ea,c,n,l,q⟩:=N;subst ex;obtain rfl:ov=Value.ref a:=rx;refine lS I1 ea c n l λu s2 U ru=>bT (L pins s2 σ H1 _ U q) λw3 s3 ad=>?_;obtain⟨y,H2,G,O,R⟩:=ad;refine bT (ab pins s3 σ H2 v y u w3 _ G ru O R) λw4 s4 am=>?_;obtain⟨z,H3,I4,rz,ap,fs',ac,J,S⟩:=am;exact mY I4 ac c n J rz λs5 Y=>⟨σ,_,Y,S⟩
inductive Fx (x:V) (y:V) (H:Hp) (Q:VK):Prop
 |mk (i:_) (j:_) (_:x=.int i) (_:y=.int j) (_:Q (.int (i+j)) H):Fx x y H Q
theorem Em:EG X .Add Fx:=by
 rintro pins s σ H x y u v Q I G F ⟨i,j,rfl,rfl,q⟩;obtain⟨t,rfl⟩:=(show ∃t,u=Value.int i t from G);obtain⟨t',rfl⟩:=(show ∃t',v=Value.int j t' from F);exact PyProof.Rows.iadd_int ⟨.int (i+j),H,I.tok _,⟨_,rfl⟩,q⟩
end
section
variable {X:Cx}{pins:List (Addr×Obj)}{σ:St}{H:Hp}{s:Shared}{A:Around}{E:Value->Shared->Prop}{Q:Value->Shared->Prop}{c:Value}{b:Bool}
inductive jI (K:Frag) (H:Hp):V->Value->Prop where
 |non:jI K H .non (.type "NoneType")
 |bl (x:Bool):jI K H (.bl x) (.type "bool")
 |int (i:Int):jI K H (.int i) (.type "int")
 |str (x:Str):jI K H (.str x) (.type "str")
 |flt (x:UInt64):jI K H (.flt x) (.type "float")
 |lst {a:Addr}{xs:List V}(e:H a=some (.lst xs)):jI K H (.ref a) (.type "list")
 |frz {a:Addr}{o:Obj}{xs:List V}(e:H a=some (.frz o (.lst xs))):jI K H (.ref a) (.type "list")
 |tup {a:Addr}{xs:List V}(e:H a=some (.tup xs)):jI K H (.ref a) (.type "tuple")
 |dK {a:Addr}{kvs:List (Key×V)}(e:H a=some (.dK kvs)):jI K H (.ref a) (.type "dict")
 |dT {a:Addr}{kvs:List (List Key×V)}(e:H a=some (.dT kvs)):jI K H (.ref a) (.type "dict")
 |ins {a C dx:Addr}{fs:List (Str×V)}(e:H a=some (.ins C dx fs)) (cl:qR K C) (ha:findIn K (.ref C) "__class__" = some (some (.builtin "object.__class__")))
   (hn:PySem.W.specialIn K (.builtin "object.__class__") "__get__" = some (some (.builtin "getset_descriptor.__get__"))) (htk:PySem.W.takesIn K (.builtin "object.__class__")=some true)
   (hm:PySem.W.mroIn K C (.type "object")=some true):jI K H (.ref a) (.ref C)
theorem xG {x:V}{u t:Value}(I:Inv X pins σ H s) (F:RelV x u) (ty:jI X.K H x t) (e:kitOne X.K t c=some b) (h:∀tk,Q (.bool b) { s with toks:=tk }) :
  wpAny (model X.prog X.w) A (call (.builtin "isinstance") [u,c]) Q E s:=by
 cases ty with
 |non=>cases(show u=Value.none from F);exact kia_one PySem.W.kitx_none I.kh True.intro e (λz=>nomatch z) h
 |bl y=>cases(show u=Value.bool y from F);exact kia_one PySem.W.kitx_bool I.kh True.intro e (λz=>nomatch z) h
 |int i=>obtain⟨t,q⟩:=(show ∃t,u=Value.int i t from F);cases q;exact kia_one PySem.W.kitx_int I.kh True.intro e (λz=>nomatch z) h
 |str y=>obtain⟨t,q⟩:=(show ∃t,u=Value.str y t from F);cases q;exact kia_one PySem.W.kitx_str I.kh True.intro e (λz=>nomatch z) h
 |flt y=>obtain⟨t,q⟩:=(show ∃t,u=Value.float y t from F);cases q;exact kia_one PySem.W.kitx_float I.kh True.intro e (λz=>nomatch z) h
 | @lst a xs G =>
  cases(show u=Value.ref a from F);obtain⟨_,_,n,_,h1⟩:=(show bV X.prog X.w H s.heap a (.lst xs)from I.bG a _ G);exact kia_one kitx_list I.kh ⟨_,h1,rfl⟩ e (λz=>nomatch z) h
 | @frz a S xs G =>
  cases(show u=Value.ref a from F);obtain⟨_,_,_,n,_,h1⟩:=(show bV X.prog X.w H s.heap a (.frz S (.lst xs))from I.bG a _ G);exact kia_one kitx_list I.kh ⟨_,h1,rfl⟩ e (λz=>nomatch z) h
 | @tup a xs G =>
  cases(show u=Value.ref a from F);obtain⟨_,_,_,p⟩:=(show bV X.prog X.w H s.heap a (.tup xs)from I.bG a _ G);obtain⟨o,h1,h2,_⟩:=p;exact kia_one kitx_tuple I.kh ⟨o,h1,h2⟩ e (λz=>nomatch z) h
 | @dK a kvs G =>
  cases(show u=Value.ref a from F);obtain⟨_,_,vs,_,p⟩:=(show bV X.prog X.w H s.heap a (.dK kvs)from I.bG a _ G);obtain⟨o,es,ep,h1,h2,_⟩:=p;exact kia_one kitx_dict I.kh ⟨o,h1,h2.1⟩ e (λz=>nomatch z) h
 | @dT a kvs G =>
  cases(show u=Value.ref a from F);obtain⟨_,_,xs,_,o,es,ep,h1,h2,_⟩:=(show bV X.prog X.w H s.heap a (.dT kvs)from I.bG a _ G);exact kia_one kitx_dict I.kh ⟨o,h1,h2.1⟩ e (λz=>nomatch z) h
 | @ins a C dx fs G cl U R L N =>
  cases(show u=Value.ref a from F);obtain⟨mA,O,_⟩:=kX I.bG G;obtain⟨od,J,_⟩:=O.look;exact kia_one (PySem.W.kitx_own (cl.get _) cl.hd U R L N) I.kh J e (λz=>nomatch z) h
end
structure dA (k:Nat) (A:Around):Prop where
 hd:A.handled=none
 dp:A.depth+3*k+5<recursionLimit
 un:A.units+16*k+200<cLine
theorem dA.mono {j k:Nat}{A:Around}(r:dA k A) (h:j<=k):dA j A:=⟨r.hd,by have:=r.dp;omega,by have:=r.un;omega⟩
theorem dA.deeper {k:Nat}{A:Around}(r:dA (k+1) A) (env:Env):dA k (A.deeper env):=
 ⟨r.hd,by have:=r.dp;show A.depth+1+3*k+5<_;omega,by have:=r.un;show A.units+3+16*k+200<_;omega⟩
theorem uC {A:Around}{C:Addr}{us:List Value}{F:List (Str×Value)}:(A.under (.builtin "type.__call__" ⟨.ref C::us,F⟩)).depth=A.depth+1:=by
 first|rfl|simp[Around.under,Code.weight,Code.isCreation,Code.isGuard,Code.isCaller,Code.frames,Code.isFrame,guardIds]
theorem tS {A:Around}{C:Addr}{us:List Value}{F:List (Str×Value)}:(A.under (.builtin "type.__call__" ⟨.ref C::us,F⟩)).units=A.units+1:=by
 first|rfl|simp[Around.under,Code.cUnits,Code.frames,Code.isFrame]
theorem dA.make {k:Nat}{A:Around}(r:dA (k+1) A) (C:Addr) (us:List Value) (F:List (Str×Value)):dA k (A.under (.builtin "type.__call__" ⟨.ref C::us,F⟩)):=
 ⟨r.hd,by have:=r.dp;rw[uC];omega,by have:=r.un;rw[tS];omega⟩
theorem dA.depth {k:Nat}{A:Around}(r:dA k A):A.depth<recursionLimit:=by have:=r.dp;omega
theorem dA.units {k:Nat}{A:Around}(r:dA k A):A.units+64<cLine:=by have:=r.un;omega
theorem dA.gn {k:Nat}{A:Around}(r:dA k A):A.units<cLine:=by have:=r.un;omega
def Ba:TA:=λ_ H Q=>Q [] H
def Gb (ta:TE) (F:TA):TA:=λσ H Q=>ta σ H λx H1=>F σ H1 λxs H2=>Q (x::xs) H2
section
variable {X:Cx}{e:Expr}{es:List Expr}{te:TE}{t:TA}{pos:Pos}
theorem ai:PA X [] Ba:=λ_ _ _ _ H Q I h=>Calls.spliced_nil ⟨[],H,I,.nil,h⟩
theorem aa (O:PE X e te) (N:PA X es t) (hs:starEach (e::es) X.env=(false,eval e X.env)::starEach es X.env:=by rfl):PA X (e::es) (Gb te t):=by
 intro pos pins s σ H Q I h;rw[hs];show wpAny _ _ (spliced ((false,eval e X.env)::backTo pos (starEach es X.env))) _ _ s;refine Calls.spliced_cons (bT (O pins s σ H _ I h) λu G F=>?_);obtain⟨x,H1,L,U,J⟩:=F;exact bT (N pos pins G σ H1 _ L J) λus s2 Y=>by obtain⟨xs,H2,S,r2,R⟩:=Y;exact⟨x::xs,H2,S,.cons U r2,R⟩
def Iv (t:TA):TE:=λσ H Q=>t σ H λxs H1=>xs.length<=sizeLine/\∀p,H1 p=none->Q (.ref p) (upd H1 p (.tup xs))
def FD (t:TA):TE:=λσ H Q=>t σ H λxs H1=>xs.length<=sizeLine/\∀p,H1 p=none->Q (.ref p) (upd H1 p (.lst xs))
theorem cM {x1} (h:PA X es t):PE X (.Tuple es x1 pos) (Iv t):=by
 intro pins s σ H Q I L;refine wpAny_Tuple_spliced (bT (h pos pins s σ H _ I L) λus F N=>?_);obtain⟨xs,H1,G,r,z,q⟩:=N;refine⟨by rw[<-r.length];exact z,?_⟩;have J:H1 F.heap.objs.size=none:=G.bG.fresh (le_refl _);refine⟨.ref F.heap.objs.size,upd H1 F.heap.objs.size (.tup xs),G.laid (t':=F.toks) (λb u e=>Heap.get?_push_of_some _ e) (le_refl _) ?_,rfl,q _ J⟩;exact⟨z,us,r,⟨_,Heap.get?_push_size _ rfl,rfl,_,rfl⟩⟩
theorem bX (h:PA X es t):PE X (.List es pos) (FD t):=by
 intro pins s σ H Q I L;refine wpAny_List_spliced (bT (h pos pins s σ H _ I L) λus F N=>?_);obtain⟨xs,H1,G,r,z,q⟩:=N;refine⟨by rw[<-r.length];exact z,?_⟩;have J:H1 F.heap.objs.size=none:=G.bG.fresh (le_refl _);refine⟨.ref F.heap.objs.size,upd H1 F.heap.objs.size (.lst xs),G.laid (t':=F.toks) (λb u e=>Heap.get?_push_of_some _ e) (le_refl _) ?_,rfl,q _ J⟩;exact⟨z,us,0,r,Heap.get?_push_size _ rfl⟩
end
abbrev Sp:=List V->Hp->VK->XK->Prop
abbrev wy:=List Env->Hp->Shared->XK->Value->Shared->Prop
structure tP (P:Program) (w:World) (K:Frag) (mg:Str->Option Value) (base:Heap) (A:Around) (outer:List Env) (s:Shared) (H:Hp):Prop where
 frames:A.frames=some outer
 mod:Mod K mg base
 bs:∀b o,base.get? b=some o->s.heap.get? b=some o/\H b=none
 AG:base.objs.size<=s.heap.objs.size
 kr:s.heap.FunFrames base outer
 Cs:∀b∈yc outer,H b=none
 bG:iZ P w H s.heap
 bare:AllBare s.gens
def CE (outer:List Env) (P:Program) (w:World) (H:Hp) (s:Shared) (Q:VK) (u:Value) (s':Shared):Prop :=
 ∃v H',s'.os=s.os/\AllBare s'.gens/\Un (yc outer) [] H H' s.heap s'.heap/\iZ P w H' s'.heap/\RelV v u/\Q v H'
def CR (CX:wy) (outer:List Env) (P:Program) (w:World) (H:Hp) (s:Shared) (Q:VK) (E:XK) (r:Result) (s':Shared):Prop :=
 match r with
 |.ok (.ret u)=>CE outer P w H s Q u s'
 |.ok _=>False
 |.error e=>CX outer H s E e s'
structure bf (P:Program) (w:World) (K:Frag) (mg:Str->Option Value) (base:Heap) (CX:wy) (k:Nat) (f:Addr) (fd:FuncData) (ps:List Str) (sp:Sp):Prop where
 len:∀vs H Q E,sp vs H Q E->vs.length=ps.length
 run:∀(A:Around) (outer:List Env) (s:Shared) (H:Hp) (args:Args) (us:List Value) (vs:List V) (Q:VK) (E:XK),dA k A->tP P w K mg base A outer s H->BindsTo s fd args (ps.zip us)->Vals vs us->sp vs H Q E ->
  codeAny (model P w) A (.call (.ref f) args) (CR CX outer P w H s Q E) s
theorem tP.make {P:Program}{w:World}{K:Frag}{mg:Str->Option Value}{base:Heap}{A:Around}{outer:List Env}{s:Shared}{H:Hp}(e:tP P w K mg base A outer s H) (C:Addr) (us:List Value) (F:List (Str×Value)) :
  tP P w K mg base (A.under (.builtin "type.__call__" ⟨.ref C::us,F⟩)) outer s H:=⟨by first|exact e.frames|(simpa[Around.under,Code.envs,Code.isFrame,pushEnvs]using e.frames),e.mod,e.bs,e.AG,e.kr,e.Cs,e.bG,e.bare⟩
section
variable {X:Cx}{pins:List (Addr×Obj)}{σ:St}{H:Hp}{s s':Shared}
theorem Inv.Fi (I:Inv X pins σ H s):tP X.prog X.w X.K X.mg X.base X.A X.stack s H :=
 ⟨I.ok.frames,I.ok.mod,I.bs,le_trans I.ok.AG I.sz,I.stack,I.wj,I.bG,I.bare⟩
theorem Inv.after {Q:VK}{u:Value}(I:Inv X pins σ H s) (h:CE X.stack X.prog X.w H s Q u s'):EP X pins σ Q u s':=by
 obtain⟨v,H',os,bare,un,J,r,q⟩:=h;obtain⟨G,g,d,t,F⟩:=s';obtain rfl:F=s.os:=os;exact⟨v,H',I.call (h':=G) (g':=g) (d':=d) (t':=t) (ch:=[]) un J bare (λb z=>absurd z (by simp)),r,q⟩
end
def Cc (sp:Sp) (dvs:List V) (E:XK) (t:TA):TE:=λσ H Q=>t σ H λvs H1=>sp (vs++dvs) H1 Q E
inductive zx (C:Addr) (m:Str) (sp:Sp) (dvs:List V) (E:XK) (ta:TE) (t:TA) (σ:St) (Q:VK) (x:V) (H1:Hp):Prop
 |mk (a:_) (dx:_) (fs:_) (_:x=.ref a) (_:H1 a=some (.ins C dx fs)) (_:fs.lookup m=none) (_:t σ H1 λvs H2=>sp (x::(vs++dvs)) H2 Q E):zx C m sp dvs E ta t σ Q x H1
def vI (C:Addr) (m:Str) (sp:Sp) (dvs:List V) (E:XK) (ta:TE) (t:TA):TE:=λσ H Q=>ta σ H λx H1=>zx C m sp dvs E ta t σ Q x H1
def B7 (C:Addr) (sp:Sp) (dvs:List V) (E:XK) (t:TA):TE:=λσ H Q=>t σ H λvs H1=>∀x dx,H1 x=none->H1 dx=none->dx≠x ->
 sp (.ref x::(vs++dvs)) (upd (upd H1 dx (.own x)) x (.ins C dx [])) (λv H2=>v=.non/\Q (.ref x) H2) E
def Binds (K:Frag) (fd:FuncData) (ps:List Str) (ds:List Value):Prop :=
 ∀(s:Shared) (us:List Value),K.In s.heap->(us++ds).length=ps.length->BindsTo s fd ⟨us,[]⟩ (ps.zip (us++ds))
theorem Binds.all {K:Frag}{fd:FuncData}{ps:List Str}(h:∀us:List Value,us.length=ps.length->bindArgs fd ⟨us,[]⟩=pure (ps.zip us)):Binds K fd ps []:=λs us _ F=>by
 rw[append_nil]at F ⊢;exact .of_eq (h us F)
def Passes (CX:wy) (X:Cx) (E:XK):Prop:=∀(pins:List (Addr×Obj)) (σ:St) (H:Hp) (s:Shared) (e:Value) (s':Shared),Inv X pins σ H s->CX X.stack H s E e s'->X.xe e s'
section
variable {X:Cx}{CX:wy}{k:Nat}{f C:Addr}{fd:FuncData}{ps:List Str}{sp:Sp}{dvs:List V}{ds:List Value}{E:XK}{x m:Str}{p pos apos:Pos}{e o:Expr}{es:List Expr}{ta:TE}{t:TA}
theorem vi {pins:List (Addr×Obj)}{σ:St}{H:Hp}{s:Shared}{Q:VK}{us:List Value}{vs:List V}(F:bf X.prog X.w X.K X.mg X.base CX k f fd ps sp) (R:dA k X.A) (O:Binds X.K fd ps ds) (hd:Vals dvs ds) (S:Passes CX X E)
  (I:Inv X pins σ H s) (r:Vals vs us) (h:sp (vs++dvs) H Q E):wpAny (model X.prog X.w) X.A (call (.ref f) us) (EP X pins σ Q) X.xe s:=by
 have J:Vals (vs++dvs) (us++ds):=r.append hd;have N:(us++ds).length=ps.length:=(by rw[<-J.length];exact F.len _ _ _ _ h);refine wpAny_call (codeAny_mono (F.run X.A X.stack s H ⟨us,[]⟩ (us++ds) (vs++dvs) Q E R I.Fi (O s us I.kh N) J h) λr s' G=>?_);cases r with
 |error e=>exact S pins σ H s e s' I G
 |ok L =>
  cases L with
  |ret u=>exact I.after G
  |next=>exact False.elim G
  |brk=>exact False.elim G
  |cont=>exact False.elim G
theorem Bd (F:bf X.prog X.w X.K X.mg X.base CX k f fd ps sp) (Y:dA k X.A) (hg:Gl X x) (J:X.mg x=some (.ref f)) (N:keepIn X.K (.ref f)=true) (U:Binds X.K fd ps ds) (hd:Vals dvs ds) (hx:Passes CX X E)
  (ha:PA X (e::es) t) (S:(x==("__debug__" : Str))=false:=by decide) (O:starEach (e::es) X.env=(false,eval e X.env)::starEach es X.env:=by rfl) (R:(backTo pos (starEach es X.env)).any (·.1)=false:=by rfl) :
  PE X (.Call (.Name x p) (e::es) [] pos) (Cc sp dvs E t):=by
 intro pins s σ H Q I h;refine wpAny_Call_Name_kw (ly I hg J ?_ S);refine callWith_K (h₀:=X.base) I.ok.mod.Fc N (bT (ha pos pins s σ H _ I h) λus s1 L=>?_) O R;obtain⟨vs,H1,G,r,q⟩:=L;refine⟨G.kh,?_⟩;exact vi F Y U hd hx G r q
theorem Bv {pl:Sem Bool}(O:PE X o ta) (c:qR X.K C) (G:Meth X.K C m f) (F:bf X.prog X.w X.K X.mg X.base CX k f fd ps sp) (hr:dA k X.A) (hb:Binds X.K fd ps ds) (hd:Vals dvs ds) (Y:Passes CX X E) (ha:PA X (e::es) t)
  (R:starEach (e::es) X.env=(false,eval e X.env)::starEach es X.env:=by rfl) (ac:(backTo pos (starEach es X.env)).any (·.1)=false:=by rfl)
  (ht:eval (.Call (.Attribute o m apos) (e::es) [] pos) X.env=(do
   let ov <-eval o X.env
   standAt apos.atName
   let (f,first) <-holding [ov] (getMethod ov m pl)
   callWith pos f first (backTo pos (starEach (e::es) X.env)) (backToKw pos (keywordEach [] X.env))):=by rfl) :
  PE X (.Call (.Attribute o m apos) (e::es) [] pos) (vI C m sp dvs E ta t):=by
 intro pins s σ H Q I h;refine PySem.W.methodCall_KW (pl:=pl) (bT (O pins s σ H _ I h) λu N U=>?_) ht;obtain⟨x,H1,L,rx,a,dx,fs,ex,ea,l,q⟩:=U;subst ex;obtain rfl:u=Value.ref a:=rx;refine mL L ea c G l ?_;refine callWith_K (first:=[.ref a]) (h₀:=X.base) I.ok.mod.Fc G.kp (bT (ha pos pins N σ H1 _ L q) λus s2 ab=>?_) R ac;obtain⟨vs,H2,J,r,S⟩:=ab;refine⟨J.kh,?_⟩;exact vi (us:=.ref a::us) (vs:=.ref a::vs) F hr hb hd Y J (.cons rfl r) S
theorem zu {pl:Sem Bool}(N:PE X o ta) (c:qR X.K C) (J:Meth X.K C m f) (F:bf X.prog X.w X.K X.mg X.base CX k f fd ps sp) (U:dA k X.A) (R:Binds X.K fd ps ds) (hd:Vals dvs ds) (hx:Passes CX X E)
  (S:eval (.Call (.Attribute o m apos) [] [] pos) X.env=(do
   let ov <-eval o X.env
   standAt apos.atName
   let (f,first) <-holding [ov] (getMethod ov m pl)
   callWith pos f first (backTo pos (starEach [] X.env)) (backToKw pos (keywordEach [] X.env))):=by rfl) :
  PE X (.Call (.Attribute o m apos) [] [] pos) (vI C m sp dvs E ta Ba):=by
 intro pins s σ H Q I h;refine PySem.W.methodCall_KW (pl:=pl) (bT (N pins s σ H _ I h) λu s1 L=>?_) S;obtain⟨x,H1,G,O,a,dx,fs,ex,Y,l,q⟩:=L;subst ex;obtain rfl:u=Value.ref a:=O;refine mL G Y c J l ?_;exact callWith_K0 (first:=[.ref a]) G.kh J.kp (vi (us:=[.ref a]) (vs:=[.ref a]) F U R hd hx G (.cons rfl .nil) q)
structure Mk (K:Frag) (C f:Addr):Prop where
 makes:makesIn K C=true
 init:findIn K (.ref C) "__init__" = some (some (.ref f))
 fn:isFn K (.ref f)=true
 kp:keepIn K (.ref C)=true
theorem rf {pins:List (Addr×Obj)}{σ:St}{H:Hp}{s:Shared}{Q:VK}{us:List Value}{vs:List V}(M:Mk X.K C f) (F:bf X.prog X.w X.K X.mg X.base CX k f fd ps sp) (hr:dA (k+1) X.A) (hb:Binds X.K fd ps ds) (hd:Vals dvs ds)
  (R:Passes CX X E) (I:Inv X pins σ H s) (r:Vals vs us)
  (h:∀x dx,H x=none->H dx=none->dx≠x->sp (.ref x::(vs++dvs)) (upd (upd H dx (.own x)) x (.ins C dx [])) (λv H2=>v=.non/\Q (.ref x) H2) E) :
  wpAny (model X.prog X.w) X.A (call (.ref C) us) (EP X pins σ Q) X.xe s:=by
 have N:=h (s.heap.objs.size+1) s.heap.objs.size (I.bG.fresh (le_succ _)) (I.bG.fresh (le_refl _)) (ne_of_lt (Nat.lt_succ_self _));have J:=Inv.made (C:=C) I;have L:Vals (V.ref (s.heap.objs.size+1)::(vs++dvs)) (Value.ref (s.heap.objs.size+1)::(us++ds)):=.cons rfl (r.append hd);have S:(Value.ref (s.heap.objs.size+1)::us++ds).length=ps.length:=by
  have e:=L.length;rw[F.len _ _ _ _ N]at e;exact e.symm
 refine wpAny_call (yo (f:=f) I.kh M.makes M.init (beq_iff_eq.mp M.fn) (codeAny_mono (F.run _ X.stack _ _ ⟨Value.ref (s.heap.objs.size+1)::us,[]⟩ (Value.ref (s.heap.objs.size+1)::(us++ds)) _ _ E (hr.make C us [])
  (J.Fi.make C us []) (hb _ (Value.ref (s.heap.objs.size+1)::us) J.kh S) L N) λr s' G=>?_))
 cases r with
 |error e=>exact R pins σ _ _ e s' J G
 |ok O =>
  cases O with
  |ret u =>
   obtain⟨v,H',U,rv,ev,Y⟩:=J.after G;subst ev;exact⟨rv,⟨V.ref (s.heap.objs.size+1),H',U,rfl,Y⟩⟩
  |next=>exact False.elim G
  |brk=>exact False.elim G
  |cont=>exact False.elim G
theorem kT (M:Mk X.K C f) (F:bf X.prog X.w X.K X.mg X.base CX k f fd ps sp) (U:dA (k+1) X.A) (hg:Gl X x) (J:X.mg x=some (.ref C)) (S:Binds X.K fd ps ds) (hd:Vals dvs ds) (hx:Passes CX X E)
  (Y:PA X (e::es) t) (O:(x==("__debug__" : Str))=false:=by decide) (L:starEach (e::es) X.env=(false,eval e X.env)::starEach es X.env:=by rfl) (N:(backTo pos (starEach es X.env)).any (·.1)=false:=by rfl) :
  PE X (.Call (.Name x p) (e::es) [] pos) (B7 C sp dvs E t):=by
 intro pins s σ H Q I h;refine wpAny_Call_Name_kw (ly I hg J ?_ O);refine callWith_K (h₀:=X.base) I.ok.mod.Fc M.kp (bT (Y pos pins s σ H _ I h) λus s1 R=>?_) L N;obtain⟨vs,H1,G,r,q⟩:=R;refine⟨G.kh,?_⟩;exact rf M F U S hd hx G r q
theorem sg (M:Mk X.K C f) (F:bf X.prog X.w X.K X.mg X.base CX k f fd ps sp) (J:dA (k+1) X.A) (hg:Gl X x) (G:X.mg x=some (.ref C)) (O:Binds X.K fd ps ds) (hd:Vals dvs ds) (L:Passes CX X E)
  (N:(x==("__debug__" : Str))=false:=by decide):PE X (.Call (.Name x p) [] [] pos) (B7 C sp dvs E Ba):=by
 intro pins s σ H Q I h;refine wpAny_Call_Name_kw (ly I hg G ?_ N);exact callWith_K0 I.kh M.kp (rf (us:=[]) M F J O hd L I .nil h)
end
section
variable {X:Cx}{CX:wy}{k:Nat}{f C:Addr}{fd:FuncData}{ps ks:List Str}{sp:Sp}{E:XK}{x m:Str}{p pos apos kpos:Pos}{e o:Expr}{es:List Expr}{kws:List Keyword}{te ta:TE}{t tk:TA}{nm:Option Str}
variable {g:List Value->List Value->List Value}{gV:List V->List V->List V}
end
structure az (N P:List Str) (sc:Scope):Prop where
 kind:sc.kind=.function
 co:sc.isCoroutine=false
 gen:sc.isGenerator=false
 nd:N.Nodup
 pre:N.take P.length=P
 par:∀x∈P,sc.names.lookup x=some .local\/sc.names.lookup x=some .cell
 DE:∀y∈sc.names,y.2≠.free
theorem bD {N P:List Str}{F:Scope}(a:F.kind=.function:=by exact rfl) (b:F.isCoroutine=false:=by exact rfl) (c:F.isGenerator=false:=by exact rfl) (d:N.Nodup:=by decide +kernel) (e:N.take P.length=P:=by exact rfl) (f:∀x∈P,F.names.lookup x=some .local\/F.names.lookup x=some .cell:=by decide +kernel) (g:∀y∈F.names,y.2≠.free:=by decide +kernel):az N P F:=⟨a,b,c,d,e,f,g⟩
theorem nA {kindOf:Str->Option NameKind}{x:Str}:∀{binds:List (Str×Value)}{m:Str->Option Value},(∀v,(x,v)∉binds)->bindL kindOf binds m x=m x
 | [],_,_=>rfl
 |(n,v)::r,m,h=>by
  unfold bindL;rw[nA λw F=>h w (mem_cons_of_mem _ F)];split
  .have:x≠n:=(by rintro rfl;exact h v mem_cons_self);simp[this]
  .rfl
theorem oJ {kindOf:Str->Option NameKind}{x:Str}:∀{binds:List (Str×Value)}{m:Str->Option Value},(∀v,(x,v)∉binds)->bindC kindOf binds m x=m x
 | [],_,_=>rfl
 |(n,v)::r,m,h=>by
  unfold bindC;rw[oJ λw F=>h w (mem_cons_of_mem _ F)];split
  .rfl
  .have:x≠n:=(by rintro rfl;exact h v mem_cons_self);simp[this]
theorem ox {kindOf:Str->Option NameKind}{x:Str}{v:Value}:∀{P:List Str}{vs:List Value}{i:Nat}{m:Str->Option Value},P.Nodup->P[i]?=some x->vs[i]?=some v->kindOf x=some .local ->
  bindL kindOf (P.zip vs) m x=some v
 | [],_,_,_,_,h,_,_=>by simp at h
 |_::_,[],_,_,_,_,h,_=>by simp at h
 |p::P,w::vs,0,m,G,h1,h2,F=>by
  simp at h1 h2;subst h1;subst h2;show bindL kindOf ((p,w)::P.zip vs) m p=_;unfold bindL;rw[nA λv I=>(List.nodup_cons.mp G).1 (of_mem_zip I).1,if_pos F];simp
 |p::P,w::vs,i+1,m,G,h1,h2,F=>by
  show bindL kindOf ((p,w)::P.zip vs) m x=_;unfold bindL;exact ox (i:=i) (List.nodup_cons.mp G).2 (by simpa using h1) (by simpa using h2) F
theorem oz {kindOf:Str->Option NameKind}{x:Str}{v:Value}:∀{P:List Str}{vs:List Value}{i:Nat}{m:Str->Option Value},P.Nodup->P[i]?=some x->vs[i]?=some v->kindOf x≠some .local ->
  bindC kindOf (P.zip vs) m x=some v
 | [],_,_,_,_,h,_,_=>by simp at h
 |_::_,[],_,_,_,_,h,_=>by simp at h
 |p::P,w::vs,0,m,G,h1,h2,F=>by
  simp at h1 h2;subst h1;subst h2;show bindC kindOf ((p,w)::P.zip vs) m p=_;unfold bindC;rw[oJ λv I=>(List.nodup_cons.mp G).1 (of_mem_zip I).1,if_neg F];simp
 |p::P,w::vs,i+1,m,G,h1,h2,F=>by
  show bindC kindOf ((p,w)::P.zip vs) m x=_;unfold bindC;exact oz (i:=i) (List.nodup_cons.mp G).2 (by simpa using h1) (by simpa using h2) F
def start (N:List Str) (vs:List V):St:=vs.map some++replicate (N.length-vs.length) none
def xQ (CX:wy) (P:Program) (w:World) (K:Frag) (mg:Str->Option Value) (base:Heap) (N:List Str) (F:Str) (scope:Scope) (f:Addr) (cd:Value) (A:Around) (outer:List Env) (s:Shared) (H:Hp) (E:XK):Cx where
 prog:=P
 w:=w
 K:=K
 mg:=mg
 base:=base
 A:=A.deeper (envOfC F scope s.heap.objs.size f cd)
 N:=N
 s₀:=s
 H₀:=H
 env:=envOfC F scope s.heap.objs.size f cd
 outer:=outer
 stack:=envOfC F scope s.heap.objs.size f cd::outer
 ex:=[]
 calm:=true
 fn:=λ_=>true
 pn:=[]
 xe:=λe s'=>wpAny (model P w) (A.deeper (envOfC F scope s.heap.objs.size f cd)) (leaving (envOfC F scope s.heap.objs.size f cd) e) (λ_ G=>CX outer H s E e G) (λI G=>CX outer H s E I G) s'
theorem rV {F:Scope}{n:Nat}{x:Str}(h:F.names.lookup x=some .cell):∃c,(cellsFrom n F.names []).lookup x=some c:=by
 have q:=PySem.W.cellsFrom_some F.names n [] (.inl h);exact Option.isSome_iff_exists.mp q
theorem xN {CX:wy}{P:Program}{w:World}{K:Frag}{mg:Str->Option Value}{base:Heap}{N ps:List Str}{J:Str}{scope:Scope}{f:Addr}{cd:Value}{A:Around}{outer:List Env}{s O:Shared}{H:Hp}{E:XK}{us:List Value}{vs:List V}
  (S:az N ps scope) (hd:A.handled=none) (F:tP P w K mg base A outer s H) (hl:vs.length=ps.length) (r:Vals vs us)
  (x:InCallC s s.heap.objs.size (bindL (envOfC J scope s.heap.objs.size f cd).kindOf (ps.zip us) λ_=>none) (cellsFrom (s.heap.objs.size+1) scope.names []) (bindC (envOfC J scope s.heap.objs.size f cd).kindOf (ps.zip us) λ_=>none) O) :
  Inv (xQ CX P w K mg base N J scope f cd A outer s H E) [] (start N vs) H O:=by
 have ab:ps.length<=N.length:=(by have:=congrArg List.length S.pre;rw[length_take]at this;omega);obtain⟨h1,tk,rfl,R⟩:=x.done;have L:∀b:Addr,b∉(xQ CX P w K mg base N J scope f cd A outer s H E).ex:=λb z=>absurd (show b∈([]:List Addr)from z) (by simp);refine⟨⟨F.mod,S.kind,rfl,rfl,le_refl _,λy z c h1 h2=>?_,λy G=>?_,λy c _ h=>?_,λ_=>hd,Around.frames_deeper F.frames,.inr ⟨rfl,rfl⟩,λb z=>absurd z (L b),F.bs,F.AG,λb _ _=>L b,λb z=>absurd z (L b),F.kr,F.Cs⟩,
  rfl,F.bare,Un.kept R,⟨_,x.toInCall.ns,λi y v h1 h2 h3=>?_⟩,λy c h=>⟨_,x.cell y c h⟩,F.bG.fresh (le_refl _),λy c h=>?_,λp I=>absurd (show p∈([]:List (Addr×Obj))from I) (by simp),F.bG.kept R,?_⟩
 .exact name_of_addr x.apart (PySem.mem_of_lookup h1) (PySem.mem_of_lookup h2)
 .have G:scope.names.lookup y=some .cell\/scope.names.lookup y=some .free:=G;rcases G with G|G
  .exact rV G
  .exact absurd rfl (S.DE _ (PySem.mem_of_lookup G))
 .exact le_of_lt (x.above y c (PySem.mem_of_lookup h))
 .have hi:i<vs.length:=by
   unfold start at h2;by_cases hi:i<vs.length
   .exact hi
   .rw[List.getElem?_append_right (by simpa using hi)]at h2;rw[List.getElem?_replicate]at h2;split at h2<;>cases h2
  have ha:vs[i]?=some v:=by
   unfold start at h2;rw[List.getElem?_append_left (by simpa using hi),getElem?_map]at h2;cases e:vs[i]? with
   |none=>rw[e]at h2;cases h2
   |some a=>rw[e]at h2;cases h2;rfl
  obtain⟨u,U,rv⟩:=r.get ha;have I:ps[i]?=some y:=by
   rw[<-S.pre,List.getElem?_take_of_lt af];exact h1
  have Y:ps.Nodup:=(by rw[<-S.pre];exact S.nd.sublist (take_sublist _ _));refine⟨u,rv,?_⟩;rcases S.par y (mem_of_getElem? I)with k|k
  .exact .inl ⟨k,ox Y I U k⟩
  .obtain⟨c,e⟩:=rV (n:=s.heap.objs.size+1) k;refine .inr ⟨.inl k,c,e,?_⟩;have q:=x.cell y c e;rw[oz Y I U (by show scope.names.lookup y≠_;rw[k];decide)]at q;exact q
 .exact F.bG.fresh (le_of_lt (x.above y c (PySem.mem_of_lookup h)))
 .unfold start;show _=N.length;rw[length_append,length_map,length_replicate];omega
theorem FX {CX:wy}{P:Program}{w:World}{K:Frag}{mg:Str->Option Value}{base:Heap}{k:Nat}{f:Addr}{name G:Str}{ab:Arguments}{body:List Stmt}{scope:Scope}{dV kV ad pm F ct oc:Value}{an od:Option Addr}
  {aT:Array (Option Value)}{N ps:List Str}{sp:Sp}(lk:K.lookup f=some ⟨oc,od,.func (fnOf name G ab body scope dV kV ad pm an F ct),aT⟩) (aB:codeIn K F G=true) (S:az N ps scope)
  (len:∀vs H Q E,sp vs H Q E->vs.length=ps.length)
  (as:∀(A:Around) (outer:List Env) (s:Shared) (H:Hp) (vs:List V) (Q:VK) (E:XK),dA k (A.deeper (envOfC G scope s.heap.objs.size f F))->sp vs H Q E ->
   ∃t,vG (xQ CX P w K mg base N G scope f F A outer s H E) body t/\t { nx:=λ_ H'=>Q .non H',rt:=Q } (start N vs) H) :
  bf P w K mg base CX (k+1) f (fnOf name G ab body scope dV kV ad pm an F ct) ps sp:=by
 refine⟨len,λA outer s H args us vs Q E R L hb r Y=>?_⟩;have hl:=len _ _ _ _ Y;have KX:K.In s.heap:=L.mod.Fc.keeps λb o e=>(L.bs b o e).1;have am:s.heap.NoLimit:=L.mod.nolimit.keeps λb o e=>(L.bs b o e).1;have ap:∀y∈ps.zip us,scope.names.lookup y.1=some .local\/(scope.names.lookup y.1=some .cell/\((cellsFrom (s.heap.objs.size+1) scope.names []).lookup y.1).isSome=true):=λa0 hy=>by
  obtain⟨n,v⟩:=a0;rcases S.par n (of_mem_zip hy).1 with q|q
  .exact .inl q
  .exact .inr ⟨q,PySem.W.cellsFrom_some _ _ _ (.inl q)⟩
 refine codeAny_call_function R.depth (KX _ _ lk) rfl S.co S.gen rfl (PySem.W.codeRec_of KX aB) (hb _ _ _ _ ?_);refine wpAny_newFunctionEnv_cells S.kind ap λenv he s1 x=>?_;subst he;refine⟨am.keeps x.toInCall.keep,codeAny_func ?_⟩;obtain⟨t,ht,hq⟩:=as A outer s H vs Q E (R.deeper _) Y;have I:Inv (xQ CX P w K mg base N G scope f F A outer s H E) [] (start N vs) H s1:=xN S R.hd L hl r x;refine wpAny_mono (ht [] s1 (start N vs) H _ I hq) (λfl s' hs=>?_) λe s' hs=>hs;have ac:∀{O:St}{H':Hp}{v:V}{u:Value},Inv (xQ CX P w K mg base N G scope f F A outer s H E) [] O H' s'->RelV v u->Q v H'->CE outer P w H s Q u s' :=
  λ{O H' v u} J U q=>⟨v,H',J.os,J.bare,J.base,J.bG,U,q⟩
 cases fl with
 |ret u =>
  obtain⟨v,O,H',J,U,q⟩:=hs;exact ac J U q
 |next =>
  obtain⟨O,H',J,q⟩:=hs;exact ac (v:=V.non) (u:=Value.none) J rfl q
 |brk =>
  obtain⟨_,_,_,q⟩:=hs;exact False.elim q
 |cont =>
  obtain⟨_,_,_,q⟩:=hs;exact False.elim q
section
variable {X:Cx}{x:Str}{p pos:Pos}{e:Expr}{es:List Expr}{t:TA}{id T:String}{r:List V->Hp->VK->Prop}
def IP (r:List V->Hp->VK->Prop) (t:TA):TE:=λσ H Q=>t σ H λvs H1=>r vs H1 Q
theorem aN (hc:dr X (.builtin id) r) (hg:Gl X x) (F:X.mg x=none) (R:bootBuiltins x=some (.builtin id)) (U:PA X (e::es) t) (hn:x ≠ "__name__" := by decide) (O:(x==("__debug__" : Str))=false:=by decide)
  (J:starEach (e::es) X.env=(false,eval e X.env)::starEach es X.env:=by rfl) (N:(backTo pos (starEach es X.env)).any (·.1)=false:=by rfl):PE X (.Call (.Name x p) (e::es) [] pos) (IP r t):=by
 intro pins s σ H Q I h;refine wpAny_Call_Name_kw (gx I hg F R ?_ hn O);exact PyProof.Rows.callWith_builtin1 (bT (U pos pins s σ H _ I h) λus G Y=>by obtain⟨vs,H1,S,r1,L⟩:=Y;exact hc pins G σ H1 vs us Q S r1 L) J N
theorem bE (hc:dr X (.type T) r) (hg:Gl X x) (F:X.mg x=none) (S:bootBuiltins x=some (.type T)) (Y:PA X (e::es) t) (hn:x ≠ "__name__" := by decide) (O:(x==("__debug__" : Str))=false:=by decide)
  (J:starEach (e::es) X.env=(false,eval e X.env)::starEach es X.env:=by rfl) (N:(backTo pos (starEach es X.env)).any (·.1)=false:=by rfl):PE X (.Call (.Name x p) (e::es) [] pos) (IP r t):=by
 intro pins s σ H Q I h;refine wpAny_Call_Name_kw (gx I hg F S ?_ hn O);exact PyProof.Rows.callWith_type1 (bT (Y pos pins s σ H _ I h) λus G R=>by obtain⟨vs,H1,U,r1,L⟩:=R;exact hc pins G σ H1 vs us Q U r1 L) J N
end
end L2
namespace HT
open PySem PyProof.Rows
section
open PySem.SeqAt
open PySem.AutoSeq1 (wpAny_loadPart')
open PySem.MeetsSeq PySem.MeetsSeq2 PySem.MeetsSeq3
end
section
variable {prog:Program}{w:World}{A:Around}{E:Value->Shared->Prop}{s:Shared}
def cU (n d:Nat):Option Int->Nat
 |none=>d
 |some v=>if v<0 then(v+(n:Int)).toNat else min v.toNat n
theorem lq (n d k:Nat):cU n d (some (k:Int))=min k n:=by
 show(if (k:Int)<0 then((k:Int)+(n:Int)).toNat else min (k:Int).toNat n)=min k n;rw[if_neg af,toNat_natCast]
theorem Dk (n d:Nat) (hd:d<=n) (o:Option Int):cU n d o<=n:=by
 cases o with
 |none=>exact hd
 |some v =>
  show(if v<0 then(v+(n:Int)).toNat else min v.toNat n)<=n;by_cases F:v<0
  .rw[if_pos F];omega
  .rw[if_neg F];exact Nat.min_le_right _ _
theorem wa (v:Int) (n d:Nat):(if v<0 then max (v+(n:Int)) 0 else min v (n:Int))=((cU n d (some v):Nat):Int):=by
 show(if v<0 then max (v+(n:Int)) 0 else min v (n:Int))=(((if v<0 then(v+(n:Int)).toNat else min v.toNat n):Nat):Int);by_cases F:v<0
 .simp only[if_pos F];omega
 .simp only[if_neg F];omega
theorem uW (lo hi:Option Int) (n:Nat):Builtin.Slice.sliceAdjust lo hi 1 (n:Int)=(((cU n 0 lo:Nat):Int),((cU n n hi:Nat):Int)):=by
 have h1:¬ ((1:Int)<0):=af;unfold Builtin.Slice.sliceAdjust;simp only[h1,if_false];refine Prod.ext ?_ ?_
 .cases lo with
  |none=>rfl
  |some v=>exact wa v n 0
 .cases hi with
  |none=>rfl
  |some v=>exact wa v n n
theorem uu (i j:Nat):Builtin.Slice.slicePlaces (i:Int) (j:Int) 1=j-i:=by
 unfold Builtin.Slice.slicePlaces;have h1:(1:Int)>0:=af;simp only[h1,if_true,Int.ediv_one];split<;>omega
theorem mj {v:Value}{o:Option Int}{Q:Option Int->Shared->Prop}(p:IsPart v o) (h:Q o s):wpAny (model prog w) A (Builtin.Slice.slicePartIndex v) Q E s:=by
 cases p with
 |none=>exact slicePart_none h
 |int i t=>exact slicePart_int h
theorem fX {sl:Addr}{J F:Value}{lo hi:Option Int}{n:Nat}{Q:Int×Int×Nat->Shared->Prop}(hs:s.heap.IsSliceOf sl J F .none) (pl:IsPart J lo) (L:IsPart F hi)
  (h:Q (((cU n 0 lo:Nat):Int),1,cU n n hi-cU n 0 lo) s):wpAny (model prog w) A (Builtin.Slice.sliceApplied (.ref sl) (pure (n:Int))) Q E s:=by
 obtain⟨os,G,N,I⟩:=id hs;unfold Builtin.Slice.sliceApplied Builtin.Slice.sliceFields;refine wpAny_bind (wpAny_bind (wpAny_field G I (x:=J) rfl (wpAny_bind (wpAny_field G I (x:=F) rfl (wpAny_bind (wpAny_field G I (x:=.none) rfl (wpAny_pure ?_)))))));refine wpAny_bind (slicePart_none ?_);show wpAny _ _ (if ((1:Int)==0)=true then _ else _) _ _ s;rw[if_neg av];refine wpAny_bind (mj pl (wpAny_bind (mj L (wpAny_bind (wpAny_pure ?_)))));show wpAny _ _ (match Builtin.Slice.sliceAdjust lo hi 1 (n:Int)with|(lo,hi)=>pure (lo,(1:Int),Builtin.Slice.slicePlaces lo hi 1)) _ _ s;rw[uW lo hi n];show wpAny _ _ (pure (((cU n 0 lo:Nat):Int),(1:Int),Builtin.Slice.slicePlaces ((cU n 0 lo:Nat):Int) ((cU n n hi:Nat):Int) 1)) _ _ s;rw[uu];exact wpAny_pure h
theorem yU (xs:Array Value) (i k:Nat):((List.range k).filterMap λ(m:Nat)=>xs[((i:Int)+(m:Int)*1).toNat]?).toArray=((xs.toList.drop i).take k).toArray:=by
 have e:(λ(m:Nat)=>xs[((i:Int)+(m:Int)*1).toNat]?)=λm=>xs[i+m]?:=by
  funext m;have:((i:Int)+(m:Int)*1).toNat=i+m:=af;rw[this]
 rw[e];have:=pick_run xs i k;rw[List.filterMap_map]at this;have F:((λx=>xs[x]?)∘λx=>i+x)=λm=>xs[i+m]?:=rfl;rw[F]at this;rw[this]
theorem jK {t sl:Addr}{items:Array Value}{J I:Value}{lo hi:Option Int}{Q:Value->Shared->Prop}(G:IsTup s.heap t items) (hs:s.heap.IsSliceOf sl J I .none) (pl:IsPart J lo) (U:IsPart I hi)
  (N:¬ (cU items.size 0 lo=0/\cU items.size items.size hi=items.size))
  (h:Q (.ref s.heap.objs.size) { s with heap:=s.heap.push { cls:=.type "tuple",data:=.seq ((items.toList.drop (cU items.size 0 lo)).take (cU items.size items.size hi-cU items.size 0 lo)).toArray } })
  (hsz:items.size<=sizeLine):wpAny (model prog w) A (getItem (.ref t) (.ref sl)) Q E s:=by
 have F:sizeOk (.seq ((items.toList.drop (cU items.size 0 lo)).take (cU items.size items.size hi-cU items.size 0 lo)).toArray):=by
  show((items.toList.drop (cU items.size 0 lo)).take (cU items.size items.size hi-cU items.size 0 lo)).toArray.size<=sizeLine;rw[size_toArray,length_take,length_drop,length_toList];omega
 have Y:cU items.size items.size hi<=items.size:=Dk _ _ (le_refl _) hi;obtain⟨os,L,O,ab⟩:=id hs;have R:s.TypeIs (.ref sl) "slice" := ⟨os,L,O⟩;unfold getItem
 try with_reducible refine wpAny_holding ?_
 first|refine wpAny_bind (wpAny_pure ?_)|skip
 refine wpAny_bind (wpAny_sequenceKey G.typeIs av ?_);refine wpAny_bind (wpAny_callSpecial?_slot (name:=Str.ofString "__getitem__") G.typeIs PyProof.Rows.slot_tuple_getitem
  (wpAny_call_entry PyProof.Rows.slot_tuple_getitem G.typeIs entry_tuple_getitem ?_ (args_tuple_getitem _ _)))
 show wpAny _ _ (Builtin.Tuple.tupleItemsOf (.ref t)>>=_) _ _ s;refine wpAny_bind (tupleItemsOf_ G ?_);refine wpAny_bind (wpAny_typeOf R ?_);rw[if_pos av];refine wpAny_bind (fX hs pl U ?_);have S:¬ ((((cU items.size 0 lo:Nat):Int)==0&&(1:Int)==1&&(cU items.size items.size hi-cU items.size 0 lo)==items.size)=true):=by
  intro q;rw[Bool.and_eq_true,Bool.and_eq_true]at q;have q1:((cU items.size 0 lo:Nat):Int)=0:=eq_of_beq q.1.1;have q2:cU items.size items.size hi-cU items.size 0 lo=items.size:=eq_of_beq q.2;exact N ⟨af,af⟩
 show wpAny _ _ (if (((cU items.size 0 lo:Nat):Int)==0&&(1:Int)==1&&(cU items.size items.size hi-cU items.size 0 lo)==items.size)=true then _ else _) _ _ s;rw[if_neg S,yU]
 first
  |exact wpAny_bind (m:=Builtin.Tuple.tupleExact _) (wpAny_newObj_type (wpAny_pure ⟨_,rfl,wpAny_pure h⟩) F)
  |exact wpAny_bind (m:=Builtin.Tuple.tupleExact _) (wpAny_newObj_type (wpAny_bind (wpAny_pure (wpAny_pure ⟨_,rfl,wpAny_pure h⟩))) F)
  |exact wpAny_bind (wpAny_bind (m:=Builtin.Tuple.tupleExact _) (wpAny_newObj_type (wpAny_pure (wpAny_pure ⟨_,rfl,wpAny_pure h⟩)) F))
  |exact wpAny_bind (wpAny_bind (m:=Builtin.Tuple.tupleExact _) (wpAny_newObj_type (wpAny_pure ⟨_,rfl,wpAny_pure h⟩) F))
end
end HT
namespace L2
open PySem PySem.Spec PyProof.Rows
abbrev TO:=St->Hp->(Option Int->Hp->Prop)->Prop
def PO (X:Cx) (e:Option Expr) (t:TO):Prop :=
 ∀(pins:List (Addr×Obj)) (s:Shared) (σ:St) (H:Hp) (Q:Option Int->Hp->Prop),Inv X pins σ H s->t σ H Q ->
  wpAny (model X.prog X.w) X.A (evalPart e X.env) (λu s'=>∃o H',Inv X pins σ H' s'/\IsPart u o/\Q o H') X.xe s
def BG:TO:=λ_ H Q=>Q none H
def FJ (t:TE):TO:=λσ H Q=>t σ H λx H1=>∃i,x=.int i/\Q (some i) H1
theorem intsAre_of {ns:List Int}:∀{us:List Value},Vals (ns.map V.int) us->IntsAre us ns:=by
 induction ns with
 |nil=>intro us r;rw[map_nil]at r;cases r;exact .nil
 |cons n ns F =>
  intro us r;rw[map_cons]at r;cases r with
  |cons G I =>
   obtain⟨t,e⟩:=G;subst e;exact .cons n t (F I)
section
variable {X:Cx}{e:Expr}{te:TE}{lo hi:Option Expr}{tl th:TO}{pos p2:Pos}
theorem fq:PO X none BG:=by
 intro pins s σ H Q I h;rw[evalPart_none];exact wpAny_pure ⟨none,H,I,.none,h⟩
theorem cV (h:PE X e te):PO X (some e) (FJ te):=by
 intro pins s σ H Q I F;rw[evalPart_some];refine bT (h pins s σ H _ I F) λu O L=>?_;obtain⟨x,H1,J,N,G⟩:=L;obtain⟨i,rfl,q⟩:=G;obtain⟨t,rfl⟩:=N;exact⟨some i,H1,J,.int i t,q⟩
def E7 (X:Cx) (r:V->Option Int->Option Int->Hp->VK->Prop):Prop :=
 ∀(pins:List (Addr×Obj)) (s:Shared) (σ:St) (H:Hp) (x:V) (v G F:Value) (lo hi:Option Int) (sl:Addr) (Q:VK),Inv X pins σ H s->RelV x v->s.heap.IsSliceOf sl G F .none->IsPart G lo->IsPart F hi->r x lo hi H Q ->
  ∃T id,typeLookup (.type T) "__getitem__" = pure (some (.builtin id))/\s.TypeIs v T/\wpAny (model X.prog X.w) X.A (getItem v (.ref sl)) (EP X pins σ Q) X.xe s
def Je (r:V->Option Int->Option Int->Hp->VK->Prop) (te:TE) (tl th:TO):TE:=λσ H Q=>te σ H λx H1=>tl σ H1 λl H2=>th σ H2 λu F=>r x l u F Q
theorem dg {r:V->Option Int->Option Int->Hp->VK->Prop}(hr:E7 X r) (R:PE X e te) (hl:PO X lo tl) (hu:PO X hi th):PE X (.Subscript e (.Slice lo hi none p2) pos) (Je r te tl th):=by
 intro pins s σ H Q I h;refine Subscript_ (bT (R pins s σ H _ I h) λv N ab=>?_);obtain⟨x,H1,I1,r1,S⟩:=ab;refine wpAny_Slice (bT (hl pins N σ H1 _ I1 S) λG s2 U=>?_);obtain⟨l,H2,I2,pl,q2⟩:=U;refine bT (hu pins s2 σ H2 _ I2 q2) λJ F Y=>?_;obtain⟨u,L,O,pu,q3⟩:=Y;rw[evalPart_none];refine wpAny_pure ?_;have I4:Inv X pins σ L { F with heap:=F.heap.push { cls:=.type "slice",data:=.fields #[G,J,.none] } }:=O.kept (t':=F.toks) λb ob q=>Heap.get?_push_of_some _ q;obtain⟨T,id,hT,ht,hg⟩:=hr pins { F with heap:=F.heap.push { cls:=.type "slice",data:=.fields #[G,J,.none] } } σ L x v G J l u F.heap.objs.size Q I4 r1 (Heap.IsSliceOf.new ..) pl pu q3;show wpAny (model X.prog X.w) X.A (subscriptTail e (.Slice lo hi none p2) v (.ref F.heap.objs.size)) (EP X pins σ Q) X.xe { F with heap:=F.heap.push { cls:=.type "slice",data:=.fields #[G,J,.none] } };exact tail_any (ops:=[.ref F.heap.objs.size,v]) ht hT hg (by with_unfolding_all rfl)
def eV (xs:List V) (lo hi:Option Int):List V:=(xs.drop (HT.cU xs.length 0 lo)).take (HT.cU xs.length xs.length hi-HT.cU xs.length 0 lo)
theorem kJ (xs:List V) (lo hi:Option Int):(eV xs lo hi).length<=xs.length:=by
 unfold eV;rw[length_take,length_drop];omega
inductive Fy (K:Frag) (x:V) (lo:Option Int) (hi:Option Int) (H:Hp) (Q:VK):Prop
 |mk (a:_) (xs:_) (_:x=.ref a) (_:bR K H a xs) (_:¬ (HT.cU xs.length 0 lo=0/\HT.cU xs.length xs.length hi=xs.length)) (_:∀p,H p=none->Q (.ref p) (upd H p (.tup (eV xs lo hi)))):Fy K x lo hi H Q
theorem Dm:E7 X (Fy X.K):=by
 intro pins s σ H x v Y U lo hi sl Q I R hs pl N h;obtain⟨a,xs,rfl,O,L,q⟩:=h;cases R;obtain⟨its,r,J,G⟩:=I.tuple O;have F:its.toArray.size=xs.length:=(by rw[size_toArray];exact r.length.symm);refine⟨"tuple",_,PyProof.Rows.slot_tuple_getitem.lookup,J.typeIs,?_⟩;refine HT.jK J hs pl N (by rw[F];exact L) ?_ (by rw[F];exact G);rw[F];refine⟨.ref s.heap.objs.size,_,I.laid (t':=s.toks) (o:=.tup (eV xs lo hi)) (λb S q=>Heap.get?_push_of_some _ q) (le_refl _) ?_,rfl,q _ (I.bG.fresh (le_refl _))⟩;exact⟨le_trans (kJ xs lo hi) G,_,(r.drop (HT.cU xs.length 0 lo)).take (HT.cU xs.length xs.length hi-HT.cU xs.length 0 lo),IsTup.new _ _⟩
end
def rT (n:Nat) (i:Int):Option Nat:=if 0<=i then(if i<n then some i.toNat else none)else if -(n:Int)<=i then some (i+n).toNat else none
def x9 {α:Type}(xs:List α) (i:Int):Option α:=(rT xs.length i).bind λj=>xs[j]?
theorem vV {n:Nat}{i:Int}{j:Nat}(h:rT n i=some j):seqIndex? i n=some j/\j<n /\ -(n:Int)<=i/\i<n:=by
 unfold rT at h;by_cases F:0<=i
 .rw[if_pos F]at h;by_cases h1:i<n
  .rw[if_pos h1]at h;have e:i.toNat=j:=Option.some.inj h;exact⟨by rw[seqIndex_of F h1,e],af,af,h1⟩
  .rw[if_neg h1]at h;cases h
 .rw[if_neg F]at h;by_cases h1 : -(n:Int)<=i
  .rw[if_pos h1]at h;have e:(i+n).toNat=j:=Option.some.inj h;exact⟨by rw[seqIndex_neg af h1,e],af,h1,af⟩
  .rw[if_neg h1]at h;cases h
theorem qx {α:Type}{xs:List α}{i:Int}{v:α}(h:x9 xs i=some v):∃j,seqIndex? i xs.length=some j/\xs[j]?=some v/\j<xs.length /\ -(xs.length:Int)<=i/\i<xs.length:=by
 unfold x9 at h;cases e:rT xs.length i with
 |none=>rw[e]at h;cases h
 |some j =>
  rw[e]at h;obtain⟨h1,h2,F,G⟩:=vV e;exact⟨j,h1,h,h2,F,G⟩
theorem ij {α:Type}{xs:List α}{j:Nat}{v:α}(h:xs[j]?=some v):x9 xs (j:Int)=some v:=by
 have F:j<xs.length:=(List.getElem?_eq_some_iff.mp h).1;have e:rT xs.length (j:Int)=some j:=by
  unfold rT;rw[if_pos af,if_pos af];simp
 unfold x9;rw[e];exact h
def AM (b:Expr):Prop:=∀o i,subscripted b false o i=operate [o,i] (getItem o i)
def GW (X:Cx) (r:R2):Prop :=
 ∀(value F:Expr) (pins:List (Addr×Obj)) (s:Shared) (σ:St) (H:Hp) (x y:V) (v u:Value) (Q:VK),Inv X pins σ H s->RelV x v->RelV y u->r x y H Q ->
  subscripted F false v u=operate [v,u] (getItem v u)->wpAny (model X.prog X.w) X.A (subscriptTail value F v u) (EP X pins σ Q) X.xe s
def Jb (X:Cx) (id:String) (r:V->List V->Hp->VK->Prop):Prop :=
 ∀(pins:List (Addr×Obj)) (s:Shared) (σ:St) (H:Hp) (x:V) (xs:List V) (v:Value) (us:List Value) (Q:VK),Inv X pins σ H s->RelV x v->Vals xs us->r x xs H Q ->
  wpAny (model X.prog X.w) X.A (call (.builtin id) (v::us)) (EP X pins σ Q) X.xe s
section
variable {X:Cx}{a b:Expr}{ta tb:TE}{pos:Pos}
theorem aZ {r:R2}(J:GW X r) (L:PE X a ta) (F:PE X b tb) (hs:AM b):PE X (.Subscript a b pos) (Et r ta tb):=by
 intro pins s σ H Q I h;exact Subscript_ (DF L F I h λv u O x y H2 N R G q=>J a b pins O σ H2 x y v u Q N R G q (hs _ _))
inductive Bw (K:Frag) (x:V) (y:V) (H:Hp) (Q:VK):Prop
 |mk (p:_) (xs:_) (i:_) (v:_) (_:x=.ref p) (_:y=.int i) (_:bq K H p xs) (_:x9 xs i=some v) (_:Q v H):Bw K x y H Q
inductive E1 (K:Frag) (x:V) (y:V) (H:Hp) (Q:VK):Prop
 |mk (p:_) (xs:_) (i:_) (v:_) (_:x=.ref p) (_:y=.int i) (_:bR K H p xs) (_:x9 xs i=some v) (_:Q v H):E1 K x y H Q
theorem ck:GW X (Bw X.K):=by
 intro value ab pins s σ H x y v u Q I U S h hs;obtain⟨p,xs,i,z,rfl,rfl,Y,R,q⟩:=h;cases U;obtain⟨t,rfl⟩:=S;obtain⟨its,r,pl,hz⟩:=I.list Y;obtain⟨j,h1,h2,h3,N,h5⟩:=qx R;obtain⟨w,G,O⟩:=r.get h2;have hl:=r.length;have hn:=mh;have L:EP X pins σ Q w s:=⟨z,H,I,O,q⟩;by_cases J:0<=i
 .have F:i.toNat=j:=by
   rw[seqIndex_of J h5]at h1;exact Option.some.inj h1
  exact item_listR pl.isList J af (by rw[F];simpa using G) L hs
 .have F:(i+(its.toArray.size:Int)).toNat=j:=by
   rw[seqIndex_neg af N]at h1;rw[size_toArray, <-hl];exact Option.some.inj h1
  exact subscriptTail_builtinR (x:=w) pl.isList.typeIs slot_list_getitem.lookup
   (wpAny_getItem_list_neg (Q:=λr s'=>r=w/\EP X pins σ Q r s') pl.isList af (by rw[size_toArray]<;>omega) af (by rw[F];simpa using G) ⟨rfl,L⟩) hs
theorem bh:GW X (E1 X.K):=by
 intro value ab pins s σ H x y v u Q I N L h hs;obtain⟨p,xs,i,z,rfl,rfl,R,J,q⟩:=h;cases N;obtain⟨t,rfl⟩:=L;obtain⟨its,r,pl,hz⟩:=I.tuple R;obtain⟨j,h1,h2,Y,U,h5⟩:=qx J;obtain⟨w,G,F⟩:=r.get h2;have S:=r.length;have hn:=mh;have O:EP X pins σ Q w s:=⟨z,H,I,F,q⟩;exact subscriptTail_builtinR (x:=w) pl.typeIs slot_tuple_getitem.lookup
  (getItem_tuple (j:=j) (Q:=λr s'=>r=w/\EP X pins σ Q r s') pl af af (by rw[size_toArray, <-S];exact h1) (by simpa using G) ⟨rfl,O⟩) hs
theorem tf (its:List Value) (n j:Nat) (u:Value):Obj.mapSeq (·.setIfInBounds j u) { cls:=.type "list",data:=.seq its.toArray n }={ cls:=.type "list",data:=.seq (its.set j u).toArray n }:=by
 simp[Obj.mapSeq]
theorem Inv.lst {pins:List (Addr×Obj)}{σ:St}{H:Hp}{s:Shared}{p:Addr}{xs:List V}(I:Inv X pins σ H s) (h:H p=some (.lst xs)) :
  ∃(its:List Value) (n:Nat),Vals xs its/\s.heap.get? p=some { cls:=.type "list",data:=.seq its.toArray n }/\xs.length<=sizeLine:=by
 obtain⟨z,its,n,r,e⟩:=I.bG p _ h;exact⟨its,n,r,e,z⟩
theorem Inv.DZ {pins:List (Addr×Obj)}{σ:St}{H:Hp}{s:Shared}{p:Addr}{xs ys:List V}{its its':List Value}{n F:Nat}{f:Obj->Obj}(I:Inv X pins σ H s) (h:H p=some (.lst xs))
  (N:s.heap.get? p=some { cls:=.type "list",data:=.seq its.toArray n }) (G:f { cls:=.type "list",data:=.seq its.toArray n }={ cls:=.type "list",data:=.seq its'.toArray F }) (r:Vals ys its') (J:ys.length<=sizeLine) (t:Nat) :
  Inv X pins σ (upd H p (.lst ys)) { s with heap:=s.heap.update p f,toks:=t }:=by
 have e:(s.heap.update p f).get? p=some { cls:=.type "list",data:=.seq its'.toArray F }:=by
  rw[Heap.get?_update_self f N (by rw[G]<;>rfl),G]
 refine I.write (x:=p) (e:=p) (by rw[h];trivial) (.inl rfl) (λb u L q=>(Heap.get?_update_other _ _ (Ne.symm L)).trans q) ⟨_,e⟩ ?_;exact⟨J,its',F,r,e⟩
inductive B9 (o:V) (i:V) (v:V) (H:Hp) (Q:(Hp->Prop)):Prop
 |mk (p:_) (xs:_) (k:_) (j:_) (_:o=.ref p) (_:i=.int k) (_:H p=some (.lst xs)) (_:rT xs.length k=some j) (_:Q (upd H p (.lst (xs.set j v)))):B9 o i v H Q
theorem set_list:AR X B9:=by
 intro pins s σ H o i v ov iv u Q I ro ri rv h;obtain⟨p,xs,k,j,rfl,rfl,O,U,q⟩:=h;cases ro;obtain⟨t,rfl⟩:=ri;obtain⟨its,n,r,G,Y⟩:=I.lst O;obtain⟨h1,h2,R,L⟩:=vV U;have J:=r.length;have hn:=mh;have N:Inv X pins σ (upd H p (.lst (xs.set j v))) { s with heap:=s.heap.update p (Obj.mapSeq (·.setIfInBounds j u)) }:=
  I.DZ O G (tf its n j u) (r.set rv j) (by rw[length_set];exact Y) s.toks
 by_cases S:0<=k
 .have F:k.toNat=j:=by
   rw[seqIndex_of S L]at h1;exact Option.some.inj h1
  exact PySem.W.ki_setAt G S af (by rw[size_toArray, <-J];exact L) (by rw[F];exact⟨_,N,q⟩)
 .have F:(k+(its.toArray.size:Int)).toNat=j:=by
   rw[seqIndex_neg af R]at h1;rw[size_toArray, <-J];exact Option.some.inj h1
  exact PySem.W.ki_setBack G af (by rw[size_toArray, <-J];exact R) af (by rw[F];exact⟨_,N,q⟩)
theorem pK (lo hi:Option Int) (n:Nat):(sliceBounds lo hi none n).1=((HT.cU n 0 lo:Nat):Int)/\(sliceBounds lo hi none n).2.1=((HT.cU n n hi:Nat):Int)/\(sliceBounds lo hi none n).2.2=1:=by
 refine⟨?_,?_,rfl⟩
 .cases lo with
  |none=>simp[sliceBounds,HT.cU]
  |some i =>
   simp only[sliceBounds,HT.cU,getD_none,show(1:Int)>0 by decide,if_true];by_cases h:i<0
   .simp only[h,if_true]<;>omega
   .simp only[h,if_false]<;>omega
 .cases hi with
  |none=>simp[sliceBounds,HT.cU]
  |some i =>
   simp only[sliceBounds,HT.cU,getD_none,show(1:Int)>0 by decide,if_true];by_cases h:i<0
   .simp only[h,if_true]<;>omega
   .simp only[h,if_false]<;>omega
theorem nv (its:List Value) (lo hi:Option Int):slicePick its.toArray lo hi none=((its.drop (HT.cU its.length 0 lo)).take (HT.cU its.length its.length hi-HT.cU its.length 0 lo)).toArray:=by
 obtain⟨h1,h2,F⟩:=pK lo hi its.toArray.size;unfold slicePick;rw[h1,h2,F];simp only[sliceRange_one,pick_run,size_toArray]<;>rfl
inductive Er (K:Frag) (x:V) (lo:Option Int) (hi:Option Int) (H:Hp) (Q:VK):Prop
 |mk (a:_) (xs:_) (_:x=.ref a) (_:bq K H a xs) (_:∀p,H p=none->Q (.ref p) (upd H p (.lst (eV xs lo hi)))):Er K x lo hi H Q
theorem gq:E7 X (Er X.K):=by
 intro pins s σ H x v U S lo hi sl Q I O hs pl L h;obtain⟨a,xs,rfl,N,q⟩:=h;cases O;obtain⟨its,r,F,G⟩:=I.list N;have J:=r.length;refine⟨"list",_,slot_list_getitem.lookup,F.isList.typeIs,?_⟩;refine wpAny_getItem_list_slice F.isList hs pl L .none (by simp) ?_ (by rw[size_toArray]<;>omega);rw[nv, <-J];refine⟨.ref s.heap.objs.size,_,I.laid (t':=s.toks) (o:=.lst (eV xs lo hi)) (λb R q=>Heap.get?_push_of_some _ q) (le_refl _) ?_,rfl,q _ (I.bG.fresh (le_refl _))⟩;exact⟨le_trans (kJ xs lo hi) G,_,0,(r.drop (HT.cU xs.length 0 lo)).take (HT.cU xs.length xs.length hi-HT.cU xs.length 0 lo),Heap.get?_push_size _ rfl⟩
def cY:V->Bool
 |.non=>true
 |.bl _=>true
 |.int _=>true
 |.str _=>true
 |_=>false
def jP:V->V->Bool
 |.non,.non=>true
 |.bl a,.bl b=>a==b
 |.bl a,.int b=>(if a then 1 else 0)==b
 |.int a,.bl b=>a==(if b then 1 else 0)
 |.int a,.int b=>a==b
 |.str a,.str b=>a==b
 |_,_=>false
theorem iS {A:Around}{s:Shared}{y x:V}{u v:Value}(G:RelV y u) (F:RelV x v) (J:cY y=true) (I:cY x=true):SeqAt.EqAt A s u v (jP y x):=by
 cases y with
 |non =>
  cases G;cases x with
  |non=>cases F;exact SeqAt.EqAt.same _
  |bl b=>cases F;exact SeqAt.EqAt.none_bool b
  |int b=>obtain⟨t,rfl⟩:=F;exact SeqAt.EqAt.none_int b t
  |str b=>obtain⟨t,rfl⟩:=F;exact SeqAt.EqAt.none_str b t
  |_=>exact absurd (show false=true from I) Bool.false_ne_true
 |bl a =>
  cases G;cases x with
  |non=>cases F;exact SeqAt.EqAt.bool_none a
  |bl b=>cases F;exact SeqAt.EqAt.bool_bool a b
  |int b=>obtain⟨t,rfl⟩:=F;exact SeqAt.EqAt.bool_int a b t
  |str b=>obtain⟨t,rfl⟩:=F;exact SeqAt.EqAt.bool_str a b t
  |_=>exact absurd (show false=true from I) Bool.false_ne_true
 |int a =>
  obtain⟨t',rfl⟩:=G;cases x with
  |non=>cases F;exact SeqAt.EqAt.int_none a t'
  |bl b=>cases F;exact SeqAt.EqAt.int_bool a t' b
  |int b=>obtain⟨t,rfl⟩:=F;exact SeqAt.EqAt.int_int a t' b t
  |str b=>obtain⟨t,rfl⟩:=F;exact SeqAt.EqAt.int_str a t' b t
  |_=>exact absurd (show false=true from I) Bool.false_ne_true
 |str a =>
  obtain⟨t',rfl⟩:=G;cases x with
  |non=>cases F;exact SeqAt.EqAt.str_none a t'
  |bl b=>cases F;exact SeqAt.EqAt.str_bool a t' b
  |int b=>obtain⟨t,rfl⟩:=F;exact SeqAt.EqAt.str_int a t' b t
  |str b=>obtain⟨t,rfl⟩:=F;exact SeqAt.EqAt.str_str a t' b t
  |_=>exact absurd (show false=true from I) Bool.false_ne_true
 |_=>exact absurd (show false=true from J) Bool.false_ne_true
def vb (x:V) (u:Value):Bool:=match u with
 |.none=>jP .non x
 |.bool b=>jP (.bl b) x
 |.int i _=>jP (.int i) x
 |.str z _=>jP (.str z) x
 |_=>false
theorem zI {x y:V}{u:Value}(r:RelV y u) (f:cY y=true):vb x u=jP y x:=by
 cases y with
 |non=>cases r;rfl
 |bl b=>cases r;rfl
 |int i=>obtain⟨t,rfl⟩:=r;rfl
 |str z=>obtain⟨t,rfl⟩:=r;rfl
 |_=>exact absurd (show false=true from f) Bool.false_ne_true
theorem jl {x:V}:∀{xs:List V}{us:List Value},Vals xs us->xs.all cY=true->us.any (vb x)=xs.any λy=>jP y x
 |_,_,.nil,_=>rfl
 |y::xs,u::us,.cons r t,f=>by
  rw[all_cons,Bool.and_eq_true]at f;rw[any_cons,any_cons,zI r f.1,jl t f.2]
theorem hX {A:Around}{s:Shared}{x:V}{v:Value}(I:RelV x v) (G:cY x=true):∀{xs:List V}{us:List Value},Vals xs us->xs.all cY=true->∀u∈us,SeqAt.EqAt A s u v (vb x u)
 |_,_,.nil,_=>λu F=>by cases F
 |y::xs,u::us,.cons r t,f=>λJ F=>by
  rw[all_cons,Bool.and_eq_true]at f;rcases List.mem_cons.mp F with rfl|F
  .rw[zI r f.1];exact iS r I f.1 G
  .exact hX I G t f.2 J F
def CY (x:V) (xs:List V):Bool:=xs.any λy=>jP y x
inductive HY (K:Frag) (neg:Bool) (x:V) (y:V) (H:Hp) (Q:VK):Prop
 |mk (p:_) (xs:_) (_:y=.ref p) (_:(bq K H p xs\/bR K H p xs)) (_:cY x=true) (_:xs.all cY=true) (_:Q (.bl (if neg then !CY x xs else CY x xs)) H):HY K neg x y H Q
theorem xf:kB X (compareOp .In) (HY X.K false):=by
 intro pins s σ H x y v u Q I J O h;obtain⟨p,xs,rfl,F,L,fs,q⟩:=h;cases O;rcases F with F|F
 .obtain⟨its,r,pl,N⟩:=I.list F;refine SeqAt.in_listAt (vb x) pl.isList (λw G=>hX J L r fs w (by simpa using G)) ⟨.bl _,H,I,rfl,?_⟩;rw[show its.toArray.any (vb x)=its.any (vb x)by simp,jl r fs];exact q
 .obtain⟨its,r,pl,N⟩:=I.tuple F;refine SeqAt.in_tupleAt (vb x) pl (λw G=>hX J L r fs w (by simpa using G)) ⟨.bl _,H,I,rfl,?_⟩;rw[show its.toArray.any (vb x)=its.any (vb x)by simp,jl r fs];exact q
theorem jB:kB X (compareOp .NotIn) (HY X.K true):=by
 intro pins s σ H x y v u Q I J O h;obtain⟨p,xs,rfl,F,L,fs,q⟩:=h;cases O;rcases F with F|F
 .obtain⟨its,r,pl,N⟩:=I.list F;refine SeqAt.notIn_listAt (vb x) pl.isList (λw G=>hX J L r fs w (by simpa using G)) ⟨.bl _,H,I,rfl,?_⟩;rw[show its.toArray.any (vb x)=its.any (vb x)by simp,jl r fs];exact q
 .obtain⟨its,r,pl,N⟩:=I.tuple F;refine SeqAt.notIn_tupleAt (vb x) pl (λw G=>hX J L r fs w (by simpa using G)) ⟨.bl _,H,I,rfl,?_⟩;rw[show its.toArray.any (vb x)=its.any (vb x)by simp,jl r fs];exact q
theorem bF:dr X (.builtin "len") (λxs H Q=>∃p ys,xs=[.ref p]/\(bq X.K H p ys\/bR X.K H p ys)/\Q (.int ys.length) H):=by
 intro pins s σ H xs us Q I r h;obtain⟨p,ys,rfl,F,q⟩:=h;obtain⟨u,rfl,N⟩:=vals1 r;cases N;have O:=mh;rcases F with F|F
 .obtain⟨its,J,pl,L⟩:=I.list F;have G:=J.length;exact Calls.call_len_list pl.isList (by simp only[size_toArray]<;>omega) ⟨.int ys.length,H,I.tok _,⟨s.toks+1,by rw[size_toArray,G]⟩,q⟩
 .obtain⟨its,J,pl,L⟩:=I.tuple F;have G:=J.length;exact len_tuple pl (by simp only[size_toArray]<;>omega) ⟨.int ys.length,H,I.tok _,⟨s.toks+1,by rw[size_toArray,G]⟩,q⟩
theorem cA:dr X (.type "list") (λxs H Q=>∃p ys,xs=[.ref p]/\(bq X.K H p ys\/bR X.K H p ys)/\∀l,H l=none->Q (.ref l) (upd H l (.lst ys))):=by
 intro pins s σ H xs us Q I r h;obtain⟨p,ys,rfl,L,q⟩:=h;obtain⟨u,rfl,Y⟩:=vals1 r;cases Y;have S:∀(its:List Value),Vals ys its->ys.length<=sizeLine->∀(h':Heap) (G:Nat),(∀b o',s.heap.get? b=some o'->h'.get? b=some o') ->
   h'.get? s.heap.objs.size=some { cls:=.type "list",dict:=none,data:=.seq its.toArray G,slots := #[] }->EP X pins σ Q (.ref s.heap.objs.size) { s with heap:=h' }:=λits F J h' G N e =>
  ⟨.ref s.heap.objs.size,_,I.laid (t':=s.toks) N (le_refl _) (show bV X.prog X.w _ h' _ (.lst ys)from⟨J,its,G,F,e⟩),rfl,q _ (I.bG.fresh (le_refl _))⟩
 rcases L with L|L
 .obtain⟨its,F,pl,J⟩:=I.list L;have U:=F.length;obtain⟨o,O,R,n,hd⟩:=pl.isList;exact call_list_seq p (.inl rfl) O R hd (λh' G N e=>S its F J h' G N e) (by simp only[size_toArray]<;>omega)
 .obtain⟨its,F,pl,J⟩:=I.tuple L;have U:=F.length;obtain⟨o,O,R,n,hd⟩:=pl;exact call_list_seq p (.inr rfl) O R hd (λh' G N e=>S its F J h' G N e) (by simp only[size_toArray]<;>omega)
theorem nj:dr X (.type "tuple") (λxs H Q=>∃p ys,xs=[.ref p]/\((bq X.K H p ys/\∀l,H l=none->Q (.ref l) (upd H l (.tup ys)))\/(bR X.K H p ys/\Q (.ref p) H))):=by
 intro pins s σ H xs us Q I r h;obtain⟨p,ys,rfl,h⟩:=h;obtain⟨u,rfl,N⟩:=vals1 r;cases N;rcases h with⟨F,q⟩|⟨F,q⟩
 .obtain⟨its,G,pl,J⟩:=I.list F;have S:=G.length;refine call_tuple_list pl.isList (λh' O=>?_) (by simp only[size_toArray]<;>omega);have L:Inv X pins σ H { s with heap:=h' }:=I.kept (t':=s.toks) O;have R:Inv X pins σ (upd H h'.objs.size (.tup ys)) { s with heap:=h'.push { cls:=.type "tuple",data:=.seq its.toArray } }:=
   L.laid (t':=s.toks) (λb o e=>Heap.get?_push_of_some _ e) (le_refl _) (show bV X.prog X.w _ _ _ (.tup ys)from⟨J,its,G,IsTup.new _ _⟩)
  exact⟨.ref h'.objs.size,_,R,rfl,q _ (L.bG.fresh (le_refl _))⟩
 .obtain⟨its,G,pl,J⟩:=I.tuple F;exact call_tuple_same pl ⟨.ref p,H,I,rfl,q⟩
def IH (K:Frag) (T:String) (x:V) (H:Hp):Prop:=match x with
 |.str _=>T = "str"
 |.int _=>T = "int"
 |.ref p=>(T = "list" /\ ∃xs,bq K H p xs)\/(T = "tuple" /\ ∃o,K.lookup p=some o/\o.cls=.type "tuple" /\ o.dict=none) \/
   (T = "dict" /\ ((∃kvs,H p=some (.dK kvs))\/∃kvs,H p=some (.dT kvs)))\/(T = "set" /\ ∃S n,H p=some (.set S n))
 |_=>False
theorem Dj {pins:List (Addr×Obj)}{σ:St}{H:Hp}{s:Shared}{T:String}{x:V}{v:Value}(I:Inv X pins σ H s) (r:RelV x v) (ty:IH X.K T x H) :
  s.TypeIs v T/\∀a,v=.ref a->∃J,s.heap.get? a=some J/\J.dict=none:=by
 cases x with
 |str z =>
  obtain⟨t,rfl⟩:=r;cases(show T = "str" from ty);exact⟨typeIs_str s z t,λ_ e=>nomatch e⟩
 |int i =>
  obtain⟨t,rfl⟩:=r;cases(show T = "int" from ty);exact⟨typeIs_int s i t,λ_ e=>nomatch e⟩
 |ref p =>
  cases r;rcases ty with⟨rfl,xs,L⟩|⟨rfl,o,F,N,hd⟩|⟨rfl,F⟩|⟨rfl,S,n,F⟩
  .obtain⟨its,_,pl,_⟩:=I.list L;refine⟨pl.isList.typeIs,λa e=>?_⟩;cases e;obtain⟨o,n,e,c,hd,_⟩:=pl;exact⟨o,e,hd⟩
  .refine⟨⟨o,I.kh p o F,N⟩,λa e=>?_⟩;cases e;exact⟨o,I.kh _ o F,hd⟩
  .have z:∃o,s.heap.get? p=some o/\o.ExactDict:=by
    rcases F with⟨kvs,F⟩|⟨kvs,F⟩
    .obtain⟨_,_,_,_,o,_,_,e,ex,_⟩:=I.bG p _ F;exact⟨o,e,ex⟩
    .obtain⟨_,_,_,_,o,_,_,e,ex,_⟩:=I.bG p _ F;exact⟨o,e,ex⟩
   obtain⟨o,e,ex⟩:=z;refine⟨⟨o,e,ex.1⟩,λa G=>?_⟩;cases G;exact⟨o,e,ex.2.1⟩
  .obtain⟨o,_,_,_,e,ex,_⟩:=I.bG p _ F;refine⟨⟨o,e,ex.1⟩,λa G=>?_⟩;cases G;exact⟨o,e,ex.2.1⟩
 |_=>exact False.elim ty
def IV (K:Frag) (T:String) (r:V->List V->Hp->VK->Prop) (to:TE) (t:TA):TE:=λσ H Q=>to σ H λx H1=>IH K T x H1/\t σ H1 λxs H2=>r x xs H2 Q
variable {o e:Expr}{es:List Expr}{to:TE}{t:TA}{name:Str}{apos cpos:Pos}{T id:String}{r:V->List V->Hp->VK->Prop}
theorem gI (pa:PlainAttrs T) (slot:Slot T name id) (ab:typeOf (.builtin id)=pure (.type "method_descriptor")) (L:Jb X id r) (Y:PE X o to) (ha:PA X (e::es) t)
  (O:attributeBase o name X.env (eval o X.env)=eval o X.env:=by rfl)
  (S:((backTo cpos (starEach (e::es) X.env)).all (λx => !x.1)&&(backToKw cpos (keywordEach [] X.env)).all (λx=>x.1.isSome)
   && decide ((e::es).length+([]:List Keyword).length+(if ([]:List Keyword).isEmpty then 0 else 1)<30))=true:=by rfl)
  (ad:(apos.endLine==cpos.line)=true:=by rfl) (hs:starEach (e::es) X.env=(false,eval e X.env)::starEach es X.env:=by rfl) (am:(backTo cpos (starEach es X.env)).any (·.1)=false:=by rfl) :
  PE X (.Call (.Attribute o name apos) (e::es) [] cpos) (IV X.K T r to t):=by
 intro pins s σ H Q I h;refine wpAny_Call_method_late O S ad rfl (bT (Y pins s σ H _ I h) λv N ap=>?_);obtain⟨x,H1,G,F,ty,R⟩:=ap;obtain⟨h1,h2⟩:=Dj G F ty;refine⟨T,id,pa,slot,ab,h1,h2,?_⟩;have J:=ha cpos pins N σ H1 _ G R;rw[hs]at J ⊢;refine Calls.callWith_builtin (by show(false||(backTo cpos (starEach es X.env)).any (·.1))=false;rw[am]<;>rfl) (Calls.evalArgs_plain ?_);exact bT J λus s2 ac=>by obtain⟨vs,H2,I2,r2,U⟩:=ac;exact L pins s2 σ H2 x vs v us Q I2 F r2 U
end
def DB (X:Cx) (id:String) (r:V->List V->Hp->VK->Prop):Prop :=
 ∀(pins:List (Addr×Obj)) (s:Shared) (σ:St) (H:Hp) (x:V) (xs:List V) (v:Value) (us:List Value) (Q:VK),Inv X pins σ H s->RelV x v->Vals xs us->r x xs H Q ->
  wpAny (model X.prog X.w) X.A (call (.builtin id) (v::us)) (EP X pins σ Q) X.xe s
theorem Vals.one:∀{x:V}{us:List Value},Vals [x] us->∃u,us=[u]/\RelV x u
 |_,_,.cons r .nil=>⟨_,rfl,r⟩
theorem Vals.eraseIdx:∀{xs:List V}{us:List Value}(i:Nat),Vals xs us->Vals (xs.eraseIdx i) (us.eraseIdx i)
 |_,_,_,.nil=>.nil
 |_,_,0,.cons _ t=>t
 |_,_,i+1,.cons r t=>.cons r (Vals.eraseIdx i t)
theorem Vals.rep {xs:List V}{us:List Value}(h:Vals xs us):∀k:Nat,Vals (replicate k xs).flatten (replicate k us).flatten
 |0=>.nil
 |k+1=>by
  rw[replicate_succ,replicate_succ,flatten_cons,flatten_cons];exact Vals.append h (Vals.rep h k)
theorem oE {α:Type}:∀(l:List α) (i:Nat),(l.eraseIdx i).length<=l.length
 | [],_=>le_refl _
 |_::_,0=>le_succ _
 |_::r,i+1=>Nat.succ_le_succ (oE r i)
theorem foldl_rep (its:List Value):∀(k:Nat) (F:List Value),
  foldl (λG I=>G++I) F.toArray (replicate k its.toArray)=(F++(replicate k its).flatten).toArray
 |0,F=>by simp
 |k+1,F=>by
  have e:F.toArray++its.toArray=(F++its).toArray:=(by simp);have J:(F++its)++(replicate k its).flatten=F++(replicate (k+1) its).flatten:=by
   rw[replicate_succ,flatten_cons,append_assoc]
  rw[<-J, <-foldl_rep its k (F++its), <-e,replicate_succ,List.foldl_cons]
section
variable {X:Cx}{pins:List (Addr×Obj)}{σ:St}{H:Hp}{s:Shared}{l b:Addr}{xs ys zs:List V}
theorem Inv.B5 {its its':List Value}{n:Nat}{f:Array Value->Array Value}{t':Nat}(I:Inv X pins σ H s) (F:H l=some (.lst xs))
  (e:s.heap.get? l=some { cls:=.type "list",data:=.seq its.toArray n }) (J:f its.toArray=its'.toArray) (L:Vals ys its') (G:ys.length<=sizeLine) :
  Inv X pins σ (upd H l (.lst ys)) { s with heap:=s.heap.update l (Obj.mapSeq f),toks:=t' }:=by
 have q:=PySem.IsL.update e f;rw[J]at q;refine I.write (x:=l) (e:=l) (by rw[F];exact trivial) (.inl rfl) (λb' u N O=>(Heap.get?_update_other s.heap (Obj.mapSeq f) (Ne.symm N)).trans O) ⟨_,q⟩ ?_;exact⟨G,its',_,L,q⟩
theorem Inv.FY {its:List Value}{t':Nat}(I:Inv X pins σ H s) (G:Vals ys its) (F:ys.length<=sizeLine) :
  Inv X pins σ (upd H s.heap.objs.size (.lst ys)) { s with heap:=s.heap.push { cls:=.type "list",data:=.seq its.toArray },toks:=t' }:=
 I.laid (λ_ _ q=>Heap.get?_push_of_some _ q) (le_refl _) ⟨F,its,0,G,Heap.get?_push_size _ rfl⟩
theorem Inv.fresh (I:Inv X pins σ H s):H s.heap.objs.size=none:=I.bG.fresh (le_refl _)
theorem Inv.mq (I:Inv X pins σ H s) (F:H l=some (.lst xs)):xs.length<=sizeLine/\∃(its:List Value) (n:Nat),Vals xs its/\xs.length=its.length/\s.heap.get? l=some { cls:=.type "list",data:=.seq its.toArray n }:=by
 obtain⟨z,its,n,r,e⟩:=I.bG l _ F;exact⟨z,its,n,r,r.length,e⟩
theorem rC {n:Nat}(h:n<=sizeLine):Builtin.List.listTooLong n=false:=by
 unfold Builtin.List.listTooLong;exact decide_eq_false af
end
section
variable {X:Cx}
inductive we (x:V) (vs:List V) (H:Hp) (Q:VK):Prop
 |mk (l:_) (xs:_) (y:_) (_:x=.ref l) (_:vs=[y]) (_:H l=some (.lst xs)) (_:xs.length<sizeLine) (_:Q .non (upd H l (.lst (xs++[y])))):we x vs H Q
theorem iC:DB X "list.append" we:=by
 intro pins s σ H x vs v us Q I L N h;obtain⟨l,xs,y,rfl,rfl,G,O,q⟩:=h;cases L;obtain⟨u,rfl,J⟩:=N.one;obtain⟨z,its,n,r,R,e⟩:=I.mq G;refine call_meets F.slot_list_append ⟨_,e,rfl⟩ F.entry_list_append (F.args_list_append_2 _ _) (list_append l its.toArray n u (by rw[size_toArray];omega)) ⟨e,?_⟩;refine⟨.non,_,I.B5 (its':=its++[u]) G e (by simp) (r.append (.cons J .nil)) ?_,rfl,q⟩;rw[length_append,length_singleton];omega
inductive wu (x:V) (vs:List V) (H:Hp) (Q:VK):Prop
 |mk (l:_) (b:_) (xs:_) (zs:_) (_:x=.ref l) (_:vs=[.ref b]) (_:H l=some (.lst xs)) (_:H b=some (.lst zs)) (_:xs.length+zs.length<=sizeLine) (_:Q .non (upd H l (.lst (xs++zs)))):wu x vs H Q
theorem oy:DB X "list.extend" wu:=by
 intro pins s σ H x vs v us Q I Y U h;obtain⟨l,b,xs,zs,rfl,rfl,J,O,hz,q⟩:=h;cases Y;obtain⟨u,rfl,R⟩:=U.one;cases R;obtain⟨z,its,n,r,hl,e⟩:=I.mq J;obtain⟨z2,G,L,r2,ab,S⟩:=I.mq O;have hsz:its.toArray.size+G.toArray.size<=sizeLine:=(by rw[size_toArray,size_toArray];omega);have N:¬ (!its.toArray.isEmpty&&Builtin.List.listTooLong (its.toArray.size+G.toArray.size))=true:=by
  rw[rC hsz,Bool.and_false];exact Bool.false_ne_true
 refine call_meets F.slot_list_extend ⟨_,e,rfl⟩ F.entry_list_extend (F.args_list_extend_2 _ _)
  (AutoSeq1.list_extend_list_list_0 l its.toArray n b G.toArray L N (by rw[size_toArray];omega) af) ⟨e,S,?_⟩
 refine⟨.non,_,I.B5 (its':=its++G) J e (by simp) (r.append r2) ?_,rfl,q⟩;rw[length_append];omega
inductive zz (x:V) (vs:List V) (H:Hp) (Q:VK):Prop
 |mk (l:_) (xs:_) (i:_) (k:_) (y:_) (_:x=.ref l) (_:vs=[.int i]) (_:H l=some (.lst xs)) (_ : -(2^63)<=i) (_:i<2^63) (_:seqIndex? i xs.length=some k) (_:xs[k]?=some y) (_:Q y (upd H l (.lst (xs.eraseIdx k)))):zz x vs H Q
theorem zN:DB X "list.pop" zz:=by
 intro pins s σ H x vs v us Q I U Y h;obtain⟨l,xs,i,k,y,rfl,rfl,G,h1,h2,L,O,q⟩:=h;cases U;obtain⟨u,rfl,S⟩:=Y.one;obtain⟨t,rfl⟩:=S;obtain⟨z,its,n,r,R,e⟩:=I.mq G;obtain⟨w,N,J⟩:=r.get O;refine call_meets F.slot_list_pop ⟨_,e,rfl⟩ F.entry_list_pop (F.args_list_pop_2 _ _)
  (MeetsSeq.list_pop_at l its.toArray n i t k w (fitsIndex_both h1 h2) (by rw[size_toArray, <-R];exact L) (by rw[<-getElem?_toList];exact N) (by rw[size_toArray];omega)) ⟨e,?_⟩
 refine⟨y,_,I.B5 (its':=its.eraseIdx k) G e ?_ (r.eraseIdx k) ?_,J,q⟩
 .show its.toArray.eraseIdxIfInBounds k=(its.eraseIdx k).toArray;rw[List.eraseIdxIfInBounds_toArray]
 .have:=oE xs k;omega
inductive FZ (x:V) (y:V) (H:Hp) (Q:VK):Prop
 |mk (l:_) (b:_) (xs:_) (zs:_) (_:x=.ref l) (_:y=.ref b) (_:H l=some (.lst xs)) (_:H b=some (.lst zs)) (_:xs.length+zs.length<=sizeLine) (_:∀p,H p=none->Q (.ref p) (upd H p (.lst (xs++zs)))):FZ x y H Q
theorem vj:kB X (binaryOp .Add) FZ:=by
 intro pins s σ H x y v u Q I R J h;obtain⟨l,b,xs,zs,rfl,rfl,G,L,Y,q⟩:=h;cases R;cases J;obtain⟨z,its,n,r,hl,e⟩:=I.mq G;obtain⟨z2,F,n2,S,U,N⟩:=I.mq L;refine PySem.P.add_list e N ?_ (by rw[size_toArray,size_toArray];omega);have O:its.toArray++F.toArray=(its++F).toArray:=(by simp);rw[O];exact⟨.ref _,_,I.FY (t':=s.toks) (r.append S) (by rw[length_append];omega),rfl,q _ I.fresh⟩
inductive Fz (x:V) (y:V) (H:Hp) (Q:VK):Prop
 |mk (l:_) (k:_) (xs:_) (_:x=.ref l) (_:y=.int k) (_:H l=some (.lst xs)) (_ : -(2^63)<=k) (_:k<2^63) (_:xs.length*k.toNat<=sizeLine) (_:∀p,H p=none->Q (.ref p) (upd H p (.lst (replicate k.toNat xs).flatten))):Fz x y H Q
theorem len_rep {α:Type}(xs:List α) (k:Nat):(replicate k xs).flatten.length=k*xs.length:=by
 induction k with
 |zero=>simp
 |succ k F=>rw[replicate_succ,flatten_cons,length_append,F,Nat.succ_mul,Nat.add_comm]
theorem iQ:kB X (binaryOp .Mult) Fz:=by
 intro pins s σ H x y v u Q I R N h;obtain⟨l,k,xs,rfl,rfl,Y,h1,h2,L,q⟩:=h;cases R;obtain⟨t,rfl⟩:=N;obtain⟨z,its,n,r,hl,e⟩:=I.mq Y;have O:its.toArray.size*k.toNat<=sizeLine:=(by rw[size_toArray, <-hl];exact L);have ac:¬ its.toArray.size*k.toNat>(2^63-1)/8:=by
  have:(sizeLine:Nat)<=(2^63-1)/8:=av;omega
 have ad:¬ (!Builtin.List.listFitsIndex k)=true:=by
  rw[fitsIndex_both h1 h2];exact Bool.false_ne_true
 have S:¬ Builtin.List.listTooLong (its.toArray.size*k.toNat)=true:=by
  rw[rC O];exact Bool.false_ne_true
 have ab:foldl (λG J=>G++J) #[] (replicate (if its.toArray.isEmpty=true then 0 else k.toNat) its.toArray)=(replicate k.toNat its).flatten.toArray:=by
  have f0:∀m:Nat,foldl (λG J=>G++J) #[] (replicate m its.toArray)=(replicate m its).flatten.toArray:=λm=>by
   have:=foldl_rep its m [];rw[List.nil_append]at this;exact this
  rw[f0];cases its with
  |nil=>simp
  |cons a r'=>rw[if_neg (by simp)]
 refine wpAny_binaryOp_repeat_ref (T := "list") (U := "int") av ⟨_,e,rfl⟩ (λs'=>typeIs_int s' k t) noFill_list_mul F.fills_int_mul F.slot_int_rmul repeat_list F.slot_int_index.lookup
  (call_meets F.slot_int_rmul (typeIs_int s k t) F.entry_int_rmul (F.args_int_rmul_2 _ _) (int___rmul___int_list k t l its.toArray n)
   ⟨e,rfl,⟨_,e,rfl⟩,call_meets F.slot_list_mul ⟨_,e,rfl⟩ F.entry_list_mul (F.args_list_mul_2 _ _) (AutoListH.list___mul___list_int_3 l its.toArray n k t ad ac S) ⟨e,?_⟩⟩)
 rw[ab];exact⟨.ref _,_,I.FY (t':=s.toks) (r.rep k.toNat) (by rw[len_rep,Nat.mul_comm];exact L),rfl,q _ I.fresh⟩
end
section
variable {prog:Program}{w:World}{A:Around}{E:Value->Shared->Prop}{s:Shared}
end
section
variable {X:Cx}
end
end L2
namespace Att
open PySem PySem.W PySem.Calls PyProof.Rows
theorem kM {P:Params}{h:Heap}:∀(ns:List Int) (vs:List Value),WellAll P h vs (ns.map WData.int)->IntsAre vs ns:=by
 intro ns
 induction ns with
 |nil =>
  intro vs w;rw[map_nil]at w;cases w;exact .nil
 |cons n ns F =>
  intro vs w;rw[map_cons]at w;cases w with
  |cons a b =>
   cases a;exact .cons _ _ (F _ b)
theorem xM {l:OpenLaw}{n:Nat}(hn:l.most=some n) {P:Params}{h:Heap}{args:List WData}{L:List Value}
  (I:l.row.toRowW.claim.pre args=true) (Y:WellAll P h L args) :
  ∃a vs ns,L=[Value.ref a]/\args=[WData.list (ns.map WData.int)]/\h.get? a=some { cls:=.type "list",data:=.seq vs.toArray }/\IntsAre vs ns/\ns.length<=n:=by
 have R:WShape.hasAll [] args [.list .int]=true:=(pre_splitW I).1;have J:l.pre.holds [] { args:=args }=true:=(pre_splitW I).2;obtain⟨d,r,rfl,h1,h2⟩:=hasAllW_cons R;obtain rfl:=hasAllW_nil h2;obtain⟨xs,rfl,U⟩:=hasW_list h1;obtain⟨ns,rfl⟩:=items_int U;have ab:ns.length<=n:=by
  unfold OpenLaw.pre at J;have F:(WTm.not (.lt (.lit (.int (n:Int))) (.len (.arg 0)))).holds [] { args:=[.list (ns.map .int)] }=true:=by
   have F:=(holds_andW J).1;rw[hn]at F;exact F
  have G:=condW_of F (w_not (w_lt w_lit (w_len_list (w_arg rfl))));rw[length_map]at G;refine Nat.le_of_not_lt λq=>?_;have N:(n:Int)<((ns.length:Nat):Int):=af
  first
   |(rw[decide_eq_true N]at G;exact absurd G av)
   |(simp at G;omega)
 cases Y with
 |cons S w2 =>
  cases w2;cases S with
  |list ho O=>exact⟨_,_,ns,rfl,rfl,ho,kM ns _ O,ab⟩
theorem xg (l:OpenLaw) (args:List WData):l.row.toRowW.claim.post args (.bool true) args=true :=
 postW_of (r:=l.row.toRowW) (X:=(true==true))
  (show WShape.has [] (.bool true) .bool=true by first|rfl|decide|simp[WShape.has,WShape.arms,WShape.armsAll])
  (show(WTm.eq .res (.lit (.bool true))).value [] { args:=args,res:=some (.bool true),after:=args }=some (.bool (true==true))from w_eq_bool (w_res rfl) w_lit) rfl
theorem sC {l:OpenLaw}{n:Nat}{q:Program}{loose:List Str}{R:(Str->Option Value)->Heap->Prop}{O:World->Heap->Prop}{d:DefRec}
  (hn:l.most=some n) (aT:d.params.defaults=[])
  (call:∀(w:World) (s₀ F:Shared) (mg L:Str->Option Value) (I:Addr) (o:Obj) (pm cd J:Value) (a:Addr) (vs:List Value) (ns:List Int),
   Ground q loose [] R w s₀ mg L F.heap->O w F.heap ->
   F.heap.get? I=some o->o.data=.func (docDef d.name d.params d.body d.scope pm cd J)->F.heap.CodeRec cd d.name->mg d.name=some (.ref I) ->
   F.heap.get? a=some { cls:=.type "list",data:=.seq vs.toArray }->IntsAre vs ns->ns.length<=n->F.gens = #[] ->
   codeAny (model l.prog w) callerA (.call (.ref I) ⟨[.ref a],[]⟩) (λr s'=>r=.ok (.ret (.bool true))/\OldK F.heap s'.heap/\s'.os=F.os/\AllBare s'.gens) F) :
  WalkO q loose R O l.row.toRowW d [] (λf vs=>PySem.call f vs):=by
 intro w s₀ F mg L G Y I o pm cd J dV kV ho hd U N aB hg args a0 as ab a1 a3 ac a2;obtain rfl:dV=.none:=Dflts.none N aT;obtain rfl:kV=.none:=Dflts.noKw N;obtain⟨a,vs,ns,rfl,rfl,am,ap,ad⟩:=xM hn ab ac;refine enter_call (codeAny_mono (call w s₀ F mg L I o pm cd J a vs ns G Y ho (fd_plain hd) U aB am ap ad hg) λr s' hq=>?_);obtain⟨rfl,h2,h3,h4⟩:=hq;exact⟨.inl ⟨.bool true,.bool true,[],rfl,λ_=>rfl,.bool true,xg l _,λ_=>⟨List.Pairwise.nil,λ_ S=>(nomatch S)⟩⟩,h2,h3,h4⟩
section
variable {prog:Program}{w:World}{A:Around}{E:Value->Shared->Prop}{s:Shared}{K:Frag}
end
end Att
namespace L2
open PySem PySem.Spec PyProof.Rows
theorem iB:∀{vs:List Value}{ns:List Int},IntsAre vs ns->Vals (ns.map V.int) vs
 |_,_,.nil=>.nil
 |_,_,.cons n t h=>.cons ⟨t,rfl⟩ (iB h)
def DP (H:Hp):Prop:=∀b,H b=none\/∃o xs,H b=some (.frz o (.lst xs))
theorem zy {P:Program}{w:World}{K:Frag}{mg U:Str->Option Value}{CX:wy}{k:Nat}{R a:Addr}{fd:FuncData}{x:Str}{sp:Sp}{G:Shared}{vs:List Value}{ns:List Int}
  (KX:K.In G.heap) (ab:G.heap.Ns mainGlobals mg) (I:G.heap.Ns builtinsNs U) (aT:∀x:Str,x ≠ "__name__" -> U x=bootBuiltins x) (am:G.heap.NoLimit) (hg:G.gens = #[])
  (N:G.heap.get? a=some { cls:=.type "list",data:=.seq vs.toArray }) (hi:IntsAre vs ns) (hl:ns.length<=sizeLine) (hr:dA k callerA)
  (F:∀base:Heap,K.In base->base.Ns mainGlobals mg->bf P w K mg base CX k R fd [x] sp) (ap:∀(s:Shared) (u:Value),BindsTo s fd ⟨[u],[]⟩ [(x,u)])
  (as:∀H:Hp,DP H->bq K H a (ns.map V.int)->sp [.ref a] H (λv _=>v=.bl true) λ_ _ _=>False)
  (a3:∀H e s',CX [] H G (λ_ _ _=>False) e s'->False) :
  codeAny (model P w) callerA (.call (.ref R) ⟨[.ref a],[]⟩) (λr s'=>r=.ok (.ret (.bool true))/\OldK G.heap s'.heap/\s'.os=G.os/\AllBare s'.gens) G:=by
 have rv:=iB hi;have a2:=hi.length;have ad:∀H:Hp,DP H->bq K H a (ns.map V.int)->iZ P w H G.heap->(∀b,H b≠none->b=a)->(H a≠none->K.lookup a=none) ->
   codeAny (model P w) callerA (.call (.ref R) ⟨[.ref a],[]⟩) (λr s'=>r=.ok (.ret (.bool true))/\OldK G.heap s'.heap/\s'.os=G.os/\AllBare s'.gens) G:=by
  intro H hO hS bG hA hK;have Y:∀{b:Addr}{o:Obj},G.heap.get? b=some o->H b=none->(qL G.heap H).get? b=some o:=λe n=>yw e n;have aB:∀{b:Addr}{o:Obj}{es:Array DictEntry}{ep:Nat},G.heap.get? b=some o->o.data=.dict es ep->H b=none:=λ{b o es ep} e d=>by
   cases q:H b with
   |none=>rfl
   |some u =>
    have O:b=a:=hA b (by rw[q];simp);subst O;rw[N]at e;cases e;have d':Data.seq vs.toArray _=Data.dict es ep:=d;cases d'
  have L:∀{b:Addr}{m:Str->Option Value},G.heap.Ns b m->(qL G.heap H).Ns b m:=λ{b m} a0=>(by obtain⟨o,es,ep,e,d,r⟩:=a0;exact⟨o,es,ep,Y e (aB e d),d,r⟩);have ac:K.In (qL G.heap H):=λb o e=>Y (KX b o e) (by
   cases q:H b with
   |none=>rfl
   |some u =>
    have O:b=a:=hA b (by rw[q];simp);subst O;rw[hK (by rw[q];simp)]at e;cases e)
  have hM:Mod K mg (qL G.heap H):=⟨ac,L ab,⟨U,L I,aT⟩,let ⟨mc,h1,h2⟩:=am;⟨mc,L h1,h2⟩⟩;have e0:tP P w K mg (qL G.heap H) callerA [] G H:=⟨rfl,hM,λb o e=>AK e,Nat.le_of_eq (xi _ _),trivial,λb I=>absurd (show b∈([]:List Addr)from I) (by simp),bG,.of_eq hg⟩;refine codeAny_mono ((F _ ac (L ab)).run callerA [] G H ⟨[.ref a],[]⟩ [.ref a] [.ref a] _ _ hr e0 (ap G (.ref a)) (.cons rfl .nil) (as H hO hS)) λr s' h=>?_;cases r with
  |error e=>exact(a3 H e s' h).elim
  |ok fl =>
   cases fl with
   |next=>exact False.elim h
   |brk=>exact False.elim h
   |cont=>exact False.elim h
   |ret u =>
    obtain⟨v,H',os,bare,un,a1,r',q⟩:=h;have q':v=.bl true:=q;subst q';obtain rfl:u=Value.bool true:=r';refine⟨rfl,OldK.of_keep λb o e=>?_,os,bare⟩;cases q:H b with
    |none=>exact un.keep b o e q (by intro z;exact absurd (show b∈([]:List Addr)from z) (by simp)) (by simp)
    |some u =>
     rcases hO b with z|⟨ob,xs,z⟩
     .rw[q]at z;cases z
     .have z2:=un.nr b ob _ z;obtain⟨e1,_⟩:=bG b _ z;obtain⟨e2,_⟩:=a1 b _ z2;rw[e]at e1;cases e1;exact e2
 cases S:K.lookup a with
 |some o =>
  have e:=KX a o S;rw[N]at e;cases e;refine ad (λ_=>none) (λ_=>.inl rfl) (.inr ⟨_,vs.toArray,_,S,rfl,rfl,rfl,by rw[size_toArray,a2];exact hl,by simpa using rv⟩) (λb u z=>by have J:(none:Option HO)=some u:=z;cases J) (λb z=>absurd rfl z) λz=>absurd rfl z
 |none =>
  refine ad (λb=>if b=a then some (.frz { cls:=.type "list",data:=.seq vs.toArray } (.lst (ns.map V.int)))else none) (λb=>?_) (.inl (.inr ⟨{ cls:=.type "list",data:=.seq vs.toArray },if_pos rfl⟩)) (λb u z=>?_) (λb z=>?_) λ_=>S
  .by_cases I:b=a
   .exact .inr ⟨_,_,if_pos I⟩
   .exact .inl (if_neg I)
  .by_cases I:b=a
   .have J:=(if_pos I).symm.trans z;cases J;subst I;exact⟨N,by rw[length_map];exact hl,vs,_,rv,N⟩
   .have J:=(if_neg I).symm.trans z;cases J
  .by_cases I:b=a
   .exact I
   .exact absurd (if_neg I) z
theorem BP {l:PySem.W.OpenLaw}{n k:Nat}{q:Program}{loose:List Str}{XP:(Str->Option Value)->Heap->Prop}{N:World->Heap->Prop}{d:DefRec}{K:Params->Frag}{CX:World->wy}{sp:World->Sp}{x:Str}
  (hn:l.most=some n) (R:n<=sizeLine) (ap:d.params.defaults=[]) (hr:dA k callerA)
  (O:∀(w:World) (h:Heap),N w h->(K w.params).In h)
  (F:∀(w:World) (mg:Str->Option Value) (I:Addr) (h:Heap),(K w.params).In h->h.Ns mainGlobals mg->mg d.name=some (.ref I) ->
   ∃fd:FuncData,(∀(s:Shared) (u:Value),BindsTo s fd ⟨[u],[]⟩ [(x,u)]) /\
    ∀base:Heap,(K w.params).In base->base.Ns mainGlobals mg->bf l.prog w (K w.params) mg base (CX w) k I fd [x] (sp w))
  (ac:∀(w:World) (H:Hp) (a:Addr) (ns:List Int),ns.length<=n->DP H->bq (K w.params) H a (ns.map V.int)->sp w [.ref a] H (λv _=>v=.bl true) λ_ _ _=>False)
  (as:∀(w:World) (H:Hp) (s:Shared) (e:Value) (s':Shared),CX w [] H s (λ_ _ _=>False) e s'->False) :
  PySem.W.WalkO q loose XP N l.row.toRowW d [] (λf vs=>PySem.call f vs):=by
 refine Att.sC hn ap λw s₀ S mg mb I o pm cd aT a vs ns G Y ho hd aB am ab ad L hg=>?_;have J:=O w _ Y;obtain⟨fd,hb,hF⟩:=F w mg I _ J G.T.g am;exact zy J G.T.g G.T.b G.T.builtins G.T.nolimit hg ab ad (le_trans L R) hr hF hb (λH hO U=>ac w H a ns L hO U) λH e s'=>as w H S e s'
def inClass (s:Stmt) (j:Nat):Stmt:=match s with
 |.ClassDef _ _ _ body _ _ _ _ _ _ _=>body.getD j (.Pass ⟨0,0,0,0⟩)
 |_=>.Pass ⟨0,0,0,0⟩
def fB (s:Stmt):Arguments:=match s with
 |.FunctionDef _ a _ _ _ _ _ _ _ _=>a
 |_=>{ posonlyargs:=[],args:=[],vararg:=none,kwonlyargs:=[],kw_defaults:=[],kwarg:=none,defaults:=[] }
def eK (s:Stmt):List Stmt:=match s with
 |.FunctionDef _ _ b _ _ _ _ _ _ _=>b
 |_=>[]
def aq (s:Stmt):Scope:=match s with
 |.FunctionDef _ _ _ _ _ _ F _ _ _=>F
 |_=>{ kind:=.function,names:=[],isGenerator:=false,isCoroutine:=false }
abbrev aU:wy:=λ_ _ _ _ _ _=>False
abbrev E0:XK:=λ_ _ _=>False
theorem aw {X:Cx}:Passes aU X E0:=λ_ _ _ _ _ _ _ h=>h.elim
structure cL (K:Frag) (x qual:Str) (st:Stmt) (f:Addr) (fd:FuncData):Prop where
 ex:∃(oc:Value) (od:Option Addr) (kV doc pm:Value) (an:Option Addr) (cdv ct:Value) (osl:Array (Option Value)),
  fd=fnOf x qual (fB st) (eK st) (aq st) .none kV doc pm an cdv ct/\K.lookup f=some ⟨oc,od,.func fd,osl⟩/\codeIn K cdv qual=true
 kp:keepIn K (.ref f)=true
section
variable {P:Program}{w:World}{K:Frag}{mg:Str->Option Value}{base:Heap}
theorem cL.ok {x I:Str}{st:Stmt}{f:Addr}{fd:FuncData}{N ps:List Str}{k:Nat}{sp:Sp}(F:cL K x I st f fd) (S:az N ps (aq st)) (len:∀vs H Q E,sp vs H Q E->vs.length=ps.length)
  (U:∀(G:Value) (A:Around) (outer:List Env) (s:Shared) (H:Hp) (vs:List V) (Q:VK) (E:XK),dA k (A.deeper (envOfC I (aq st) s.heap.objs.size f G))->sp vs H Q E ->
   ∃t,vG (xQ aU P w K mg base N I (aq st) f G A outer s H E).CQ (eK st) t/\t { nx:=λ_ H'=>Q .non H',rt:=Q } (start N vs) H):bf P w K mg base aU (k+1) f fd ps sp:=by
 obtain⟨oc,od,kV,ab,pm,an,G,ct,Y,rfl,R,J⟩:=F.ex;refine FX R J S len λA outer s H vs Q E O L=>?_;obtain⟨t,h,q⟩:=U G A outer s H vs Q E O L;exact⟨t,h.CQ,q⟩
theorem cL.binds {x J:Str}{st:Stmt}{f:Addr}{fd:FuncData}{ps:List Str}(F:cL K x J st f fd)
  (h:∀(kV G pm:Value) (an:Option Addr) (I ct:Value) (us:List Value),us.length=ps.length->bindArgs (fnOf x J (fB st) (eK st) (aq st) .none kV G pm an I ct) ⟨us,[]⟩=pure (ps.zip us)):Binds K fd ps []:=by
 obtain⟨oc,od,kV,G,pm,an,I,ct,N,rfl,O,L⟩:=F.ex;exact .all (h kV G pm an I ct)
theorem qf {x G:Str}{st:Stmt}{f:Addr}{oc:Value}{od an:Option Addr}{J:Array (Option Value)}{kV I pm F ct:Value}(l:K.lookup f=some ⟨oc,od,.func (fnOf x G (fB st) (eK st) (aq st) .none kV I pm an F ct),J⟩)
  (c:codeIn K F G=true) (k:keepIn K (.ref f)=true):cL K x G st f (fnOf x G (fB st) (eK st) (aq st) .none kV I pm an F ct):=⟨⟨oc,od,kV,I,pm,an,F,ct,J,rfl,l,c⟩,k⟩
end
theorem bj {A:Around}{k:Nat}(F:dA k A):A.units+1<cLine:=Nat.lt_of_le_of_lt (Nat.add_le_add_left (by decide:1<=64) _) F.units
section
variable {X:Cx}
theorem pv (i:Nat) {x:Str}{pos:Pos}(G:X.N[i]?=some x:=by rfl) (I:Gn X.env.scope x:=by first|exact Or.inl rfl|exact Or.inr (Or.inl rfl)|exact Or.inr (Or.inr rfl)) (hd:(x==("__debug__" : Str))=false:=by decide)
  (F:(x==("__classdict__" : Str))=false:=by decide):PE X (.Name x pos) (Br i):=Ei G I hd F
end
theorem bw {A B:Prop}(h:B):if false=true then A else B:=by
 rw[if_neg Bool.false_ne_true];exact h
theorem dG {A B:Prop}(h:A):if true=true then A else B:=by
 rw[if_pos rfl];exact h
theorem iM {c A B:Prop} [Decidable c] (h1:c->A) (h2:¬ c->B):if c then A else B:=by
 by_cases h:c
 .rw[if_pos h];exact h1 h
 .rw[if_neg h];exact h2 h
def a8 (H H':Hp):Prop:=∀b o,H b=some o->H' b=some o
theorem a8.refl (H:Hp):a8 H H:=λ_ _ h=>h
theorem a8.trans {H H1 H2:Hp}(a:a8 H H1) (b:a8 H1 H2):a8 H H2:=λc o h=>b c o (a c o h)
theorem a8.free {H H':Hp}(e:a8 H H') {l:Addr}(h:H' l=Option.none):H l=Option.none:=by
 cases q:H l with
 |none=>rfl
 |some o =>
  rw[e l o q]at h;cases h
def qh (X:Cx) (F:List Str) (scope:Scope) (cl:List (Str×Addr)) (C:Addr) (s₀:Shared) (H₀:Hp) (ex:List Addr):Cx where
 prog:=X.prog
 w:=X.w
 K:=X.K
 mg:=X.mg
 base:=X.base
 A:=X.A
 N:=F
 s₀:=s₀
 H₀:=H₀
 env:=compEnvC scope cl C X.env
 outer:=X.stack
 stack:=X.stack
 ex:=ex
 fn:=λ_=>false
 calm:=X.calm
 pn:=[]
 xe:=λ_ _=>False
def gc (t:Str) (caps:List (Str×Nat)):List Str:=t::caps.map (·.1)
def fM (caps:List (Str×Nat)) (σ:St) (v:Option V):St:=v::caps.map λp=>(σ[p.2]?).join
structure jM (X:Cx) (scope:Scope) (cl:List (Str×Addr)) (t:Str) (caps:List (Str×Nat)):Prop where
 kind:scope.kind=.function
 CU:∀y∈scope.names,y.2≠.cell
 names:∀y∈scope.names,y.2=.local->scope.names.lookup y.1=some .local
 IS:scope.names.lookup t=some .local
 E5:closureFor scope X.env=pure cl
 sub:∀p∈cl,X.env.cells.lookup p.1=some p.2
 has:((relabel scope X.env).names.all λy => !(y.2 == .cell||y.2 == .free)||(cl.lookup y.1).isSome)=true
 Jm:∀p∈caps,X.N[p.2]?=some p.1/\(X.env.kindOf p.1=some .cell\/X.env.kindOf p.1=some .free)/\((relabel scope X.env).names.lookup p.1=some .cell\/(relabel scope X.env).names.lookup p.1=some .free)
 nd:(gc t caps).Nodup
section
variable {X:Cx}{scope:Scope}{cl:List (Str×Addr)}{t:Str}{caps:List (Str×Nat)}{pins:List (Addr×Obj)}{σ:St}{H:Hp}{s:Shared}{C:Addr}{fp:List Addr}
theorem jM.look (K:jM X scope cl t caps) {x:Str}{c:Addr}(h:cl.lookup x=some c):X.env.cells.lookup x=some c:=K.sub (x,c) (PySem.mem_of_lookup h)
theorem jM.hs (K:jM X scope cl t caps) {x:Str}(h:(relabel scope X.env).names.lookup x=some .cell\/(relabel scope X.env).names.lookup x=some .free):∃c,cl.lookup x=some c:=by
 have F:∀k,(relabel scope X.env).names.lookup x=some k->(k==NameKind.cell||k==NameKind.free)=true->∃c,cl.lookup x=some c:=λk e G=>by
  have:=List.all_eq_true.mp K.has (x,k) (PySem.mem_of_lookup e);dsimp only at this;rw[G]at this;exact Option.isSome_iff_exists.mp (by simpa using this)
 rcases h with h|h
 .exact F _ h rfl
 .exact F _ h rfl
theorem IQ (I:Inv X pins σ H s) (K:jM X scope cl t caps) (G:∀b∈fp,ff X pins H b) (N:∀b∈fp,b<s.heap.objs.size) (J:s.heap.objs.size<=C):(qh X (gc t caps) scope cl C s H fp).Ok where
 mod:=I.ok.mod
 kind:=K.kind
 glob:=I.ok.glob
 blt:=I.ok.blt
 above:=J
 inj:=λx y c h1 h2=>I.ok.inj x y c (K.look h1) (K.look h2)
 has:=λx O=>K.hs O
 Ew:=λx c h=>nomatch (show false=true from h)
 hd:=I.ok.hd
 frames:=I.ok.frames
 Fu:=.inl rfl
 HQ:=λb F=>⟨ne_of_lt (lt_of_lt_of_le (N b F) J),λx c e=>(G b F).2.2.2.2.1 x c (K.look e)⟩
 bs:=I.bs
 AG:=le_trans I.ok.AG I.sz
 wU:=λb o e F=>by
  rcases(G b F).2.2.2.1 with z|z
  .exact I.ok.wU b o e z
  .exact absurd (lt_of_lt_of_le (Heap.lt_size e) (le_trans I.ok.AG z)) (lt_irrefl _)
 xu:=λb F L=>by
  rcases List.mem_cons.mp (I.qD b L)with e|e
  .exact(G b F).2.1 e
  .exact(G b F).2.2.1 e
 kr:=I.stack
 Cs:=I.wj
theorem Iw {L:Heap}{m:Str->Option Value}{tk:Nat}(I:Inv X pins σ H s) (K:jM X scope cl t caps) (hf:∀b∈fp,ff X pins H b) (ho:∀b∈fp,b<s.heap.objs.size) (S:s.heap.objs.size<=C)
  (O:∀b o,s.heap.get? b=some o->L.get? b=some o) (ns:L.Ns C m):Inv (qh X (gc t caps) scope cl C s H fp) [] (fM caps σ none) H { s with heap:=L,toks:=tk }:=by
 have U:∀c v,s.heap.IsCell c v->L.IsCell c v:=λc v am=>(by obtain⟨o,e,d⟩:=am;exact⟨o,O c o e,d⟩);refine⟨IQ I K hf ho S,rfl,I.bare,Un.kept O,⟨m,ns,λi x v e1 e2 e3=>?_⟩,λx c e=>?_,I.bG.fresh S,λx c e=>I.gF x c (K.look e),λp F=>absurd (show p∈([]:List (Addr×Obj))from F) (by simp),I.bG.kept O,by simp[fM,gc,qh]⟩
 .cases i with
  |zero =>
   have G:some (none:Option V)=some (some v):=e2;cases G
  |succ j =>
   have J:(caps.map (·.1))[j]?=some x:=e1;have G:(caps.map λp=>(σ[p.2]?).join)[j]?=some (some v):=e2;rw[getElem?_map]at J G;cases F:caps[j]? with
   |none=>rw[F]at J;cases J
   |some p =>
    rw[F]at J G;have ex:p.1=x:=Option.some.inj J;have N:(σ[p.2]?).join=some v:=Option.some.inj G;have ad:σ[p.2]?=some (some v):=by
     cases q:σ[p.2]? with
     |none=>rw[q]at N;cases N
     |some z=>rw[q]at N;exact congrArg some N
    obtain⟨hN,R,Y⟩:=K.Jm p (mem_of_getElem? F);subst ex;obtain⟨m',_,hl⟩:=I.loc;have ac:Gn X.env.scope p.1:=by
     rcases R with z|z
     .exact .inr (.inl z)
     .exact .inr (.inr z)
    obtain⟨u,r,l⟩:=hl p.2 p.1 v hN ad ac;obtain⟨c,hc⟩:=K.hs Y;rcases l with⟨z,_⟩|⟨_,c',ab,ap⟩
    .rcases R with y|y<;>(rw[y]at z;cases z)
    .rw[K.look hc]at ab;cases ab;exact⟨u,r,.inr ⟨Y,c,hc,U c _ ap⟩⟩
 .obtain⟨v,z⟩:=I.cell x c (K.look e);exact⟨v,U c v z⟩
theorem Inv.Fe {D:Addr}{ys:List V}{its:List Value}{n:Nat}(I:Inv X pins σ H s) (f:ff X pins H D) (e:s.heap.get? D=some { cls:=.type "list",data:=.seq its.toArray n }) (r:Vals ys its) (O:ys.length<=sizeLine) :
  Inv X pins σ (upd H D (.lst ys)) s:=by
 obtain⟨G,U,Y,N,R,L⟩:=f;obtain⟨S,g,d,tk,os⟩:=s;refine I.step (g':=g) (d':=d) (t':=tk) (h':=S) (ch:=[D]) (λb F=>?_) (λb o _ _ _ e _=>e) (λb o _ _ _ e _=>⟨o.slots,e⟩) (λb o F _ n=>?_) (λb o _ e=>⟨o,e⟩) (λb xs q=>?_) (λb o u q=>?_) (λb ps q=>⟨#[],?_⟩) (λm J=>J) (λb u q=>?_) I.bare
 .have z:b=D:=(by simpa using F);subst z;exact⟨N,U,R,L⟩
 .rw[ah (λz=>F (by simp[z]))];exact n
 .rw[ah (ar q G)];exact q
 .rw[ah (ar q G)];exact q
 .rw[ah (ar q G),q];simp
 .by_cases F:b=D
  .subst F;rw[ae]at q;cases q;exact⟨O,its,n,r,e⟩
  .rw[ah F]at q;exact(I.bG b u q).qz (λ_ _ _ z=>z) (λc z=>by rw[ah (ar z G)];exact z) λc xs z=>by rw[ah (ar z G)];exact z
end
def Gr (X:Cx) (ifs:List Expr) (t:TT):Prop :=
 ∀(pins:List (Addr×Obj)) (s:Shared) (σ:St) (H:Hp) (Q:Bool->Hp->Prop),Inv X pins σ H s->t σ H Q ->
  wpAny (model X.prog X.w) X.A (forIn ifs true λc r=>if r=true then do let ok <-isTrue c X.env (eval c X.env);pure (ForInStep.yield ok)else pure (ForInStep.yield r)) (TP X pins σ Q) X.xe s
def m4:TT:=λ_ H Q=>Q true H
theorem fm {X:Cx}:Gr X [] m4:=λ_ _ _ H _ I h=>wpAny_tests_nil ⟨H,I,h⟩
def gQ (caps:List (Str×Nat)) (tt:TT) (te:TE) (σ:St) (J:It) (Q:List V->Hp->Prop) (W:Nat->Nat->List V->Hp->Prop):Prop :=
 ∀i m ys H,W i m ys H->(J.stop i H/\Q ys H)\/(J.go i H/\∃N:List V->Hp->Prop,(∀G H',N G H'->∃F,F<m/\W (i+1) F G H')/\∀x H',J.AJ i H x H'->tt (fM caps σ (some x)) H' λb H2 =>
  if b=true then te (fM caps σ (some x)) H2 (λy I=>ys.length<sizeLine/\N (ys++[y]) I)else N ys H2)
def Cm (caps:List (Str×Nat)) (wi:TI) (tt:TT) (te:TE):TE:=λσ H Q=>wi σ H λJ H1 =>
 ∃W:Nat->Nat->List V->Hp->Prop,(∃m,W 0 m [] H1)/\gQ caps tt te σ J (λys H2=>∀p,H2 p=none->Q (.ref p) (upd H2 p (.lst ys))) W
section
variable {X:Cx}{scope:Scope}{cl:List (Str×Addr)}{t:Str}{caps:List (Str×Nat)}{elt iter:Expr}{ifs:List Expr}{px pos:Pos}{wi:TI}{tt:TT}{te:TE}
theorem mR {pins:List (Addr×Obj)}{σ:St}{H:Hp}{s:Shared}{J:It}{fp:List Addr}{it:Addr}{Y:Nat->Heap->Prop}{W:Nat->Nat->List V->Hp->Prop}{QE:List V->Hp->Prop}{E:Value->Shared->Prop}{RR:Value->Addr->Result->Shared->Prop}{m0:Nat}
  (K:jM X scope cl t caps) (hc:X.calm=true)
  (ht:∀C s₀ H₀ ex,Gr (qh X (gc t caps) scope cl C s₀ H₀ ex) ifs tt) (he:∀C s₀ H₀ ex,PE (qh X (gc t caps) scope cl C s₀ H₀ ex) elt te)
  (I:Inv X pins σ H s) (T:Turn X.prog X.w X.K (.Name t px) J fp it Y) (st:Y 0 s.heap) (S:∀b∈fp,ff X pins H b) (w0:W 0 m0 [] H) (hW:gQ caps tt te σ J QE W)
  (b2:∀D C ys H' s' m,H' D=none->Inv X pins σ (upd H' D (.lst ys)) s'->s'.heap.Ns C m->ff X pins (upd H' D (.lst ys)) C->QE ys H'->RR (.ref D) C (.ok .next) s') :
  wpAny (model X.prog X.w) X.A (newList []) (λbm ab=>wpAny (model X.prog X.w) X.A (newFunctionEnv scope X.env.globals cl [] X.env.qual none .none (some X.env)) (λbe b7 =>
   codeAny (model X.prog X.w) X.A (.compStart (.ListComp elt [⟨.Name t px,iter,ifs,0⟩] scope pos) 0 (.ref it) bm { be with scope:=relabel scope X.env }) (RR bm be.locals) b7) E ab) E s:=by
 refine wpAny_newObj_type (wpAny_newFunctionEnv K.CU (by intro y hy;simp at hy) (λap as am=>?_) K.kind);dsimp only at as am ⊢;generalize aB:s.heap.push { cls:=.type "list",dict:=none,data:=.seq ([]:List Value).toArray }=H2 at as am ⊢;have hC:H2.objs.size=s.heap.objs.size+1:=(by rw[<-aB,Heap.size_push]);have ad:s.heap.objs.size≠H2.objs.size:=(by rw[hC];exact ne_of_lt (Nat.lt_succ_self _));have a5:s.heap.objs.size<=H2.objs.size:=(by rw[hC];exact le_succ _);have below:∀b,b<s.heap.objs.size->b≠H2.objs.size:=λb G=>(by rw[hC];exact ne_of_lt (lt_succ_of_lt G));have bl:∀b o,s.heap.get? b=some o->ap.get? b=some o:=λb o e=>am.extBut b o (below b (Heap.lt_size e)) (Heap.get?_push_of_some _ (aB▸Heap.get?_push_of_some _ e));have b9:ap.get? s.heap.objs.size=some { cls:=.type "list",data:=.seq ([]:List Value).toArray }:=am.extBut _ _ ad (Heap.get?_push_of_some _ (aB▸Heap.get?_push_size _ rfl));have ho:∀b∈fp,b<s.heap.objs.size:=λb G=>let ⟨_,e,_⟩:=T.obj 0 _ st b G;Heap.lt_size e;have bb:s.heap.objs.size∉fp:=λhm=>lt_irrefl _ (ho _ hm);have bd:Y 0 ap:=T.keep 0 _ _ st λb _ o e=>bl b o e;have bz:s.heap.objs.size∉yc X.stack:=λz=>by
  rcases List.mem_cons.mp (I.qD _ z)with e|e
  .exact absurd (e▸I.lt) (lt_irrefl _)
  .exact I.EW (le_refl _) e
 have ca:∀x c,cl.lookup x=some c->c≠s.heap.objs.size:=λx c e z=>by
  obtain⟨v,q⟩:=I.cell x c (K.look e);exact absurd (z▸q.lt) (lt_irrefl _)
 have a6:∀{pl:List (Addr×Obj)}{HC:Hp},(∀b∈fp,HC b=none)->(∀p∈pl,p.1∉fp)->∀b∈fp,ff (qh X (gc t caps) scope cl H2.objs.size s H fp) pl HC b:=λ{pl HC} hn R b G =>
  ⟨hn b G,below b (ho b G),(IQ I K S ho a5).xu b G,.inl G,λx c e=>(S b G).2.2.2.2.1 x c (K.look e),λp b6 z=>by
   have bx:p∈pl:=b6;exact R p bx (z▸G)⟩
 have bi:∀ab:Shared,ab={ s with heap:=ap,toks:=s.toks+([]:List (Str×Value)).length } ->
   codeAny (model X.prog X.w) X.A (.compLoop (.ListComp elt [⟨.Name t px,iter,ifs,0⟩] scope pos) 0 (.ref it) (.ref s.heap.objs.size) (compEnvC scope cl H2.objs.size X.env)) (RR (.ref s.heap.objs.size) H2.objs.size) ab:=by
  rintro ab rfl;refine codeAny_loop rfl (λn s'=>∃i ys its L HC v0,Inv (qh X (gc t caps) scope cl H2.objs.size s H fp) [] (fM caps σ v0) HC s'/\Y i s'.heap/\(∀b∈fp,HC b=none)/\HC s.heap.objs.size=none /\
   s'.heap.get? s.heap.objs.size=some { cls:=.type "list",data:=.seq its.toArray L }/\Vals ys its/\ys.length<=sizeLine/\W i n ys HC) (λn s' hI=>?_) m0
   ⟨0,[],[],0,H,none,Iw I K S ho a5 bl as,bd,λb G=>(S b G).1,I.bG.fresh (le_refl _),b9,.nil,zero_le _,w0⟩
  obtain⟨i,ys,its,L,HC,v0,I3,bn,ba,a7,e3,r3,z3,w3⟩:=hI;show wpAny _ X.A ((compTurn (.ListComp elt [⟨.Name t px,iter,ifs,0⟩] scope pos) 0 (.ref it) (.ref s.heap.objs.size) (compEnvC scope cl H2.objs.size X.env)).onRaise (λx=>do noteFrame x (compEnvC scope cl H2.objs.size X.env);theTreesLotGoes x)) _ _ s';refine wpAny_noted ?_;rw[compTurn_list];have bv:Inv (qh X (gc t caps) scope cl H2.objs.size s H fp) [(s.heap.objs.size, { cls:=.type "list",data:=.seq its.toArray L })] (fM caps σ v0) HC s':=I3.lh λp R=>by
   have ep:p=(s.heap.objs.size, { cls:=.type "list",data:=.seq its.toArray L }):=(by simpa using R);subst ep;exact⟨e3,a7,ad,bz,λv z=>by cases(show Data.seq its.toArray L=Data.cell v from z)⟩
  have pD:∀p∈[((s.heap.objs.size:Addr),({ cls:=.type "list",data:=.seq its.toArray L }:Obj))],p.1∉fp:=λp R=>by
   have ep:p=(s.heap.objs.size, { cls:=.type "list",data:=.seq its.toArray L }):=(by simpa using R);subst ep;exact bb
  rcases hW i n ys HC w3 with⟨b1,q⟩|⟨go,N,hN,step⟩
  .refine wpAny_bind (wpAny_standAt (wpAny_bind (bT (T.done (qh X (gc t caps) scope cl H2.objs.size s H fp) rfl rfl rfl hc i _ s' _ HC _ bv (a6 ba pD) bn b1) λr s4 b5=>?_)));obtain⟨hr,U⟩:=b5;subst hr;refine wpAny_pure ?_;have I5:Inv X pins σ HC s4:=I.E8 (ch:=fp) U.os U.base U.bG U.bare λb G=>⟨(S b G).2.2.2.1,(S b G).2.1,(S b G).2.2.2.2.1,(S b G).2.2.2.2.2⟩;have e4:=(U.pin _ (mem_append_right _ mem_cons_self)).1;have fD:ff X pins HC s.heap.objs.size:=I.iD (le_refl _) a7;have I6:=I5.Fe fD e4 r3 z3;obtain⟨m,hn,_⟩:=U.loc;refine b2 _ _ ys HC s4 m a7 I6 hn (I.iD a5 ?_) q;rw[ah (Ne.symm ad)];exact U.free
  .refine wpAny_bind (wpAny_standAt (wpAny_bind (bT (T.item (qh X (gc t caps) scope cl H2.objs.size s H fp) rfl rfl rfl hc i _ s' _ HC _ bv (a6 ba pD) bn go) λr s4 b3=>?_)));obtain⟨u,hr,h4⟩:=b3;subst hr;refine wpAny_bind (bT h4 λ_ s5 b4=>?_);obtain⟨x,H5,I5,r5,y5,a0,bI⟩:=b4;have ci:=(I5.pin _ (mem_append_right _ mem_cons_self)).2.1;have b0:=I5.pinned (a6 bI pD) (T.obj _ _ a0);have CQ:∀{α:Type}{tr:Sem α}{Q:α->Shared->Prop}{E':Value->Shared->Prop}{O:Shared},wpAny (model X.prog X.w) X.A tr Q (λ_ _=>False) O->wpAny (model X.prog X.w) X.A tr Q E' O:=λh=>wpAny_mono h (λ_ _ z=>z) λ_ _ z=>z.elim;refine wpAny_bind (wpAny_assign_Name (hV (X:=qh X (gc t caps) scope cl H2.objs.size s H fp) (i:=0) (x:=t) b0 K.nd rfl (.inl (lookup_relabel_local K.IS)) r5 (λs6 I6=>?_) (.inr (lookup_relabel_local K.IS))));have e0:(fM caps σ v0).set 0 (some x)=fM caps σ (some x):=rfl;rw[e0]at I6;refine wpAny_bind (CQ (bT (ht _ _ _ _ _ s6 _ H5 _ I6 (step x H5 y5)) λok s7 bY=>?_));obtain⟨H7,I7,q7⟩:=bY;have bc:∀{ac:St}{H':Hp}{O:Shared},Inv (qh X (gc t caps) scope cl H2.objs.size s H fp) ([(s.heap.objs.size, { cls:=.type "list",data:=.seq its.toArray L })]++mU fp s5.heap) ac H' O ->
     O.heap.get? s.heap.objs.size=some { cls:=.type "list",data:=.seq its.toArray L }/\H' s.heap.objs.size=none/\Y (i+1) O.heap/\(∀b∈fp,H' b=none):=λ{ac H' O} Ix=>by
    have a:=Ix.pin _ (mem_append_right _ (mem_append_left _ mem_cons_self));refine⟨a.1,a.2.1,T.keep _ _ _ a0 λb G o e=>(Ix.pin (b,o) (mem_append_right _ (mem_append_right _ (gy G e)))).1,λb G=>?_⟩;obtain⟨o,e,d⟩:=T.obj _ _ a0 b G;exact(Ix.pin (b,o) (mem_append_right _ (mem_append_right _ (gy G e)))).2.1
   have bare:∀{pl:List (Addr×Obj)}{ac:St}{H':Hp}{O:Shared},Inv (qh X (gc t caps) scope cl H2.objs.size s H fp) pl ac H' O->Inv (qh X (gc t caps) scope cl H2.objs.size s H fp) [] ac H' O:=λIx=>Ix.lh λp R=>absurd R (by simp);cases ok with
   |false =>
    rw[if_neg Bool.false_ne_true]at q7;obtain⟨m',hm,w7⟩:=hN _ _ q7;obtain⟨a1,a2,a3,a4⟩:=bc I7;exact wpAny_pure ⟨rfl,m',hm,i+1,ys,its,L,H7,some x,bare I7,a3,a4,a2,a1,r3,z3,w7⟩
   |true =>
    rw[if_pos rfl]at q7;refine wpAny_bind (wpAny_bind (CQ (bT (he _ _ _ _ _ s7 _ H7 _ I7 q7) λy s8 b8=>?_)));obtain⟨yv,H8,I8,r8,ce,n8⟩:=b8;obtain⟨m',hm,w8⟩:=hN _ _ n8;obtain⟨a1,a2,a3,a4⟩:=bc I8;have cc:=r3.length;refine wpAny_bind (call_meets F.slot_list_append ⟨_,a1,rfl⟩ F.entry_list_append (F.args_list_append_2 _ _) (list_append s.heap.objs.size its.toArray L y (by rw[size_toArray];omega)) ⟨a1,?_⟩);obtain⟨aT,q⟩:∃aT:Nat,(s8.heap.update s.heap.objs.size (Obj.mapSeq (·.push y))).get? s.heap.objs.size=some { cls:=.type "list",data:=.seq (its++[y]).toArray aT }:=by
     have q:=PySem.IsL.update a1 (·.push y);have ea:its.toArray.push y=(its++[y]).toArray:=(by simp);rw[ea]at q;exact⟨_,q⟩
    have I9:Inv (qh X (gc t caps) scope cl H2.objs.size s H fp) [] (fM caps σ (some x)) H8 { s8 with heap:=s8.heap.update s.heap.objs.size (Obj.mapSeq (·.push y)) }:=
     (bare I8).turned (t':=s8.toks) (λb o G e=>(Heap.get?_update_other _ _ (Ne.symm G)).trans e) a2 ad (.inr (le_refl _)) ca (λp R=>absurd (show p∈([]:List (Addr×Obj))from R) (by simp))
    refine wpAny_pure (wpAny_pure ⟨rfl,m',hm,i+1,ys++[yv],its++[y],aT,H8,some x,I9,T.keep _ _ _ a3 λb G o e=>(Heap.get?_update_other _ _ (show s.heap.objs.size≠b from λz=>bb (by rw[z];exact G))).trans e,a4,a2,q,r3.append (.cons r8 .nil),?_,w8⟩)
    .rw[length_append,length_singleton];omega
 exact codeAny_compStart_list (bi _ rfl) (T.self _ 0 _ _ _ bd (bi _ rfl))
theorem gp (K:jM X scope cl t caps) (hc:X.calm=true) (hi:PI X (.Name t px) iter wi)
  (ht:∀C s₀ H₀ ex,Gr (qh X (gc t caps) scope cl C s₀ H₀ ex) ifs tt) (L:∀C s₀ H₀ ex,PE (qh X (gc t caps) scope cl C s₀ H₀ ex) elt te)
  (hs:∀x,foldedSetIterable iter X.env x=pure x:=by intro _;rfl):PE X (.ListComp elt [⟨.Name t px,iter,ifs,0⟩] scope pos) (Cm caps wi tt te):=by
 intro pins s σ H Q I h;rw[eval_ListComp];refine wpAny_comprehension_free (use:=none) rfl hs K.E5 K.kind K.names (bT (hi pins s σ H _ I h) λv s1 h1=>bT h1 λam s2 h2=>?_);obtain⟨it,fp,tn,J,H2,e,U,T,ad,F,W,⟨m0,w0⟩,hW⟩:=h2;subst e;refine mR (RR:=λac C=>compPost (model X.prog X.w) X.A X.xe none (EP X pins σ Q) ac C) K hc ht L U T ad F w0 hW ?_;intro D C ys H' s' m hD G Y N q;refine⟨m,Y,λh' ab=>?_⟩;obtain⟨S,c1,c2,O,R,c5⟩:=N;exact⟨.ref D,_,G.turned (t':=s'.toks) (λb o hb e=>(ab.2 b hb).trans e) S c1 O R c5,rfl,q D hD⟩
theorem BL {i:Nat}{y:Str}{F O:Pos}(hN:X.N.Nodup) (ad:X.N[i]?=some y) (hy:Loc X.env.scope y) (K:jM X scope cl t caps) (hc:X.calm=true) (hi:PI X (.Name t px) iter wi)
  (ht:∀C s₀ H₀ ex,Gr (qh X (gc t caps) scope cl C s₀ H₀ ex) ifs tt) (he:∀C s₀ H₀ ex,PE (qh X (gc t caps) scope cl C s₀ H₀ ex) elt te)
  (ac:swapsWith (.ListComp elt [⟨.Name t px,iter,ifs,0⟩] scope pos) (some (.Name y F)) O.line X.env=pure true:=by rfl)
  (hs:∀x,foldedSetIterable iter X.env x=pure x:=by intro _;rfl) (hf:X.fn y=true\/X.env.scope.names.lookup y=some .local:=by first|exact .inl rfl|exact .inr rfl|assumption) :
  PS X (.Assign [.Name y F] (.ListComp elt [⟨.Name t px,iter,ifs,0⟩] scope pos) O) (Bo (Cm caps wi tt te) (r9 i)):=by
 intro pins s σ H D I h;rw[exec_Assign_Name_used _ _ _ _ ac];refine wpAny_bind (wpAny_standAt (wpAny_bind ?_));show wpAny _ X.A (do let _ <-comprehension (.ListComp elt [⟨.Name t px,iter,ifs,0⟩] scope pos) scope X.env _ (newList []) false (eval iter X.env) (some (assign (.Name y F) X.env))) _ _ s;refine wpAny_bind (bT (wpAny_comprehension_free (use:=some (assign (.Name y F) X.env)) (Q:=λ_ s'=>SP X pins D .next s') rfl hs K.E5 K.kind K.names
  (bT (hi pins s σ H _ I h) λv s1 h1=>bT h1 λa0 s2 h2=>?_)) λ_ s' hq=>wpAny_pure (wpAny_pure hq))
 obtain⟨it,fp,tn,J,H2,e,I2,T,aT,S,W,⟨m0,w0⟩,hW⟩:=h2;subst e;refine mR (RR:=λaB C=>compPost (model X.prog X.w) X.A X.xe (some (assign (.Name y F) X.env)) (λ_ s'=>SP X pins D .next s') aB C) K hc ht he I2 T aT S w0 hW ?_;intro G C ys H' s' m hD U hn Y q;obtain⟨c0,L,c2,c3,R,c5⟩:=Y;show wpAny _ X.A (assign (.Name y F) X.env (.ref G)) _ _ s';refine wpAny_assign_Name (nE (v:=.ref G) U hN ad hy rfl (λs3 I3 am=>?_) hf);obtain⟨a,as,ha⟩:=am;have ap:C≠a:=by
  rcases ha with z|z
  .rw[z];exact L
  .exact λw=>R y a z w.symm
 refine⟨m,hn.sameBut as ap,λh' ab=>?_⟩;exact⟨_,_,I3.turned (t':=s3.toks) (λb o hb e=>(ab.2 b hb).trans e) c0 L c3 R c5,q G hD⟩
end
theorem tH {caps:List (Str×Nat)}{tt:TT}{te:TE}{σ:St}{H:Hp}{lo:Int}{n:Nat}{G:List V->Hp->Prop}(Pv:Nat->List V->Hp->Prop) (L:Pv 0 [] H)
  (hs:∀i ys H,i<n->Pv i ys H->tt (fM caps σ (some (.int (lo+i)))) H λb H2=>if b=true then te (fM caps σ (some (.int (lo+i)))) H2 (λy I=>ys.length<sizeLine/\Pv (i+1) (ys++[y]) I)else Pv (i+1) ys H2)
  (hd:∀ys H,Pv n ys H->G ys H):∃W:Nat->Nat->List V->Hp->Prop,(∃m,W 0 m [] H)/\gQ caps tt te σ (BX lo n) G W:=by
 refine⟨λi m ys H=>m=n-i/\i<=n/\Pv i ys H,⟨n,by simp,zero_le _,L⟩,?_⟩;rintro i m ys H ⟨rfl,hi,p⟩;by_cases F:i<n
 .refine .inr ⟨F,Pv (i+1),λN H' J=>⟨n-(i+1),af,rfl,F,J⟩,λx H' y=>?_⟩;obtain⟨e,y⟩:=y;subst e y;exact hs i ys _ F p
 .have e:i=n:=af;subst e;exact .inl ⟨le_refl _,hd ys H p⟩
theorem wC {K:Frag}{a:Addr}{xs:List V}{caps:List (Str×Nat)}{tt:TT}{te:TE}{σ:St}{H:Hp}{F:List V->Hp->Prop}(Pv:Nat->List V->Hp->Prop) (N:Pv 0 [] H) (J:∀i ys H,i<=xs.length->Pv i ys H->bq K H a xs)
  (hs:∀i x ys H,xs[i]?=some x->Pv i ys H->tt (fM caps σ (some x)) H λb H2=>if b=true then te (fM caps σ (some x)) H2 (λy I=>ys.length<sizeLine/\Pv (i+1) (ys++[y]) I)else Pv (i+1) ys H2)
  (hd:∀ys H,Pv xs.length ys H->F ys H):∃W:Nat->Nat->List V->Hp->Prop,(∃m,W 0 m [] H)/\gQ caps tt te σ (Ds K a) F W:=by
 refine⟨λi m ys H=>m=xs.length-i/\i<=xs.length/\Pv i ys H,⟨xs.length,by simp,zero_le _,N⟩,?_⟩;rintro i m ys H ⟨rfl,hi,p⟩;have q:=J i ys H hi p;by_cases G:i<xs.length
 .refine .inr ⟨⟨xs,xs[i],q,by simp[G]⟩,Pv (i+1),λO H' L=>⟨xs.length-(i+1),af,rfl,G,L⟩,λx H' y=>?_⟩;obtain⟨e,y⟩:=y;subst e;exact hs i x ys _ (y xs q) p
 .have e:i=xs.length:=af;subst e;exact .inl ⟨⟨xs,q,le_refl _⟩,hd ys H p⟩
theorem yi {K:Frag}{a:Addr}{xs:List V}{caps:List (Str×Nat)}{tt:TT}{te:TE}{σ:St}{H:Hp}{F:List V->Hp->Prop}(Pv:Nat->List V->Hp->Prop) (N:Pv 0 [] H) (J:∀i ys H,i<=xs.length->Pv i ys H->bR K H a xs)
  (hs:∀i x ys H,xs[i]?=some x->Pv i ys H->tt (fM caps σ (some x)) H λb H2=>if b=true then te (fM caps σ (some x)) H2 (λy I=>ys.length<sizeLine/\Pv (i+1) (ys++[y]) I)else Pv (i+1) ys H2)
  (hd:∀ys H,Pv xs.length ys H->F ys H):∃W:Nat->Nat->List V->Hp->Prop,(∃m,W 0 m [] H)/\gQ caps tt te σ (GX K a) F W:=by
 refine⟨λi m ys H=>m=xs.length-i/\i<=xs.length/\Pv i ys H,⟨xs.length,by simp,zero_le _,N⟩,?_⟩;rintro i m ys H ⟨rfl,hi,p⟩;have q:=J i ys H hi p;by_cases G:i<xs.length
 .refine .inr ⟨⟨xs,xs[i],q,by simp[G]⟩,Pv (i+1),λO H' L=>⟨xs.length-(i+1),af,rfl,G,L⟩,λx H' y=>?_⟩;obtain⟨e,y⟩:=y;subst e;exact hs i x ys _ (y xs q) p
 .have e:i=xs.length:=af;subst e;exact .inl ⟨⟨xs,q,le_refl _⟩,hd ys H p⟩
theorem fw {caps:List (Str×Nat)}{te:TE}{σ:St}{H:Hp}{lo:Int}{n:Nat}{F:List V->Hp->Prop}(Pv:Nat->List V->Hp->Prop) (I:Pv 0 [] H)
  (hs:∀i ys H,i<n->Pv i ys H->te (fM caps σ (some (.int (lo+i)))) H (λy G=>ys.length<sizeLine/\Pv (i+1) (ys++[y]) G))
  (hd:∀ys H,Pv n ys H->F ys H):∃W:Nat->Nat->List V->Hp->Prop,(∃m,W 0 m [] H)/\gQ caps m4 te σ (BX lo n) F W :=
 tH Pv I (λi ys H hi p=>by
  show if true=true then _ else Pv (i+1) ys H
  rw[if_pos rfl];exact hs i ys H hi p) hd
theorem tF {K:Frag}{a:Addr}{xs:List V}{caps:List (Str×Nat)}{te:TE}{σ:St}{H:Hp}{F:List V->Hp->Prop}(Pv:Nat->List V->Hp->Prop) (J:Pv 0 [] H) (I:∀i ys H,i<=xs.length->Pv i ys H->bq K H a xs)
  (hs:∀i x ys H,xs[i]?=some x->Pv i ys H->te (fM caps σ (some x)) H (λy G=>ys.length<sizeLine/\Pv (i+1) (ys++[y]) G))
  (hd:∀ys H,Pv xs.length ys H->F ys H):∃W:Nat->Nat->List V->Hp->Prop,(∃m,W 0 m [] H)/\gQ caps m4 te σ (Ds K a) F W :=
 wC Pv J I (λi x ys H hi p=>by
  show if true=true then _ else Pv (i+1) ys H
  rw[if_pos rfl];exact hs i x ys H hi p) hd
theorem xW {K:Frag}{a:Addr}{xs:List V}{caps:List (Str×Nat)}{te:TE}{σ:St}{H:Hp}{F:List V->Hp->Prop}(Pv:Nat->List V->Hp->Prop) (J:Pv 0 [] H) (I:∀i ys H,i<=xs.length->Pv i ys H->bR K H a xs)
  (hs:∀i x ys H,xs[i]?=some x->Pv i ys H->te (fM caps σ (some x)) H (λy G=>ys.length<sizeLine/\Pv (i+1) (ys++[y]) G))
  (hd:∀ys H,Pv xs.length ys H->F ys H):∃W:Nat->Nat->List V->Hp->Prop,(∃m,W 0 m [] H)/\gQ caps m4 te σ (GX K a) F W :=
 yi Pv J I (λi x ys H hi p=>by
  show if true=true then _ else Pv (i+1) ys H
  rw[if_pos rfl];exact hs i x ys H hi p) hd
theorem dt:bootBuiltins "list" = some (.type "list"):=ao
theorem jD:bootBuiltins "tuple" = some (.type "tuple"):=ao
theorem gS:bootBuiltins "int" = some (.type "int"):=ao
theorem AL:bootBuiltins "bool" = some (.type "bool"):=ao
theorem qg:bootBuiltins "dict" = some (.type "dict"):=ao
theorem yI:bootBuiltins "max" = some (.builtin "max"):=ao
theorem bO:bootBuiltins "isinstance" = some (.builtin "isinstance"):=ao
theorem kC:bootBuiltins "sorted" = some (.builtin "sorted"):=ao
section
variable {X:Cx}
inductive zt (x:V) (vs:List V) (H:Hp) (Q:VK):Prop
 |mk (l:Addr) (ns:List Int) (k:Int) (_:x=.ref l) (_:vs=[.int k]) (_:H l=some (.lst (ns.map V.int))) (_:k∈ns) (_:Q (.int (ns.idxOf k:Nat)) H):zt x vs H Q
theorem zM:DB X "list.index" zt:=by
 intro pins s σ H x vs v us Q I S rv h;obtain⟨l,ns,k,rfl,rfl,U,O,q⟩:=h;cases S;obtain⟨u,rfl,N⟩:=rv.one;obtain⟨t,rfl⟩:=N;obtain⟨z,its,n,r,L,e⟩:=I.mq U;have hi:=intsAre_of r;have R:=hi.length;rw[length_map]at L z;have hs:sizeLine=16777216:=sizeLine_eq;have G:ns.idxOf k<ns.length:=List.idxOf_lt_length_iff.mpr O;refine call_meets PySem.F.slot_list_index ⟨_,e,rfl⟩ PySem.F.entry_list_index (PySem.F.args_list_index_2 _ _)
  (SeqAt.list_indexAt l its.toArray n none #[] (.int k t) (isInt k) (ns.idxOf k) (by simpa[R]using G) af ?_ ?_) ⟨e,λy J=>(eq_isInt k t hi y (by simpa using J)).at _ _,⟨.int (ns.idxOf k:Nat),H,I.tok _,⟨_,rfl⟩,q⟩⟩
 .show isInt k its[ns.idxOf k]=true;rw[isInt_at k hi _ af G];simpa using List.getElem_idxOf G
 .intro j ab Y;show isInt k its[j]=false;rw[isInt_at k hi j (by simpa using ab) af];exact ne_of_lt_idxOf Y _
inductive Az (x:V) (vs:List V) (H:Hp) (Q:VK):Prop
 |mk (l:Addr) (ns:List Int) (k:Int) (_:x=.ref l) (_:vs=[.int k]) (_:H l=some (.lst (ns.map V.int))) (_:Q (.int (ns.count k:Nat)) H):Az x vs H Q
theorem za:DB X "list.count" Az:=by
 intro pins s σ H x vs v us Q I J L h;obtain⟨l,ns,k,rfl,rfl,F,q⟩:=h;cases J;obtain⟨u,rfl,G⟩:=L.one;obtain⟨t,rfl⟩:=G;obtain⟨z,its,n,r,N,e⟩:=I.mq F;exact count_list_ints (PySem.IsL.isList e) (intsAre_of r) ⟨.int (ns.count k:Nat),H,I.tok _,⟨_,rfl⟩,q⟩
end
def gw:List V->List V->Bool
 | [],[]=>true
 |x::xs,y::ys=>jP x y&&gw xs ys
 |_,_=>false
theorem jO:∀{xs ys:List V},xs.length≠ys.length->gw xs ys=false
 | [],[],h=>absurd rfl h
 | [],_::_,_=>rfl
 |_::_,[],_=>rfl
 |x::xs,y::ys,h=>by
  have F:=jO (xs:=xs) (ys:=ys) λe=>h (by simp[e]);show(jP x y&&gw xs ys)=false;rw[F,Bool.and_false]
theorem gr:∀{xs ys:List V},xs.length=ys.length->(List.range xs.length).all (λj=>jP (xs.getD j .non) (ys.getD j .non))=gw xs ys
 | [],[],_=>rfl
 |x::xs,y::ys,h=>by
  have F:=gr (xs:=xs) (ys:=ys) (by simpa using h);rw[length_cons,List.range_succ_eq_map,all_cons,List.all_map];show(jP x y&&_)=(jP x y&&gw xs ys);rw[<-F];rfl
 | [],_::_,h=>by simp at h
 |_::_,[],h=>by simp at h
theorem Bl (a b:Int):jP (.int a) (.int b)=decide (a=b):=by
 show(a==b)=_;rw[Bool.beq_eq_decide_eq]
theorem oo:∀(xs ys:List Int),gw (xs.map V.int) (ys.map V.int)=decide (xs=ys)
 | [],[]=>rfl
 | [],_::_=>rfl
 |_::_,[]=>rfl
 |x::xs,y::ys=>by
  have F:=oo xs ys;show(jP (.int x) (.int y)&&gw (xs.map V.int) (ys.map V.int))=_;rw[F,Bl];by_cases h1:x=y
  .by_cases h2:xs=ys
   .simp[h1,h2]
   .simp[h1,h2]
  .simp[h1]
theorem eO (xs:List Int):(xs.map V.int).all cY=true:=by
 rw[List.all_map];exact List.all_eq_true.mpr λ_ _=>rfl
section
variable {X:Cx}
inductive EI (K:Frag) (x:V) (y:V) (H:Hp) (Q:VK):Prop
 |mk (p:_) (q:_) (xs:_) (ys:_) (_:x=.ref p) (_:y=.ref q) (_:bq K H p xs) (_:bq K H q ys) (_:xs.all cY=true) (_:ys.all cY=true) (_:Q (.bl (gw xs ys)) H):EI K x y H Q
theorem Dh (L:X.A.units<cLine):kB X (compareOp .Eq) (EI X.K):=by
 intro pins s σ H x y v u Q I rx ry h;obtain⟨p,q,xs,ys,rfl,rfl,hx,hy,fx,fy,N⟩:=h;cases rx;cases ry;obtain⟨its,r,pl,hz⟩:=I.list hx;obtain⟨R,S,J,ad⟩:=I.list hy;have O:=r.length;have ab:=S.length;by_cases e:xs.length=ys.length
 .refine SeqAt.eq_listAt (e:=λj=>jP (xs.getD j .non) (ys.getD j .non)) pl.isList J.isList (by rw[size_toArray,size_toArray];omega) L (λj h1 h2=>?_) ⟨.bl (gw xs ys),H,I,?_,N⟩
  .have F:j<xs.length:=(by rw[size_toArray]at h1;omega);have G:j<ys.length:=af;obtain⟨a,ea,ra⟩:=r.get (i:=j) (x:=xs[j]) (by simp[F]);obtain⟨b,eb,rb⟩:=S.get (i:=j) (x:=ys[j]) (by simp[G]);obtain⟨_,ac⟩:=List.getElem?_eq_some_iff.mp ea;obtain⟨_,U⟩:=List.getElem?_eq_some_iff.mp eb;have g1:xs.getD j .non=xs[j]:=(by simp[F]);have g2:ys.getD j .non=ys[j]:=(by simp[G]);show SeqAt.EqAt _ _ its.toArray[j] R.toArray[j] (jP (xs.getD j .non) (ys.getD j .non));rw[g1,g2];have f1:cY xs[j]=true:=List.all_eq_true.mp fx _ (getElem_mem F);have Y:cY ys[j]=true:=List.all_eq_true.mp fy _ (getElem_mem G);have z:=iS (A:=X.A.in1) (s:=s) ra rb f1 Y;have a1:its.toArray[j]=a:=(by simpa using ac);have a2:R.toArray[j]=b:=(by simpa using U);rw[a1,a2];exact z
  .show Value.bool _=Value.bool _;rw[size_toArray, <-O,gr e]
 .refine SeqAt.eq_list_lengthsAt pl.isList J.isList ?_ L ⟨.bl (gw xs ys),H,I,?_,N⟩
  .rw[size_toArray,size_toArray, <-O, <-ab];exact bne_iff_ne.mpr e
  .show Value.bool _=Value.bool _;rw[jO e]
theorem my:Fv X (Bw X.K):=by
 intro pins s σ H o i ov iv Q I Y ri h;obtain⟨p,xs,k,z,rfl,rfl,R,he,q⟩:=h;cases Y;obtain⟨t,rfl⟩:=ri;obtain⟨its,r,pl,hz⟩:=I.list R;obtain⟨j,h1,h2,h3,N,U⟩:=qx he;obtain⟨w,J,O⟩:=r.get h2;have S:=r.length;have hn:=mh;have G:EP X pins σ Q w s:=⟨z,H,I,O,q⟩;by_cases L:0<=k
 .have F:k.toNat=j:=by
   rw[seqIndex_of L U]at h1;exact Option.some.inj h1
  exact wpAny_getItem_list pl.isList L af (by rw[F];simpa using J) G
 .have F:(k+(its.toArray.size:Int)).toNat=j:=by
   rw[seqIndex_neg af N]at h1;rw[size_toArray, <-S];exact Option.some.inj h1
  exact wpAny_getItem_list_neg pl.isList af (by rw[size_toArray]<;>omega) af (by rw[F];simpa using J) G
theorem dn:dr X (.builtin "isinstance") (λxs H Q=>∃x n t b,xs=[x,.ty n]/\jI X.K H x t/\kitOne X.K t (.type n)=some b/\Q (.bl b) H):=by
 intro pins s σ H xs us Q I r h;obtain⟨x,n,t,b,rfl,ty,e,q⟩:=h;obtain⟨u,c,rfl,G,F⟩:=vals2 r;obtain rfl:c=Value.type n:=F;exact xG I G ty e λtk=>⟨.bl b,H,I.tok _,rfl,q⟩
theorem D9 (K:Frag):kitOne K (.type "int") (.type "int")=some true:=rfl
theorem Ef (K:Frag):kitOne K (.type "list") (.type "list")=some true:=rfl
theorem Di (K:Frag):kitOne K (.type "int") (.type "bool")=some false:=by with_unfolding_all rfl
end
theorem zV:bootBuiltins "range" = some (.type "range"):=ao
section
variable {X:Cx}
end
end L2
namespace PySem.W
open PySem PySem.Spec PySem.Calls PyProof.Rows Builtin Builtin.ObjectAttr Builtin.Getset_descriptor
section
variable {prog:Program}{w:World}{A:Around}{E:Value->Shared->Prop}{s:Shared}{K:Frag}{x C:Addr}
end
end PySem.W
namespace L2
open PySem PySem.Spec PyProof.Rows PySem.W
section
variable {X:Cx}{pins:List (Addr×Obj)}{σ:St}{H H':Hp}{s s':Shared}
end
section
variable {X:Cx}{e:Expr}{te:TE}{tx:TEX}{t:TS}{ts us:TSX}{st:Stmt}{sts rest:List Stmt}{pos:Pos}
end
section
variable {X:Cx}{k:Nat}{f C:Addr}{fd:FuncData}{ps:List Str}{sp:Sp}{dvs:List V}{ds:List Value}{x m:Str}{p pos apos:Pos}{e o:Expr}{es:List Expr}{ta:TE}{t:TA}
end
section
variable {X:Cx}{pins:List (Addr×Obj)}{σ:St}{H:Hp}{s:Shared}
end
section
variable {X:Cx}{v v2:Expr}{vs:List Expr}{te:TE}{t:TJ}{pos:Pos}
end
section
variable {X:Cx}{C:Addr}{x:Str}{np cpos pos:Pos}{e₀:Expr}{es:List Expr}{t:TA}
end
section
variable {P:Program}{w:World}{K:Frag}{mg:Str->Option Value}{base:Heap}
end
section
variable {X:Cx}{pins:List (Addr×Obj)}{σ:St}{H:Hp}{s:Shared}
end
section
variable {X:Cx}{C:Addr}{i:Nat}{x n:Str}{np hpos pos:Pos}{body suite:List Stmt}{b₀:Stmt}{tb:TSX}{ts:TS}
end
section
variable {X:Cx}{tg:Expr}
end
section
variable {X:Cx}{C:Addr}{x:Str}{np hpos pos:Pos}{body suite:List Stmt}{b₀:Stmt}{tb:TSX}{ts:TS}
end
section
variable {t u r:TS}{D:Ends}{σ:St}{H:Hp}
abbrev Le (u F:TS):Prop:=∀D σ H,u D σ H->F D σ H
theorem Le.rfl:Le u u:=λ_ _ _ h=>h
theorem dX {c:TT}(k:∀t' F,Le t t'->Le u F->wV c t' F D σ H):wV c t u D σ H:=k t u Le.rfl Le.rfl
theorem fN {te:TE}{i:Nat}(k:∀Q:V->Hp->Prop,(∀x H1,u D (σ.set i (some x)) H1->Q x H1)->te σ H Q):ml (Bo te (r9 i)) u D σ H:=k _ λ_ _ h=>h
theorem HJ {te:TE}(k:∀Q:V->Hp->Prop,(∀x H1,D.rt x H1->Q x H1)->te σ H Q):DU te D σ H:=k _ λ_ _ h=>h
theorem bQ {A B:Hp->Prop}{Q:Bool->Hp->Prop}(e:Q=λb H1=>if b=true then A H1 else B H1):(∀H1,A H1->Q true H1)/\∀H1,B H1->Q false H1:=by
 subst e;exact⟨λ_ h=>dG h,λ_ h=>bw h⟩
theorem bZ {c:TT}(k:∀Q:Bool->Hp->Prop,(∀H1,t { D with nx:=r D } σ H1->Q true H1)->(∀H1,r D σ H1->Q false H1)->c σ H Q):ml (wV c t rS) r D σ H:=k _ (bQ rfl).1 (bQ (A:=λH1=>t { D with nx:=r D } σ H1) rfl).2
theorem Ci {c:TT}(k:∀Q:Bool->Hp->Prop,(∀H1,t D σ H1->Q true H1)->(∀H1,D.nx σ H1->Q false H1)->c σ H Q):wV c t rS D σ H:=k _ (bQ rfl).1 (bQ (A:=λH1=>t D σ H1) rfl).2
theorem Ap {Q:Bool->Hp->Prop}{b:Bool}{H:Hp}(t:b=true->Q true H) (f:¬ b=true->Q false H):Q b H:=by
 cases b
 .exact f (by intro z;cases z)
 .exact t rfl
theorem mG {c:TT}(F:St->Hp->Prop) (mk:(∀σ H,F σ H->r D σ H)->∀Q:Bool->Hp->Prop,(∀H1,t { D with nx:=r D } σ H1->Q true H1)->(∀H1,F σ H1->Q false H1)->c σ H Q) (h:∀σ H,F σ H->r D σ H):ml (wV c t rS) r D σ H:=mk h _ (bQ rfl).1 λH1 p=>(bQ (A:=λH1=>t { D with nx:=r D } σ H1) rfl).2 H1 (h _ _ p)
def Ev (te:TE) (σ:St) (H:Hp) (v:V):Prop:=∀Q:V->Hp->Prop,Q v H->te σ H Q
theorem bB {i:Nat}{v:V}(h:σ[i]?=some (some v)):Ev (Br i) σ H v:=λ_ q=>⟨_,h,q⟩
theorem bC {v:V}:Ev (tC v) σ H v:=λ_ q=>q
theorem dQ {ta tb:TE}{x y:V}{Q:Bool->Hp->Prop}(a:Ev ta σ H x) (b:Ev tb σ H y) (s:Bf x y=true) (n:¬ x=y) (q:Q false H):yO (Et Ia ta tb) σ H Q:=a _ (b _ ⟨s,_,rfl,by rw[decide_eq_false n];exact q⟩)
theorem eqT {ta tb:TE}{x:V}{Q:Bool->Hp->Prop}(a:Ev ta σ H x) (b:Ev tb σ H x) (s:Bf x x=true) (q:Q true H):yO (Et Ia ta tb) σ H Q:=a _ (b _ ⟨s,_,rfl,by rw[decide_eq_true rfl];exact q⟩)
theorem share (F:St->Hp->Prop) (mk:∀G,(∀σ H,F σ H->G D σ H)->ml t G D σ H) (h:∀σ H,F σ H->u D σ H):ml t u D σ H:=mk u h
end
section
variable {κ:Type} [DecidableEq κ]
def dF (kvs:List (κ×V)) (k:κ):Option V:=(kvs.find? λF=>decide (F.1=k)).map (·.2)
def putK (kvs:List (κ×V)) (k:κ) (v:V):List (κ×V):=
 if (kvs.any λF=>decide (F.1=k))=true then kvs.map (λF=>if F.1=k then(F.1,v)else F)else kvs++[(k,v)]
def lX (kvs:List (κ×V)) (k:κ):List (κ×V):=kvs.filter λF=>decide (F.1≠k)
theorem eD {p:κ×V}{r:List (κ×V)}{k:κ}(e:p.1=k):dF (p::r) k=some p.2:=by simp[dF,find?_cons,e]
theorem cg {p:κ×V}{r:List (κ×V)}{k:κ}(e:¬ p.1=k):dF (p::r) k=dF r k:=by simp[dF,find?_cons,e]
theorem ju (k:κ):∀kvs:List (κ×V),(kvs.any λF=>decide (F.1=k))=(dF kvs k).isSome
 | []=>rfl
 |p::r=>by
  rw[any_cons];by_cases e:p.1=k
  .simp only[eD e,decide_eq_true e,Bool.true_or,Option.isSome_some]
  .rw[cg e,decide_eq_false e,Bool.false_or];exact ju k r
theorem fj (kvs:List (κ×V)) (k:κ) (v:V):(putK kvs k v).length<=kvs.length+1:=by
 unfold putK;split
 .rw[length_map];omega
 .rw[length_append,length_cons,length_nil];omega
theorem jg {kvs:List (κ×V)}{k:κ}(v:V) (h:dF kvs k=none):putK kvs k v=kvs++[(k,v)]:=by
 unfold putK;rw[ju,h];exact if_neg av
theorem fK.gh {o:Option V}{u:Option Value}(r:fK o u):o.isSome=u.isSome:=by
 cases o with
 |none=>cases u with
  |none=>rfl
  |some _=>exact(show False from r).elim
 |some _=>cases u with
  |none=>exact(show False from r).elim
  |some _=>rfl
theorem fK.getD {o:Option V}{u:Option Value}{d:V}{d':Value}(r:fK o u) (rd:RelV d d'):RelV (o.getD d) (u.getD d'):=by
 cases o with
 |none=>cases u with
  |none=>exact rd
  |some _=>exact(show False from r).elim
 |some _=>cases u with
  |none=>exact(show False from r).elim
  |some _=>exact r
theorem KV.val {kvs:List (κ×V)}{vs:List (κ×Value)}(r:KV kvs vs) (k:κ):fK (dF kvs k) (valueAt vs k):=by
 unfold KV at r
 induction r with
 |nil=>exact True.intro
 | @cons p q ps F h t I =>
  obtain⟨h1,h2⟩:=h;by_cases e:p.1=k
  .have G:q.1=k:=h1.symm.trans e;have b:valueAt (q::F) k=some q.2:=(by simp[valueAt,find?_cons,G]);rw[eD e,b];exact h2
  .have G:¬ q.1=k:=λz=>e (h1.trans z);have b:valueAt (q::F) k=valueAt F k:=(by simp[valueAt,find?_cons,G]);rw[cg e,b];exact I
theorem KV.any {kvs:List (κ×V)}{vs:List (κ×Value)}(r:KV kvs vs) (k:κ):(kvs.any λF=>decide (F.1=k))=vs.any λF=>decide (F.1=k):=by
 unfold KV at r
 induction r with
 |nil=>rfl
 |cons h t G=>rw[any_cons,any_cons,G,h.1]
theorem KV.C5 {kvs:List (κ×V)}{vs:List (κ×Value)}(r:KV kvs vs) (k:κ) {y:V}{u:Value}(I:RelV y u) :
  KV (kvs.map λF=>if F.1=k then(F.1,y)else F) (vs.map λF=>if F.1=k then(F.1,u)else F):=by
 unfold KV at r ⊢
 induction r with
 |nil=>exact .nil
 | @cons p q ps J h t G =>
  rw[map_cons,map_cons];refine .cons ?_ G;obtain⟨h1,h2⟩:=h;by_cases e:p.1=k
  .rw[if_pos e,if_pos (h1.symm.trans e)];exact⟨h1,I⟩
  .rw[if_neg e,if_neg (λz=>e (h1.trans z))];exact⟨h1,h2⟩
theorem KV.put {kvs:List (κ×V)}{vs:List (κ×Value)}(r:KV kvs vs) (k:κ) {y:V}{u:Value}(F:RelV y u):KV (putK kvs k y) (stored vs k u):=by
 unfold putK stored;rw[r.any k];by_cases e:(vs.any λG=>decide (G.1=k))=true
 .rw[if_pos e,if_pos e];exact r.C5 k F
 .rw[if_neg e,if_neg e];exact Paired.snoc r ⟨rfl,F⟩
theorem KV.drop {kvs:List (κ×V)}{vs:List (κ×Value)}(r:KV kvs vs) (k:κ):KV (lX kvs k) (without vs k):=by
 unfold KV at r ⊢;unfold lX without
 induction r with
 |nil=>exact .nil
 | @cons p q ps I h t F =>
  obtain⟨h1,h2⟩:=h;rw[filter_cons,filter_cons];by_cases e:p.1=k
  .have a:¬ decide (p.1≠k)=true:=(by simp[e]);have b:¬ decide (q.1≠k)=true:=(by simp[h1.symm.trans e]);rw[if_neg a,if_neg b];exact F
  .have G:¬ q.1=k:=λz=>e (h1.trans z);have a:decide (p.1≠k)=true:=(by simp[e]);have b:decide (q.1≠k)=true:=(by simp[G]);rw[if_pos a,if_pos b];exact .cons ⟨h1,h2⟩ F
theorem KV.keys {kvs:List (κ×V)}{vs:List (κ×Value)}(r:KV kvs vs):kvs.map (·.1)=vs.map (·.1):=by
 unfold KV at r
 induction r with
 |nil=>rfl
 |cons h t F=>rw[map_cons,map_cons,F,h.1]
theorem KV.length {kvs:List (κ×V)}{vs:List (κ×Value)}(r:KV kvs vs):kvs.length=vs.length:=Paired.length r
theorem Aa (kvs:List (κ×V)) (k:κ):(lX kvs k).length<=kvs.length:=List.length_filter_le _ _
end
theorem iI {P:Program}{w:World}{k:Key}{u:Value}(r:RelV (kV k) u):(bt P w).is k u=true:=by
 cases k with
 |inl i=>obtain⟨t,e⟩:=(show ∃t,u=Value.int i t from r);subst e;exact rN P w i t
 |inr x=>obtain⟨t,e⟩:=(show ∃t,u=Value.str x t from r);subst e;exact qZ P w x t
theorem ou {P:Program}{w:World}:∀{ks:List Key}{us:List Value},Vals (ks.map kV) us->ItemsAre (bt P w) ks us
 | [],_,r=>by rw[map_nil]at r;cases r;exact .nil
 |k::ks,_,r=>by
  rw[map_cons]at r;cases r with
  |cons h t=>exact .cons (iI h) (ou t)
abbrev KT (H:Hp):List (List Key×V)->List (List Key×Addr×Value)->Prop:=Paired λp q=>p.1=q.1/\H q.2.1=some (.tup (p.1.map kV))/\RelV p.2 q.2.2
theorem KT.val {H:Hp}{kvs:List (List Key×V)}{xs:List (List Key×Addr×Value)}(r:KT H kvs xs) (k:List Key):fK (dF kvs k) ((atKey xs k).map (·.2)):=by
 induction r with
 |nil=>exact True.intro
 | @cons p q ps F h t I =>
  obtain⟨h1,_,h2⟩:=h;by_cases e:p.1=k
  .have G:q.1=k:=h1.symm.trans e;have b:atKey (q::F) k=some q.2:=(by simp[atKey,find?_cons,G]);rw[eD e,b];exact h2
  .have G:¬ q.1=k:=λz=>e (h1.trans z);have b:atKey (q::F) k=atKey F k:=(by simp[atKey,find?_cons,G]);rw[cg e,b];exact I
theorem KT.C5 {H:Hp}{kvs:List (List Key×V)}{xs:List (List Key×Addr×Value)}(r:KT H kvs xs) (k:List Key) {y:V}{u:Value}(I:RelV y u) :
  KT H (kvs.map λF=>if F.1=k then(F.1,y)else F) (xs.map (putAt k u)):=by
 induction r with
 |nil=>exact .nil
 | @cons p q ps L h t G =>
  rw[map_cons,map_cons];refine .cons ?_ G;obtain⟨h1,h2,J⟩:=h;unfold putAt;by_cases e:p.1=k
  .rw[if_pos e,if_pos (h1.symm.trans e)];exact⟨h1,h2,I⟩
  .rw[if_neg e,if_neg (λz=>e (h1.trans z))];exact⟨h1,h2,J⟩
theorem KT.put {H:Hp}{kvs:List (List Key×V)}{xs:List (List Key×Addr×Value)}(r:KT H kvs xs) (k:List Key) {b:Addr}{y:V}{u:Value}(I:H b=some (.tup (k.map kV))) (F:RelV y u) :
  KT H (putK kvs k y) (storedH xs k b u):=by
 have e:(kvs.any λG=>decide (G.1=k))=(atKey xs k).isSome:=by
  rw[ju,(r.val k).gh,isSome_map]
 unfold putK storedH;rw[e];by_cases q:(atKey xs k).isSome=true
 .rw[if_pos q,if_pos q];exact r.C5 k F
 .rw[if_neg q,if_neg q];exact Paired.snoc r ⟨rfl,I,F⟩
theorem KT.keeps {H H':Hp}{kvs:List (List Key×V)}{xs:List (List Key×Addr×Value)}(r:KT H kvs xs) (F:∀b ys,H b=some (.tup ys)->H' b=some (.tup ys)):KT H' kvs xs :=
 Paired.zF r λ_ _ z=>⟨z.1,F _ _ z.2.1,z.2.2⟩
section
variable {P:Program}{w:World}{H:Hp}{h:Heap}{a:Addr}
theorem Ct {u:HO}(ok:iZ P w H h) (e:Rd H a u):bV P w H h a u:=e.ok ok
theorem jm {kvs:List (Key×V)}(ok:iZ P w H h) (e:Rd H a (.dK kvs)):kvs.length<=sizeLine/\(a==sysModules)=false/\∃vs,KV kvs vs/\h.DictOf (bt P w) a vs :=
 show bV P w H h a (.dK kvs)from Ct ok e
theorem gD {kvs:List (Key×V)}(ok:iZ P w H h) (e:H a=some (.dK kvs)):kvs.length<=sizeLine/\(a==sysModules)=false/\∃vs,KV kvs vs/\h.DictOf (bt P w) a vs:=jm ok (.inl e)
theorem iT {ks:List Key}(ok:iZ P w H h) (e:H a=some (.tup (ks.map kV))):(tupleKind (bt P w)).is h ks a:=by
 obtain⟨_,its,r,o,h1,h2,n,F⟩:=(show bV P w H h a (.tup (ks.map kV))from ok a _ e);exact⟨o,its.toArray,n,h1,h2,F,by simpa using ou r⟩
theorem kH {kvs:List (List Key×V)}(ok:iZ P w H h) (e:Rd H a (.dT kvs)):kvs.length<=sizeLine/\(a==sysModules)=false /\
  ∃xs,KT H kvs xs/\h.DictOfH (tupleKind (bt P w)) a xs:=by
 obtain⟨z,y,xs,r,o,es,ep,h1,h2,N,I,L⟩:=(show bV P w H h a (.dT kvs)from Ct ok e);refine⟨z,y,xs,r,o,es,ep,h1,h2,N,I,λx F=>?_,L⟩;have all:∀{l:List (List Key×V)}{m:List (List Key×Addr×Value)},KT H l m->∀x∈m,(tupleKind (bt P w)).is h x.1 x.2.1:=by
  intro l m q
  induction q with
  |nil=>intro x F;exact nomatch F
  | @cons p q ps O G t J =>
   intro x F;rcases List.mem_cons.mp F with e|F
   .subst e;exact iT ok (by rw[<-G.1];exact G.2.1)
   .exact J x F
 exact all r x F
theorem FL {kvs:List (List Key×V)}(ok:iZ P w H h) (e:H a=some (.dT kvs)):kvs.length<=sizeLine/\(a==sysModules)=false /\
  ∃xs,KT H kvs xs/\h.DictOfH (tupleKind (bt P w)) a xs:=kH ok (.inl e)
end
def dB (H:Hp) (a:Addr) (y:V) (r:Option V):Prop :=
 (∃kvs k,Rd H a (.dK kvs)/\y=kV k/\r=dF kvs k)\/∃kvs k b,Rd H a (.dT kvs)/\y=.ref b/\H b=some (.tup (k.map kV))/\r=dF kvs k
def gb (H:Hp) (a:Addr) (y v:V) (H':Hp):Prop :=
 (∃kvs k,H a=some (.dK kvs)/\y=kV k/\kvs.length<sizeLine/\H'=upd H a (.dK (putK kvs k v))) \/
 ∃kvs k b,H a=some (.dT kvs)/\y=.ref b/\H b=some (.tup (k.map kV))/\kvs.length<sizeLine/\H'=upd H a (.dT (putK kvs k v))
theorem dB.k {H:Hp}{a:Addr}{kvs:List (Key×V)}{k:Key}(e:H a=some (.dK kvs)):dB H a (kV k) (dF kvs k):=.inl ⟨kvs,k,.inl e,rfl,rfl⟩
theorem gb.k {H:Hp}{a:Addr}{kvs:List (Key×V)}{k:Key}{v:V}(e:H a=some (.dK kvs)) (F:kvs.length<sizeLine):gb H a (kV k) v (upd H a (.dK (putK kvs k v))):=.inl ⟨kvs,k,e,rfl,F,rfl⟩
section
variable {X:Cx}{pins:List (Addr×Obj)}{σ:St}{H:Hp}{s:Shared}{a:Addr}{y v:V}{u r:Value}{o:Option V}{A:Around}{E:Value->Shared->Prop}
theorem Inv.big (I:Inv X pins σ H s):sysModules<s.heap.objs.size:=by
 have h:mainGlobals<s.heap.objs.size:=(I.mod.glob.keeps I.bk).lt;exact Nat.lt_trans av h
theorem xI {Q:Value->Shared->Prop}(Y:A.units+1<cLine) (I:Inv X pins σ H s) (g:dB H a y (some v)) (R:RelV y u) (h:∀F s',Inv X pins σ H s'->RelV v F->Q F s') :
  wpAny (model X.prog X.w) A (getItem (.ref a) u) Q E s:=by
 rcases g with⟨kvs,k,e,O,l⟩|⟨kvs,k,b,e,O,eb,l⟩
 .subst O;obtain⟨z,hd,vs,N,L⟩:=jm I.bG e;obtain⟨F,J,G⟩:=fK.some_of (v:=v) (o:=valueAt vs k) (by rw[l];exact N.val k);exact wpAny_getItem_of (iI R) L.mapOf J (h F _ (I.tok _) G)
 .subst O;cases(show u=Value.ref b from R);obtain⟨z,hd,xs,N,L⟩:=kH I.bG e;obtain⟨F,J,G⟩:=fK.some_of (v:=v) (o:=(atKey xs k).map (·.2)) (by rw[l];exact N.val k);obtain⟨p,S,U⟩:=Option.map_eq_some_iff.mp J;refine wpAny_getItem_heap (tupleKind_room_in1 Y) (iT I.bG eb) L S ?_;rw[U];exact h F _ (I.tok _) G
theorem Hr {Q:Value->Shared->Prop}(N:A.units+1<cLine) (I:Inv X pins σ H s) (g:dB H a y o) (L:RelV y u) (h:∀s',Inv X pins σ H s'->Q (.bool o.isSome) s') :
  wpAny (model X.prog X.w) A (compareOp .In u (.ref a)) Q E s:=by
 rcases g with⟨kvs,k,e,J,l⟩|⟨kvs,k,b,e,J,O,l⟩
 .subst J;obtain⟨z,hd,vs,G,F⟩:=jm I.bG e;refine wpAny_in_of (iI L) hd F.mapOf ?_;rw[<-(G.val k).gh, <-l];exact h _ (I.tok _)
 .subst J;cases(show u=Value.ref b from L);obtain⟨z,hd,xs,G,F⟩:=kH I.bG e;refine wpAny_in_heap (tupleKind_room_in1 N) (iT I.bG O) hd F ?_;have q:=(G.val k).gh;rw[isSome_map]at q;rw[<-q, <-l];exact h _ (I.tok _)
theorem B0 {Q:Value->Shared->Prop}(N:A.units+1<cLine) (I:Inv X pins σ H s) (g:dB H a y o) (L:RelV y u) (h:∀s',Inv X pins σ H s'->Q (.bool (!o.isSome)) s') :
  wpAny (model X.prog X.w) A (compareOp .NotIn u (.ref a)) Q E s:=by
 rcases g with⟨kvs,k,e,J,l⟩|⟨kvs,k,b,e,J,O,l⟩
 .subst J;obtain⟨z,hd,vs,G,F⟩:=jm I.bG e;refine wpAny_notIn_of (iI L) hd F.mapOf ?_;rw[<-(G.val k).gh, <-l];exact h _ (I.tok _)
 .subst J;cases(show u=Value.ref b from L);obtain⟨z,hd,xs,G,F⟩:=kH I.bG e;refine wpAny_notIn_heap (tupleKind_room_in1 N) (iT I.bG O) hd F ?_;have q:=(G.val k).gh;rw[isSome_map]at q;rw[<-q, <-l];exact h _ (I.tok _)
theorem js {h':Heap}{t':Nat}{F:HO}(I:Inv X pins σ H s) (J:EU (H a)) (hs:Heap.SameBut a s.heap h') (G:∃q,h'.get? a=some q) (new:bV X.prog X.w (upd H a F) h' a F) :
  Inv X pins σ (upd H a F) { s with heap:=h',toks:=t' }:=
 I.write (x:=a) (e:=a) J (.inl rfl) (λb q L z=>(hs.2 b L).trans z) G new
theorem mr {P:Program}{w:World}{H':Hp}{h':Heap}{kvs:List (Key×V)}{vs:List (Key×Value)}(z:kvs.length<=sizeLine) (hd:(a==sysModules)=false) (F:KV kvs vs) (G:h'.DictOf (bt P w) a vs) :
  bV P w H' h' a (.dK kvs):=⟨z,hd,vs,F,G⟩
theorem nD {H':Hp}{Q:Unit->Shared->Prop}(hu:A.units+1<cLine) (I:Inv X pins σ H s) (g:gb H a y v H') (U:RelV y u) (rv:RelV v r) (h:∀s',Inv X pins σ H' s'->Q () s') :
  wpAny (model X.prog X.w) A (setItem (.ref a) u r) Q E s:=by
 rcases g with⟨kvs,k,e,R,l,S⟩|⟨kvs,k,b,e,R,eb,l,S⟩
 .subst R S;obtain⟨z,hd,vs,F,L⟩:=gD I.bG e;have N:vs.length<=sizeLine:=(by rw[<-F.length];exact z);have O:(putK kvs k v).length<=sizeLine:=(by have:=fj kvs k v;omega);refine wpAny_setItem_pairs (hsz:=N) (iI U) L λh' G hs=>h _ ?_;have he:∃q,h'.get? a=some q:=let ⟨q,_,_,J,_⟩:=G;⟨q,J⟩;exact js I (by rw[e];exact True.intro) hs he (mr O hd (F.put k rv) G)
 .subst R S;cases(show u=Value.ref b from U);obtain⟨z,hd,xs,F,L⟩:=FL I.bG e;have N:xs.length<=sizeLine:=(by rw[<-Paired.length F];exact z);have O:(putK kvs k v).length<=sizeLine:=(by have:=fj kvs k v;omega);refine wpAny_setItem_heap (hsz:=N) (tupleKind_room_in1 hu) (iT I.bG eb) L λh' G hs=>h _ ?_;obtain⟨q,es,ep,J,h2,h3,h4,_,h5⟩:=G;refine js I (by rw[e];exact True.intro) hs ⟨q,J⟩ ⟨O,hd,_,(F.put k eb rv).keeps λc ys Y=>?_,q,es,ep,J,h2,h3,h4,h5⟩;rw[ah (cE Y e (λz=>nomatch z))];exact Y
end
section
variable {X:Cx}{pins:List (Addr×Obj)}{σ:St}{H:Hp}{s:Shared}{a:Addr}{kvs:List (Key×V)}{k:Key}{u:Value}{A:Around}{E:Value->Shared->Prop}
theorem EE {v:V}{G:List Value}{Q:Value->Shared->Prop}(I:Inv X pins σ H s) (e:H a=some (.dK kvs)) (N:RelV (kV k) u) (l:dF kvs k=some v) (O:G=[]\/∃x,G=[x])
  (h:∀J s',Inv X pins σ (upd H a (.dK (lX kvs k))) s'->RelV v J->Q J s'):wpAny (model X.prog X.w) A (call (.builtin "dict.pop") (.ref a::u::G)) Q E s:=by
 obtain⟨z,hd,vs,L,S⟩:=gD I.bG e;obtain⟨J,Y,U⟩:=fK.some_of (v:=v) (o:=valueAt vs k) (by rw[<-l];exact L.val k);have hp:(keyPart u).isSome=true:=by
  cases k with
  |inl i=>obtain⟨t,q⟩:=(show ∃t,u=Value.int i t from N);subst q;rfl
  |inr x=>obtain⟨t,q⟩:=(show ∃t,u=Value.str x t from N);subst q;rfl
 have ha:argsOk "dict.pop" ⟨.ref a::u::G,[]⟩:=by
  rcases O with q|⟨x,q⟩
  .subst q;exact PySem.F.args_dict_pop_2 _ _
  .subst q;exact PySem.F.args_dict_pop_3 _ _ _
 refine call_meetsIn PySem.F.slot_dict_pop S.typeIs PySem.F.entry_dict_pop ha (meets_dict_pop_there (bt X.prog X.w) a (iI N) G O hp)
  ⟨vs,J,S,by rw[<-L.length];exact z,Y,λh' R hs=>h J _ ?_ U⟩
 have he:∃q,h'.get? a=some q:=let ⟨q,_,_,hq,_⟩:=R;⟨q,hq⟩;exact js I (by rw[e];exact True.intro) hs he (mr (le_trans (Aa kvs k) z) hd (L.drop k) R)
theorem FK {Q:Value->Shared->Prop}(I:Inv X pins σ H s) (e:Rd H a (.dK kvs)) (h:∀t s',Inv X pins σ H s'->Q (.int kvs.length t) s'):wpAny (model X.prog X.w) A (call (.builtin "len") [.ref a]) Q E s:=by
 obtain⟨z,hd,vs,F,G⟩:=jm I.bG e;refine call_len_dict hd G (by rw[<-F.length];rw[sizeLine_eq]at z;omega) ?_;rw[<-F.length];exact h _ _ (I.tok _)
end
def EO (i:Expr):Prop:=∀ov F,subscripted i false ov F=operate [ov,F] (getItem ov F)
theorem Bq {prog:Program}{w:World}{A:Around}{E:Value->Shared->Prop}{s:Shared}{env:Env}{value G:Expr}{pos:Pos}{T id:String}{Q:Value->Shared->Prop}
  (S:typeLookup (.type T) "__getitem__" = pure (some (.builtin id))) (hs:EO G)
  (h:wpAny (model prog w) A (eval value env) (λo N=>wpAny (model prog w) A (eval G env) (λi F=>F.TypeIs o T/\wpAny (model prog w) A (getItem o i) Q E F) E N) E s) :
  wpAny (model prog w) A (eval (.Subscript value G pos) env) Q E s:=by
 refine Subscript_ (wpAny_mono h (λo N R=>wpAny_mono R (λi F J=>?_) λ_ _ x=>x) λ_ _ x=>x);obtain⟨L,J⟩:=J;unfold subscriptTail;refine wpAny_bind ?_;rw[getitemInPython_of_ne L.not_modules];refine wpAny_bind (wpAny_specialOf L S ?_);have I:wpAny (model prog w) A (subscripted G false o i) (λr O=>wpAny (model prog w) A (letTemporaryGo value o r>>=λ_=>pure r) Q E O) E F:=by
  rw[hs o i];exact wpAny_operating (wpAny_mono J (λr O U=>wpAny_bind (wpAny_letTemporaryGo (wpAny_pure U))) λ_ _ x=>x)
 first
  |exact wpAny_pure (wpAny_bind I)
  |exact wpAny_bind (wpAny_pure (wpAny_bind I))
  |exact wpAny_bind I
theorem sG {X:Cx}{pins:List (Addr×Obj)}{σ:St}{H:Hp}{s:Shared}{a:Addr}{y:V}{o:Option V}(I:Inv X pins σ H s) (g:dB H a y o):s.TypeIs (.ref a) "dict" := by
 rcases g with⟨kvs,k,e,_,_⟩|⟨kvs,k,b,e,_,_,_⟩
 .obtain⟨_,_,vs,_,F⟩:=jm I.bG e;exact F.typeIs
 .obtain⟨_,_,xs,_,F⟩:=kH I.bG e;exact F.typeIs
inductive Av (td ty:TE) (Q:VK) (x:V) (y:V) (H2:Hp):Prop
 |mk (a:_) (v:_) (_:x=.ref a) (_:dB H2 a y (some v)) (_:Q v H2):Av td ty Q x y H2
def Ez (td ty:TE):TE:=λσ H Q=>td σ H λx H1=>ty σ H1 λy H2=>Av td ty Q x y H2
inductive Cu (ty td:TE) (Q:VK) (y:V) (x:V) (H2:Hp):Prop
 |mk (a:_) (o:_) (_:x=.ref a) (_:dB H2 a y o) (_:Q (.bl o.isSome) H2):Cu ty td Q y x H2
def HS (ty td:TE):TE:=λσ H Q=>ty σ H λy H1=>td σ H1 λx H2=>Cu ty td Q y x H2
inductive rj (ty td:TE) (Q:VK) (y:V) (x:V) (H2:Hp):Prop
 |mk (a:_) (o:_) (_:x=.ref a) (_:dB H2 a y o) (_:Q (.bl (!o.isSome)) H2):rj ty td Q y x H2
def BV (ty td:TE):TE:=λσ H Q=>ty σ H λy H1=>td σ H1 λx H2=>rj ty td Q y x H2
def EY (td ty tv:TE):TS:=λD σ H=>tv σ H λv H1=>td σ H1 λx H2=>ty σ H2 λy G=>x8 λa F=>qQ (x=.ref a) (gb G a y v F) (D.nx σ F)
section
variable {X:Cx}{o i e value:Expr}{pos pos' tpos:Pos}{td ty tv:TE}
theorem bA (S:X.A.units+1<cLine) (Y:PE X o td) (hi:PE X i ty) (hs:EO i):PE X (.Subscript o i pos) (Ez td ty):=by
 intro pins s σ H Q I h;refine Bq PySem.F.slot_dict_getitem.lookup hs (bT (Y pins s σ H _ I h) λu J ac=>?_);obtain⟨x,H1,I1,rx,O⟩:=ac;refine bT (hi pins J σ H1 _ I1 O) λiv s2 ab=>?_;obtain⟨y,H2,G,R,a,v,ex,g,U⟩:=ab;subst ex;obtain rfl:u=Value.ref a:=rx;exact⟨sG G g,xI S G g R λw' s3 N L=>⟨v,H2,N,L,U⟩⟩
theorem mF (U:X.A.units+1<cLine) (hi:PE X i ty) (ho:PE X o td):PC X .In i o (HS ty td):=by
 intro pins s σ H Q I h;refine bT (hi pins s σ H _ I h) λiv F N=>?_;obtain⟨y,H1,R,S,L⟩:=N;refine bT (ho pins F σ H1 _ R L) λu s2 J=>?_;obtain⟨x,H2,I2,O,a,ov,ex,g,Y⟩:=J;subst ex;obtain rfl:u=Value.ref a:=O;exact Hr U I2 g S λs3 G=>⟨.bl ov.isSome,H2,G,rfl,Y⟩
theorem gf (S:X.A.units+1<cLine) (hi:PE X i ty) (Y:PE X o td):PC X .NotIn i o (BV ty td):=by
 intro pins s σ H Q I h;refine bT (hi pins s σ H _ I h) λiv F J=>?_;obtain⟨y,H1,O,R,L⟩:=J;refine bT (Y pins F σ H1 _ O L) λu s2 ab=>?_;obtain⟨x,H2,I2,N,a,ov,ex,g,U⟩:=ab;subst ex;obtain rfl:u=Value.ref a:=N;exact B0 S I2 g R λs3 G=>⟨.bl (!ov.isSome),H2,G,rfl,U⟩
theorem jH (U:X.A.units+1<cLine) (ho:PE X o td) (hi:PE X i ty) (O:PE X value tv) (hs:swapsWith value (some (.Subscript o i pos')) pos.line X.env=pure false) :
  PS X (.Assign [.Subscript o i pos'] value pos) (EY td ty tv):=by
 intro pins s σ H D I h;refine wpAny_Assign_Subscript (bT (O pins s σ H _ I h) λr F N=>?_) hs;obtain⟨v,H1,I1,rv,J⟩:=N;refine bT (ho pins F σ H1 _ I1 J) λu s2 ab=>?_;obtain⟨x,H2,I2,rx,Y⟩:=ab;refine bT (hi pins s2 σ H2 _ I2 Y) λiv s3 L=>?_;obtain⟨y,H3,G,R,a,H4,ex,g,S⟩:=L;subst ex;obtain rfl:u=Value.ref a:=rx;exact nD U G g R rv λs4 I4=>⟨σ,H4,I4,S⟩
end
theorem sv {P:Program}{w:World}{H:Hp}(h:Heap) (F:sysModules<h.objs.size):bV P w H (h.push { cls:=.type "dict",data:=.dict #[] }) h.objs.size (.dK []):=
 ⟨zero_le _,beq_eq_false_iff_ne.mpr (Ne.symm (ne_of_lt F)),[],.nil,Heap.DictOf.new h⟩
def D8:TE:=λ_ H Q=>∀p,H p=none->Q (.ref p) (upd H p (.dK []))
section
variable {X:Cx}{pos:Pos}
theorem c6:PE X (.Dict [] [] pos) D8:=λpins s σ H Q I h =>
 wpAny_Dict_empty ⟨.ref s.heap.objs.size,_,I.laid (a:=s.heap.objs.size) (o:=.dK []) (t':=s.toks) (λ_ _ q=>Heap.get?_push_of_some _ q) (le_refl _) (sv s.heap I.big),rfl,h _ (I.bG.fresh (le_refl _))⟩
end
def vk:List (TE×TE)->St->Hp->(List (V×V)->Hp->Prop)->Prop
 | [],_,H,Q=>Q [] H
 |(tk,tv)::r,σ,H,Q=>tk σ H λx H1=>tv σ H1 λy H2=>vk r σ H2 λps F=>Q ((x,y)::ps) F
abbrev VV:List (V×V)->List (Value×Value)->Prop:=Paired λp q=>RelV p.1 q.1/\RelV p.2 q.2
def Gv (X:Cx) (pos:Pos) (keys:List (Option Expr)) (values:List Expr) (F:List (TE×TE)):Prop :=
 ∀(pins:List (Addr×Obj)) (s:Shared) (σ:St) (H:Hp) (Q:List (V×V)->Hp->Prop),Inv X pins σ H s->vk F σ H Q ->
  wpAny (model X.prog X.w) X.A (evalPairs (pairTrees keys values X.env pos)) (λvs s'=>∃ps H',Inv X pins σ H' s'/\VV ps vs/\Q ps H') X.xe s
theorem BN {X:Cx}{pos:Pos}:Gv X pos [] [] []:=λpins s σ H Q I h=>pairTrees_nil_walk ⟨[],H,I,.nil,h⟩
theorem jc {X:Cx}{pos:Pos}{k v:Expr}{ks:List (Option Expr)}{vs:List Expr}{tk tv:TE}{F:List (TE×TE)}(L:PE X k tk) (O:PE X v tv) (hr:Gv X pos ks vs F) :
  Gv X pos (some k::ks) (v::vs) ((tk,tv)::F):=λpins s σ H Q I h =>
 pairTrees_cons_walk (bT (L pins s σ H _ I h) λu G ⟨x,H1,I1,rx,N⟩=>bT (O pins G σ H1 _ I1 N) λw2 s2 ⟨y,H2,I2,R,Y⟩ =>
  bT (hr pins s2 σ H2 _ I2 Y) λws s3 U=>by obtain⟨ps,H3,J,ab,S⟩:=U;exact⟨(x,y)::ps,H3,J,.cons ⟨rx,R⟩ ab,S⟩)
def j7 (kvs G:List (Key×V)):List (Key×V):=G.foldl (λI F=>putK I F.1 F.2) kvs
theorem KV.merge:∀{F:List (Key×V)}{G:List (Key×Value)}{kvs:List (Key×V)}{vs:List (Key×Value)},KV F G->KV kvs vs->KV (j7 kvs F) (merged vs G):=by
 intro F G kvs vs r;unfold KV at r
 induction r generalizing kvs vs with
 |nil=>intro q;exact q
 | @cons p q ps L h t J =>
  intro I;have e:KV (putK kvs p.1 p.2) (stored vs q.1 q.2):=by
   have:=I.put p.1 h.2;rw[<-h.1];exact this
  exact J e
theorem iK:∀(F kvs:List (Key×V)),(j7 kvs F).length<=kvs.length+F.length
 | [],kvs=>by show kvs.length<=kvs.length+0;omega
 |p::r,kvs=>by
  have h1:=iK r (putK kvs p.1 p.2);have h2:=fj kvs p.1 p.2;show(j7 (putK kvs p.1 p.2) r).length<=_;rw[length_cons];omega
theorem lC {P:Program}{w:World}:∀{kvs:List (Key×V)}{ws:List (Value×Value)},VV (kvs.map λG=>(kV G.1,G.2)) ws->∃F,Carries (bt P w) ws F/\KV kvs F
 | [],_,r=>by rw[map_nil]at r;cases r;exact⟨[],True.intro,.nil⟩
 |p::kvs,_,r=>by
  rw[map_cons]at r;cases r with
  | @cons a b J bs h t =>
   obtain⟨F,c,q⟩:=lC (P:=P) (w:=w) t;obtain⟨L,I⟩:=b;exact⟨(p.1,I)::F,⟨iI h.1,rfl,c⟩,.cons ⟨rfl,h.2⟩ q⟩
def E4 (G:List (TE×TE)):TE:=λσ H Q=>∀p,H p=none->vk G σ (upd H p (.dK [])) λps H2=>H2 p=some (.dK [])/\∃kvs:List (Key×V),ps=kvs.map (λF=>(kV F.1,F.2))/\kvs.length<=15/\Q (.ref p) (upd H2 p (.dK (j7 [] kvs)))
theorem AO {X:Cx}{pos:Pos}{keys:List (Option Expr)}{values:List Expr}{J:List (TE×TE)}(h:Gv X pos keys values J) (N:keys.all (·.isSome)=true) (hl:keys.length=values.length) (h0:keys≠[])
  (L:keys.length<=15):PE X (.Dict keys values pos) (E4 J):=by
 intro pins s σ H Q I q;have hn:=I.bG.fresh (le_refl s.heap.objs.size);have I1:=I.laid (a:=s.heap.objs.size) (o:=.dK []) (h':=s.heap.push { cls:=.type "dict",data:=.dict #[] }) (t':=s.toks) (λ_ _ q=>Heap.get?_push_of_some _ q) (le_refl _) (sv s.heap I.big);refine wpAny_Dict_walk (knd:=bt X.prog X.w) N hl h0 L (bT (h pins _ σ _ _ I1 (q _ hn)) λws s2 S=>?_);obtain⟨ps,H2,G,ab,e,kvs,ep,lk,Y⟩:=S;subst ep;obtain⟨rs,c,U⟩:=lC (P:=X.prog) (w:=X.w) ab;obtain⟨z,hd,ac,r0,R⟩:=gD G.bG e;cases r0;refine⟨rs,c,R,λh' F hs=>⟨.ref s.heap.objs.size,_,?_,rfl,Y⟩⟩;have hz:(j7 [] kvs).length<=sizeLine:=by
  have h1:=iK kvs [];rw[length_nil]at h1;rw[sizeLine_eq];omega
 have O:∃q,h'.get? s.heap.objs.size=some q:=let ⟨q,_,_,hq,_⟩:=F;⟨q,hq⟩;exact js G (by rw[e];exact True.intro) hs O (mr hz hd (U.merge .nil) F)
structure M1 (X:Cx) (o:Expr) (m:Str) (apos:Pos) (e:Expr) (cpos:Pos):Prop where
 base:attributeBase o m X.env (eval o X.env)=eval o X.env
 EH:((backTo cpos (starEach [e] X.env)).all (λx => !x.1)&&(backToKw cpos (keywordEach [] X.env)).all (λx=>x.1.isSome)
  && decide (([e]:List Expr).length+([]:List Keyword).length+(if ([]:List Keyword).isEmpty then 0 else 1)<30))=true
 line:(apos.endLine==cpos.line)=true
 trees:backTo cpos (starEach [e] X.env)=[(false,eval e X.env)]
structure M2 (X:Cx) (o:Expr) (m:Str) (apos:Pos) (e f:Expr) (cpos:Pos):Prop where
 base:attributeBase o m X.env (eval o X.env)=eval o X.env
 EH:((backTo cpos (starEach [e,f] X.env)).all (λx => !x.1)&&(backToKw cpos (keywordEach [] X.env)).all (λx=>x.1.isSome)
  && decide (([e,f]:List Expr).length+([]:List Keyword).length+(if ([]:List Keyword).isEmpty then 0 else 1)<30))=true
 line:(apos.endLine==cpos.line)=true
 trees:backTo cpos (starEach [e,f] X.env)=[(false,eval e X.env),(false,eval f X.env)]
def F0 (H:Hp) (a:Addr):Prop:=(∃kvs,Rd H a (.dK kvs))\/∃kvs,Rd H a (.dT kvs)
theorem jQ {X:Cx}{pins:List (Addr×Obj)}{σ:St}{H:Hp}{s:Shared}{a:Addr}(I:Inv X pins σ H s) (d:F0 H a) :
  s.TypeIs (.ref a) "dict" /\ (∀b,Value.ref a=.ref b->∃F,s.heap.get? b=some F/\F.dict=none)/\(a==sysModules)=false:=by
 rcases d with⟨kvs,e⟩|⟨kvs,e⟩
 .obtain⟨_,hd,vs,_,G⟩:=jm I.bG e;refine⟨G.typeIs,λb q=>?_,hd⟩;cases q;obtain⟨F,_,_,h1,h2,_⟩:=G;exact⟨F,h1,h2.2.1⟩
 .obtain⟨_,hd,xs,_,G⟩:=kH I.bG e;refine⟨G.typeIs,λb q=>?_,hd⟩;cases q;obtain⟨F,_,_,h1,h2,_⟩:=G;exact⟨F,h1,h2.2.1⟩
section
variable {X:Cx}{pins:List (Addr×Obj)}{σ:St}{H:Hp}{s:Shared}{a:Addr}{y d:V}{u r:Value}{o:Option V}{A:Around}{E:Value->Shared->Prop}
theorem DY {Q:Value->Shared->Prop}(R:A.units+1<cLine) (I:Inv X pins σ H s) (g:dB H a y o) (O:RelV y u) (h:∀N s',Inv X pins σ H s'->RelV (o.getD .non) N->Q N s') :
  wpAny (model X.prog X.w) A (call (.builtin "dict.get") [.ref a,u]) Q E s:=by
 rcases g with⟨kvs,k,e,L,l⟩|⟨kvs,k,b,e,L,S,l⟩
 .subst L;obtain⟨z,hd,vs,J,G⟩:=jm I.bG e;refine call_meetsIn slot_dict_get G.typeIs entry_dict_get (PySem.F.args_dict_get_2 _ _) (meets_dict_get (bt X.prog X.w) a (iI O) hd) ⟨_,G.mapOf,h _ _ (I.tok _) ?_⟩;rw[l];exact(J.val k).getD rfl
 .subst L;cases(show u=Value.ref b from O);obtain⟨z,hd,xs,J,G⟩:=kH I.bG e;refine call_meetsIn slot_dict_get G.typeIs entry_dict_get (PySem.F.args_dict_get_2 _ _) (meetsH_dict_get (tupleKind (bt X.prog X.w)) a b hd) ⟨tupleKind_room_in1 R,k,xs,iT I.bG S,G,h _ _ (I.tok _) ?_⟩;rw[l];exact(J.val k).getD rfl
theorem En {Q:Value->Shared->Prop}(R:A.units+1<cLine) (I:Inv X pins σ H s) (g:dB H a y o) (O:RelV y u) (rd:RelV d r) (h:∀N s',Inv X pins σ H s'->RelV (o.getD d) N->Q N s') :
  wpAny (model X.prog X.w) A (call (.builtin "dict.get") [.ref a,u,r]) Q E s:=by
 rcases g with⟨kvs,k,e,L,l⟩|⟨kvs,k,b,e,L,S,l⟩
 .subst L;obtain⟨z,hd,vs,J,G⟩:=jm I.bG e;refine call_meetsIn slot_dict_get G.typeIs entry_dict_get (PySem.F.args_dict_get_3 _ _ _) (meets_dict_get_default (bt X.prog X.w) a (iI O) hd r) ⟨_,G.mapOf,h _ _ (I.tok _) ?_⟩;rw[l];exact(J.val k).getD rd
 .subst L;cases(show u=Value.ref b from O);obtain⟨z,hd,xs,J,G⟩:=kH I.bG e;refine call_meetsIn slot_dict_get G.typeIs entry_dict_get (PySem.F.args_dict_get_3 _ _ _) (meetsH_dict_get_default (tupleKind (bt X.prog X.w)) a b hd r) ⟨tupleKind_room_in1 R,k,xs,iT I.bG S,G,h _ _ (I.tok _) ?_⟩;rw[l];exact(J.val k).getD rd
end
inductive wm (td ty:TE) (σ:St) (Q:VK) (x:V) (H1:Hp):Prop
 |mk (a:_) (_:x=.ref a) (_:F0 H1 a) (_:ty σ H1 λy H2=>∃o,dB H2 a y o/\Q (o.getD .non) H2):wm td ty σ Q x H1
def Dg (td ty:TE):TE:=λσ H Q=>td σ H λx H1=>wm td ty σ Q x H1
inductive wq (td ty tx:TE) (σ:St) (Q:VK) (x:V) (H1:Hp):Prop
 |mk (a:_) (_:x=.ref a) (_:F0 H1 a) (_:ty σ H1 λy H2=>tx σ H2 λz H3=>∃o,dB H3 a y o/\Q (o.getD z) H3):wq td ty tx σ Q x H1
def Dp (td ty tx:TE):TE:=λσ H Q=>td σ H λx H1=>wq td ty tx σ Q x H1
inductive wt (td ty:TE) (σ:St) (Q:VK) (x:V) (H1:Hp):Prop
 |mk (a:_) (_:x=.ref a) (_:F0 H1 a) (_:ty σ H1 λy H2=>∃kvs k v,H2 a=some (.dK kvs)/\y=kV k/\dF kvs k=some v/\Q v (upd H2 a (.dK (lX kvs k)))):wt td ty σ Q x H1
def Dv (td ty:TE):TE:=λσ H Q=>td σ H λx H1=>wt td ty σ Q x H1
section
variable {X:Cx}{o e f:Expr}{apos cpos:Pos}{td ty tx:TE}
theorem yT (hu:X.A.units+1<cLine) (ho:PE X o td) (R:PE X e ty) (m:M1 X o "get" apos e cpos):PE X (.Call (.Attribute o "get" apos) [e] [] cpos) (Dg td ty):=by
 intro pins s σ H Q I h;refine wpAny_Call_method m.base m.EH m.line plainAttrs_dict slot_dict_get PySem.F.type_dict_get (bT (ho pins s σ H _ I h) λu L ab=>?_);obtain⟨x,H1,G,rx,a,ex,d,S⟩:=ab;subst ex;obtain rfl:u=Value.ref a:=rx;obtain⟨J,Y,_⟩:=jQ G d;refine⟨J,Y,?_⟩;rw[m.trees];refine Calls.callWith_builtin rfl (Calls.evalArgs_plain (Calls.spliced_cons (bT (R pins L σ H1 _ G S) λiv s2 ac=>?_)));obtain⟨y,H2,I2,U,ov,g,q2⟩:=ac;refine Calls.spliced_nil ?_;exact DY hu I2 g U λw' s3 O N=>⟨_,H2,O,N,q2⟩
theorem sM (hu:X.A.units+1<cLine) (ho:PE X o td) (R:PE X e ty) (hf:PE X f tx) (m:M2 X o "get" apos e f cpos):PE X (.Call (.Attribute o "get" apos) [e,f] [] cpos) (Dp td ty tx):=by
 intro pins s σ H Q I h;refine wpAny_Call_method m.base m.EH m.line plainAttrs_dict slot_dict_get PySem.F.type_dict_get (bT (ho pins s σ H _ I h) λu L ab=>?_);obtain⟨x,H1,G,rx,a,ex,d,S⟩:=ab;subst ex;obtain rfl:u=Value.ref a:=rx;obtain⟨J,t2,_⟩:=jQ G d;refine⟨J,t2,?_⟩;rw[m.trees];refine Calls.callWith_builtin rfl (Calls.evalArgs_plain (Calls.spliced_cons (bT (R pins L σ H1 _ G S) λiv s2 ⟨y,H2,I2,U,q2⟩ =>
  Calls.spliced_cons (bT (hf pins s2 σ H2 _ I2 q2) λfv s3 ⟨z,H3,N,rz,ov,g,Y⟩=>Calls.spliced_nil ?_))))
 exact En hu N g U rz λw' s4 I4 O=>⟨_,H3,I4,O,Y⟩
theorem eE (ho:PE X o td) (R:PE X e ty) (m:M1 X o "pop" apos e cpos):PE X (.Call (.Attribute o "pop" apos) [e] [] cpos) (Dv td ty):=by
 intro pins s σ H Q I h;refine wpAny_Call_method m.base m.EH m.line plainAttrs_dict PySem.F.slot_dict_pop PySem.F.type_dict_pop (bT (ho pins s σ H _ I h) λu L ab=>?_);obtain⟨x,H1,G,rx,a,ex,d,S⟩:=ab;subst ex;obtain rfl:u=Value.ref a:=rx;obtain⟨J,Y,_⟩:=jQ G d;refine⟨J,Y,?_⟩;rw[m.trees];refine Calls.callWith_builtin rfl (Calls.evalArgs_plain (Calls.spliced_cons (bT (R pins L σ H1 _ G S) λiv s2 ac=>?_)));obtain⟨y,H2,I2,U,kvs,k,v,ea,ey,l,q2⟩:=ac;refine Calls.spliced_nil ?_;subst ey;exact EE I2 ea U l (.inl rfl) λw' s3 O N=>⟨v,_,O,N,q2⟩
end
section
variable {X:Cx}{pins:List (Addr×Obj)}{σ:St}{H:Hp}{s:Shared}{a:Addr}{kvs:List (Key×V)}{A:Around}{E:Value->Shared->Prop}
end
section
variable {X:Cx}{pins:List (Addr×Obj)}{σ:St}{H:Hp}{s:Shared}{a:Addr}{y:V}{u:Value}{A:Around}{E:Value->Shared->Prop}
end
section
variable {X:Cx}
theorem j5:dr X (.builtin "len") (λxs H Q=>∃a kvs,xs=[V.ref a]/\H a=some (.dK kvs)/\Q (.int kvs.length) H):=by
 intro pins s σ H xs us Q I r h;obtain⟨a,kvs,rfl,J,q⟩:=h;obtain⟨u,rfl,G⟩:=vals1 r;cases G;exact FK I (.inl J) λt s' F=>⟨.int kvs.length,H,F,⟨t,rfl⟩,q⟩
end
section
variable {κ:Type} [DecidableEq κ]
theorem gv:∀{l:List κ}{k:κ},l.Nodup->¬ k∈l->(l++[k]).Nodup
 | [],k,_,_=>by simp
 |a::r,k,h,F=>by
  obtain⟨h1,h2⟩:=List.nodup_cons.mp h;show(a::(r++[k])).Nodup;refine List.nodup_cons.mpr ⟨λm=>?_,gv h2 λm=>F (List.mem_cons.mpr (Or.inr m))⟩;rcases List.mem_append.mp m with q|q
  .exact h1 q
  .exact F (List.mem_cons.mpr (Or.inl (List.mem_singleton.mp q).symm))
end
section
variable {X:Cx}{pins:List (Addr×Obj)}{σ:St}{H:Hp}{s:Shared}{a:Addr}{kvs:List (Key×V)}{k:Key}{u r:Value}{d:V}{A:Around}{E:Value->Shared->Prop}
theorem DX {Q:Value->Shared->Prop}(I:Inv X pins σ H s) (e:H a=some (.dK kvs)) (ry:RelV (kV k) u) (rd:RelV d r) (hl:kvs.length<sizeLine)
  (h1:∀v J s',dF kvs k=some v->Inv X pins σ H s'->RelV v J->Q J s') (h2:∀s',dF kvs k=none->Inv X pins σ (upd H a (.dK (putK kvs k d))) s'->Q r s') :
  wpAny (model X.prog X.w) A (call (.builtin "dict.setdefault") [.ref a,u,r]) Q E s:=by
 obtain⟨z,hd,vs,G,R⟩:=gD I.bG e;refine call_meetsIn PySem.F.slot_dict_setdefault R.typeIs PySem.F.entry_dict_setdefault (PySem.F.args_dict_setdefault_3 _ _ _) (kt_meets_setdefault (bt X.prog X.w) a (iI ry) hd r)
  ⟨vs,R,by rw[<-G.length];exact z,λv L=>?_,λhn h' N hs=>?_⟩
 .have q:=G.val k;cases l:dF kvs k with
  |none=>rw[l]at q;rw[fK.none_of q]at L;cases L
  |some y =>
   rw[l]at q;obtain⟨J,O,S⟩:=fK.some_of q;rw[L]at O;cases O;exact h1 y v _ l (I.tok _) S
 .have l:dF kvs k=none:=by
   cases l:dF kvs k with
   |none=>rfl
   |some y =>
    have q:=G.val k;rw[l,hn]at q;cases q
  have U:∃q,h'.get? a=some q:=let ⟨q,_,_,Y,_⟩:=N;⟨q,Y⟩;exact h2 _ l (js I (by rw[e];exact True.intro) hs U (mr (by have:=fj kvs k d;omega) hd (G.put k rd) N))
end
inductive vE (td ty tx:TE) (σ:St) (Q:VK) (x:V) (H1:Hp):Prop
 |mk (a:_) (_:x=.ref a) (_:F0 H1 a) (_:ty σ H1 λy H2=>tx σ H2 λz H3=>∃kvs k,H3 a=some (.dK kvs)/\y=kV k/\kvs.length<sizeLine/\(∀v,dF kvs k=some v->Q v H3)/\(dF kvs k=none->Q z (upd H3 a (.dK (putK kvs k z))))):vE td ty tx σ Q x H1
def Eh (td ty tx:TE):TE:=λσ H Q=>td σ H λx H1=>vE td ty tx σ Q x H1
section
variable {X:Cx}{o e f:Expr}{apos cpos:Pos}{td ty tx:TE}
theorem zl (ho:PE X o td) (U:PE X e ty) (hf:PE X f tx) (m:M2 X o "setdefault" apos e f cpos):PE X (.Call (.Attribute o "setdefault" apos) [e,f] [] cpos) (Eh td ty tx):=by
 intro pins s σ H Q I h;refine wpAny_Call_method m.base m.EH m.line plainAttrs_dict PySem.F.slot_dict_setdefault PySem.F.type_dict_setdefault (bT (ho pins s σ H _ I h) λu O ab=>?_);obtain⟨x,H1,L,rx,a,ex,d,Y⟩:=ab;subst ex;obtain rfl:u=Value.ref a:=rx;obtain⟨N,t2,_⟩:=jQ L d;refine⟨N,t2,?_⟩;rw[m.trees];refine Calls.callWith_builtin rfl (Calls.evalArgs_plain (Calls.spliced_cons (bT (U pins O σ H1 _ L Y) λiv s2 ⟨y,H2,I2,ry,q2⟩ =>
  Calls.spliced_cons (bT (hf pins s2 σ H2 _ I2 q2) λfv s3 ⟨z,H3,R,J,kvs,k,ea,ey,hl,q3,q4⟩=>Calls.spliced_nil ?_))))
 subst ey;exact DX R ea ry J hl (λv w' s4 l G S=>⟨v,_,G,S,q3 v l⟩) λs4 l G=>⟨z,_,G,J,q4 l⟩
end
section
variable {X:Cx}{pins:List (Addr×Obj)}{σ:St}{H:Hp}{s:Shared}{a:Addr}{o:Obj}{u:HO}{kvs:List (Key×V)}
theorem Inv.swap {w:HO}(I:Inv X pins σ H s) (h:H a=some u) (h1:∀o G,X.H₀ a≠some (.frz o G)) (h2:∀xs,u≠.tup xs) (h3:∀ps,u≠.tbl ps) (O:∀x,u≠.own x) (new:bV X.prog X.w (upd H a w) s.heap a w):Inv X pins σ (upd H a w) s:=by
 have F:∀b,H b=none->b≠a:=λb q z=>(by rw[z,h]at q;cases q);refine⟨I.ok,I.os,I.bare,⟨I.base.keep,I.base.slot,λb o q R hx=>?_,I.base.there,λb xs q=>?_,λb o G q=>?_,λb ps q=>?_⟩,I.loc,I.cell,?_,λy c q=>?_,λp S=>?_,λb v q=>?_,I.len⟩
 .have z:=I.base.free b o q R hx;rw[ah (F b z)];exact z
 .have z:=I.base.qo b xs q;rw[ah (λe=>h2 xs (by rw[e,h]at z;exact Option.some.inj z))];exact z
 .have z:=I.base.nr b o G q;rw[ah (λe=>h1 o G (by rw[<-e];exact q))];exact z
 .obtain⟨N,z⟩:=I.base.qy b ps q;exact⟨N,by rw[ah (λe=>h3 _ (by rw[e,h]at z;exact Option.some.inj z))];exact z⟩
 .rw[ah (F _ I.free)];exact I.free
 .rw[ah (F _ (I.gF y c q))];exact I.gF y c q
 .obtain⟨U,L,Y⟩:=I.pin p S;exact⟨U,by rw[ah (F _ L)];exact L,Y⟩
 .by_cases J:b=a
  .subst J;rw[ae]at q;cases q;exact new
  .rw[ah J]at q;exact(I.bG b v q).qz (λ_ _ _ z=>z) (λc z=>by rw[ah (λe=>O b (by rw[e,h]at z;exact Option.some.inj z))];exact z) λc xs z=>by rw[ah (λe=>h2 xs (by rw[e,h]at z;exact Option.some.inj z))];exact z
theorem Inv.freeze (I:Inv X pins σ H s) (h:H a=some (.dK kvs)) (F:s.heap.get? a=some o) (h1:∀o G,X.H₀ a≠some (.frz o G)):Inv X pins σ (upd H a (.frz o (.dK kvs))) s :=
 I.swap h h1 (λ_ z=>nomatch z) (λ_ z=>nomatch z) (λ_ z=>nomatch z) ⟨F,(show bV X.prog X.w H s.heap a (.dK kvs)from I.bG a _ h)⟩
theorem Inv.Dy (I:Inv X pins σ H s) (h:H a=some (.frz o (.dK kvs))) (h1:∀o F,X.H₀ a≠some (.frz o F)):Inv X pins σ (upd H a (.dK kvs)) s :=
 I.swap h h1 (λ_ z=>nomatch z) (λ_ z=>nomatch z) (λ_ z=>nomatch z) (show bV X.prog X.w H s.heap a (.frz o (.dK kvs))from I.bG a _ h).2
end
def yb (o:Obj):Nat:=match o.data with
 |.dict _ ep=>ep
 |_=>0
def C9 (a:Addr) (o:Obj) (kvs:List (Key×V)):It :=
 ⟨λi H=>H a=some (.frz o (.dK kvs))/\i<kvs.length,λi H x H'=>H'=H/\∃k v,kvs[i]?=some (k,v)/\x=kV k,λi H=>H a=some (.frz o (.dK kvs))/\kvs.length<=i⟩
theorem qv {P:Program}{w:World}{k:Key}{u:Value}(h:(bt P w).is k u=true):RelV (kV k) u:=by
 rcases cn (show l8 k u=true from h)with⟨i,t,rfl,rfl⟩|⟨x,t,rfl,rfl⟩
 .exact⟨t,rfl⟩
 .exact⟨t,rfl⟩
theorem kq {P:Program}{w:World}{H:Hp}{h:Heap}{a:Addr}{o:Obj}{kvs:List (Key×V)}(ok:iZ P w H h) (e:H a=some (.frz o (.dK kvs))):(a==sysModules)=false/\∃vs,KV kvs vs/\h.DictAt (bt P w) a vs (yb o):=by
 obtain⟨G,_,hd,vs,r,o',es,ep,h1,h2,F,I⟩:=(show bV P w H h a (.frz o (.dK kvs))from ok a _ e);rw[G]at h1;cases h1;have J:yb o=ep:=(by unfold yb;rw[F]);exact⟨hd,vs,r,o,es,G,h2,by rw[J];exact F,I⟩
theorem wJ {P:Program}{w:World}{K:Frag}{tg:Expr}(a F:Addr) (aT:a≠F) (o:Obj) (kvs:List (Key×V)):Turn P w K tg (C9 a o kvs) [F] F (λi h=>h.IsKeyIter F a i kvs.length (yb o)) where
 mem:=by simp
 obj:=λi h st b G=>by
  have e:b=F:=(by simpa using G);subst e;obtain⟨ob,h1,_,U⟩:=st;exact⟨ob,h1,λv z=>by rw[U]at z;cases z⟩
 keep:=λi h h' st k=>st.at λo e=>k F (by simp) o e
 item:=by
  intro X L O hK hc i pins s σ H E I J st hg;subst L O hK;obtain⟨Y,ad⟩:=hg;obtain⟨f0,f1,f2,R,f4,N⟩:=J F (by simp);obtain⟨hd,vs,r,S⟩:=kq I.bG Y;have ab:=r.length;obtain⟨⟨k,x⟩,hx⟩:∃p,vs[i]?=some p:=⟨vs[i]'af,by simp⟩;have am:∃v,kvs[i]?=some (k,v):=by
   have hi:i<kvs.length:=ad;refine⟨(kvs[i]).2,?_⟩;have e:=r.keys;have e1:(kvs.map (·.1))[i]?=(vs.map (·.1))[i]?:=(by rw[e]);rw[getElem?_map,getElem?_map,hx,getElem?_eq_getElem hi]at e1;have e2:kvs[i].1=k:=Option.some.inj e1;rw[getElem?_eq_getElem hi, <-e2]
  obtain⟨v,hv⟩:=am;rw[ab]at st ⊢;refine wpAny_pyNext_dict_item st S hx λaB h' ap ac as=>?_;have I1:Inv X pins σ H { s with heap:=h',toks:=s.toks }:=I.turned (λb o G e=>(as.2 b G).trans e) f0 f1 R f4 N;obtain⟨ob,h1,h2,U⟩:=id ac;exact⟨_,rfl,nN (s:={ s with heap:=h' }) (n := "dict_keyiterator") h1 h2 U av ⟨kV k,H,I1,qv ap,⟨rfl,k,v,hv,rfl⟩,ac,λb G=>(J b G).1⟩⟩
 done:=by
  intro X L O hK hc i pins s σ H E I J st hg;subst L O hK;obtain⟨Y,ad⟩:=hg;obtain⟨f0,f1,f2,R,f4,N⟩:=J F (by simp);obtain⟨hd,vs,r,S⟩:=kq I.bG Y;have ab:=r.length;rw[ab]at st;exact wpAny_pyNext_dict_end (I.ok.hd hc) st S (by simp;omega) λh' eb=>⟨rfl,I.turned (t':=s.toks) (λb o G e=>eb b o G e) f0 f1 R f4 N⟩
 self:=λ_ _ _ _ _ st h=>wpAny_pyIter_keyiter st h
def EC (H₀:Hp) (td:TE):TI:=λσ H R=>td σ H λx H1=>x8 λa kvs=>C1 (x=.ref a) (H1 a=some (.dK kvs)) ((∀o F,H₀ a≠some (.frz o F))) (∀o,R (C9 a o kvs) (upd H1 a (.frz o (.dK kvs))))
section
variable {X:Cx}{tg:Expr}
theorem pj {l:Expr}{td:TE}(hl:PE X l td):PI X tg l (EC X.H₀ td):=by
 intro pins s σ H R I h;refine bT (hl pins s σ H _ I h) λv F ab=>?_;obtain⟨x,H1,L,r1,a,kvs,e,N,hn,q⟩:=ab;subst e;cases r1;obtain⟨_,hd,vs,ac,S⟩:=gD L.bG N;obtain⟨G,es,ep,h1,h2,Y,O⟩:=id S;have J:=L.freeze N h1 hn;have lt:a<F.heap.objs.size:=Heap.lt_size h1;have U:F.heap.DictAt (bt X.prog X.w) a vs (yb G):=⟨G,es,h1,h2,by unfold yb;rw[Y],O⟩;refine wpAny_pyIter_dict hd U ?_;refine⟨F.heap.objs.size,[F.heap.objs.size],_,C9 a G kvs,_,rfl,J.kept (t':=F.toks) λb o e=>Heap.get?_push_of_some _ e,wJ a _ (ne_of_lt lt) G kvs,⟨_,Heap.get?_push_size _ rfl,rfl,?_⟩,λb hb=>?_,q G⟩
 .rw[ac.length];rfl
 .have e:b=F.heap.objs.size:=(by simpa using hb);subst e;exact J.iD (le_refl _) (J.bG.fresh (le_refl _))
def E9 (H₀:Hp) (t:TS):TS:=λD σ H=>t { D with
 nx:=λG H'=>∃a o kvs,H' a=some (.frz o (.dK kvs))/\(∀o F,H₀ a≠some (.frz o F))/\D.nx G (upd H' a (.dK kvs))
 rt:=λv H'=>∃a o kvs,H' a=some (.frz o (.dK kvs))/\(∀o F,H₀ a≠some (.frz o F))/\D.rt v (upd H' a (.dK kvs)) } σ H
theorem k9 {st:Stmt}{t:TS}(h:PS X st t):PS X st (E9 X.H₀ t):=by
 intro pins s σ H D I q;refine bT (h pins s σ H _ I q) λf R F=>?_;cases f with
 |next =>
  obtain⟨N,H',G,a,o,kvs,L,O,J⟩:=F;exact⟨N,_,G.Dy L O,J⟩
 |ret u =>
  obtain⟨v,N,H',G,r,a,o,kvs,L,O,J⟩:=F;exact⟨v,N,_,G.Dy L O,r,J⟩
 |brk=>exact F
 |cont=>exact F
end
theorem sN {a:Addr}{o:Obj}{kvs:List (Key×V)}{g:TG}{tb:TS}{D:Ends}{σ:St}{H:Hp}(Pv:Nat->St->Hp->Prop) (R:Pv 0 σ H) (S:∀i σ H,i<=kvs.length->Pv i σ H->H a=some (.frz o (.dK kvs)))
  (hs:∀i k v σ H,kvs[i]?=some (k,v)->Pv i σ H->g (kV k) σ H λF H2=>tb { D with nx:=Pv (i+1),ct:=Pv (i+1),bk:=D.nx } F H2) (hd:∀σ H,Pv kvs.length σ H->D.nx σ H) :
  ∃W:Nat->Nat->St->Hp->Prop,(∃m,W 0 m σ H)/\∀i m σ H,W i m σ H ->
   ((C9 a o kvs).stop i H/\D.nx σ H)\/((C9 a o kvs).go i H/\∃N:St->Hp->Prop,(∀G H',N G H'->∃I,I<m/\W (i+1) I G H')/\∀x H',(C9 a o kvs).AJ i H x H'->g x σ H' λF H2=>tb { D with nx:=N,ct:=N,bk:=D.nx } F H2):=by
 refine⟨λi m σ H=>m=kvs.length-i/\i<=kvs.length/\Pv i σ H,⟨kvs.length,by simp,zero_le _,R⟩,?_⟩;rintro i m σ H ⟨rfl,hi,p⟩;have q:=S i σ H hi p;by_cases J:i<kvs.length
 .refine .inr ⟨⟨q,J⟩,Pv (i+1),λG H' O=>⟨kvs.length-(i+1),af,rfl,J,O⟩,λx H' y=>?_⟩;obtain⟨e,k,v,L,ex⟩:=y;subst e ex;exact hs i k v σ _ L p
 .have e:i=kvs.length:=af;subst e;exact .inl ⟨⟨q,le_refl _⟩,hd σ H p⟩
section
variable {X:Cx}
inductive Gh (K:Frag) (x:V) (y:V) (H:Hp) (Q:VK):Prop
 |mk (p:_) (q:_) (xs:_) (ys:_) (_:x=.ref p) (_:y=.ref q) (_:bq K H p xs) (_:bq K H q ys) (_:xs.all cY=true) (_:ys.all cY=true) (_:Q (.bl (!gw xs ys)) H):Gh K x y H Q
theorem Eo (L:X.A.units<cLine):kB X (compareOp .NotEq) (Gh X.K):=by
 intro pins s σ H x y v u Q I rx ry h;obtain⟨p,q,xs,ys,rfl,rfl,hx,hy,fx,fy,N⟩:=h;cases rx;cases ry;obtain⟨its,r,pl,hz⟩:=I.list hx;obtain⟨R,S,J,ad⟩:=I.list hy;have O:=r.length;have ab:=S.length;by_cases e:xs.length=ys.length
 .refine PySem.SeqAt.RcNeAt.lists (e:=λj=>jP (xs.getD j .non) (ys.getD j .non)) pl.isList J.isList (by rw[size_toArray,size_toArray];omega) L (λj h1 h2=>?_) _ _ _ _ ⟨.bl (!gw xs ys),H,I,?_,N⟩
  .have F:j<xs.length:=(by rw[size_toArray]at h1;omega);have G:j<ys.length:=af;obtain⟨a,ea,ra⟩:=r.get (i:=j) (x:=xs[j]) (by simp[F]);obtain⟨b,eb,rb⟩:=S.get (i:=j) (x:=ys[j]) (by simp[G]);obtain⟨_,ac⟩:=List.getElem?_eq_some_iff.mp ea;obtain⟨_,U⟩:=List.getElem?_eq_some_iff.mp eb;have g1:xs.getD j .non=xs[j]:=(by simp[F]);have g2:ys.getD j .non=ys[j]:=(by simp[G]);show SeqAt.EqAt _ _ its.toArray[j] R.toArray[j] (jP (xs.getD j .non) (ys.getD j .non));rw[g1,g2];have f1:cY xs[j]=true:=List.all_eq_true.mp fx _ (getElem_mem F);have Y:cY ys[j]=true:=List.all_eq_true.mp fy _ (getElem_mem G);have z:=iS (A:=X.A.in1) (s:=s) ra rb f1 Y;have a1:its.toArray[j]=a:=(by simpa using ac);have a2:R.toArray[j]=b:=(by simpa using U);rw[a1,a2];exact z
  .show Value.bool _=Value.bool _;rw[size_toArray, <-O,gr e]
 .refine PySem.SeqAt.RcNeAt.lists_lengths pl.isList J.isList ?_ L _ _ _ _ ⟨.bl (!gw xs ys),H,I,?_,N⟩
  .rw[size_toArray,size_toArray, <-O, <-ab];exact bne_iff_ne.mpr e
  .show Value.bool _=Value.bool _;rw[jO e];rfl
end
def Dq (lo st:Int) (n:Nat):It:=⟨λi _=>i<n,λi H x H'=>H'=H/\x=.int (lo+i*st),λi _=>n<=i⟩
theorem rX {P:Program}{w:World}{K:Frag}{tg:Expr}(F:Addr) (lo st:Int) (n:Nat):Turn P w K tg (Dq lo st n) [F] F (λi h=>IsRangeIter h F (lo+(i:Nat)*st) ((n:Int)-(i:Nat)) st) where
 mem:=by simp
 obj:=λi h st b G=>by
  have e:b=F:=(by simpa using G);subst e;exact⟨_,st,λv z=>by
   have z':Data.fields _=Data.cell v:=z;cases z'⟩
 keep:=λi h h' st k=>k F (by simp) _ st
 item:=by
  intro X L O hK hc i pins s σ H E I J ab hg;subst L O hK;obtain⟨U,S,f2,R,Y,N⟩:=J F (by simp);have W:=Walks.range (prog:=X.prog) (w:=X.w) (I.ok.hd hc) F lo st n;refine W.item i s _ _ hg ab λv h' tk hv ac kk=>?_;obtain⟨t,rfl⟩:=hv;have I1:Inv X pins σ H { s with heap:=h',toks:=tk }:=I.turned (λb o G e=>kk b o (by simpa using G) e) U S R Y N;exact⟨_,rfl,nN (s:={ s with heap:=h',toks:=tk }) (n := "range_iterator") ac rfl rfl av ⟨.int (lo+i*st),H,I1,⟨t,rfl⟩,⟨rfl,rfl⟩,ac,λb G=>(J b G).1⟩⟩
 done:=by
  intro X L O hK hc i pins s σ H E I J ab hg;subst L O hK;obtain⟨U,S,f2,R,Y,N⟩:=J F (by simp);exact wpAny_pyNext_range_end (I.ok.hd hc) ab (by have:n<=i:=hg;omega) λh' eb=>⟨rfl,I.turned (t':=s.toks) (λb o G e=>eb b o G e) U S R Y N⟩
 self:=λ_ _ _ _ _ st h=>wpAny_pyIter_rangeiter st h
def FT (ta:TA):TI:=λσ H R=>ta σ H λvs H1=>∃(i j st:Int) (n:Nat),vs=[.int i,.int j,.int st]/\Builtin.Range.small i j st=true/\Builtin.Range.rangeSize i j st=(n:Int)/\st≠0/\Builtin.divisionGoesByPylong (j-i) st=false/\R (Dq i st n) H1
section
variable {X:Cx}{tg:Expr}
theorem xv {a b c:Expr}{ta:TA}{p pos:Pos}(hg:Gl X "range") (O:X.mg "range" = none) (ha:PA X [a,b,c] ta) (hs:starEach [a,b,c] X.env=[(false,eval a X.env),(false,eval b X.env),(false,eval c X.env)]:=by rfl) (N:starEach [b,c] X.env=[(false,eval b X.env),(false,eval c X.env)]:=by rfl) :
  PI X tg (.Call (.Name "range" p) [a,b,c] [] pos) (FT ta):=by
 intro pins s σ H R I h;refine Call_ (gx I hg O boot_range (PyProof.Rows.callWith_type1 (bT (ha pos pins s σ H _ I h) λus G ⟨vs,H1,I1,r1,J⟩=>?_) (by rw[hs,N]) (by rw[N];rfl)));obtain⟨i,j,st,n,e,J,q2,U,Y,q⟩:=J;subst e;cases r1 with
 |cons r F =>
  cases F with
  |cons r' F =>
   cases F with
   |cons ac F =>
    cases F;obtain⟨t,rfl⟩:=r;obtain⟨t',rfl⟩:=r';obtain⟨ab,rfl⟩:=ac;refine call_range_3 U ?_ (.inl Y);refine wpAny_pyIter_range (IsRange.new ..) J ?_;have L:Inv X pins σ H1 { G with heap:=G.heap.push { cls:=.type "range",data:=.fields #[.int i t,.int j t',.int st ab] },toks:=G.toks }:=I1.kept λb o e=>Heap.get?_push_of_some _ e;refine⟨_,[_],_,_,H1,rfl,L.kept (t':=G.toks) λb o e=>Heap.get?_push_of_some _ e,rX _ i st n,?_,λb hb=>?_,q⟩
    .have S:i+((0:Nat):Int)*st=i:=(by simp);have e2:(n:Int)-((0:Nat):Int)=Builtin.Range.rangeSize i j st:=(by rw[q2];omega);show IsRangeIter _ _ (i+((0:Nat):Int)*st) ((n:Int)-((0:Nat):Int)) st;rw[S,e2];exact Heap.get?_push_size _ rfl
    .have e:=List.mem_singleton.mp hb;subst e;exact L.iD (le_refl _) (L.bG.fresh (le_refl _))
end
theorem zD (K:Frag):kitOne K (.type "int") (.type "tuple")=some false:=by with_unfolding_all rfl
theorem yM (K:Frag):kitOne K (.type "int") (.type "list")=some false:=by with_unfolding_all rfl
theorem yj (K:Frag):kitOne K (.type "int") (.type "dict")=some false:=by with_unfolding_all rfl
theorem zP (K:Frag):kitOne K (.type "str") (.type "tuple")=some false:=by with_unfolding_all rfl
theorem yd (K:Frag):kitOne K (.type "str") (.type "list")=some false:=by with_unfolding_all rfl
theorem zZ (K:Frag):kitOne K (.type "str") (.type "dict")=some false:=by with_unfolding_all rfl
theorem zB (K:Frag):kitOne K (.type "NoneType") (.type "tuple")=some false:=by with_unfolding_all rfl
theorem yL (K:Frag):kitOne K (.type "NoneType") (.type "list")=some false:=by with_unfolding_all rfl
theorem yG (K:Frag):kitOne K (.type "NoneType") (.type "dict")=some false:=by with_unfolding_all rfl
theorem zf (K:Frag):kitOne K (.type "tuple") (.type "tuple")=some true:=rfl
end L2
namespace Srt
open PySem PyProof.Rows
structure SI (a₀:Array Keyed) (st:SortSt):Prop where
 perm:(arrOf st).Perm a₀
 kind:kindOf st=oneType'
 failed:failedOf st=none
structure Ks (a₀:Array Keyed):Prop where
 ik:IntKeys a₀
 nd:(a₀.toList.map λp=>numOf p.1).Nodup
def j9 (xs:Array Keyed) (lo hi:Nat):Prop:=∀i j,lo<=i->i<=j->j<hi->K xs i<=K xs j
theorem SI.size {a₀:Array Keyed}{st:SortSt}(h:SI a₀ st):(arrOf st).size=a₀.size:=h.perm.size_eq
theorem tG {a₀ xs:Array Keyed}(I:xs.Perm a₀) (k:Ks a₀) {i:Nat}(hi:i<xs.size):∃t q,xs[i]?=some (.int (K xs i) t,q):=by
 have F:xs[i]∈a₀.toList:=(Array.perm_iff_toList_perm.mp I).mem_iff.mp (by simp);obtain⟨n,t,J⟩:=k.ik _ F;have e:xs[i]?=some xs[i]:=getElem?_pos _ i hi;have G:xs[i]=(.int n t,xs[i].2):=Prod.ext J rfl;refine⟨t,xs[i].2,?_⟩;unfold K;rw[e,G];rfl
theorem key_ne {a₀ xs:Array Keyed}(G:xs.Perm a₀) (k:Ks a₀) {i j:Nat}(hi:i<j) (F:j<xs.size):K xs i≠K xs j:=by
 have J:=(Array.perm_iff_toList_perm.mp G).map λp:Keyed=>numOf p.1;have I:(xs.toList.map λp=>numOf p.1).Nodup:=J.nodup_iff.mpr k.nd;have h1:i<xs.size:=af;have a:=List.pairwise_iff_getElem.mp I i j (by simpa using h1) (by simpa using F) hi;unfold K;rw[getElem?_pos xs i h1,getElem?_pos xs j F];simpa using a
theorem SI.setArr {a₀:Array Keyed}{st:SortSt}(h:SI a₀ st) {xs:Array Keyed}(F:xs.Perm (arrOf st)):SI a₀ (setArr st xs):=⟨F.trans h.perm,h.kind,h.failed⟩
section
variable {prog:Program}{w:World}{A:Around}{E:Value->Shared->Prop}{s:Shared}{a₀:Array Keyed}
theorem oT {st:SortSt}{x y:Keyed}{a b:Int}{t u:Tok}{Q:Option Bool->SortSt->Prop}(F:kindOf st=oneType') (I:x.1=.int a t) (G:y.1=.int b u) (h:Q (some (decide (a<b))) st) :
  wpS (model prog w) A E s (lt' x y) Q st:=by
 rw[lt'_eq];refine wpS_bind (wpS_get ?_);rw[F,keyLt'_oneType,I,G];exact wpS_bind (wpS_lift (wpAny_attempt (oneLt_int ⟨rfl,wpS_pure h⟩)))
theorem br {st:SortSt}{xs:Array Keyed}{i:Nat}{p:Keyed}{Q:Keyed->SortSt->Prop}(hi:xs[i]?=some p) (h:Q p st):wpS (model prog w) A E s (elem' xs i) Q st:=by
 rw[elem'_eq,hi];exact wpS_pure h
theorem oh {st:SortSt}{i j:Nat}{Q:Option Bool->SortSt->Prop}(S:SI a₀ st) (k:Ks a₀) (hi:i<a₀.size) (G:j<a₀.size) (h:Q (some (decide (K (arrOf st) i<K (arrOf st) j))) st) :
  wpS (model prog w) A E s (ltAt' i j) Q st:=by
 obtain⟨t,p,I⟩:=tG S.perm k (by rw[S.size];exact hi);obtain⟨u,q,F⟩:=tG S.perm k (by rw[S.size];exact G);exact wpS_ltAt S.kind I F h
structure Cut (a₀:Array Keyed) (st st':SortSt) (lo:Nat):Prop where
 S:SI a₀ st'
 pre:∀i,i<lo->(arrOf st')[i]?=(arrOf st)[i]?
 pend:pendingOf st'=pendingOf st
theorem yJ {st:SortSt}{lo nrem:Nat}{Q:Option Nat->SortSt->Prop}(S:SI a₀ st) (k:Ks a₀) (hn:lo+nrem<=a₀.size) (h1:1<=nrem)
  (h:∀m F,Cut a₀ st F lo->1<=m->m<=nrem->j9 (arrOf F) lo (lo+m)->Q (some m) F):wpS (model prog w) A E s (countRun' lo nrem) Q st:=by
 rw[countRun'_eq];refine wpS_bind (wpS_mono (wpS_forRange (I:=λx c F=>qQ (F=st) (c=(none,x)) (j9 (arrOf st) lo (lo+x))) (Q:=λc F=>F=st/\∃n,c=(none,n)/\1<=n/\n<=nrem/\j9 (arrOf st) lo (lo+n)/\(n=nrem\/K (arrOf st) (lo+n)<K (arrOf st) (lo+n-1))) ?_ ?_ ?_) ?_)
 .rintro x c F Y ab ⟨rfl,rfl,hs⟩;dsimp only;refine wpS_bind (oh S k af af ?_);by_cases c:K (arrOf F) (lo+x)<K (arrOf F) (lo+x-1)
  .simp only[c,decide_true,if_true];exact wpS_pure ⟨rfl,x,rfl,Y,af,hs,.inr c⟩
  .simp only[c,decide_false,Bool.false_eq_true,if_false];refine wpS_pure ⟨rfl,rfl,λi j hi L O=>?_⟩;by_cases z:j<lo+x
   .exact hs i j hi L z
   .by_cases R:i=j
    .rw[R];exact Int.le_refl _
    .have:=hs i (lo+x-1) hi af af;have N:j=lo+x:=af;rw[N];lia
 .rintro c F ⟨rfl,rfl,hs⟩;rw[show max 1 nrem=nrem by lia]at hs ⊢;exact⟨rfl,nrem,rfl,h1,le_refl _,hs,.inl rfl⟩
 .exact⟨rfl,rfl,λi j hi L O=>by rw[show i=j by lia];exact Int.le_refl _⟩
 .rintro c F ⟨rfl,n,rfl,n1,n2,hs,am⟩;dsimp only;by_cases e:n=nrem
  .rw[if_pos (by simpa using e)];exact wpS_pure (h n F ⟨S,λ_ _=>rfl,rfl⟩ n1 n2 hs)
  .rw[if_neg (by simpa using e)];have ap:=am.resolve_left e;by_cases g:n>1
   .rw[if_pos g];refine wpS_bind (oh S k af af ?_);have r:K (arrOf F) lo<K (arrOf F) (lo+n-1):=by
     have a:=hs lo (lo+n-1) (le_refl _) af (by omega +splitNatSub);have b:=key_ne S.perm k (i:=lo) (j:=lo+n-1) (by omega +splitNatSub) (by rw[S.size];lia);lia
    simp only[r,decide_true,if_true];exact wpS_pure (h n F ⟨S,λ_ _=>rfl,rfl⟩ n1 n2 hs)
   .rw[if_neg g];have e1:n=1:=af;subst e1;refine wpS_bind (wpS_lift (wpAny_rule ⟨rfl,?_⟩));have ad:∀i j,lo<=i->i<=j->j<lo+2->K (arrOf F) j<=K (arrOf F) i:=λi j hi L O=>by
     by_cases z:i=j
     .rw[z];exact Int.le_refl _
     .have ei:i=lo:=af;have N:j=lo+1:=af;rw[ei,N];exact Int.le_of_lt ap
    refine wpS_bind (wpS_mono (wpS_forRange (I:=λx c G=>qQ (G=F) (c=(none,x,0)) (∀i j,lo<=i->i<=j->j<lo+x->K (arrOf F) j<=K (arrOf F) i)) (Q:=λc G=>G=F/\∃n,c=(none,n,0)/\2<=n/\n<=nrem/\∀i j,lo<=i->i<=j->j<lo+n->K (arrOf F) j<=K (arrOf F) i) ?_ ?_ ?_) ?_)
    .rintro x c G Y ab ⟨rfl,rfl,hd⟩;dsimp only;refine wpS_bind (oh S k af af ?_);by_cases c:K (arrOf G) (lo+x)<K (arrOf G) (lo+x-1)
     .simp only[c,decide_true,if_true];rw[if_neg af];refine wpS_pure ⟨rfl,rfl,λi j hi L O=>?_⟩;by_cases z:j<lo+x
      .exact hd i j hi L z
      .by_cases R:i=j
       .rw[R];exact Int.le_refl _
       .have:=hd i (lo+x-1) hi af af;have N:j=lo+x:=af;rw[N];lia
     .simp only[c,decide_false,Bool.false_eq_true,if_false];refine wpS_bind (oh S k af af ?_);have r:K (arrOf G) (lo+x-1)<K (arrOf G) (lo+x):=by
       have b:=key_ne S.perm k (i:=lo+x-1) (j:=lo+x) (by omega +splitNatSub) (by rw[S.size];lia);lia
      simp only[r,decide_true,if_true];exact wpS_pure ⟨rfl,x,rfl,Y,af,hd⟩
    .rintro c G ⟨rfl,rfl,hd⟩;rw[show max (1+1) nrem=nrem by lia]at hd ⊢;exact⟨rfl,nrem,rfl,af,le_refl _,hd⟩
    .exact⟨rfl,rfl,ad⟩
    .rintro c G ⟨rfl,n,rfl,m1,m2,hd⟩;dsimp only;rw[if_neg af];refine wpS_bind (wpS_reverse ?_);have hsz:lo+n<=(arrOf G).size:=(by rw[S.size];lia);have S3:=S.setArr (mirror_perm (arrOf G) lo (lo+n) ((lo+n-lo)/2));have C3:Cut a₀ G (setArr G (mirror (arrOf G) lo (lo+n) ((lo+n-lo)/2))) lo:=by
      refine⟨S3,λi hi=>?_,rfl⟩;show(mirror (arrOf G) lo (lo+n) ((lo+n-lo)/2))[i]?=_;rw[getElem?_mirror_all hsz,if_neg af]
     have ac:j9 (arrOf (setArr G (mirror (arrOf G) lo (lo+n) ((lo+n-lo)/2)))) lo (lo+n):=λi j hi L O=>by
      show K (mirror (arrOf G) lo (lo+n) ((lo+n-lo)/2)) i<=K (mirror (arrOf G) lo (lo+n) ((lo+n-lo)/2)) j;rw[K_mirror hsz,K_mirror hsz,if_pos af,if_pos af];exact hd _ _ (by omega +splitNatSub) (by omega +splitNatSub) (by omega +splitNatSub)
     generalize setArr G (mirror (arrOf G) lo (lo+n) ((lo+n-lo)/2))=U at S3 C3 ac ⊢;refine wpS_bind (wpS_mono (wpS_forRange (I:=λx c J=>qQ (J=U) (c=(none,x)) (j9 (arrOf U) lo (lo+x))) (Q:=λc J=>J=U/\∃m,c=(none,m)/\1<=m/\m<=nrem/\j9 (arrOf U) lo (lo+m)) ?_ ?_ ?_) ?_)
     .rintro x c J Y ab ⟨rfl,rfl,hs⟩;dsimp only;refine wpS_bind (oh S3 k af af ?_);by_cases c:K (arrOf J) (lo+x)<K (arrOf J) (lo+x-1)
      .simp only[c,decide_true,if_true];exact wpS_pure ⟨rfl,x,rfl,af,af,hs⟩
      .simp only[c,decide_false,Bool.false_eq_true,if_false];refine wpS_pure ⟨rfl,rfl,λi j hi L O=>?_⟩;by_cases z:j<lo+x
       .exact hs i j hi L z
       .by_cases R:i=j
        .rw[R];exact Int.le_refl _
        .have:=hs i (lo+x-1) hi af af;have N:j=lo+x:=af;rw[N];lia
     .rintro c J ⟨rfl,rfl,hs⟩;rw[show max n nrem=nrem by lia]at hs ⊢;exact⟨rfl,nrem,rfl,h1,le_refl _,hs⟩
     .exact⟨rfl,rfl,ac⟩
     .rintro c J ⟨rfl,m,rfl,q1,q2,hs⟩;exact wpS_pure (h m J C3 q1 q2 hs)
theorem zw {st:SortSt}{lo n ok:Nat}{Q:Bool->SortSt->Prop}(S:SI a₀ st) (k:Ks a₀) (hn:lo+n<=a₀.size) (h1:1<=ok) (bG:ok<=n) (hs:j9 (arrOf st) lo (lo+ok))
  (h:∀F,Cut a₀ st F lo->j9 (arrOf F) lo (lo+n)->Q true F):wpS (model prog w) A E s (binarySort' lo n ok) Q st:=by
 rw[binarySort'_eq];refine wpS_bind (wpS_mono (wpS_forRange (I:=λx c F=>qQ (c=(none,())) (Cut a₀ st F lo) (j9 (arrOf F) lo (lo+x))) (Q:=λc F=>qQ (c=(none,())) (Cut a₀ st F lo) (j9 (arrOf F) lo (lo+n))) ?_ ?_ ?_) ?_)
 .rintro x c F ap ad ⟨rfl,C,J⟩;have R:lo+x<(arrOf F).size:=(by rw[C.S.size];lia);refine wpS_bind (wpS_mono (wpS_forRange (I:=λy c G=>G=F/\∃l r,c=(none,l,r)/\l<=r/\r<=x/\r-l<=x-y/\(∀i,lo<=i->i<lo+l->K (arrOf F) i<=K (arrOf F) (lo+x))/\∀i,lo+r<=i->i<lo+x->K (arrOf F) (lo+x)<K (arrOf F) i)
   (Q:=λc G=>G=F/\∃l,c=(none,l,l)/\l<=x/\(∀i,lo<=i->i<lo+l->K (arrOf F) i<=K (arrOf F) (lo+x))/\∀i,lo+l<=i->i<lo+x->K (arrOf F) (lo+x)<K (arrOf F) i) ?_ ?_ ?_) ?_)
  .rintro y c G am as ⟨rfl,l,r,rfl,lr,U,hm,L,N⟩;dsimp only;by_cases g:l>=r
   .rw[if_pos g];obtain rfl:l=r:=af;exact wpS_pure ⟨rfl,l,rfl,U,L,N⟩
   .rw[if_neg g];refine wpS_bind (oh C.S k af af ?_);by_cases c:K (arrOf G) (lo+x)<K (arrOf G) (lo+(l+r)/2)
    .simp only[c,decide_true,if_true];refine wpS_pure ⟨rfl,l,(l+r)/2,rfl,af,af,by omega +splitNatSub,L,λi hi ac=>?_⟩;have:=J (lo+(l+r)/2) i af hi (by omega +splitNatSub);lia
    .simp only[c,decide_false,Bool.false_eq_true,if_false];refine wpS_pure ⟨rfl,(l+r)/2+1,r,rfl,af,by omega +splitNatSub,by omega +splitNatSub,λi hi ac=>?_,N⟩;have:=J i (lo+(l+r)/2) hi af af;lia
  .rintro c G ⟨rfl,l,r,rfl,lr,U,hm,L,N⟩;obtain rfl:l=r:=af;exact⟨rfl,l,rfl,U,L,N⟩
  .exact⟨rfl,0,x,rfl,af,af,af,λi hi ab=>by lia,λi hi ab=>by lia⟩
  .rintro c G ⟨rfl,l,rfl,lx,L,N⟩;dsimp only;rw[moveDown'_eq];refine wpS_bind (wpS_modify (wpS_pure ⟨rfl,⟨C.S.setArr (bubble_perm _ _ _),λi hi=>?_,C.pend⟩,λi j hi aB hj=>?_⟩))
   .show(bubble (arrOf G) (lo+x) (lo+x-(lo+l)))[i]?=_;rw[getElem?_bubble R _ (by omega +splitNatSub),if_neg (by omega +splitNatSub),if_neg (by omega +splitNatSub)];exact C.pre i hi
   .show K (bubble (arrOf G) (lo+x) (lo+x-(lo+l))) i<=K (bubble (arrOf G) (lo+x) (lo+x-(lo+l))) j;rw[K_bubble R af,K_bubble R af,show lo+x-(lo+x-(lo+l))=lo+l by lia];by_cases c1:i=lo+l
    .rw[if_pos c1];by_cases O:j=lo+l
     .rw[if_pos O];exact Int.le_refl _
     .rw[if_neg O,if_pos af];have:=N (j-1) af af;lia
    .rw[if_neg c1];by_cases O:j=lo+l
     .rw[if_pos O,if_neg af];exact L i hi af
     .rw[if_neg O];by_cases Y:lo+l<i/\i<=lo+x
      .rw[if_pos Y,if_pos af];exact J _ _ af (by omega +splitNatSub) (by omega +splitNatSub)
      .rw[if_neg Y];by_cases c4:lo+l<j/\j<=lo+x
       .rw[if_pos c4];exact J _ _ (by omega +splitNatSub) af af
       .rw[if_neg c4];exact J _ _ (by omega +splitNatSub) (by omega +splitNatSub) af
 .rintro c F ⟨rfl,C,J⟩;rw[show max (max ok 1) n=n by lia]at J;exact⟨rfl,C,J⟩
 .rw[show max ok 1=ok by lia];exact⟨rfl,⟨S,λ_ _=>rfl,rfl⟩,hs⟩
 .rintro c F ⟨rfl,C,J⟩;exact wpS_pure (h F C J)
end
def BS:Bool->Keyed->Array Keyed->Nat->Nat->Nat->StateT SortSt Sem (Option Nat):=sortPriv% PySem.Builtin.gallop
def fU (left:Bool) (a:Int) (xs:Array Keyed) (base i:Nat):Bool:=if left then decide (K xs (base+i)<a)else !decide (a<K xs (base+i))
section
variable {prog:Program}{w:World}{A:Around}{E:Value->Shared->Prop}{s:Shared}{a₀:Array Keyed}
def qm (left:Bool) (F:Keyed) (xs:Array Keyed) (base i:Nat):StateT SortSt Sem (Option Bool):=
 bind (elem' xs (base+i)) λx=>ite (left=true) (lt' x F) (bind (lt' F x) λr=>pure (Option.map (λb => !b) r))
theorem DW {st:SortSt}{left:Bool}{I:Keyed}{a:Int}{t u:Tok}{q:Value}{xs:Array Keyed}{base i:Nat}{Q:Option Bool->SortSt->Prop}(F:kindOf st=oneType') (G:I.1=.int a t) (J:xs[base+i]?=some (.int (K xs (base+i)) u,q))
  (h:Q (some (fU left a xs base i)) st):wpS (model prog w) A E s (qm left I xs base i) Q st:=by
 unfold qm;refine wpS_bind (br J ?_);unfold fU at h;cases left with
 |true=>exact oT F rfl G h
 |false=>exact wpS_bind (oT F G rfl (wpS_pure h))
theorem hJ {left:Bool}{a:Int}{xs:Array Keyed}{base n i j:Nat}(hs:j9 xs base (base+n)) (F:i<=j) (G:j<n) (h:fU left a xs base j=true):fU left a xs base i=true:=by
 have:=hs (base+i) (base+j) af af af;unfold fU at h ⊢;cases left with
 |true =>
  have z:K xs (base+j)<a:=of_decide_eq_true h;exact decide_eq_true af
 |false =>
  have z:¬ a<K xs (base+j):=of_decide_eq_false (by simpa using h);show(!decide (a<K xs (base+i)))=true;rw[decide_eq_false af];rfl
theorem iz {left:Bool}{a:Int}{xs:Array Keyed}{base n i j:Nat}(hs:j9 xs base (base+n)) (F:i<=j) (G:j<n) (h:fU left a xs base i=false):fU left a xs base j=false:=by
 cases e:fU left a xs base j with
 |false=>rfl
 |true=>rw[hJ hs F G e]at h;cases h
theorem dD {st:SortSt}{left:Bool}{ac:Keyed}{a:Int}{t:Tok}{xs:Array Keyed}{base n hint:Nat}{Q:Option Nat->SortSt->Prop}(hk:kindOf st=oneType') (aB:ac.1=.int a t) (hx:∀i,i<n->∃t q,xs[base+i]?=some (.int (K xs (base+i)) t,q))
  (hs:j9 xs base (base+n)) (hh:hint<n) (h:∀r,r<=n->(∀i,i<r->fU left a xs base i=true)->(∀i,r<=i->i<n->fU left a xs base i=false)->Q (some r) st) :
  wpS (model prog w) A E s (BS left ac xs base n hint) Q st:=by
 have B:∀{i:Nat}{Q:Option Bool->SortSt->Prop},i<n->Q (some (fU left a xs base i)) st->wpS (model prog w) A E s (qm left ac xs base i) Q st:=λhi q=>by
  obtain⟨u,v,e⟩:=hx _ hi;exact DW hk aB e q
 refine wpS_bind (B hh ?_);cases c:fU left a xs base hint with
 |true =>
  dsimp only;rw[if_pos rfl];refine wpS_bind (wpS_mono (wpS_forRange (I:=λx c F=>F=st/\∃l o,c=(none,l,o)/\l<o/\x+1<=o/\hint+l<n/\fU left a xs base (hint+l)=true) (Q:=λc F=>F=st/\∃l o,c=(none,l,o)/\l<o/\hint+l<n/\fU left a xs base (hint+l)=true/\(n-hint<=o\/(hint+o<n/\fU left a xs base (hint+o)=false))) ?_ ?_ ?_) ?_)
  .rintro x c F as ad ⟨rfl,l,o,rfl,lo,xo,R,J⟩;dsimp only;by_cases g:o>=n-hint
   .rw[if_pos g];exact wpS_pure ⟨rfl,l,o,rfl,lo,R,J,.inl g⟩
   .rw[if_neg g];refine wpS_bind (B (i:=hint+o) af ?_);cases S:fU left a xs base (hint+o)with
    |true=>exact wpS_pure ⟨rfl,o,2*o+1,rfl,af,af,af,S⟩
    |false=>exact wpS_pure ⟨rfl,l,o,rfl,lo,R,J,.inr ⟨af,S⟩⟩
  .rintro c F ⟨rfl,l,o,rfl,lo,xo,R,J⟩;exact⟨rfl,l,o,rfl,lo,R,J,.inl af⟩
  .exact⟨rfl,0,1,rfl,af,af,hh,c⟩
  .rintro c F ⟨rfl,l,o,rfl,lo,R,J,ap⟩;dsimp only;have f1:∀i,i<hint+l+1->fU left a xs base i=true:=λi hi=>hJ hs (j:=hint+l) af R J;have f2:∀i,hint+min o (n-hint)<=i->i<n->fU left a xs base i=false:=λi hi Y=>by
    rcases ap with g|⟨g1,g2⟩
    .omega +splitNatSub
    .exact iz hs (i:=hint+o) af Y g2
   have U:hint+l+1<=hint+min o (n-hint):=(by omega +splitNatSub);have f4:hint+min o (n-hint)<=n:=(by omega +splitNatSub);generalize hint+l+1=am at f1 U ⊢;generalize hint+min o (n-hint)=ab at f2 U f4 ⊢;refine wpS_bind (wpS_mono (wpS_forRange (I:=λx c O=>O=F/\∃l r,c=(none,l,r)/\l<=r/\r<=n/\r-l<=n-x/\(∀i,i<l->fU left a xs base i=true)/\∀i,r<=i->i<n->fU left a xs base i=false) (Q:=λc O=>O=F/\∃r,c=(none,r,r)/\r<=n/\(∀i,i<r->fU left a xs base i=true)/\∀i,r<=i->i<n->fU left a xs base i=false) ?_ ?_ ?_) ?_)
   .rintro x c O as ad ⟨rfl,l,r,rfl,lr,L,hm,G,N⟩;dsimp only;by_cases g:l>=r
    .rw[if_pos g];obtain rfl:l=r:=af;exact wpS_pure ⟨rfl,l,rfl,L,G,N⟩
    .rw[if_neg g];refine wpS_bind (B (i:=l+(r-l)/2) af ?_);cases S:fU left a xs base (l+(r-l)/2)with
     |true=>exact wpS_pure ⟨rfl,l+(r-l)/2+1,r,rfl,af,L,by omega +splitNatSub,λi hi=>hJ hs (j:=l+(r-l)/2) af af S,N⟩
     |false=>exact wpS_pure ⟨rfl,l,l+(r-l)/2,rfl,af,af,af,G,λi hi Y=>iz hs hi Y S⟩
   .rintro c O ⟨rfl,l,r,rfl,lr,L,hm,G,N⟩;obtain rfl:l=r:=af;exact⟨rfl,l,rfl,L,G,N⟩
   .exact⟨rfl,am,ab,rfl,U,f4,af,f1,f2⟩
   .rintro c O ⟨rfl,r,rfl,L,G,N⟩;exact wpS_pure (h r L G N)
 |false =>
  dsimp only;rw[if_neg av];refine wpS_bind (wpS_mono (wpS_forRange (I:=λx c F=>F=st/\∃l o,c=(none,l,o)/\l<o/\x+1<=o/\l<=hint/\fU left a xs base (hint-l)=false) (Q:=λc F=>F=st/\∃l o,c=(none,l,o)/\l<o/\l<=hint/\fU left a xs base (hint-l)=false/\(hint+1<=o\/(o<=hint/\fU left a xs base (hint-o)=true))) ?_ ?_ ?_) ?_)
  .rintro x c F as ad ⟨rfl,l,o,rfl,lo,xo,R,J⟩;dsimp only;by_cases g:o>=hint+1
   .rw[if_pos g];exact wpS_pure ⟨rfl,l,o,rfl,lo,R,J,.inl g⟩
   .rw[if_neg g];refine wpS_bind (B (i:=hint-o) af ?_);cases S:fU left a xs base (hint-o)with
    |true=>exact wpS_pure ⟨rfl,l,o,rfl,lo,R,J,.inr ⟨af,S⟩⟩
    |false=>exact wpS_pure ⟨rfl,o,2*o+1,rfl,af,af,af,S⟩
  .rintro c F ⟨rfl,l,o,rfl,lo,xo,R,J⟩;exact⟨rfl,l,o,rfl,lo,R,J,.inl af⟩
  .exact⟨rfl,0,1,rfl,af,af,zero_le _,c⟩
  .rintro c F ⟨rfl,l,o,rfl,lo,R,J,ap⟩;dsimp only;have f1:∀i,i<hint+1-min o (hint+1)->fU left a xs base i=true:=λi hi=>by
    rcases ap with g|⟨g1,g2⟩
    .omega +splitNatSub
    .exact hJ hs (j:=hint-o) (by omega +splitNatSub) (by omega +splitNatSub) g2
   have f2:∀i,hint-l<=i->i<n->fU left a xs base i=false:=λi hi Y=>iz hs hi Y J;have U:hint+1-min o (hint+1)<=hint-l:=(by omega +splitNatSub);have f4:hint-l<=n:=af;generalize hint+1-min o (hint+1)=am at f1 U ⊢;generalize hint-l=ab at f2 U f4 ⊢;refine wpS_bind (wpS_mono (wpS_forRange (I:=λx c O=>O=F/\∃l r,c=(none,l,r)/\l<=r/\r<=n/\r-l<=n-x/\(∀i,i<l->fU left a xs base i=true)/\∀i,r<=i->i<n->fU left a xs base i=false) (Q:=λc O=>O=F/\∃r,c=(none,r,r)/\r<=n/\(∀i,i<r->fU left a xs base i=true)/\∀i,r<=i->i<n->fU left a xs base i=false) ?_ ?_ ?_) ?_)
   .rintro x c O as ad ⟨rfl,l,r,rfl,lr,L,hm,G,N⟩;dsimp only;by_cases g:l>=r
    .rw[if_pos g];obtain rfl:l=r:=af;exact wpS_pure ⟨rfl,l,rfl,L,G,N⟩
    .rw[if_neg g];refine wpS_bind (B (i:=l+(r-l)/2) af ?_);cases S:fU left a xs base (l+(r-l)/2)with
     |true=>exact wpS_pure ⟨rfl,l+(r-l)/2+1,r,rfl,af,L,by omega +splitNatSub,λi hi=>hJ hs (j:=l+(r-l)/2) af af S,N⟩
     |false=>exact wpS_pure ⟨rfl,l,l+(r-l)/2,rfl,af,af,af,G,λi hi Y=>iz hs hi Y S⟩
   .rintro c O ⟨rfl,l,r,rfl,lr,L,hm,G,N⟩;obtain rfl:l=r:=af;exact⟨rfl,l,rfl,L,G,N⟩
   .exact⟨rfl,am,ab,rfl,U,f4,af,f1,f2⟩
   .rintro c O ⟨rfl,r,rfl,L,G,N⟩;exact wpS_pure (h r L G N)
end
def le (p q:Keyed):Prop:=numOf p.1<=numOf q.1
structure Up (a:Array Keyed):Prop where
 ik:IntKeys a
 up:a.toList.Pairwise le
theorem Up.at {a:Array Keyed}(u:Up a) {i:Nat}(hi:i<a.size):∃t q,a[i]?=some (.int (K a i) t,q):=by
 obtain⟨n,t,G⟩:=u.ik a[i] (by simp);have e:a[i]?=some a[i]:=getElem?_pos _ i hi;have F:a[i]=(.int n t,a[i].2):=Prod.ext G rfl;refine⟨t,a[i].2,?_⟩;unfold K;rw[e,F];rfl
theorem Up.Gz {a:Array Keyed}(u:Up a):j9 a 0 a.size:=λi j _ G F=>by
 by_cases e:i=j
 .rw[e];exact Int.le_refl _
 .have hi:i<a.size:=af;have z:=List.pairwise_iff_getElem.mp u.up i j (by simpa using hi) (by simpa using F) af;rw[K_eq hi,K_eq F];simpa[le]using z
theorem j9.sub {a:Array Keyed}{lo hi G F:Nat}(h:j9 a lo hi) (h1:lo<=G) (h2:F<=hi):j9 a G F:=λi j hi I J=>h i j af I af
structure MI (a b out:Array Keyed) (ia ib:Nat):Prop where
 la:ia<=a.size
 lb:ib<=b.size
 pm:(out.toList++a.toList.drop ia++b.toList.drop ib).Perm (a.toList++b.toList)
 up:out.toList.Pairwise le
 ba:∀p∈out.toList,∀q∈a.toList.drop ia,le p q
 bb:∀p∈out.toList,∀q∈b.toList.drop ib,le p q
theorem MI.sz {a b out:Array Keyed}{G F:Nat}(m:MI a b out G F):out.size+(a.size-G)+(b.size-F)=a.size+b.size:=by
 have:=m.pm.length_eq;simp at this;lia
theorem MI.rY {a b out O:Array Keyed}{F N:Nat}(m:MI a b out F N) (ua:Up a) {k:Nat}(S:F+k<=a.size) (J:O.toList=out.toList++(a.toList.drop F).take k) (h:∀p∈(a.toList.drop F).take k,∀q∈b.toList.drop N,le p q):MI a b O (F+k) N:=by
 have hd:a.toList.drop (F+k)=(a.toList.drop F).drop k:=(by rw[List.drop_drop]);have L:(a.toList.drop F).Pairwise le:=ua.up.sublist (drop_sublist _ _);have R:=L;rw[<-take_append_drop k (a.toList.drop F)]at R;obtain⟨U,p2,Y⟩:=List.pairwise_append.mp R;refine⟨S,m.lb,?_,?_,λp I q G=>?_,λp I q G=>?_⟩
 .rw[J,hd,append_assoc out.toList,take_append_drop];exact m.pm
 .rw[J,pairwise_append];exact⟨m.up,U,λp L q G=>m.ba p L q (List.mem_of_mem_take G)⟩
 .rw[hd]at G;rw[J]at I;rcases List.mem_append.mp I with z|z
  .exact m.ba p z q (List.mem_of_mem_drop G)
  .exact Y p z q G
 .rw[J]at I;rcases List.mem_append.mp I with z|z
  .exact m.bb p z q G
  .exact h p z q G
theorem MI.rR {a b out O:Array Keyed}{L F:Nat}(m:MI a b out L F) (U:Up b) {k:Nat}(S:F+k<=b.size) (J:O.toList=out.toList++(b.toList.drop F).take k) (h:∀p∈(b.toList.drop F).take k,∀q∈a.toList.drop L,le p q):MI a b O L (F+k):=by
 have hd:b.toList.drop (F+k)=(b.toList.drop F).drop k:=(by rw[List.drop_drop]);have N:(b.toList.drop F).Pairwise le:=U.up.sublist (drop_sublist _ _);have R:=N;rw[<-take_append_drop k (b.toList.drop F)]at R;obtain⟨Y,p2,p3⟩:=List.pairwise_append.mp R;refine⟨m.la,S,?_,?_,λp I q G=>?_,λp I q G=>?_⟩
 .refine List.Perm.trans ?_ m.pm;rw[J,hd];have e:b.toList.drop F=(b.toList.drop F).take k++(b.toList.drop F).drop k:=(take_append_drop _ _).symm
  conv=>rhs;rw[e]
  generalize (b.toList.drop F).take k=T;generalize (b.toList.drop F).drop k=D;rw[append_assoc,append_assoc,append_assoc];refine List.Perm.append_left _ ?_;rw[<-append_assoc, <-append_assoc];exact List.Perm.append_right _ perm_append_comm
 .rw[J,pairwise_append];exact⟨m.up,Y,λp N q G=>m.bb p N q (List.mem_of_mem_take G)⟩
 .rw[J]at I;rcases List.mem_append.mp I with z|z
  .exact m.ba p z q G
  .exact h p z q G
 .rw[hd]at G;rw[J]at I;rcases List.mem_append.mp I with z|z
  .exact m.bb p z q (List.mem_of_mem_drop G)
  .exact p3 p z q G
def Good (a b R:Array Keyed):Prop:=R.toList.Perm (a.toList++b.toList)/\R.toList.Pairwise le
theorem dC {a:Array Keyed}{i:Nat}{q:Keyed}(h:q∈a.toList.drop i):∃j,i<=j/\j<a.size/\numOf q.1=K a j:=by
 obtain⟨n,G,e⟩:=List.mem_iff_getElem.mp h;have F:i+n<a.size:=by
  rw[length_drop]at G;simp at G;omega +splitNatSub
 refine⟨i+n,af,F,?_⟩;rw[K_eq F, <-e,List.getElem_drop];simp
theorem dE {a:Array Keyed}{i k:Nat}{q:Keyed}(h:q∈(a.toList.drop i).take k):∃j,j<k/\i+j<a.size/\numOf q.1=K a (i+j):=by
 obtain⟨n,G,e⟩:=List.mem_iff_getElem.mp h;rw[length_take,length_drop]at G;simp at G;have F:i+n<a.size:=(by omega +splitNatSub);refine⟨n,by omega +splitNatSub,F,?_⟩;rw[K_eq F, <-e,getElem_take,List.getElem_drop];simp
theorem MI.gH {a b out:Array Keyed}{F G:Nat}(m:MI a b out F G) (R:Up a) (Y:Up b) (hi:F<a.size) {p:Keyed}(I:a[F]?=some p) (h:∀j,G<=j->j<b.size->K a F<=K b j):MI a b (out.push p) (F+1) G:=by
 have ep:a[F]=p:=(by rw[getElem?_pos a F hi]at I;exact Option.some.inj I);refine m.rY R (k:=1) af ?_ λx S q J=>?_
 .rw[toList_push,drop_eq_getElem_cons (by simpa using hi)];simp[ep]
 .obtain⟨j,U,_,e⟩:=dE S;obtain⟨O,h2,L,N⟩:=dC J;have:j=0:=af;subst this;show numOf x.1<=numOf q.1;rw[e,N];exact h O h2 L
theorem MI.kI {a b out:Array Keyed}{G F:Nat}(m:MI a b out G F) (Y:Up a) (L:Up b) (hi:F<b.size) {p:Keyed}(I:b[F]?=some p) (h:∀j,G<=j->j<a.size->K b F<=K a j):MI a b (out.push p) G (F+1):=by
 have ep:b[F]=p:=(by rw[getElem?_pos b F hi]at I;exact Option.some.inj I);refine m.rR L (k:=1) af ?_ λx S q J=>?_
 .rw[toList_push,drop_eq_getElem_cons (by simpa using hi)];simp[ep]
 .obtain⟨j,U,_,e⟩:=dE S;obtain⟨R,h2,N,O⟩:=dC J;have:j=0:=af;subst this;show numOf x.1<=numOf q.1;rw[e,O];exact h R h2 N
theorem rQ {a:Array Keyed}{i k:Nat}:(a.extract i (i+k)).toList=(a.toList.drop i).take k:=by
 rw[toList_extract,List.extract_eq_take_drop];congr 1;lia
theorem jx {a:Array Keyed}{i:Nat}:(a.extract i a.size).toList=a.toList.drop i:=by
 rw[toList_extract,List.extract_eq_take_drop];refine take_of_length_le ?_;rw[length_drop];simp
theorem MI.nW {a b out:Array Keyed}{G F:Nat}(m:MI a b out G F) (J:Up a) (h:F=b.size):Good a b (out++a.extract G a.size++b.extract F b.size):=by
 have e:(out++a.extract G a.size++b.extract F b.size).toList=out.toList++a.toList.drop G++b.toList.drop F:=by
  rw[toList_append,toList_append,jx,jx]
 refine⟨by rw[e];exact m.pm,?_⟩;rw[e,h,List.drop_of_length_le (l:=b.toList) (by simp),append_nil,pairwise_append];exact⟨m.up,J.up.sublist (drop_sublist _ _),λp I q L=>m.ba p I q L⟩
theorem MI.last {a b out:Array Keyed}{F G:Nat}(m:MI a b out F G) (S:Up a) (N:Up b) (hi:F+1=a.size) (h:∀j,G<=j->j<b.size->K b j<=K a F):Good a b (out++b.extract G b.size++a.extract F a.size):=by
 have e:(out++b.extract G b.size++a.extract F a.size).toList=out.toList++b.toList.drop G++a.toList.drop F:=by
  rw[toList_append,toList_append,jx,jx]
 refine⟨?_,?_⟩
 .rw[e];refine List.Perm.trans ?_ m.pm;rw[append_assoc,append_assoc];exact List.Perm.append_left _ perm_append_comm
 .rw[e,pairwise_append,pairwise_append];refine⟨⟨m.up,N.up.sublist (drop_sublist _ _),λp J q I=>m.bb p J q I⟩,S.up.sublist (drop_sublist _ _),λp J q I=>?_⟩;rcases List.mem_append.mp J with z|z
  .exact m.ba p z q I
  .obtain⟨j,h1,h2,L⟩:=dC z;obtain⟨R,Y,U,O⟩:=dC I;have:R=F:=af;subst this;show numOf p.1<=numOf q.1;rw[L,O];exact h j h1 h2
theorem MI.DT {a b out:Array Keyed}{F G:Nat}(m:MI a b out F G) (Y:Up a) {k:Nat}(J:F+k<=a.size) (h:∀i j,i<k->G<=j->j<b.size->K a (F+i)<=K b j):MI a b (out++a.extract F (F+k)) (F+k) G :=
 m.rY Y J (by rw[toList_append,rQ]) λp L q O=>by
  obtain⟨j,h1,h2,N⟩:=dE L;obtain⟨U,R,I,S⟩:=dC O;show numOf p.1<=numOf q.1;rw[N,S];exact h j U h1 R I
theorem MI.An {a b out:Array Keyed}{G F:Nat}(m:MI a b out G F) (R:Up b) {k:Nat}(J:F+k<=b.size) (h:∀i j,i<k->G<=j->j<a.size->K b (F+i)<=K a j):MI a b (out++b.extract F (F+k)) G (F+k):=
 m.rR R J (by rw[toList_append,rQ]) λp L q O=>by
  obtain⟨j,h1,h2,N⟩:=dE L;obtain⟨Y,S,I,U⟩:=dC O;show numOf p.1<=numOf q.1;rw[N,U];exact h j Y h1 S I
theorem zW {a:Int}{xs:Array Keyed}{base n r:Nat}(F:∀i,i<r->fU false a xs base i=true) (G:∀i,r<=i->i<n->fU false a xs base i=false):(∀i,i<r->K xs (base+i)<=a)/\∀j,base+r<=j->j<base+n->a<K xs j:=by
 refine⟨λi hi=>?_,λj J I=>?_⟩
 .have:=F i hi;unfold fU at this;simpa using this
 .have:=G (j-base) af af;unfold fU at this;rw[show base+(j-base)=j by lia]at this;simpa using this
theorem rL {a:Int}{xs:Array Keyed}{base n r:Nat}(F:∀i,i<r->fU true a xs base i=true) (G:∀i,r<=i->i<n->fU true a xs base i=false):(∀i,i<r->K xs (base+i)<a)/\∀j,base+r<=j->j<base+n->a<=K xs j:=by
 refine⟨λi hi=>?_,λj J I=>?_⟩
 .have:=F i hi;unfold fU at this;simpa using this
 .have:=G (j-base) af af;unfold fU at this;rw[show base+(j-base)=j by lia]at this;simpa using this
theorem MI.grow {a b out O:Array Keyed}{J G I B:Nat}(m:MI a b out J G) (F:MI a b O I B) (h1:J<=I) (h2:G<=B):out.size<=O.size:=by
 have N:=m.sz;have L:=F.sz;have:=F.la;have:=F.lb;lia
def yu:Array Keyed->Array Keyed->StateT SortSt Sem (Array Keyed):=sortPriv% PySem.Builtin.mergeLo
structure sQ (st st':SortSt):Prop where
 arr:arrOf st'=arrOf st
 kind:kindOf st'=kindOf st
 failed:failedOf st'=failedOf st
 pend:pendingOf st'=pendingOf st
section
variable {prog:Program}{w:World}{A:Around}{E:Value->Shared->Prop}{s:Shared}{a₀:Array Keyed}
theorem aP {α:Type}{c:Prop} [Decidable c] {m n:StateT SortSt Sem α}{Q:α->SortSt->Prop}{st:SortSt}(h1:c->wpS (model prog w) A E s m Q st) (h2:¬ c->wpS (model prog w) A E s n Q st):wpS (model prog w) A E s (if c then m else n) Q st:=by
 by_cases z:c
 .rw[if_pos z];exact h1 z
 .rw[if_neg z];exact h2 z
def DH:Nat->StateT SortSt Sem Unit:=sortPriv% PySem.Builtin.setMinGallop
theorem vO {F st:SortSt}{g:Nat}{Q:Unit->SortSt->Prop}(k:sQ F st) (h:∀G,sQ F G->Q () G):wpS (model prog w) A E s (DH g) Q st :=
 wpS_modify (h _ ⟨k.arr,k.kind,k.failed,k.pend⟩)
theorem tI {st:SortSt}{a b:Array Keyed}{Q:Array Keyed->SortSt->Prop}(hk:kindOf st=oneType') (J:Up a) (L:Up b) (na:1<=a.size) (nb:1<=b.size) (h0:K b 0<K a 0) (hl:∀j,j<b.size->K b j<K a (a.size-1))
  (h:∀R ab,Good a b R->sQ st ab->Q R ab):wpS (model prog w) A E s (yu a b) Q st:=by
 refine wpS_bind (wpS_lift (wpAny_rule ⟨rfl,?_⟩));obtain⟨t0,q0,e0⟩:=L.at (i:=0) af;refine wpS_bind (br e0 ?_);have sa:=J.Gz;have sb:=L.Gz;have M0:MI a b #[(Value.int (K b 0) t0,q0)] 0 1:=by
  have M:MI a b #[] 0 0:=⟨zero_le _,zero_le _,by simp,List.Pairwise.nil,(λp hp=>by cases hp),(λp hp=>by cases hp)⟩;exact M.kI J L af e0 λj _ hj=>by
   have:=sa 0 j af af hj;omega
 refine aP (λg=>?_) (λg=>?_)
 .exact wpS_pure (h _ _ (M0.nW J (by simpa using g)) ⟨rfl,rfl,rfl,rfl⟩)
 have g1:¬ 1=b.size:=(by simpa using g);refine aP (λg=>?_) (λg=>?_)
 .have g':0+1=a.size:=(by simpa using g);refine wpS_pure (h _ _ (M0.last J L g' λj _ hj=>?_) ⟨rfl,rfl,rfl,rfl⟩);have:=hl j hj;rw[<-g']at this;exact Int.le_of_lt this
 have g2:¬ 0+1=a.size:=(by simpa using g);refine wpS_bind (wpS_get ?_);refine wpS_bind (wpS_mono (wpS_forRange (I:=λx c ab=>Gu λout F G mg=>xa (c=(none,out,F,G,mg)) (MI a b out F G) (F+1<a.size) (G<b.size) (x+1<=out.size) (sQ st ab)) (Q:=λc ab=>∃R,qQ (Good a b R) (c.1=some R) (sQ st ab)) ?_ ?_ ?_) ?_)
 .rintro x c a0 bm bn ⟨out,F,G,mg,rfl,M,la,U,lo,K1⟩;refine wpS_bind (wpS_mono (wpS_forRange (I:=λy c ab=>AH λO F G ac bc=>xa (c=(none,O,F,G,ac,bc)) (MI a b O F G) (F+1<a.size) (G<b.size) (out.size+y<=O.size) (sQ st ab))
   (Q:=λc ab=>sQ st ab/\((∃R,Good a b R/\c.1=some R)\/(AH λO F G ac bc=>DV (c=(none,O,F,G,ac,bc)) (MI a b O F G) (F+1<a.size) (G<b.size) (out.size+1<=O.size)))) ?_ ?_ ?_) ?_)
  .rintro y c a3 bl be ⟨O,F,G,ac,bc,rfl,M,la,U,a6,K2⟩;have ba:kindOf a3=oneType':=K2.kind.trans hk;obtain⟨tb,qb,eb⟩:=L.at U;obtain⟨ta,qa,Y⟩:=J.at (i:=F) af;refine wpS_bind (br eb (wpS_bind (br Y (wpS_bind (oT ba rfl rfl ?_)))));by_cases c:K b G<K a F
   .rw[decide_eq_true c];refine wpS_bind (br eb ?_);have M2:=M.kI J L U eb λj h1 h2=>by
     have:=sa F j af h1 h2;omega
    refine aP (λg=>?_) (λg=>?_)
    .exact wpS_pure ⟨K2,.inl ⟨_,M2.nW J (by simpa using g),rfl⟩⟩
    .have g':¬ G+1=b.size:=(by simpa using g);have sz:(O.push (Value.int (K b G) tb,qb)).size=O.size+1:=size_push ..;refine aP (λg=>?_) (λg=>?_)
     .exact wpS_pure ⟨K2,.inr ⟨O.push (Value.int (K b G) tb,qb),F,G+1,_,_,rfl,M2,la,af,af⟩⟩
     .exact wpS_pure ⟨O.push (Value.int (K b G) tb,qb),F,G+1,_,_,rfl,M2,la,af,af,K2⟩
   .rw[decide_eq_false c];refine wpS_bind (br Y ?_);have M2:=M.gH J L af Y λj h1 h2=>by
     have:=sb G j af h1 h2;omega
    refine aP (λg=>?_) (λg=>?_)
    .have g':F+1+1=a.size:=(by simpa using g);refine wpS_pure ⟨K2,.inl ⟨_,M2.last J L g' (λj h1 h2=>?_),rfl⟩⟩;have:=hl j h2;rw[show a.size-1=F+1 by omega]at this;exact Int.le_of_lt this
    .have g':¬ F+1+1=a.size:=(by simpa using g);have sz:(O.push (Value.int (K a F) ta,qa)).size=O.size+1:=size_push ..;refine aP (λg=>?_) (λg=>?_)
     .exact wpS_pure ⟨K2,.inr ⟨O.push (Value.int (K a F) ta,qa),F+1,G,_,_,rfl,M2,af,U,af⟩⟩
     .exact wpS_pure ⟨O.push (Value.int (K a F) ta,qa),F+1,G,_,_,rfl,M2,af,U,af,K2⟩
  .rintro c a3 ⟨O,F,G,ac,bc,rfl,M,la,U,a6,K2⟩;exact⟨K2,.inr ⟨_,_,_,_,_,rfl,M,la,U,af⟩⟩
  .exact⟨out,F,G,_,_,rfl,M,la,U,af,K1⟩
  .rintro c a3 ⟨K2,⟨R,hR,e⟩|⟨O,F,G,ac,bc,rfl,M,la,U,a6⟩⟩
   .obtain⟨c1,c2⟩:=c;cases e;exact wpS_pure ⟨R,hR,rfl,K2⟩
   .refine wpS_bind (wpS_lift (wpAny_rule ⟨rfl,?_⟩));refine wpS_bind (wpS_mono (wpS_forRange (I:=λy c ab=>ES λam F G mg ac bc=>xa (c=(none,am,F,G,mg,ac,bc)) (MI a b am F G) (F+1<a.size) (G<b.size) (O.size<=am.size) (sQ st ab))
     (Q:=λc ab=>sQ st ab/\((∃R,Good a b R/\c.1=some R)\/(ES λam F G mg ac bc=>DV (c=(none,am,F,G,mg,ac,bc)) (MI a b am F G) (F+1<a.size) (G<b.size) (O.size<=am.size)))) ?_ ?_ ?_) ?_)
    .rintro y c a7 bl be ⟨am,F,G,a5,ac,bc,rfl,M,la,U,ad,K3⟩;refine aP (λg=>?_) (λg=>?_)
     all_goals
      refine wpS_bind (vO K3 λa4 S=>?_);have a2:kindOf a4=oneType':=S.kind.trans hk;obtain⟨tb,qb,eb⟩:=L.at U;refine wpS_bind (br eb (wpS_bind (dD (base:=F) (n:=a.size-F) (hint:=0) a2 rfl (λi hi=>J.at af) (sa.sub (zero_le _) af) af λr hr r1 r2=>?_)));obtain⟨R1,R2⟩:=zW r1 r2;rw[show F+(a.size-F)=a.size by omega]at R2;have bx:F+r<a.size:=by
       by_cases z:F+r<a.size
       .exact z
       .have a1:=R1 (a.size-1-F) af;rw[show F+(a.size-1-F)=a.size-1 by omega]at a1;have:=hl G U;omega
      have M1:=M.DT J (k:=r) af λi j hi h1 h2=>Int.le_trans (R1 i hi) (sb G j (zero_le _) h1 h2);refine aP (λg2=>?_) (λg2=>?_)
      .refine aP (λg3=>?_) (λg3=>?_)
       .have g':F+r+1=a.size:=(by simpa using g3);refine wpS_pure ⟨S,.inl ⟨_,M1.last J L g' (λj h1 h2=>?_),rfl⟩⟩;have:=hl j h2;rw[show a.size-1=F+r by omega]at this;exact Int.le_of_lt this
       .have bv:¬ F+r+1=a.size:=(by simpa using g3);refine aP (λg4=>?_) (λg4=>?_)
        .have g':F+r=a.size:=(by simpa using g4);omega
        .clear g4;have M2:=M1.kI J L U eb λj h1 h2=>Int.le_of_lt (R2 j af h2);refine wpS_bind (br eb ?_);refine aP (λg5=>wpS_pure ⟨S,.inl ⟨_,M2.nW J (by simpa using g5),rfl⟩⟩) (λg5=>?_);have bi:¬ G+1=b.size:=(by simpa using g5);obtain⟨ta,qa,Y⟩:=J.at (i:=F+r) af;refine wpS_bind (br Y (wpS_bind (dD (base:=G+1) (n:=b.size-(G+1)) (hint:=0) a2 rfl (λi hi=>L.at af) (sb.sub (zero_le _) af) af λr' bb aB aT=>?_)));obtain⟨T1,T2⟩:=rL aB aT;rw[show G+1+(b.size-(G+1))=b.size by omega]at T2;have M3:=M2.An L (k:=r') af λi j hi h1 h2=>Int.le_of_lt (Int.lt_of_lt_of_le (T1 i hi) (sa _ j (zero_le _) h1 h2));refine aP (λg6=>?_) (λg6=>?_)
         .refine aP (λg7=>wpS_pure ⟨S,.inl ⟨_,M3.nW J (by simpa using g7),rfl⟩⟩) (λg7=>?_);have bd:¬ G+1+r'=b.size:=(by simpa using g7);refine wpS_bind (br Y ?_);have N:=M3.gH J L af Y λj h1 h2=>T2 j af h2;refine aP (λg8=>?_) (λg8=>?_)
          .have ap:F+r+1+1=a.size:=(by simpa using g8);refine wpS_pure ⟨S,.inl ⟨_,N.last J L ap (λj h1 h2=>?_),rfl⟩⟩;have:=hl j h2;rw[show a.size-1=F+r+1 by omega]at this;exact Int.le_of_lt this
          .have ap:¬ F+r+1+1=a.size:=(by simpa using g8);refine aP (λg9=>wpS_pure ⟨S,.inr ⟨_,F+r+1,G+1+r',_,_,_,rfl,N,af,af,le_trans ad (M.grow N af af)⟩⟩) (λg9=>wpS_pure ⟨_,F+r+1,G+1+r',_,_,_,rfl,N,af,af,le_trans ad (M.grow N af af),S⟩)
         .have as:r'=0:=af;subst as;refine wpS_bind (br Y ?_);have N:=M2.gH J L af Y λj h1 h2=>T2 j af h2;refine aP (λg8=>?_) (λg8=>?_)
          .have ap:F+r+1+1=a.size:=(by simpa using g8);refine wpS_pure ⟨S,.inl ⟨_,N.last J L ap (λj h1 h2=>?_),rfl⟩⟩;have:=hl j h2;rw[show a.size-1=F+r+1 by omega]at this;exact Int.le_of_lt this
          .have ap:¬ F+r+1+1=a.size:=(by simpa using g8);refine aP (λg9=>wpS_pure ⟨S,.inr ⟨_,F+r+1,G+1,_,_,_,rfl,N,af,af,le_trans ad (M.grow N af af)⟩⟩) (λg9=>wpS_pure ⟨_,F+r+1,G+1,_,_,_,rfl,N,af,af,le_trans ad (M.grow N af af),S⟩)
      .have r0:r=0:=af;subst r0;have M2:=M.kI J L U eb λj h1 h2=>Int.le_of_lt (R2 j af h2);refine wpS_bind (br eb ?_);refine aP (λg5=>wpS_pure ⟨S,.inl ⟨_,M2.nW J (by simpa using g5),rfl⟩⟩) (λg5=>?_);have bi:¬ G+1=b.size:=(by simpa using g5);obtain⟨ta,qa,Y⟩:=J.at (i:=F) af;refine wpS_bind (br Y (wpS_bind (dD (base:=G+1) (n:=b.size-(G+1)) (hint:=0) a2 rfl (λi hi=>L.at af) (sb.sub (zero_le _) af) af λr' bb aB aT=>?_)));obtain⟨T1,T2⟩:=rL aB aT;rw[show G+1+(b.size-(G+1))=b.size by omega]at T2;have M3:=M2.An L (k:=r') af λi j hi h1 h2=>Int.le_of_lt (Int.lt_of_lt_of_le (T1 i hi) (sa _ j (zero_le _) h1 h2));refine aP (λg6=>?_) (λg6=>?_)
       .refine aP (λg7=>wpS_pure ⟨S,.inl ⟨_,M3.nW J (by simpa using g7),rfl⟩⟩) (λg7=>?_);have bd:¬ G+1+r'=b.size:=(by simpa using g7);refine wpS_bind (br Y ?_);have N:=M3.gH J L af Y λj h1 h2=>T2 j af h2;refine aP (λg8=>?_) (λg8=>?_)
        .have ap:F+1+1=a.size:=(by simpa using g8);refine wpS_pure ⟨S,.inl ⟨_,N.last J L ap (λj h1 h2=>?_),rfl⟩⟩;have:=hl j h2;rw[show a.size-1=F+1 by omega]at this;exact Int.le_of_lt this
        .have ap:¬ F+1+1=a.size:=(by simpa using g8);refine aP (λg9=>wpS_pure ⟨S,.inr ⟨_,F+1,G+1+r',_,_,_,rfl,N,af,af,le_trans ad (M.grow N af af)⟩⟩) (λg9=>wpS_pure ⟨_,F+1,G+1+r',_,_,_,rfl,N,af,af,le_trans ad (M.grow N af af),S⟩)
       .have as:r'=0:=af;subst as;refine wpS_bind (br Y ?_);have N:=M2.gH J L af Y λj h1 h2=>T2 j af h2;refine aP (λg8=>?_) (λg8=>?_)
        .have ap:F+1+1=a.size:=(by simpa using g8);refine wpS_pure ⟨S,.inl ⟨_,N.last J L ap (λj h1 h2=>?_),rfl⟩⟩;have:=hl j h2;rw[show a.size-1=F+1 by omega]at this;exact Int.le_of_lt this
        .have ap:¬ F+1+1=a.size:=(by simpa using g8);refine aP (λg9=>wpS_pure ⟨S,.inr ⟨_,F+1,G+1,_,_,_,rfl,N,af,af,le_trans ad (M.grow N af af)⟩⟩) (λg9=>wpS_pure ⟨_,F+1,G+1,_,_,_,rfl,N,af,af,le_trans ad (M.grow N af af),S⟩)
    .rintro c a7 ⟨am,F,G,a5,ac,bc,rfl,M,la,U,ad,K3⟩;exact⟨K3,.inr ⟨_,_,_,_,_,_,rfl,M,la,U,ad⟩⟩
    .exact⟨O,F,G,_,_,_,rfl,M,la,U,le_refl _,K2⟩
    .rintro c a7 ⟨K3,⟨R,hR,e⟩|⟨am,F,G,a5,ac,bc,rfl,M,la,U,ad⟩⟩
     .obtain⟨c1,c2⟩:=c;cases e;exact wpS_pure ⟨R,hR,rfl,K3⟩
     .refine wpS_bind (vO K3 λa4 S=>?_);exact wpS_pure ⟨am,F,G,_,rfl,M,la,U,af,S⟩
 .rintro c a0 ⟨out,F,G,mg,rfl,M,la,U,lo,K1⟩;exfalso;have:=M.sz;omega
 .exact⟨_,_,_,_,rfl,M0,af,af,le_refl _,⟨rfl,rfl,rfl,rfl⟩⟩
 .rintro c a0 ⟨R,hR,e,K1⟩;obtain⟨c1,c2⟩:=c;cases e;exact wpS_pure (h R a0 hR K1)
end
def seg (a:Array Keyed) (k n:Nat):List Keyed:=(a.toList.drop k).take (n-k)
theorem iw {a:Array Keyed}{k n:Nat}(h:k<=n):a.toList.take n=a.toList.take k++seg a k n:=by
 unfold seg;have e:a.toList.take k=(a.toList.take n).take k:=(by rw[List.take_take,min_eq_left h]);rw[e, <-List.drop_take,take_append_drop]
theorem kY {a:Array Keyed}{k n:Nat}{q:Keyed}(h:q∈seg a k n):∃j,k<=j/\j<n/\j<a.size/\numOf q.1=K a j:=by
 obtain⟨j,h1,h2,e⟩:=dE h;exact⟨k+j,af,af,h2,e⟩
theorem kU {a:Array Keyed}{n:Nat}{q:Keyed}(h:q∈a.toList.take n):∃j,j<n/\j<a.size/\numOf q.1=K a j:=by
 have:q∈(a.toList.drop 0).take n:=(by rw[List.drop_zero];exact h);obtain⟨j,h1,h2,e⟩:=dE this;rw[zero_add]at h2 e;exact⟨j,h1,h2,e⟩
theorem gu {a:Array Keyed}{k n:Nat}:(a.extract k n).toList=seg a k n:=by
 unfold seg;rw[toList_extract,List.extract_eq_take_drop]
theorem k4 {a:Array Keyed}{n:Nat}:(a.extract 0 n).toList=a.toList.take n:=by
 rw[toList_extract,List.extract_eq_take_drop];simp
theorem vM {a:Array Keyed}{k:Nat}(h:k<a.size):seg a k (k+1)=[a[k]]:=by
 unfold seg;rw[drop_eq_getElem_cons (by simpa using h)];simp
structure MH (a b out:Array Keyed) (na nb:Nat):Prop where
 la:na<=a.size
 lb:nb<=b.size
 pm:(a.toList.take na++b.toList.take nb++out.toList.reverse).Perm (a.toList++b.toList)
 up:out.toList.reverse.Pairwise le
 ab:∀p∈a.toList.take na,∀q∈out.toList,le p q
 bb:∀p∈b.toList.take nb,∀q∈out.toList,le p q
theorem MH.sz {a b out:Array Keyed}{G F:Nat}(m:MH a b out G F):out.size+G+F=a.size+b.size:=by
 have:=m.pm.length_eq;have h1:=m.la;have h2:=m.lb;simp at this;omega
theorem MH.grow {a b out O:Array Keyed}{G F I B:Nat}(m:MH a b out G F) (J:MH a b O I B) (h1:I<=G) (h2:B<=F):out.size<=O.size:=by
 have N:=m.sz;have L:=J.sz;omega
theorem kP {out:Array Keyed}{l r:List Keyed}{q:Keyed}(h:out.toList.reverse=l++r.reverse) (F:q∈out.toList):q∈l\/q∈r:=by
 have:q∈out.toList.reverse:=List.mem_reverse.mpr F;rw[h]at this;rcases List.mem_append.mp this with z|z
 .exact .inl z
 .exact .inr (List.mem_reverse.mp z)
theorem MH.rY {a b out R:Array Keyed}{F L k:Nat}(m:MH a b out F L) (ua:Up a) (U:k<=F) (N:R.toList.reverse=seg a k F++out.toList.reverse) (h:∀i j,i<L->i<b.size->k<=j->j<F->K b i<=K a j):MH a b R k L:=by
 have O:=iw (a:=a) U;have J:(a.toList.take F).Pairwise le:=ua.up.sublist (take_sublist _ _);rw[O]at J;obtain⟨p1,p2,p3⟩:=List.pairwise_append.mp J;have ac:=m.la;refine⟨af,m.lb,?_,?_,λp I q G=>?_,λp I q G=>?_⟩
 .refine List.Perm.trans ?_ m.pm;rw[N,O];generalize seg a k F=T;generalize a.toList.take k=D;generalize b.toList.take L=B;rw[append_assoc,append_assoc,append_assoc];refine List.Perm.append_left _ ?_;rw[<-append_assoc, <-append_assoc];exact List.Perm.append_right _ perm_append_comm
 .rw[N,pairwise_append];refine⟨p2,m.up,λp J q G=>m.ab p ?_ q (List.mem_reverse.mp G)⟩;rw[O];exact mem_append_right _ J
 .rcases kP N G with z|z
  .exact p3 p I q z
  .refine m.ab p ?_ q z;rw[O];exact mem_append_left _ I
 .rcases kP N G with z|z
  .obtain⟨i,Y,i2,e1⟩:=kU I;obtain⟨j,S,j2,j3,e2⟩:=kY z;show numOf p.1<=numOf q.1;rw[e1,e2];exact h i j Y i2 S j2
  .exact m.bb p I q z
theorem MH.rR {a b out R:Array Keyed}{L F k:Nat}(m:MH a b out L F) (ub:Up b) (U:k<=F) (N:R.toList.reverse=seg b k F++out.toList.reverse) (h:∀i j,i<L->i<a.size->k<=j->j<F->K a i<=K b j):MH a b R L k:=by
 have O:=iw (a:=b) U;have J:(b.toList.take F).Pairwise le:=ub.up.sublist (take_sublist _ _);rw[O]at J;obtain⟨p1,p2,p3⟩:=List.pairwise_append.mp J;have ac:=m.lb;refine⟨m.la,af,?_,?_,λp I q G=>?_,λp I q G=>?_⟩
 .refine List.Perm.trans ?_ m.pm;rw[N,O];generalize seg b k F=T;generalize b.toList.take k=D;generalize a.toList.take L=B;rw[append_assoc,append_assoc,append_assoc]
 .rw[N,pairwise_append];refine⟨p2,m.up,λp J q G=>m.bb p ?_ q (List.mem_reverse.mp G)⟩;rw[O];exact mem_append_right _ J
 .rcases kP N G with z|z
  .obtain⟨i,Y,i2,e1⟩:=kU I;obtain⟨j,S,j2,j3,e2⟩:=kY z;show numOf p.1<=numOf q.1;rw[e1,e2];exact h i j Y i2 S j2
  .exact m.ab p I q z
 .rcases kP N G with z|z
  .exact p3 p I q z
  .refine m.bb p ?_ q z;rw[O];exact mem_append_left _ I
theorem MH.gH {a b out:Array Keyed}{F G:Nat}(m:MH a b out F G) (J:Up a) (O:1<=F) {p:Keyed}(I:a[F-1]?=some p) (h:∀i,i<G->i<b.size->K b i<=K a (F-1)):MH a b (out.push p) (F-1) G:=by
 have R:=m.la;have hi:F-1<a.size:=af;have ep:a[F-1]=p:=(by rw[getElem?_pos a _ hi]at I;exact Option.some.inj I);refine m.rY J af ?_ λi j h1 h2 N L=>?_
 .have:=vM hi;rw[show F-1+1=F by omega]at this;rw[this,toList_push,reverse_append,ep];rfl
 .rw[show j=F-1 by omega];exact h i h1 h2
theorem MH.kI {a b out:Array Keyed}{G F:Nat}(m:MH a b out G F) (J:Up b) (R:1<=F) {p:Keyed}(I:b[F-1]?=some p) (h:∀i,i<G->i<a.size->K a i<=K b (F-1)):MH a b (out.push p) G (F-1):=by
 have N:=m.lb;have hi:F-1<b.size:=af;have ep:b[F-1]=p:=(by rw[getElem?_pos b _ hi]at I;exact Option.some.inj I);refine m.rR J af ?_ λi j h1 h2 O L=>?_
 .have:=vM hi;rw[show F-1+1=F by omega]at this;rw[this,toList_push,reverse_append,ep];rfl
 .rw[show j=F-1 by omega];exact h i h1 h2
theorem MH.DT {a b out:Array Keyed}{F G k:Nat}(m:MH a b out F G) (J:Up a) (I:k<=F) (h:∀i j,i<G->i<b.size->k<=j->j<F->K b i<=K a j):MH a b (out++(a.extract k F).reverse) k G :=
 m.rY J I (by rw[toList_append,reverse_append,toList_reverse,List.reverse_reverse,gu]) h
theorem MH.An {a b out:Array Keyed}{G F k:Nat}(m:MH a b out G F) (J:Up b) (I:k<=F) (h:∀i j,i<G->i<a.size->k<=j->j<F->K a i<=K b j):MH a b (out++(b.extract k F).reverse) G k :=
 m.rR J I (by rw[toList_append,reverse_append,toList_reverse,List.reverse_reverse,gu]) h
theorem MH.done {a b out:Array Keyed}{G F:Nat}(m:MH a b out G F) (L:Up a) (N:Up b) (h:G=0\/F=0):Good a b (a.extract 0 G++b.extract 0 F++out.reverse):=by
 have e:(a.extract 0 G++b.extract 0 F++out.reverse).toList=a.toList.take G++b.toList.take F++out.toList.reverse:=by
  rw[toList_append,toList_append,k4,k4,toList_reverse]
 refine⟨by rw[e];exact m.pm,?_⟩;rw[e];rcases h with h|h
 .rw[h,take_zero,List.nil_append,pairwise_append];exact⟨N.up.sublist (take_sublist _ _),m.up,λp I q J=>m.bb p I q (List.mem_reverse.mp J)⟩
 .rw[h,take_zero,append_nil,pairwise_append];exact⟨L.up.sublist (take_sublist _ _),m.up,λp I q J=>m.ab p I q (List.mem_reverse.mp J)⟩
theorem MH.first {a b out:Array Keyed}{G F:Nat}(m:MH a b out G F) (S:Up a) (N:Up b) (hn:F=1) (h:∀j,j<a.size->K b 0<=K a j):Good a b (b.extract 0 F++a.extract 0 G++out.reverse):=by
 have e:(b.extract 0 F++a.extract 0 G++out.reverse).toList=b.toList.take F++a.toList.take G++out.toList.reverse:=by
  rw[toList_append,toList_append,k4,k4,toList_reverse]
 refine⟨?_,?_⟩
 .rw[e];exact(List.Perm.append_right _ perm_append_comm).trans m.pm
 .rw[e,pairwise_append,pairwise_append];refine⟨⟨N.up.sublist (take_sublist _ _),S.up.sublist (take_sublist _ _),λp J q I=>?_⟩,m.up,λp J q I=>?_⟩
  .obtain⟨i,Y,i2,L⟩:=kU J;obtain⟨j,U,R,O⟩:=kU I;show numOf p.1<=numOf q.1;rw[L,O,show i=0 by omega];exact h j R
  .rcases List.mem_append.mp J with z|z
   .exact m.bb p z q (List.mem_reverse.mp I)
   .exact m.ab p z q (List.mem_reverse.mp I)
def zE:Array Keyed->Array Keyed->StateT SortSt Sem (Array Keyed):=sortPriv% PySem.Builtin.mergeHi
section
variable {prog:Program}{w:World}{A:Around}{E:Value->Shared->Prop}{s:Shared}{a₀:Array Keyed}
theorem u3 {st:SortSt}{a b:Array Keyed}{Q:Array Keyed->SortSt->Prop}(hk:kindOf st=oneType') (J:Up a) (L:Up b) (G:1<=a.size) (F:1<=b.size) (h0:K b 0<K a 0) (hl:∀j,j<b.size->K b j<K a (a.size-1))
  (h:∀R ab,Good a b R->sQ st ab->Q R ab):wpS (model prog w) A E s (zE a b) Q st:=by
 refine wpS_bind (wpS_lift (wpAny_rule ⟨rfl,?_⟩));have sa:=J.Gz;have sb:=L.Gz;have as:∀j,j<a.size->K b 0<=K a j:=λj hj=>by
  have:=sa 0 j (zero_le _) (zero_le _) hj;omega
 obtain⟨t0,q0,e0⟩:=J.at (i:=a.size-1) (by omega +splitNatSub);refine wpS_bind (br e0 ?_);have M0:MH a b #[(Value.int (K a (a.size-1)) t0,q0)] (a.size-1) b.size:=by
  have M:MH a b #[] a.size b.size:=⟨le_refl _,le_refl _,(by rw[take_of_length_le (l:=a.toList) (by simp),take_of_length_le (l:=b.toList) (by simp)];simp),List.Pairwise.nil,(λp _ q hq=>by cases hq),(λp _ q hq=>by cases hq)⟩;exact M.gH J G e0 λi h1 h2=>Int.le_of_lt (hl i h2)
 refine aP (λg=>wpS_pure (h _ _ (M0.done J L (.inl (by simpa using g))) ⟨rfl,rfl,rfl,rfl⟩)) (λg=>?_);have g1:¬ a.size-1=0:=(by simpa using g);refine aP (λg=>wpS_pure (h _ _ (M0.first J L (by simpa using g) as) ⟨rfl,rfl,rfl,rfl⟩)) (λg=>?_);have g2:¬ b.size=1:=(by simpa using g);refine wpS_bind (wpS_get ?_);refine wpS_bind (wpS_mono (wpS_forRange (I:=λx c ab=>Gu λG F out mg=>xa (c=(none,G,F,out,mg)) (MH a b out G F) (1<=G) (2<=F) (x+1<=out.size) (sQ st ab)) (Q:=λc ab=>∃R,qQ (Good a b R) (c.1=some R) (sQ st ab)) ?_ ?_ ?_) ?_)
 .rintro x c a1 bz bG ⟨G,F,out,mg,rfl,M,la,lb,lo,K1⟩;refine wpS_bind (wpS_mono (wpS_forRange (I:=λy c ab=>AH λG F S ac bc=>xa (c=(none,G,F,S,ac,bc)) (MH a b S G F) (1<=G) (2<=F) (out.size+y<=S.size) (sQ st ab))
   (Q:=λc ab=>sQ st ab/\((∃R,Good a b R/\c.1=some R)\/(AH λG F S ac bc=>DV (c=(none,G,F,S,ac,bc)) (MH a b S G F) (1<=G) (2<=F) (out.size+1<=S.size)))) ?_ ?_ ?_) ?_)
  .rintro y c a4 bv bl ⟨G,F,S,ac,bc,rfl,M,la,lb,a7,K2⟩;have bd:kindOf a4=oneType':=K2.kind.trans hk;have lA:=M.la;have lB:=M.lb;obtain⟨tb,qb,eb⟩:=L.at (i:=F-1) af;obtain⟨ta,qa,U⟩:=J.at (i:=G-1) af;refine wpS_bind (br eb (wpS_bind (br U (wpS_bind (oT bd rfl rfl ?_)))));by_cases c:K b (F-1)<K a (G-1)
   .rw[decide_eq_true c];refine wpS_bind (br U ?_);have M2:=M.gH J (by omega +splitNatSub) U λi h1 h2=>Int.le_of_lt (Int.lt_of_le_of_lt (sb i (F-1) (zero_le _) af af) c);refine aP (λg=>wpS_pure ⟨K2,.inl ⟨_,M2.done J L (.inl (by simpa using g)),rfl⟩⟩) (λg=>?_);have g':¬ G-1=0:=(by simpa using g);have sz:(S.push (Value.int (K a (G-1)) ta,qa)).size=S.size+1:=size_push ..;exact aP (λg=>wpS_pure ⟨K2,.inr ⟨G-1,F,S.push (Value.int (K a (G-1)) ta,qa),_,_,rfl,M2,af,lb,af⟩⟩) (λg=>wpS_pure ⟨G-1,F,S.push (Value.int (K a (G-1)) ta,qa),_,_,rfl,M2,af,lb,af,K2⟩)
   .rw[decide_eq_false c];refine wpS_bind (br eb ?_);have M2:=M.kI L af eb λi h1 h2=>Int.le_trans (sa i (G-1) (zero_le _) af af) (Int.not_lt.mp c);refine aP (λg=>wpS_pure ⟨K2,.inl ⟨_,M2.first J L (by simpa using g) as,rfl⟩⟩) (λg=>?_);have g':¬ F-1=1:=(by simpa using g);have sz:(S.push (Value.int (K b (F-1)) tb,qb)).size=S.size+1:=size_push ..;exact aP (λg=>wpS_pure ⟨K2,.inr ⟨G,F-1,S.push (Value.int (K b (F-1)) tb,qb),_,_,rfl,M2,la,af,af⟩⟩) (λg=>wpS_pure ⟨G,F-1,S.push (Value.int (K b (F-1)) tb,qb),_,_,rfl,M2,la,af,af,K2⟩)
  .rintro c a4 ⟨G,F,S,ac,bc,rfl,M,la,lb,a7,K2⟩;exact⟨K2,.inr ⟨G,F,S,_,_,rfl,M,la,lb,af⟩⟩
  .exact⟨G,F,out,_,_,rfl,M,la,lb,af,K1⟩
  .rintro c a4 ⟨K2,⟨R,hR,e⟩|⟨G,F,S,ac,bc,rfl,M,la,lb,a7⟩⟩
   .obtain⟨c1,c2⟩:=c;cases e;exact wpS_pure ⟨R,hR,rfl,K2⟩
   .refine wpS_bind (wpS_lift (wpAny_rule ⟨rfl,?_⟩));refine wpS_bind (wpS_mono (wpS_forRange (I:=λy c ab=>ES λG F ad mg ac bc=>xa (c=(none,G,F,ad,mg,ac,bc)) (MH a b ad G F) (1<=G) (2<=F) (S.size<=ad.size) (sQ st ab))
     (Q:=λc ab=>sQ st ab/\((∃R,Good a b R/\c.1=some R)\/(ES λG F ad mg ac bc=>DV (c=(none,G,F,ad,mg,ac,bc)) (MH a b ad G F) (1<=G) (2<=F) (S.size<=ad.size)))) ?_ ?_ ?_) ?_)
    .rintro y c ba bv bl ⟨G,F,ad,a6,ac,bc,rfl,M,la,lb,am,K3⟩;refine aP (λg=>?_) (λg=>?_)
     all_goals
      refine wpS_bind (vO K3 λa5 O=>?_);have a3:kindOf a5=oneType':=O.kind.trans hk;have lA:=M.la;have lB:=M.lb;obtain⟨tb,qb,eb⟩:=L.at (i:=F-1) af;refine wpS_bind (br eb (wpS_bind (dD (base:=0) (n:=G) (hint:=G-1) a3 rfl (λi hi=>J.at af) (sa.sub (zero_le _) af) af λr hr r1 r2=>?_)));obtain⟨R1,R2⟩:=zW r1 r2;simp only[zero_add]at R1 R2;have M1:=M.DT J (k:=r) (by omega +splitNatSub) λi j h1 h2 h3 h4=>Int.le_of_lt (Int.lt_of_le_of_lt (sb i (F-1) (zero_le _) af af) (R2 j h3 h4));refine aP (λg2=>?_) (λg2=>?_)
      .refine aP (λg3=>wpS_pure ⟨O,.inl ⟨_,M1.done J L (.inl (by simpa using g3)),rfl⟩⟩) (λg3=>?_);have bI:¬ r=0:=(by simpa using g3);have M2:=M1.kI L af eb λi h1 h2=>R1 i (by omega +splitNatSub);refine wpS_bind (br eb ?_);refine aP (λg5=>wpS_pure ⟨O,.inl ⟨_,M2.first J L (by simpa using g5) as,rfl⟩⟩) (λg5=>?_);have bn:¬ F-1=1:=(by simpa using g5);obtain⟨ta,qa,U⟩:=J.at (i:=r-1) af;refine wpS_bind (br U (wpS_bind (dD (base:=0) (n:=F-1) (hint:=F-1-1) a3 rfl (λi hi=>L.at af) (sb.sub (zero_le _) af) af λY be aT a0=>?_)));obtain⟨T1,T2⟩:=rL aT a0;simp only[zero_add]at T1 T2;have M3:=M2.An L (k:=Y) (by omega +splitNatSub) λi j h1 h2 h3 h4=>Int.le_trans (sa i (r-1) (zero_le _) af af) (T2 j h3 h4);refine aP (λg6=>?_) (λg6=>?_)
       .refine aP (λg7=>wpS_pure ⟨O,.inl ⟨_,M3.first J L (by simpa using g7) as,rfl⟩⟩) (λg7=>?_);have bi:¬ Y=1:=(by simpa using g7);refine aP (λap=>wpS_pure ⟨O,.inl ⟨_,M3.done J L (.inr (by simpa using ap)),rfl⟩⟩) (λap=>?_);have bm:¬ Y=0:=(by simpa using ap);refine wpS_bind (br U ?_);have N:=M3.gH J af U λi h1 h2=>Int.le_of_lt (T1 i (by omega +splitNatSub));refine aP (λg8=>wpS_pure ⟨O,.inl ⟨_,N.done J L (.inl (by simpa using g8)),rfl⟩⟩) (λg8=>?_);have a2:¬ r-1=0:=(by simpa using g8);exact aP (λg9=>wpS_pure ⟨O,.inr ⟨r-1,Y,_,_,_,_,rfl,N,af,af,le_trans am (M.grow N af af)⟩⟩) (λg9=>wpS_pure ⟨r-1,Y,_,_,_,_,rfl,N,af,af,le_trans am (M.grow N af af),O⟩)
       .have bb:¬ F-1-Y>0:=g6;have aB:Y=F-1:=af;subst aB;refine wpS_bind (br U ?_);have N:=M2.gH J af U λi h1 h2=>Int.le_of_lt (T1 i (by omega +splitNatSub));refine aP (λg8=>wpS_pure ⟨O,.inl ⟨_,N.done J L (.inl (by simpa using g8)),rfl⟩⟩) (λg8=>?_);have a2:¬ r-1=0:=(by simpa using g8);exact aP (λg9=>wpS_pure ⟨O,.inr ⟨r-1,F-1,_,_,_,_,rfl,N,af,af,le_trans am (M.grow N af af)⟩⟩) (λg9=>wpS_pure ⟨r-1,F-1,_,_,_,_,rfl,N,af,af,le_trans am (M.grow N af af),O⟩)
      .have bx:¬ G-r>0:=g2;have r0:r=G:=af;subst r0;have M2:=M.kI L af eb λi h1 h2=>R1 i (by omega +splitNatSub);refine wpS_bind (br eb ?_);refine aP (λg5=>wpS_pure ⟨O,.inl ⟨_,M2.first J L (by simpa using g5) as,rfl⟩⟩) (λg5=>?_);have bn:¬ F-1=1:=(by simpa using g5);obtain⟨ta,qa,U⟩:=J.at (i:=r-1) af;refine wpS_bind (br U (wpS_bind (dD (base:=0) (n:=F-1) (hint:=F-1-1) a3 rfl (λi hi=>L.at af) (sb.sub (zero_le _) af) af λY be aT a0=>?_)));obtain⟨T1,T2⟩:=rL aT a0;simp only[zero_add]at T1 T2;have M3:=M2.An L (k:=Y) (by omega +splitNatSub) λi j h1 h2 h3 h4=>Int.le_trans (sa i (r-1) (zero_le _) af af) (T2 j h3 h4);refine aP (λg6=>?_) (λg6=>?_)
       .refine aP (λg7=>wpS_pure ⟨O,.inl ⟨_,M3.first J L (by simpa using g7) as,rfl⟩⟩) (λg7=>?_);have bi:¬ Y=1:=(by simpa using g7);refine aP (λap=>wpS_pure ⟨O,.inl ⟨_,M3.done J L (.inr (by simpa using ap)),rfl⟩⟩) (λap=>?_);have bm:¬ Y=0:=(by simpa using ap);refine wpS_bind (br U ?_);have N:=M3.gH J (by omega +splitNatSub) U λi h1 h2=>Int.le_of_lt (T1 i (by omega +splitNatSub));refine aP (λg8=>wpS_pure ⟨O,.inl ⟨_,N.done J L (.inl (by simpa using g8)),rfl⟩⟩) (λg8=>?_);have a2:¬ r-1=0:=(by simpa using g8);exact aP (λg9=>wpS_pure ⟨O,.inr ⟨r-1,Y,_,_,_,_,rfl,N,af,af,le_trans am (M.grow N af af)⟩⟩) (λg9=>wpS_pure ⟨r-1,Y,_,_,_,_,rfl,N,af,af,le_trans am (M.grow N af af),O⟩)
       .have bb:¬ F-1-Y>0:=g6;have aB:Y=F-1:=af;subst aB;refine wpS_bind (br U ?_);have N:=M2.gH J (by omega +splitNatSub) U λi h1 h2=>Int.le_of_lt (T1 i (by omega +splitNatSub));refine aP (λg8=>wpS_pure ⟨O,.inl ⟨_,N.done J L (.inl (by simpa using g8)),rfl⟩⟩) (λg8=>?_);have a2:¬ r-1=0:=(by simpa using g8);exact aP (λg9=>wpS_pure ⟨O,.inr ⟨r-1,F-1,_,_,_,_,rfl,N,af,af,le_trans am (M.grow N af af)⟩⟩) (λg9=>wpS_pure ⟨r-1,F-1,_,_,_,_,rfl,N,af,af,le_trans am (M.grow N af af),O⟩)
    .rintro c ba ⟨G,F,ad,a6,ac,bc,rfl,M,la,lb,am,K3⟩;exact⟨K3,.inr ⟨G,F,ad,_,_,_,rfl,M,la,lb,am⟩⟩
    .exact⟨G,F,S,_,_,_,rfl,M,la,lb,le_refl _,K2⟩
    .rintro c ba ⟨K3,⟨R,hR,e⟩|⟨G,F,ad,a6,ac,bc,rfl,M,la,lb,am⟩⟩
     .obtain⟨c1,c2⟩:=c;cases e;exact wpS_pure ⟨R,hR,rfl,K3⟩
     .refine wpS_bind (vO K3 λa5 O=>?_);exact wpS_pure ⟨G,F,ad,_,rfl,M,la,lb,af,O⟩
 .rintro c a1 ⟨G,F,out,mg,rfl,M,la,lb,lo,K1⟩;exfalso;have:=M.sz;omega
 .exact⟨_,_,_,_,rfl,M0,af,af,le_refl _,⟨rfl,rfl,rfl,rfl⟩⟩
 .rintro c a1 ⟨R,hR,e,K1⟩;obtain⟨c1,c2⟩:=c;cases e;exact wpS_pure (h R a1 hR K1)
end
def putAll (a:Array Keyed) (o n:Nat) (l:List Keyed):Array Keyed:=(l.zipIdx n).foldl (λa (p,j)=>a.setIfInBounds (o+j) p) a
theorem iX (o:Nat):∀(l:List Keyed) (n:Nat) (a:Array Keyed),o+n+l.length<=a.size->∀i,(putAll a o n l)[i]?=if o+n<=i/\i<o+n+l.length then l[i-(o+n)]? else a[i]?
 | [],n,a,_,i=>by
  rw[if_neg (by rw[length_nil];omega)];rfl
 |p::l,n,a,h,i=>by
  rw[length_cons]at h;show(putAll (a.setIfInBounds (o+n) p) o (n+1) l)[i]?=_;rw[iX o l (n+1) _ (by rw[Array.size_setIfInBounds];omega),length_cons,Array.getElem?_setIfInBounds];by_cases c:o+(n+1)<=i/\i<o+(n+1)+l.length
  .rw[if_pos c,if_pos af,show i-(o+n)=(i-(o+(n+1)))+1 by omega];simp
  .rw[if_neg c];by_cases d:o+n=i
   .rw[if_pos d,if_pos af,if_pos af, <-d];simp
   .rw[if_neg d,if_neg af]
theorem qV {a:Array Keyed}{o:Nat}{l:List Keyed}(h:o+l.length<=a.size):(putAll a o 0 l).toList=a.toList.take o++l++a.toList.drop (o+l.length):=by
 apply ext_getElem?;intro i;have e:=iX o l 0 a af i;rw[getElem?_toList,e,append_assoc];by_cases F:i<o
 .rw[if_neg af,List.getElem?_append_left (by rw[length_take];simp;omega),List.getElem?_take];simp[F]
 .rw[List.getElem?_append_right (by rw[length_take];omega)];have G:(a.toList.take o).length=o:=(by rw[length_take];simp;omega);rw[G];by_cases I:i<o+l.length
  .rw[if_pos af,List.getElem?_append_left af];rfl
  .rw[if_neg af,List.getElem?_append_right af,List.getElem?_drop,getElem?_toList];congr 1;omega
theorem rK {a:Array Keyed}{lo hi i:Nat}(h:i<hi-lo) (hs:hi<=a.size):K (a.extract lo hi) i=K a (lo+i):=by
 refine K_congr ?_;rw[Array.getElem?_extract];rw[if_pos af]
theorem mW {a:Array Keyed}{lo hi:Nat}(hs:hi<=a.size):(a.extract lo hi).size=hi-lo:=by
 rw[Array.size_extract];omega
theorem zL {a₀ a:Array Keyed}(L:a.Perm a₀) (k:Ks a₀) {lo hi:Nat}(hs:hi<=a.size) (h:j9 a lo hi):Up (a.extract lo hi):=by
 refine⟨λp I=>k.ik p ((Array.perm_iff_toList_perm.mp L).mem_iff.mp ?_),List.pairwise_iff_getElem.mpr λi j N O S=>?_⟩
 .rw[gu]at I;exact List.mem_of_mem_drop (List.mem_of_mem_take I)
 .have sz:=mW (a:=a) (lo:=lo) hs;have J:i<(a.extract lo hi).size:=(by rw[<-length_toList];exact N);have R:j<(a.extract lo hi).size:=(by rw[<-length_toList];exact O);have F:=K_eq J;have G:=K_eq R;rw[rK af hs]at F G;have z:=h (lo+i) (lo+j) af af af;rw[F,G]at z;simpa[le]using z
theorem parts {a:Array Keyed}{lo mid hi:Nat}(h1:lo<=mid) (h2:mid<=hi):a.toList=a.toList.take lo++(seg a lo mid++seg a mid hi)++a.toList.drop hi:=by
 have F:=iw (a:=a) h1;have G:=iw (a:=a) h2;rw[<-append_assoc, <-F, <-G,take_append_drop]
theorem wb {a R:Array Keyed}{lo mid hi:Nat}(h1:lo<=mid) (h2:mid<=hi) (h3:hi<=a.size) (G:Good (a.extract lo mid) (a.extract mid hi) R) :
  R.size=hi-lo/\(putAll a lo 0 R.toList).Perm a/\(∀i,¬ (lo<=i/\i<hi)->(putAll a lo 0 R.toList)[i]?=a[i]?)/\j9 (putAll a lo 0 R.toList) lo hi/\∀i,lo<=i->i<hi->∃j,lo<=j/\j<hi/\K (putAll a lo 0 R.toList) i=K a j:=by
 obtain⟨J,g2⟩:=G;have sz:R.size=hi-lo:=by
  have:=J.length_eq;simp only[length_append,length_toList]at this;rw[mW af,mW h3]at this;omega
 have hl:R.toList.length=hi-lo:=(by rw[length_toList];exact sz);have get:=iX lo R.toList 0 a af;have I:∀i,lo<=i->i<hi->∃(h:i-lo<R.size),K (putAll a lo 0 R.toList) i=numOf (R[i-lo]).1:=λi O S=>by
  have U:i-lo<R.size:=af;refine⟨U,?_⟩;have e:=get i;rw[if_pos af]at e;unfold K;rw[e,getElem?_toList,Nat.add_zero,getElem?_pos R (i-lo) U]
 refine⟨sz,?_,λi hi=>?_,λi j hi ab hj=>?_,λi O S=>?_⟩
 .rw[Array.perm_iff_toList_perm,qV af]
  conv=>rhs;rw[parts (a:=a) h1 h2]
  rw[hl,show lo+(hi-lo)=hi by omega];refine List.Perm.append_right _ (List.Perm.append_left _ ?_);rw[<-gu, <-gu];exact J
 .rw[get i,if_neg af]
 .obtain⟨N,F⟩:=I i hi af;obtain⟨a2,e2⟩:=I j af hj;rw[F,e2];by_cases z:i=j
  .subst z;exact Int.le_refl _
  .have:=List.pairwise_iff_getElem.mp g2 (i-lo) (j-lo) (by simpa using N) (by simpa using a2) af;simpa[le]using this
 .obtain⟨N,F⟩:=I i O S;have hm:R[i-lo]∈(a.extract lo mid).toList++(a.extract mid hi).toList:=J.mem_iff.mp (by simp);rw[F];rcases List.mem_append.mp hm with z|z
  .rw[gu]at z;obtain⟨j,L,Y,j3,e⟩:=kY z;exact⟨j,L,af,e⟩
  .rw[gu]at z;obtain⟨j,L,Y,j3,e⟩:=kY z;exact⟨j,af,Y,e⟩
structure C0 (a₀:Array Keyed) (st st':SortSt) (i lo n:Nat) (pw:Nat):Prop where
 S:SI a₀ st'
 out:∀j,¬ (lo<=j/\j<lo+n)->(arrOf st')[j]?=(arrOf st)[j]?
 up:j9 (arrOf st') lo (lo+n)
 pend:pendingOf st'=((pendingOf st).setIfInBounds i (lo,n,pw)).eraseIdxIfInBounds (i+1)
section
variable {prog:Program}{w:World}{A:Around}{E:Value->Shared->Prop}{s:Shared}{a₀:Array Keyed}
theorem DQ {st x:SortSt}{Q:PUnit->SortSt->Prop}(h:Q ⟨⟩ x):wpS (model prog w) A E s (set x:StateT SortSt Sem PUnit) Q st:=by
 unfold wpS;rw[StateT.run_set];exact wpAny_pure ⟨rfl,h⟩
theorem Ab {st:SortSt}{i F I pw nb ap:Nat}{Q:Bool->SortSt->Prop}(S:SI a₀ st) (k:Ks a₀) (h1:(pendingOf st)[i]?=some (F,I,pw)) (h2:(pendingOf st)[i+1]?=some (F+I,nb,ap)) (n1:1<=I) (n2:1<=nb) (hsz:F+I+nb<=a₀.size)
  (Y:j9 (arrOf st) F (F+I)) (u2:j9 (arrOf st) (F+I) (F+I+nb)) (h:∀ac,C0 a₀ st ac i F (I+nb) pw->Q true ac):wpS (model prog w) A E s (mergeAt' i) Q st:=by
 refine wpS_bind (wpS_get ?_);have hs:=S.size;have ka:∀{j:Nat},j<(arrOf st).size->∃t q,(arrOf st)[j]?=some (.int (K (arrOf st) j) t,q):=λU=>tG S.perm k U;rw[h1,h2];refine wpS_bind (DQ ?_);obtain⟨tb,qb,eb⟩:=ka (j:=F+I) af;refine wpS_bind (br eb (wpS_bind (dD (base:=F) (n:=I) (hint:=0) S.kind rfl (λi hi=>ka af) Y af λr hr r1 r2=>?_)));obtain⟨R1,R2⟩:=zW r1 r2;refine aP (λg=>?_) (λg=>?_)
 .have g':I-r=0:=(by simpa using g);refine wpS_pure (h _ ⟨⟨S.perm,S.kind,S.failed⟩,λ_ _=>rfl,λi j hi L U=>?_,rfl⟩);show K (arrOf st) i<=K (arrOf st) j;by_cases c1:j<F+I
  .exact Y i j hi L c1
  .by_cases N:i<F+I
   .have O:=R1 (i-F) af;rw[show F+(i-F)=i by omega]at O;exact Int.le_trans O (u2 (F+I) j (le_refl _) af af)
   .exact u2 i j af L af
 have g':¬ I-r=0:=(by simpa using g);obtain⟨ta,qa,ea⟩:=ka (j:=F+r+(I-r)-1) af;refine wpS_bind (br ea (wpS_bind (dD (base:=F+I) (n:=nb) (hint:=nb-1) S.kind rfl (λi hi=>ka af) u2 af λJ as ad am=>?_)));obtain⟨T1,T2⟩:=rL ad am;refine aP (λg=>?_) (λg=>?_)
 .have aB:J=0:=(by simpa using g);refine wpS_pure (h _ ⟨⟨S.perm,S.kind,S.failed⟩,λ_ _=>rfl,λi j hi L U=>?_,rfl⟩);show K (arrOf st) i<=K (arrOf st) j;by_cases c1:j<F+I
  .exact Y i j hi L c1
  .by_cases N:i<F+I
   .exact Int.le_trans (Y i (F+r+(I-r)-1) hi af af) (T2 j af af)
   .exact u2 i j af L af
 have g2:¬ J=0:=(by simpa using g);have ux:Up ((arrOf st).extract (F+r) (F+I)):=zL S.perm k af λi j hi L U=>Y i j af L U;have uy:Up ((arrOf st).extract (F+I) (F+I+J)):=zL S.perm k af λi j hi L U=>u2 i j hi L af;have sx:((arrOf st).extract (F+r) (F+I)).size=I-r:=(by rw[mW af];omega);have sy:((arrOf st).extract (F+I) (F+I+J)).size=J:=(by rw[mW af];omega);have x0:K ((arrOf st).extract (F+I) (F+I+J)) 0<K ((arrOf st).extract (F+r) (F+I)) 0:=by
  rw[rK af af,rK af af];exact R2 (F+r) (le_refl _) af
 have xl:∀j,j<((arrOf st).extract (F+I) (F+I+J)).size->K ((arrOf st).extract (F+I) (F+I+J)) j<K ((arrOf st).extract (F+r) (F+I)) (((arrOf st).extract (F+r) (F+I)).size-1):=λj U=>by
  rw[rK af af,rK af af,sx,show F+r+(I-r-1)=F+r+(I-r)-1 by omega];exact T1 j af
 refine aP (λg=>?_) (λg=>?_)
 .refine wpS_bind (tI S.kind ux uy (by rw[sx];omega) (by rw[sy];omega) x0 xl λR stC G KC=>?_);obtain⟨z1,z2,z3,z4,z5⟩:=wb (a:=arrOf st) (lo:=F+r) (mid:=F+I) (hi:=F+I+J) af af af G;refine wpS_bind (wpS_modify (wpS_bind (wpS_get (wpS_pure ?_))));have hf:failedOf stC=none:=KC.failed.trans S.failed;have hc:arrOf stC=arrOf st:=KC.arr;show Q (failedOf stC).isNone (SortSt.mk' (kindOf stC) (putAll (arrOf stC) (F+r) 0 R.toList) (pendingOf stC) (gallopOf stC) (failedOf stC));rw[hf,hc];refine h _ ⟨⟨z2.trans S.perm,KC.kind.trans S.kind,rfl⟩,λj U=>z3 j af,λi j hi L U=>?_,KC.pend⟩;show K (putAll (arrOf st) (F+r) 0 R.toList) i<=K (putAll (arrOf st) (F+r) 0 R.toList) j;have out:∀i,¬ (F+r<=i/\i<F+I+J)->K (putAll (arrOf st) (F+r) 0 R.toList) i=K (arrOf st) i:=λi hi=>K_congr (z3 i hi);by_cases c1:i<F+r
  .rw[out i af];have ab:∀j,F+r<=j->j<F+I+nb->K (arrOf st) i<=K (arrOf st) j:=λj h1 h2=>by
    by_cases c:j<F+I
    .exact Y i j hi af c
    .have O:=R1 (i-F) af;rw[show F+(i-F)=i by omega]at O;exact Int.le_trans O (u2 (F+I) j (le_refl _) af h2)
   by_cases N:F+r<=j/\j<F+I+J
   .obtain⟨j',q1,q2,e⟩:=z5 j N.1 N.2;rw[e];exact ab j' q1 af
   .rw[out j N];by_cases c3:j<F+r
    .exact Y i j hi L af
    .exact ab j af af
  .by_cases N:i<F+I+J
   .by_cases c3:j<F+I+J
    .exact z4 i j af L c3
    .rw[out j af];obtain⟨i',q1,q2,e⟩:=z5 i af N;rw[e];by_cases c4:i'<F+I
     .have O:=T2 j af af;exact Int.le_trans (Y i' (F+r+(I-r)-1) af af af) O
     .exact u2 i' j af af af
   .rw[out i af,out j af];exact u2 i j af L af
 .refine wpS_bind (u3 S.kind ux uy (by rw[sx];omega) (by rw[sy];omega) x0 xl λR stC G KC=>?_);obtain⟨z1,z2,z3,z4,z5⟩:=wb (a:=arrOf st) (lo:=F+r) (mid:=F+I) (hi:=F+I+J) af af af G;refine wpS_bind (wpS_modify (wpS_bind (wpS_get (wpS_pure ?_))));have hf:failedOf stC=none:=KC.failed.trans S.failed;have hc:arrOf stC=arrOf st:=KC.arr;show Q (failedOf stC).isNone (SortSt.mk' (kindOf stC) (putAll (arrOf stC) (F+r) 0 R.toList) (pendingOf stC) (gallopOf stC) (failedOf stC));rw[hf,hc];refine h _ ⟨⟨z2.trans S.perm,KC.kind.trans S.kind,rfl⟩,λj U=>z3 j af,λi j hi L U=>?_,KC.pend⟩;show K (putAll (arrOf st) (F+r) 0 R.toList) i<=K (putAll (arrOf st) (F+r) 0 R.toList) j;have out:∀i,¬ (F+r<=i/\i<F+I+J)->K (putAll (arrOf st) (F+r) 0 R.toList) i=K (arrOf st) i:=λi hi=>K_congr (z3 i hi);by_cases c1:i<F+r
  .rw[out i af];have ab:∀j,F+r<=j->j<F+I+nb->K (arrOf st) i<=K (arrOf st) j:=λj h1 h2=>by
    by_cases c:j<F+I
    .exact Y i j hi af c
    .have O:=R1 (i-F) af;rw[show F+(i-F)=i by omega]at O;exact Int.le_trans O (u2 (F+I) j (le_refl _) af h2)
   by_cases N:F+r<=j/\j<F+I+J
   .obtain⟨j',q1,q2,e⟩:=z5 j N.1 N.2;rw[e];exact ab j' q1 af
   .rw[out j N];by_cases c3:j<F+r
    .exact Y i j hi L af
    .exact ab j af af
  .by_cases N:i<F+I+J
   .by_cases c3:j<F+I+J
    .exact z4 i j af L c3
    .rw[out j af];obtain⟨i',q1,q2,e⟩:=z5 i af N;rw[e];by_cases c4:i'<F+I
     .have O:=T2 j af af;exact Int.le_trans (Y i' (F+r+(I-r)-1) af af af) O
     .exact u2 i' j af af af
   .rw[out i af,out j af];exact u2 i j af L af
end
def Chain (xs:Array Keyed):Nat->List (Nat×Nat×Nat)->Nat->Prop
 |s,[],e=>s=e
 |s,(t,n,_)::r,e=>t=s/\1<=n/\j9 xs s (s+n)/\Chain xs (s+n) r e
theorem Chain.le {xs:Array Keyed}:∀{s:Nat}{l:List (Nat×Nat×Nat)}{e:Nat},Chain xs s l e->s+l.length<=e
 |s,[],e,h=>Nat.le_of_eq h
 |s,(t,n,p)::r,e,⟨_,h2,_,F⟩=>by
  have:=Chain.le F;rw[length_cons];omega
theorem Chain.app {xs:Array Keyed}:∀{s:Nat}{l l2:List (Nat×Nat×Nat)}{e:Nat},Chain xs s (l++l2) e↔∃m,Chain xs s l m/\Chain xs m l2 e
 |s,[],l2,e=>⟨λh=>⟨s,rfl,h⟩,λ⟨m,h1,h2⟩=>by rw[show s=m from h1];exact h2⟩
 |s,(t,n,p)::r,l2,e=>by
  constructor
  .rintro⟨h1,h2,G,J⟩;obtain⟨m,F,I⟩:=Chain.app.mp J;exact⟨m,⟨h1,h2,G,F⟩,I⟩
  .rintro⟨m,⟨h1,h2,G,F⟩,I⟩;exact⟨h1,h2,G,Chain.app.mpr ⟨m,F,I⟩⟩
theorem j9.congr {xs ys:Array Keyed}{lo hi:Nat}(h:j9 xs lo hi) (e:∀i,lo<=i->i<hi->ys[i]?=xs[i]?):j9 ys lo hi:=λi j hi G F=>by
 rw[K_congr (e i hi af),K_congr (e j af F)];exact h i j hi G F
theorem Chain.congr {xs ys:Array Keyed}:∀{s:Nat}{l:List (Nat×Nat×Nat)}{e:Nat},Chain xs s l e->(∀i,s<=i->i<e->ys[i]?=xs[i]?)->Chain ys s l e
 |s,[],e,h,_=>h
 |s,(t,n,p)::r,e,⟨h1,h2,G,F⟩,q=>by
  have:=Chain.le F;exact⟨h1,h2,G.congr λi a b=>q i a af,F.congr λi a b=>q i af b⟩
structure RI (a₀:Array Keyed) (st:SortSt) (lo:Nat):Prop where
 S:SI a₀ st
 ch:Chain (arrOf st) 0 (pendingOf st).toList lo
 le:lo<=a₀.size
theorem DG {α:Type}{l:List α}{i:Nat}(h:i+1<l.length):∃l1 x y l2,l=l1++x::y::l2/\l1.length=i:=by
 refine⟨l.take i,l[i],l[i+1],l.drop (i+2),?_,?_⟩
 .rw[<-drop_eq_getElem_cons af, <-drop_eq_getElem_cons af,take_append_drop]
 .rw[length_take];omega
theorem nQ {p:Array (Nat×Nat×Nat)}{l1 l2:List (Nat×Nat×Nat)}{x y z:Nat×Nat×Nat}{i:Nat}(h:p.toList=l1++x::y::l2) (hi:l1.length=i):((p.setIfInBounds i z).eraseIdxIfInBounds (i+1)).toList=l1++z::l2:=by
 obtain⟨l⟩:=p;subst h;subst hi;simp;rw[List.eraseIdx_append_of_length_le af];simp
theorem Bm {c:Bool}{n:Nat}(h:¬ n<=1):(if c=true then n-2-1 else n-2)+1<n:=by
 cases c
 .rw[if_neg av];omega
 .rw[if_pos rfl];omega
theorem uM {α F:Type}{l:List α}{i:Nat}{f:α->α}{g:α->F}(h:∀x,g (f x)=g x):(l.modify i f).map g=l.map g:=by
 apply ext_getElem?;intro j;rw[getElem?_map,getElem?_map,List.getElem?_modify];cases l[j]? with
 |none=>rfl
 |some x =>
  by_cases c:i=j
  .simp[c,h]
  .simp[c]
theorem Chain.same {xs:Array Keyed}:∀{s:Nat}{l F:List (Nat×Nat×Nat)}{e:Nat},Chain xs s l e->F.map (λx=>(x.1,x.2.1))=l.map (λx=>(x.1,x.2.1))->Chain xs s F e
 |s,[],F,e,h,q=>by
  cases F with
  |nil=>exact h
  |cons x r=>cases q
 |s,(t,n,p)::r,F,e,⟨h1,h2,O,J⟩,q=>by
  cases F with
  |nil=>cases q
  |cons x U =>
   obtain⟨t',N,S⟩:=x;rw[map_cons,map_cons]at q;obtain⟨L,R⟩:=List.cons.inj q;obtain⟨G,I⟩:=Prod.mk.inj L;have G:t'=t:=G;have I:N=n:=I;subst G;subst I;exact⟨h1,h2,O,J.same R⟩
theorem RI.push {a₀:Array Keyed}{st:SortSt}{lo n p:Nat}(R:RI a₀ st lo) (F:1<=n) (G:lo+n<=a₀.size) (u:j9 (arrOf st) lo (lo+n)):RI a₀ (setPending st ((pendingOf st).push (lo,n,p))) (lo+n):=by
 refine⟨⟨R.S.perm,R.S.kind,R.S.failed⟩,?_,G⟩;show Chain (arrOf st) 0 ((pendingOf st).push (lo,n,p)).toList (lo+n);rw[toList_push];exact Chain.app.mpr ⟨lo,R.ch,rfl,F,u,rfl⟩
theorem RI.last {a₀:Array Keyed}{st:SortSt}{lo:Nat}(R:RI a₀ st lo) {f:Nat×Nat×Nat->Nat×Nat×Nat}(F:∀x,((f x).1,(f x).2.1)=(x.1,x.2.1)) (i:Nat):RI a₀ (setPending st ((pendingOf st).modify i f)) lo:=by
 refine⟨⟨R.S.perm,R.S.kind,R.S.failed⟩,?_,R.le⟩;show Chain (arrOf st) 0 ((pendingOf st).modify i f).toList lo;refine R.ch.same ?_;rw[Array.toList_modify];exact uM F
section
variable {prog:Program}{w:World}{A:Around}{E:Value->Shared->Prop}{s:Shared}{a₀:Array Keyed}
theorem iR {st:SortSt}{lo i:Nat}{Q:Bool->SortSt->Prop}(R:RI a₀ st lo) (k:Ks a₀) (hi:i+1<(pendingOf st).size)
  (h:∀I,RI a₀ I lo->(∀j,lo<=j->(arrOf I)[j]?=(arrOf st)[j]?)->(pendingOf I).size+1=(pendingOf st).size->Q true I):wpS (model prog w) A E s (mergeAt' i) Q st:=by
 obtain⟨l1,x,y,l2,e,L⟩:=DG (l:=(pendingOf st).toList) (i:=i) (by simpa using hi);obtain⟨F,G,N⟩:=x;obtain⟨sb,J,ab⟩:=y;have ch:=R.ch;rw[e]at ch;obtain⟨m,Y,e1,n1,u1,e2,n2,u2,O⟩:=Chain.app.mp ch;subst e1;subst e2;have b1:=Y.le;have b2:=O.le;have ac:=R.le;have g1:(pendingOf st)[i]?=some (F,G,N):=by
  rw[<-getElem?_toList,e, <-L];simp
 have g2:(pendingOf st)[i+1]?=some (F+G,J,ab):=by
  rw[<-getElem?_toList,e, <-L];simp
 refine Ab R.S k g1 g2 n1 n2 af u1 u2 λI M=>h I ⟨M.S,?_,R.le⟩ (λj U=>M.out j af) ?_
 .rw[M.pend,nQ e L];refine Chain.app.mpr ⟨F,Y.congr λj _ U=>M.out j af,rfl,af,M.up,?_⟩;rw[show F+(G+J)=F+G+J by omega];exact O.congr λj U _=>M.out j af
 .have p1:(pendingOf I).toList.length=(l1++(F,G+J,N)::l2).length:=(by rw[M.pend,nQ e L]);have p2:(pendingOf st).toList.length=(l1++(F,G,N)::(F+G,J,ab)::l2).length:=(by rw[e]);simp only[length_toList,length_append,length_cons]at p1 p2;omega
theorem wY {st:SortSt}{Q:Unit->SortSt->Prop}(k:Ks a₀) (S:SI a₀ st) (hp:pendingOf st = #[]) (h2:2<=a₀.size) (h:∀N,(arrOf N).Perm a₀->failedOf N=none->SortedTo (arrOf N) a₀.size->Q () N):wpS (model prog w) A E s sortRuns' Q st:=by
 rw[sortRuns'_eq];refine wpS_bind (wpS_get ?_);have hsz:=S.size;have a3:(arrOf st).size=a₀.size:=hsz;dsimp only;rw[hsz];refine wpS_bind (wpS_mono (wpS_forRange (I:=λx c N=>∃lo,qQ (c=(none,lo)) (RI a₀ N lo) (x<=lo)) (Q:=λc N=>c=(none,a₀.size)/\RI a₀ N a₀.size) ?_ ?_ ?_) ?_)
 .rintro x c a1 as am ⟨lo,rfl,R,hx⟩;have ac:=R.le;refine aP (λg=>?_) (λg=>?_)
  .have g':a₀.size<=lo:=g;obtain rfl:lo=a₀.size:=af;exact wpS_pure ⟨rfl,R⟩
  have g':¬ a₀.size<=lo:=g;refine wpS_bind (yJ R.S k (lo:=lo) (nrem:=a₀.size-lo) af af λm G C m1 m2 us=>?_);dsimp only;refine aP (λgm=>?_) (λgm=>?_)
  .refine wpS_bind (wpS_lift (wpAny_rule ⟨rfl,?_⟩));generalize hf:min (a₀.size-lo) (minRun' a₀.size a₀.size 0)=n;refine wpS_bind (zw C.S k (lo:=lo) (n:=n) (ok:=m) af m1 af us λab C3 ad=>?_);have Y:RI a₀ ab lo:=⟨C3.S,by
    rw[C3.pend,C.pend];exact R.ch.congr λi _ hi=>(C3.pre i hi).trans (C.pre i hi),R.le⟩
   refine wpS_bind (wpS_get ?_);cases e:(pendingOf ab).back? with
   |none=>exact wpS_bind (wpS_modify (wpS_pure ⟨lo+n,rfl,Y.push af af ad,af⟩))
   |some t =>
    obtain⟨s1,U,p1⟩:=t;refine wpS_bind (wpS_mono (wpS_forRange (I:=λy c F=>qQ (c=(none,())) (RI a₀ F lo) (∀j,lo<=j->(arrOf F)[j]?=(arrOf ab)[j]?)) (Q:=λc F=>qQ (c=(none,())) (RI a₀ F lo) (∀j,lo<=j->(arrOf F)[j]?=(arrOf ab)[j]?)) ?_ ?_ ?_) ?_)
    .rintro y c F ap aB ⟨rfl,J,L⟩;refine wpS_bind (wpS_get ?_);by_cases g:(pendingOf F).size>1
     .rw[if_pos g,getElem?_pos (pendingOf F) ((pendingOf F).size-2) af];refine aP (λ_=>wpS_pure ⟨rfl,J,L⟩) (λ_=>?_);exact wpS_bind (iR J k af λaT R5 o5 _=>wpS_pure ⟨rfl,R5,λj O=>(o5 j O).trans (L j O)⟩)
     .rw[if_neg g];exact wpS_pure ⟨rfl,J,L⟩
    .exact λc F q=>q
    .exact⟨rfl,Y,λ_ _=>rfl⟩
    .rintro c F ⟨rfl,J,L⟩;refine wpS_bind (wpS_modify (wpS_bind (wpS_modify (wpS_pure ⟨lo+n,rfl,?_,af⟩))));exact RI.push (J.last (f:=λx=>(x.fst,x.2.fst,power' a₀.size (2*s1+U) (2*s1+U+U+n) a₀.size)) (λx=>rfl) _) af af (ad.congr λi h1 _=>L i h1)
  .have Y:RI a₀ G lo:=⟨C.S,by
    rw[C.pend];exact R.ch.congr λi _ hi=>C.pre i hi,R.le⟩
   refine wpS_bind (wpS_get ?_);cases e:(pendingOf G).back? with
   |none=>exact wpS_bind (wpS_modify (wpS_pure ⟨lo+m,rfl,Y.push af af us,af⟩))
   |some t =>
    obtain⟨s1,U,p1⟩:=t;refine wpS_bind (wpS_mono (wpS_forRange (I:=λy c F=>qQ (c=(none,())) (RI a₀ F lo) (∀j,lo<=j->(arrOf F)[j]?=(arrOf G)[j]?)) (Q:=λc F=>qQ (c=(none,())) (RI a₀ F lo) (∀j,lo<=j->(arrOf F)[j]?=(arrOf G)[j]?)) ?_ ?_ ?_) ?_)
    .rintro y c F ap aB ⟨rfl,J,L⟩;refine wpS_bind (wpS_get ?_);by_cases g:(pendingOf F).size>1
     .rw[if_pos g,getElem?_pos (pendingOf F) ((pendingOf F).size-2) af];refine aP (λ_=>wpS_pure ⟨rfl,J,L⟩) (λ_=>?_);exact wpS_bind (iR J k af λaT R5 o5 _=>wpS_pure ⟨rfl,R5,λj O=>(o5 j O).trans (L j O)⟩)
     .rw[if_neg g];exact wpS_pure ⟨rfl,J,L⟩
    .exact λc F q=>q
    .exact⟨rfl,Y,λ_ _=>rfl⟩
    .rintro c F ⟨rfl,J,L⟩;refine wpS_bind (wpS_modify (wpS_bind (wpS_modify (wpS_pure ⟨lo+m,rfl,?_,af⟩))));exact RI.push (J.last (f:=λx=>(x.fst,x.2.fst,power' a₀.size (2*s1+U) (2*s1+U+U+m) a₀.size)) (λx=>rfl) _) af af (us.congr λi h1 _=>L i h1)
 .rintro c N ⟨lo,rfl,R,hx⟩;have:=R.le;obtain rfl:lo=a₀.size:=af;exact⟨rfl,R⟩
 .exact⟨0,rfl,⟨S,by rw[hp];rfl,zero_le _⟩,le_refl _⟩
 .rintro c N ⟨rfl,R⟩;dsimp only;refine wpS_bind (wpS_mono (wpS_forRange (I:=λx c G=>qQ (c=(none,())) (RI a₀ G a₀.size) ((pendingOf G).size+x<=a₀.size)) (Q:=λc G=>qQ (c=(none,())) (RI a₀ G a₀.size) ((pendingOf G).size<=1)) ?_ ?_ ?_) ?_)
  .rintro x c G as am ⟨rfl,R2,ac⟩;refine wpS_bind (wpS_get ?_);refine aP (λg=>wpS_pure ⟨rfl,R2,g⟩) (λg=>?_);refine wpS_bind (iR R2 k ?_ λab Y _ a2=>?_)
   .exact Bm g
   .exact wpS_pure ⟨rfl,Y,af⟩
  .rintro c G ⟨rfl,R2,ac⟩;exact⟨rfl,R2,af⟩
  .refine⟨rfl,R,?_⟩;have:=R.ch.le;simpa using this
  .rintro c G ⟨rfl,R2,ac⟩;refine wpS_pure (h G R2.S.perm R2.S.failed ?_);have ch:=R2.ch;cases e:(pendingOf G).toList with
   |nil =>
    rw[e]at ch;have:0=a₀.size:=ch;omega
   |cons x r =>
    have hr:r=[]:=by
     have z:(pendingOf G).toList.length=r.length+1:=(by rw[e];rfl);rw[length_toList]at z;exact List.length_eq_zero_iff.mp af
    subst hr;obtain⟨t,n,p⟩:=x;rw[e]at ch;obtain⟨_,_,u,e2⟩:=ch;have e3:0+n=a₀.size:=e2;rw[e3]at u;exact λi j a0 O=>u i j (zero_le _) a0 O
end
theorem Fs {vs:List Value}{ns:List Int}(F:IntsAre vs ns) (G:ns.Nodup):Ks (pairsOf vs):=by
 refine⟨F.intKeys,?_⟩;have e:((pairsOf vs).toList.map λp=>numOf p.1)=ns:=by
  rw[pairsOf_toList, <-F.nums]
  conv=>rhs;rw[<-List.map_fst_zip (l₁:=vs) (l₂:=vs) (le_refl _)]
  rw[map_map];rfl
 rw[e];exact G
section
variable {prog:Program}{w:World}{A:Around}{E:Value->Shared->Prop}{s:Shared}
theorem nU {a:Addr}{vs:List Value}{ns:List Int}{n:Nat}{P:Fin->Shared->Prop}(N:s.heap.get? a=some (seqObj "list" vs.toArray n)) (O:IntsAre vs ns) (hn:ns.Nodup) (hz:vs.length<=1000)
  (k:∀(out:Array Value) (ns':List Int),IntsAre out.toList ns'->ns'.Perm ns->ns'.Pairwise (· <= ·)->P (.done (.ret .none)) { s with heap:=sortedHeap s.heap a vs out }):wpAny (model prog w) A (Builtin.«list.sort» ⟨[.ref a],[]⟩) P E s:=by
 have lz:sizeLine=16777216:=sizeLine_eq;rw[list_sort_plain];have lt:=Heap.lt_size N;refine wpAny_bind (listItems_at N rfl (wpAny_bind (listUpdate_at N rfl ?_ (by simp only[size_toArray];omega))));obtain⟨ep,S⟩:∃ep,(s.heap.update a (Obj.mapSeq λ_ => #[])).get? a=some (seqObj "list" #[] ep):=⟨_,get?_update_seq N λ_ => #[]⟩;refine wpAny_bind (seqEpoch_at S rfl (wpAny_bind (wpAny_newTuple (wpAny_bind (wpAny_newList (wpAny_holding ?_))))));have at2:(((s.heap.update a (Obj.mapSeq λ_ => #[])).push (seqObj "tuple" vs.toArray 0)).push (seqObj "list" #[] 0)).get? a=some (seqObj "list" #[] ep):=by
  have l1:a<((s.heap.update a (Obj.mapSeq λ_ => #[])).push (seqObj "tuple" vs.toArray 0)).objs.size:=(by rw[size_push',Heap.size_update];exact lt_succ_of_lt lt);rw[Heap.get?_push_ne _ _ _ (ne_of_lt l1),Heap.get?_push_ne _ _ _ (by rw[Heap.size_update];exact ne_of_lt lt)];exact S
 have done:∀F:SortSt,(arrOf F).Perm (pairsOf vs)->SortedTo (arrOf F) (pairsOf vs).size->P (.done (.ret .none)) { s with heap:=sortedHeap s.heap a vs ((arrOf F).map (·.2)) }:=λF J L=>by
  obtain⟨ns',Y,w2,w3⟩:=sorted_out O J L;exact k _ ns' Y w2 w3
 show wpAny (model prog w) A _ P E { s with heap:=((s.heap.update a (Obj.mapSeq λ_ => #[])).push (seqObj "tuple" vs.toArray 0)).push (seqObj "list" #[] 0) };dsimp only;by_cases two:vs.toArray.size<2
 .rw[if_pos two,if_pos two];refine wpAny_bind (wpAny_pure ?_);rw[StateT.run_pure];refine wpAny_bind (wpAny_pure (wpAny_bind (seqEpoch_at at2 rfl (wpAny_bind (listUpdate_at at2 rfl ?_ (zero_le _) ?_)))))
  .simp only[bne_self_eq_false,Bool.false_eq_true,if_false];refine wpAny_pure (done (SortSt.mk' general' (vs.toArray.zip vs.toArray) #[] 7 none) (Array.Perm.refl _) λi j ab U=>?_);rw[pairsOf_size]at U;rw[size_toArray]at two;rw[show i=j by omega];exact Int.le_refl _
  .show(Array.map (λx:Keyed=>x.2) (vs.toArray.zip vs.toArray)).size<=sizeLine+1;rw[Array.size_map];show(pairsOf vs).size<=sizeLine+1;rw[pairsOf_size];omega
 .rw[if_neg two,if_neg two];rw[size_toArray]at two;obtain⟨I,v2,G,rfl⟩:∃I v2 G,vs=I::v2::G:=by
   match vs,two with
   | [],z=>exact absurd av z
   | [_],z=>exact absurd (by rw[length_singleton];decide) z
   |I::v2::G,_=>exact⟨I,v2,G,rfl⟩
  rw[keyKind_ints O];have sr:=wY (prog:=prog) (w:=w) (A:=A) (E:=E) (s:={ s with heap:=((s.heap.update a (Obj.mapSeq λ_ => #[])).push (seqObj "tuple" (I::v2::G).toArray 0)).push (seqObj "list" #[] 0) }) (Fs O hn)
   (st:=SortSt.mk' oneType' (pairsOf (I::v2::G)) #[] 7 none) (Q:=λ_ F=>qQ ((arrOf F).Perm (pairsOf (I::v2::G))) (failedOf F=none) (SortedTo (arrOf F) (pairsOf (I::v2::G)).size)) ⟨Array.Perm.refl _,rfl,rfl⟩ rfl (by rw[pairsOf_size];omega) λF J L R=>⟨J,L,R⟩
  refine wpAny_bind (wpAny_pure (wpAny_bind (wpAny_mono sr ?_ λ_ _ e=>e)));rintro⟨⟨⟩,F⟩ s' ⟨rfl,J,L,R⟩;dsimp only;refine wpAny_bind (seqEpoch_at at2 rfl (wpAny_bind (listUpdate_at at2 rfl ?_ (zero_le _) ?_)))
  .rw[L];simp only[bne_self_eq_false,Bool.false_eq_true,if_false];exact wpAny_pure (done F J R)
  .show(Array.map (λx:Keyed=>x.2) (arrOf F)).size<=sizeLine+1;rw[Array.size_map,J.size_eq,pairsOf_size];omega
theorem tm {l:Addr}{vs:List Value}{ns:List Int}{Q:Value->Shared->Prop}(R:s.heap.IsList l vs.toArray) (O:IntsAre vs ns) (I:ns.Nodup) (J:vs.length<=1000)
  (k:∀(out:Array Value) (ns':List Int),IntsAre out.toList ns'->ns'.Perm ns->ns'.Pairwise (· <= ·)->Q (.ref (s.heap.objs.size+1)) { s with heap:=sortedAll s.heap vs out }):wpAny (model prog w) A (call (.builtin "sorted") [.ref l]) Q E s:=by
 have U:sizeLine=16777216:=sizeLine_eq;refine Calls.call_function_entry kind_sorted plain_sorted entry_sorted (args_sorted1 _) ?_;refine wpAny_bind (m:=checkCount "sorted" 1 1 _) (wpAny_pure (wpAny_bind (collect_list R (wpAny_bind (wpAny_newList ?_)) af)));have G:((s.heap.push (seqObj "list" #[] 0)).update s.heap.objs.size (Obj.mapSeq (· ++ vs.toArray))).objs.size=s.heap.objs.size+1:=(by rw[Heap.size_update,size_push']);have F:=Heap.get?_push_size ((s.heap.push (seqObj "list" #[] 0)).update s.heap.objs.size (Obj.mapSeq (· ++ vs.toArray))) (o:=seqObj "list" vs.toArray 0) rfl;rw[G]at F;show wpAny _ _ _ _ _ { s with heap:=((s.heap.push (seqObj "list" #[] 0)).update s.heap.objs.size (Obj.mapSeq (· ++ vs.toArray))).push (seqObj "list" vs.toArray 0) };rw[G];refine wpAny_bind (wpAny_holding (wpAny_call_entry slot_list_sort ⟨_,F,rfl⟩ entry_list_sort (nU F O I J λout ns' L S N=>⟨_,rfl,wpAny_pure ⟨_,rfl,k out ns' L S N⟩⟩) (args_list_sort _)))
end
theorem wc:∀{vs:List Value}{ns:List Int},vs.length=ns.length->(∀(j:Nat) (v:Value),vs[j]?=some v->∃(m:Int) (t:Tok),ns[j]?=some m/\v=.int m t)->IntsAre vs ns
 | [],[],_,_=>.nil
 |v::vs,n::ns,F,h=>by
  obtain⟨m,t,e,rfl⟩:=h 0 v rfl;cases e;exact .cons n t (wc (by simpa using F) λj u G=>by simpa using h (j+1) u (by simpa using G))
 | [],_::_,F,_=>by simp at F
 |_::_,[],F,_=>by simp at F
section
variable {prog:Program}{w:World}{A:Around}{E:Value->Shared->Prop}{s:Shared}{T:String}{r d:Addr}{n:Nat}{P:Nat->Value->Prop}{OK:Heap->Prop}
theorem uJ {ns:List Int}{Q:Value->Shared->Prop}(S:KdlSrc prog w T r d n P OK) (U:A.handled=none) (Y:OK s.heap) (L:∀(i:Nat) (v:Value),P i v->∃(m:Int) (t:Tok),ns[i]?=some m/\v=.int m t) (hl:ns.length=n) (hn:ns.Nodup) (hz:n<=1000)
  (k:∀(h1 h':Heap) (tk:Nat) (out:Array Value) (ns':List Int) (e:Nat),(∀b o,s.heap.get? b=some o->h1.get? b=some o)->(∀b o,h1.get? b=some o->h'.get? b=some o)->h'.get? h1.objs.size=some (seqObj "list" out e)->IntsAre out.toList ns'->ns'.Perm ns->ns'.Pairwise (· <= ·)->Q (.ref h1.objs.size) { s with heap:=h',toks:=tk }) :
  wpAny (model prog w) A (call (.builtin "sorted") [.ref r]) Q E s:=by
 have lz:sizeLine=16777216:=sizeLine_eq;refine Calls.call_function_entry kind_sorted plain_sorted entry_sorted (args_sorted1 _) ?_;refine wpAny_bind (m:=checkCount "sorted" 1 1 _) (wpAny_pure (wpAny_bind (PySem.W.kdu_collect (A:=A.in1) S U Y af λh1 tk F k1 J=>?_)));have ln:F.toList.length=n:=(by rw[length_toList];exact J.1);refine wpAny_bind (wpAny_newList ?_ af);have R:IntsAre F.toList ns:=wc af λj v e=>L j v (J.2 j v (by rw[<-getElem?_toList];exact e));have G:=Heap.get?_push_size h1 (o:=seqObj "list" F.toList.toArray 0) rfl;show wpAny _ _ _ _ _ { s with heap:=h1.push (seqObj "list" F.toList.toArray 0),toks:=tk };refine wpAny_bind (wpAny_holding (wpAny_call_entry slot_list_sort ⟨_,G,rfl⟩ entry_list_sort (nU G R hn af λout ns' O w2 w3=>⟨_,rfl,wpAny_pure ⟨_,rfl,?_⟩⟩) (args_list_sort _)));obtain⟨e,N⟩:=sortedHeap_at (vs:=F.toList) (out:=out) G;refine k h1 _ tk out ns' e k1 (λb o I=>?_) N O w2 w3;have lt:=Heap.lt_size I;rw[sortedHeap_old (ne_of_lt lt) (by rw[size_push'];exact lt_succ_of_lt lt),Heap.get?_push_ne _ _ _ (ne_of_lt lt)];exact I
end
end Srt
namespace L2
open PySem PySem.Spec PyProof.Rows
section
variable {X:Cx}
theorem qC:dr X (.builtin "sorted") (λxs H Q=>∃(p:Addr) (ns:List Int),xs=[.ref p]/\bq X.K H p (ns.map V.int)/\ns.Nodup/\ns.length<=1000/\∀(l:Addr) (ns':List Int),H l=none->ns'.Perm ns->ns'.Pairwise (· <= ·)->Q (.ref l) (upd H l (.lst (ns'.map V.int)))):=by
 intro pins s σ H xs us Q I r h;obtain⟨p,ns,rfl,N,O,hn,q⟩:=h;obtain⟨u,rfl,Y⟩:=vals1 r;cases Y;obtain⟨its,G,pl,hz⟩:=I.list N;have S:=intsAre_of G;have U:=G.length;rw[length_map]at U;refine Srt.tm pl.isList S O af λout ns' J F L=>?_;obtain⟨e,R⟩:=sortedAll_at s.heap its out;have hs:sizeLine=16777216:=sizeLine_eq;refine⟨.ref (s.heap.objs.size+1),_,I.laid (t':=s.toks) (λb o e=>sortedAll_old e) (le_succ _) (show bV X.prog X.w _ _ _ (.lst (ns'.map V.int))from⟨by rw[length_map,F.length_eq];omega,out.toList,e,iB J,by simpa using R⟩),rfl,q _ ns' (I.bG.fresh (le_succ _)) F L⟩
end
end L2
namespace Srt
open PySem PyProof.Rows
theorem rW {prog:Program}{w:World}{A:Around}{I:Addr}{fp wr:List Addr}{G:Array GenState->Array GenState->Prop}{n:Nat}{P:Nat->Value->Prop}{St:Nat->Shared->Prop}(W:WalksS prog w A I fp wr G n P St) (m:Nat) (L:Nat->Value->Prop) :
  WalksS prog w A I fp wr G (m+n) (λj v=>(j<m/\L j v)\/(m<=j/\P (j-m) v)) (λi s=>m<=i/\St (i-m) s) where
 sub:=W.sub
 grefl:=W.grefl
 gtrans:=W.gtrans
 frame:=λi s h' tk st J R=>⟨st.1,W.frame (i-m) s h' tk st.2 J R⟩
 item:=λi s Q E hi st h=>W.item (i-m) s Q E (by have:=st.1;omega) st.2 λv s' F N O=>h v s' (.inr ⟨st.1,F⟩) ⟨by have:=st.1;omega,by rw[show i+1-m=i-m+1 by have:=st.1;omega];exact N⟩ O
 done:=λs Q E st h=>W.done s Q E (by have:=st.2;rwa [show m+n-m=n by omega]at this) h
 self:=λi s Q E st h=>W.self (i-m) s Q E st.2 h
section
variable {prog:Program}{w:World}{A:Around}{s:Shared}{T:String}{r d:Addr}{n:Nat}{P:Nat->Value->Prop}{OK:Heap->Prop}
theorem vf {R:Result->Shared->Prop}(Z:KdlSrc prog w T r d n P OK) (hh:A.handled=none) (U:OK s.heap) (S:Addr) (sr:S≠r) (sd:S≠d) (res:Value) (G:Array Value) (c:Nat) (hS:s.heap.get? S=some { cls:=.type "list",data:=.seq G c }) (hz:G.size+n<sizeLine)
  (k:∀h' tk O J,(∀b o,b≠S->s.heap.get? b=some o->h'.get? b=some o)->h'.get? S=some { cls:=.type "list",data:=.seq O J }->ItemsOf (λj v=>(j<G.size/\G[j]?=some v)\/(G.size<=j/\P (j-G.size) v)) O (G.size+n)->R (.ok (.ret res)) { s with heap:=h',toks:=tk }) :
  wpAny (model prog w) A.in1 (Builtin.List.listExtendWith (.ref S) (.ref r) res) (λas s'=>match as with|.done f=>R (.ok f) s' |.again J=>J.quiet=true/\codeAny (model prog w) A J R s') (λe s'=>R (.error e) s') s:=by
 have nI:S≠s.heap.objs.size:=ne_of_lt (Heap.lt_size hS);obtain⟨oI,St,ap,W,ac⟩:=Z.iter A.in1 s hh U;have am:S∉[s.heap.objs.size,d]:=λz=>by
  rcases List.mem_cons.mp z with e|z
  .exact nI e
  .exact sd (List.mem_singleton.mp z)
 have ad:∀(h:Heap) (Y tk:Nat),St 0 h->(∀b o,b≠S->s.heap.get? b=some o->h.get? b=some o)->h.get? S=some { cls:=.type "list",data:=.seq G Y } ->
   codeAny (model prog w) A (.builtin "list.extend.loop" ⟨[.ref S,.ref s.heap.objs.size,res],[]⟩) R { s with heap:=h,toks:=tk }:=by
  intro h Y tk q0 L N;have WS:=rW W.toS G.size λj v=>G[j]?=some v;refine codeAny_extend_loopS WS (le_of_lt hz) S am res n G.size _ G Y af af ⟨le_refl _,by rw[Nat.sub_self];exact q0⟩ N ⟨rfl,λj v e=>.inl ⟨?_,e⟩⟩ λs' O J mv e1 e2=>?_
  .exact(Array.getElem?_eq_some_iff.mp e).1
  .rw[Moved.eq_with mv];refine k s'.heap s'.toks O J (λb o I e=>mv.heap b o (λz=>?_) (L b o I e)) e1 e2;rcases List.mem_cons.mp z with z|z
   .exact I z
   .exact lt_irrefl _ (List.mem_singleton.mp z▸Heap.lt_size e)
 unfold Builtin.List.listExtendWith;refine wpAny_bind (wpAny_typeOf (T:=T) (Z.type s U) ?_);have ns:Builtin.List.listSameRef (.ref S) (.ref r)=false:=(by simp[Builtin.List.listSameRef,sr]);simp only[ns,Z.notList,Z.notTuple,Bool.or_false,Bool.false_eq_true,if_false];refine wpAny_bind (ap _ _ ?_);have S1:=Heap.get?_push_of_some oI hS;refine wpAny_bind (wpAny_holding (Z.hint _ _ _ _ (Z.keep _ _ U λb _ o e=>Heap.get?_push_of_some _ e) ?_));refine wpAny_ite_split (λ_=>?_) (λ_=>wpAny_pure ⟨plainId_quiet PySem.F.plain_extend_loop _,ad _ c _ ac (λb o _ e=>Heap.get?_push_of_some _ e) S1⟩);refine wpAny_bind (wpAny_rule (wpAny_bind ?_));show wpAny _ _ (updateSeq S (·.push .none)>>=λ_=>updateSeq S (·.pop)) _ _ _;have L:=PySem.IsL.update S1 (·.push Value.none);have N:=PySem.IsL.update L (·.pop);have ep:(G.push Value.none).pop=G:=Array.pop_push ..;refine wpAny_bind (wpAny_updateSeq S1 rfl (wpAny_updateSeq L rfl (wpAny_pure ⟨plainId_quiet PySem.F.plain_extend_loop _,?_⟩) ?_ ?_) ?_ ?_)
 .rw[ep]at N;refine ad _ _ _ (W.frame 0 _ _ ac λb I o e=>?_) (λb o I e=>?_) N
  .have ab:b≠S:=λz=>am (z▸I);exact(Heap.get?_update_other _ _ (Ne.symm ab)).trans ((Heap.get?_update_other _ _ (Ne.symm ab)).trans e)
  .exact(Heap.get?_update_other _ _ (Ne.symm I)).trans ((Heap.get?_update_other _ _ (Ne.symm I)).trans (Heap.get?_push_of_some _ e))
 .show(G.push Value.none).size<=sizeLine;rw[size_push];omega
 .show((G.push Value.none).pop).size<=sizeLine+1;rw[ep];omega
 .omega
 .show(G.push Value.none).size<=sizeLine+1;rw[size_push];omega
end
end Srt
namespace L2
open PySem PySem.Spec PyProof.Rows
theorem qA:∀{xs:List V}{vs:List Value},xs.length=vs.length->(∀(j:Nat) (x:V) (v:Value),xs[j]?=some x->vs[j]?=some v->RelV x v)->Vals xs vs
 | [],[],_,_=>.nil
 |x::xs,v::vs,F,h=>.cons (h 0 x v rfl rfl) (qA (by simpa using F) λj a b G I=>h (j+1) a b (by simpa using G) (by simpa using I))
 | [],_::_,F,_=>by simp at F
 |_::_,[],F,_=>by simp at F
section
variable {X:Cx}
inductive sH (x:V) (vs:List V) (H:Hp) (Q:VK):Prop
 |mk (l:_) (d:_) (xs:_) (kvs:_) (_:x=.ref l) (_:vs=[.ref d]) (_:H l=some (.lst xs)) (_:H d=some (.dK kvs)) (_:xs.length+kvs.length<sizeLine) (_:Q .non (upd H l (.lst (xs++kvs.map λkv=>kV kv.1)))):sH x vs H Q
theorem ur (hc:X.calm=true):DB X "list.extend" sH:=by
 intro pins s σ H x vs v us Q I rx rv h;obtain⟨l,d,xs,kvs,rfl,rfl,O,hD,hz,q⟩:=h;cases rx;obtain⟨u,rfl,ru⟩:=rv.one;cases ru;obtain⟨z,its,n,r,hl,e⟩:=I.mq O;obtain⟨_,hd,vs,ab,dd⟩:=gD I.bG hD;obtain⟨ep,ad⟩:=dd.dictAt;have am:=ab.length;have Y:l≠d:=λz=>(by rw[z,hD]at O;cases O);refine wpAny_call (codeAny_call_builtin PySem.F.slot_list_extend.plain PySem.F.entry_list_extend (PySem.F.slot_list_extend.check _ _ _ _ _ _ _ _ ⟨_,e,rfl⟩ (PySem.F.args_list_extend_2 _ _) ?_));show wpAny _ _ (Builtin.List.listExtendWith (.ref l) (.ref d) .none) _ _ s;refine Srt.vf (R:=λr s'=>match r with|.ok (.ret v)=>EP X pins σ Q v s' |.ok _=>False|.error e=>X.xe e s') (kdl_dict (knd:=bt X.prog X.w) (kvs:=vs) (ep:=ep) hd) (I.ok.hd hc) ad l Y Y .none its.toArray n e (by rw[size_toArray];omega) λh' tk L c' k1 k2 k3=>⟨.non,_,?_,rfl,q⟩;obtain⟨sz,it⟩:=k3;have sz:L.size=its.length+vs.length:=(by rw[sz,size_toArray]);refine I.write (x:=l) (e:=l) (by rw[O];exact trivial) (.inl rfl) k1 ⟨_,k2⟩ (show bV X.prog X.w _ _ _ (.lst _)from⟨?_,L.toList,c',qA ?_ λj x v G hv=>?_,by simpa using k2⟩)
 .rw[length_append,length_map];omega
 .have al:L.toList.length=L.size:=length_toList;rw[length_append,length_map];omega
 .have ac:L[j]?=some v:=(by rw[<-getElem?_toList];exact hv);rcases it j v ac with⟨S,N⟩|⟨S,N⟩
  .rw[size_toArray]at S;rw[List.getElem?_append_left af]at G;obtain⟨b,eb,rb⟩:=r.get G;have:its[j]?=some v:=(by simpa using N);rw[this]at eb;cases eb;exact rb
  .rw[size_toArray]at S N;obtain⟨k,y,e1,e2⟩:=N;rw[List.getElem?_append_right af,getElem?_map]at G;have J:(vs.map (·.1))[j-its.length]?=some k:=(by rw[getElem?_map,e1];rfl);rw[<-ab.keys,getElem?_map]at J;rw[show j-xs.length=j-its.length by omega]at G;cases U:kvs[j-its.length]? with
   |none=>rw[U]at J;cases J
   |some kv =>
    rw[U]at J G;obtain rfl:kv.1=k:=Option.some.inj J;obtain rfl:kV kv.1=x:=Option.some.inj G;exact qv e2
def Ii (K:Frag):R2:=λx y H Q=>∃p q xs ys,x=.ref p/\y=.ref q/\bR K H p xs/\bR K H q ys/\xs.all cY=true/\ys.all cY=true/\Q (.bl (gw xs ys)) H
theorem nZ:∀{xs ys:List V},((List.range (min xs.length ys.length)).all (λj=>jP (xs.getD j .non) (ys.getD j .non))&&xs.length==ys.length)=gw xs ys:=by
 intro xs ys;by_cases e:xs.length=ys.length
 .rw[e,Nat.min_self,beq_self_eq_true,Bool.and_true, <-gr e,e]
 .rw[jO e,beq_eq_false_iff_ne.mpr e,Bool.and_false]
theorem ug (hu:X.A.units<cLine):kB X (compareOp .Eq) (Ii X.K):=by
 intro pins s σ H x y v u Q I rx ry h;obtain⟨p,q,xs,ys,rfl,rfl,hx,S,fx,fy,hq⟩:=h;cases rx;cases ry;obtain⟨its,r,pl,hz⟩:=I.tuple hx;obtain⟨J,L,O,ac⟩:=I.tuple S;have hl:=r.length;have U:=L.length;refine SeqAt.eq_tupleAt (e:=λj=>jP (xs.getD j .non) (ys.getD j .non)) pl O hu (λj h1 h2=>?_) ⟨.bl (gw xs ys),H,I,?_,hq⟩
 .rw[size_toArray]at h1 h2;have F:j<xs.length:=af;have G:j<ys.length:=af;obtain⟨a,ea,ra⟩:=r.get (i:=j) (x:=xs[j]) (by simp[F]);obtain⟨b,eb,rb⟩:=L.get (i:=j) (x:=ys[j]) (by simp[G]);obtain⟨_,ab⟩:=List.getElem?_eq_some_iff.mp ea;obtain⟨_,N⟩:=List.getElem?_eq_some_iff.mp eb;have g1:xs.getD j .non=xs[j]:=(by simp[F]);have Y:ys.getD j .non=ys[j]:=(by simp[G]);show SeqAt.EqAt _ _ its.toArray[j] J.toArray[j] (jP (xs.getD j .non) (ys.getD j .non));have R:its.toArray[j]=a:=(by simpa using ab);have a2:J.toArray[j]=b:=(by simpa using N);rw[g1,Y,R,a2];exact iS ra rb (List.all_eq_true.mp fx _ (getElem_mem F)) (List.all_eq_true.mp fy _ (getElem_mem G))
 .show Value.bool _=Value.bool _;rw[size_toArray,size_toArray, <-hl, <-U,nZ]
end
def rA (K:Frag) (H:Hp):Nat->V->V->Prop
 |0,x,y=>x=y/\cY x=true
 |n+1,x,y=>(x=y/\cY x=true)\/∃p q xs ys,x=.ref p/\y=.ref q/\p≠q/\((bq K H p xs/\bq K H q ys)\/(bR K H p xs/\bR K H q ys))/\Paired (rA K H n) xs ys
theorem sJ:∀{x:V},cY x=true->jP x x=true:=by
 intro x h;cases x<;>first|(simp[jP];done)|exact nomatch h
theorem tO {α G:Type}{F:α->G->Prop}:∀{xs:List α}{ys:List G},Paired F xs ys->xs.length=ys.length
 |_,_,.nil=>rfl
 |_,_,.cons _ t=>by rw[length_cons,length_cons,tO t]
theorem Ce {α G:Type}{F:α->G->Prop}:∀{xs:List α}{ys:List G},Paired F xs ys->∀(j:Nat) (x:α) (y:G),xs[j]?=some x->ys[j]?=some y->F x y
 |_,_,.nil,j,_,_,h,_=>by simp at h
 |_,_,.cons r t,0,x,y,h1,h2=>by simp at h1 h2;subst h1;subst h2;exact r
 |_,_,.cons r t,j+1,x,y,h1,h2=>Ce t j x y (by simpa using h1) (by simpa using h2)
section
variable {X:Cx}{pins:List (Addr×Obj)}{σ:St}{H:Hp}{s:Shared}
theorem iV {n:Nat}{A:Around}{xs ys:List V}{its F:List Value}(r:Vals xs its) (J:Vals ys F) (O:Paired (rA X.K H n) xs ys)
  (S:∀{x y:V}{v u:Value},rA X.K H n x y->RelV x v->RelV y u->SeqAt.EqAt A s v u true) (j:Nat) (h1:j<its.toArray.size) (h2:j<F.toArray.size):SeqAt.EqAt A s its.toArray[j] F.toArray[j] true:=by
 have hl:=r.length;have ab:=J.length;rw[size_toArray]at h1 h2;have G:j<xs.length:=af;have I:j<ys.length:=af;obtain⟨a,Y,ra⟩:=r.get (i:=j) (x:=xs[j]) (by simp[G]);obtain⟨b,eb,rb⟩:=J.get (i:=j) (x:=ys[j]) (by simp[I]);obtain⟨_,R⟩:=List.getElem?_eq_some_iff.mp Y;obtain⟨_,L⟩:=List.getElem?_eq_some_iff.mp eb;have N:its.toArray[j]=a:=(by simpa using R);have U:F.toArray[j]=b:=(by simpa using L);rw[N,U];exact S (Ce O j _ _ (by simp[G]) (by simp[I])) ra rb
theorem vJ (I:Inv X pins σ H s):∀(n:Nat) {A:Around}{x y:V}{v u:Value},A.units+n<cLine->rA X.K H n x y->RelV x v->RelV y u->SeqAt.EqAt A s v u true
 |0,A,x,y,v,u,_,⟨e,f⟩,J,G=>by
  subst e;have z:=iS (A:=A) (s:=s) J G f f
  rwa [sJ f]at z
 |n+1,A,x,y,v,u,hu,h,J,G=>by
  rcases h with⟨e,f⟩|⟨p,q,xs,ys,rfl,rfl,S,U,N⟩
  .subst e;have z:=iS (A:=A) (s:=s) J G f f
   rwa [sJ f]at z
  .cases J;cases G;have Y:A.in1.units+n<cLine:=(by show A.units+1+n<cLine;omega);have R:∀{x y:V}{v u:Value},rA X.K H n x y->RelV x v->RelV y u->SeqAt.EqAt A.in1 s v u true:=λa b c=>vJ I n Y a b c;have hl:=tO N;rcases U with⟨h1,h2⟩|⟨h1,h2⟩
   .obtain⟨its,r,pl,_⟩:=I.list h1;obtain⟨O,F,L,_⟩:=I.list h2;have l1:=r.length;have l2:=F.length;have z:=SeqAt.RcAt.lists (A:=A) (s:=s) (e:=λ_=>true) pl.isList L.isList (by rw[size_toArray,size_toArray];omega) af (iV r F N R);have e:((List.range its.toArray.size).all λ_=>true)=true:=List.all_eq_true.mpr λ_ _=>rfl;rw[e]at z;exact SeqAt.EqAt.of_refs S z
   .obtain⟨its,r,pl,_⟩:=I.tuple h1;obtain⟨O,F,L,_⟩:=I.tuple h2;have l1:=r.length;have l2:=F.length;have z:=SeqAt.RcAt.tuples (A:=A) (s:=s) (e:=λ_=>true) pl L af (iV r F N R);have e:((List.range (min its.toArray.size O.toArray.size)).all (λ_=>true)&&its.toArray.size==O.toArray.size)=true:=by
     rw[Bool.and_eq_true];exact⟨List.all_eq_true.mpr λ_ _=>rfl,by rw[size_toArray,size_toArray];exact beq_iff_eq.mpr af⟩
    rw[e]at z;exact SeqAt.EqAt.of_refs S z
end
inductive Fd (K:Frag) (n:Nat) (x:V) (y:V) (H:Hp) (Q:VK):Prop
 |mk (p:_) (q:_) (xs:_) (ys:_) (_:x=.ref p) (_:y=.ref q) (_:bq K H p xs) (_:bq K H q ys) (_:Paired (rA K H n) xs ys) (_:Q (.bl false) H):Fd K n x y H Q
section
variable {X:Cx}
theorem De (n:Nat) (hu:X.A.units+n+1<cLine):kB X (compareOp .NotEq) (Fd X.K n):=by
 intro pins s σ H x y v u Q I U S h;obtain⟨p,q,xs,ys,rfl,rfl,N,L,F,O⟩:=h;cases U;cases S;obtain⟨its,r,pl,hz⟩:=I.list N;obtain⟨ab,G,J,ac⟩:=I.list L;have l1:=r.length;have l2:=G.length;have hl:=tO F;have Y:X.A.in1.units+n<cLine:=(by show X.A.units+1+n<cLine;omega);have R:∀{x y:V}{v u:Value},rA X.K H n x y->RelV x v->RelV y u->SeqAt.EqAt X.A.in1 s v u true:=λa b c=>vJ I n Y a b c;refine PySem.SeqAt.RcNeAt.lists (e:=λ_=>true) pl.isList J.isList (by rw[size_toArray,size_toArray];omega) af (iV r G F R) _ _ _ _ ⟨.bl false,H,I,?_,O⟩;have e:((List.range its.toArray.size).all λ_=>true)=true:=List.all_eq_true.mpr λ_ _=>rfl;rw[e];rfl
end
end L2
namespace PySem
open PySem.Sem (wp)
section
variable {prog:Program}{w:World}{A:Around}{E:Value->Shared->Prop}{h:Heap}{g:Array GenState}{d:Drawn}{t:Nat}{os:OsState}{a:Addr}{its:Array Value}{n:Nat}
end
open PyProof.Rows
namespace F
end F
section
variable {prog:Program}{w:World}{K:Type} [DecidableEq K] {knd:KeyKind prog w K}{A:Around}{E:Value->Shared->Prop}
end
end PySem
namespace L2
open PySem PySem.Spec PyProof.Rows
section
variable {X:Cx}{scope:Scope}{cl:List (Str×Addr)}{t:Str×Str}{caps:List (Str×Nat)}{pins:List (Addr×Obj)}{σ:St}{H:Hp}{s:Shared}{C:Addr}{fp:List Addr}
end
section
variable {X:Cx}{scope:Scope}{cl:List (Str×Addr)}{t:Str×Str}{caps:List (Str×Nat)}{elt iter:Expr}{ifs:List Expr}{px pos:Pos}{es:List Expr}{kx:Nat}{g:TG}{wi:TI}{tt:TT}{te:TE}
end
theorem zm:bootBuiltins "zip" = some (.type "zip"):=ao
theorem qp:bootBuiltins "enumerate" = some (.type "enumerate"):=ao
theorem u0:bootBuiltins "all" = some (.builtin "all"):=ao
theorem Ep:bootBuiltins "min" = some (.builtin "min"):=ao
section
variable {X:Cx}{pins:List (Addr×Obj)}{σ:St}{H:Hp}{s:Shared}{h':Heap}
theorem Inv.fh {t':Nat}{ch:List Addr}(I:Inv X pins σ H s) (k:∀b o,b∉ch->s.heap.get? b=some o->h'.get? b=some o) (G:∀b∈ch,ff X pins H b):Inv X pins σ H { s with heap:=h',toks:=t' }:=by
 have J:∀b u,H b=some u->b∉ch:=λb u e z=>(by rw[(G b z).1]at e;cases e);refine I.step (g':=s.gens) (d':=s.drawn) (ch:=ch) (λb S=>?_) (λb o _ _ F e _=>k b o F e) (λb o _ _ F e _=>⟨o.slots,k b o F e⟩) (λ_ _ _ _ n=>n)
  (λb o F e=>⟨o,k b o F e⟩) (λ_ _ e=>e) (λ_ _ _ e=>e) (λb ps e=>⟨#[],by rw[e];simp⟩) (λm L=>?_) (λb u e=>?_) I.bare
 .obtain⟨_,R,f2,O,U,N⟩:=G b S;exact⟨O,R,U,N⟩
 .obtain⟨o,es,ep,Y,r⟩:=L;exact⟨o,es,ep,k _ o (λz=>(G _ z).2.1 rfl) Y,r⟩
 .refine(I.bG b u e).qz (λc v F q=>k c v ?_ q) (λ_ q=>q) λ_ _ q=>q;rcases F with z|z
  .rw[z];exact J b u e
  .exact J c _ z
theorem Inv.qk {D:Addr}{ys:List V}{its:List Value}(I:Inv X pins σ H s) (f:ff X pins H D) (e:IsTup s.heap D its.toArray) (r:Vals ys its) (O:ys.length<=sizeLine) :
  Inv X pins σ (upd H D (.tup ys)) s:=by
 obtain⟨G,U,Y,N,R,L⟩:=f;obtain⟨S,g,d,tk,os⟩:=s;refine I.step (g':=g) (d':=d) (t':=tk) (h':=S) (ch:=[D]) (λb F=>?_) (λb o _ _ _ e _=>e) (λb o _ _ _ e _=>⟨o.slots,e⟩) (λb o F _ n=>?_) (λb o _ e=>⟨o,e⟩) (λb xs q=>?_) (λb o u q=>?_) (λb ps q=>⟨#[],?_⟩) (λm J=>J) (λb u q=>?_) I.bare
 .have z:b=D:=(by simpa using F);subst z;exact⟨N,U,R,L⟩
 .rw[ah (λz=>F (by simp[z]))];exact n
 .rw[ah (ar q G)];exact q
 .rw[ah (ar q G)];exact q
 .rw[ah (ar q G),q];simp
 .by_cases F:b=D
  .subst F;rw[ae]at q;cases q;exact⟨O,its,r,e⟩
  .rw[ah F]at q;exact(I.bG b u q).qz (λ_ _ _ z=>z) (λc z=>by rw[ah (ar z G)];exact z) λc xs z=>by rw[ah (ar z G)];exact z
end
def FC (K:Frag) (l1 l2:Addr):It :=
 ⟨λi H=>∃xs ys x y,bq K H l1 xs/\bq K H l2 ys/\xs[i]?=some x/\ys[i]?=some y,
  λi H v H'=>∃T x y,v=.ref T/\H T=none/\H'=upd H T (.tup [x,y])/\(∀xs,bq K H l1 xs->xs[i]?=some x)/\∀ys,bq K H l2 ys->ys[i]?=some y,
  λi H=>∃xs ys,bq K H l1 xs/\bq K H l2 ys/\(xs.length<=i\/ys.length<=i)⟩
def Ja (z TI TO F G l1 l2:Addr) (i:Nat) (h:Heap):Prop:=IsZip h z TI TO .none/\IsPair h TI (.ref F) (.ref G)/\(∃a b,IsPair h TO a b)/\h.IsListIter F l1 i/\h.IsListIter G l2 i
theorem oX:2<=sizeLine:=by rw[sizeLine_eq];decide
theorem Af {P:Program}{w:World}{K:Frag}{es:List Expr}{kx:Nat}{px:Pos}{z TI TO O J l1 l2:Addr}(D:ZipApart z TI TO O J l1 l2):Turn P w K (.Tuple es kx px) (FC K l1 l2) [z,TI,TO,O,J] z (Ja z TI TO O J l1 l2) where
 mem:=by simp
 obj:=by
  rintro i h ⟨R,G,⟨a,b',L⟩,h1,h2⟩ b F;simp only[mem_cons,not_mem_nil,or_false]at F;rcases F with rfl|rfl|rfl|rfl|rfl
  .exact⟨_,R,λv q=>by cases(show Data.fields _=Data.cell v from q)⟩
  .exact⟨_,G,λv q=>by cases(show Data.seq _ _=Data.cell v from q)⟩
  .exact⟨_,L,λv q=>by cases(show Data.seq _ _=Data.cell v from q)⟩
  .obtain⟨o,e,c,d⟩:=h1;exact⟨o,e,λv q=>by rw[d]at q;cases q⟩
  .obtain⟨o,e,c,d⟩:=h2;exact⟨o,e,λv q=>by rw[d]at q;cases q⟩
 keep:=λi h h' ⟨R,G,⟨a,b,L⟩,h1,h2⟩ k=>⟨k z (by simp) _ R,k TI (by simp) _ G,⟨a,b,k TO (by simp) _ L⟩,h1.at λo e=>k O (by simp) o e,h2.at λo e=>k J (by simp) o e⟩
 item:=by
  intro X hP hw hK hc i pins s σ H E I U st hg;subst hP hw hK;obtain⟨R,G,⟨a,b,L⟩,h1,h2⟩:=st;obtain⟨xs,ys,x,y,q1,q2,e1,e2⟩:=hg;obtain⟨am,ac,p1,_⟩:=I.list q1;obtain⟨a4,ad,p2,_⟩:=I.list q2;obtain⟨u1,a0,a3⟩:=ac.get e1;obtain⟨u2,aT,aB⟩:=ad.get e2;have f4:∀b∈[z,TO,O,J],ff X pins H b:=λb F=>U b (by simp only[mem_cons,not_mem_nil,or_false]at F ⊢;rcases F with h|h|h|h<;>simp[h]);refine wpAny_pyNext_zip_item D R G L h1 h2 p1.isList p2.isList (x:=u1) (y:=u2) (by simpa using a0) (by simpa using aT) λh' z' ap a1 a2 pT sz Y=>?_;have I1:Inv X pins σ H { s with heap:=h' }:=I.fh (t':=s.toks) (ch:=[z,TO,O,J]) (λb o F e=>Y b o (λq=>F (by simp[q])) (λq=>F (by simp[q])) (λq=>F (by simp[q])) (λq=>F (by simp[q])) e) f4;refine⟨_,rfl,wpAny_letOwnedTupleGo_zip z' λS z2 N=>?_⟩;replace N:Heap.SameBut z h' S:=N;have I2:Inv X pins σ H { s with heap:=S }:=I1.fh (s:={ s with heap:=h' }) (h':=S) (t':=s.toks) (ch:=[z]) (λb o F e=>(N.2 b (λq=>F (by simp[q]))).trans e) λb F=>U b (by simp only[mem_singleton]at F;simp[F]);have fT:ff X pins H s.heap.objs.size:=I.iD (le_refl _) (I.bG.fresh (le_refl _));have nz:s.heap.objs.size≠z:=ne_of_gt (Heap.lt_size R);have as:IsPair S s.heap.objs.size u1 u2:=N.extBut _ _ nz pT;have I3:Inv X pins σ (upd H s.heap.objs.size (.tup [x,y])) { s with heap:=S }:=I2.qk (its:=[u1,u2]) fT ⟨_,as,rfl,_,rfl⟩ (.cons a3 (.cons aB .nil)) oX;refine⟨.ref s.heap.objs.size,_,I3,rfl,⟨_,x,y,rfl,fT.1,rfl,λzs ab=>by rw[I.gL ab q1];exact e1,λzs ab=>by rw[I.gL ab q2];exact e2⟩,⟨z2,N.extBut _ _ D.TIz (Y _ _ D.TIz D.TITO D.TIi1 D.TIi2 G),⟨_,_,N.extBut _ _ D.TOz ap⟩,a1.extBut N.extBut D.i1z,a2.extBut N.extBut D.i2z⟩,λb F=>?_⟩;have nb:b≠s.heap.objs.size:=by
   intro q;simp only[mem_cons,not_mem_nil,or_false]at F;obtain⟨o1,g1,_⟩:=h1;obtain⟨o2,g2,_⟩:=h2;rcases F with e|e|e|e|e<;>rw[e]at q
   .exact nz q.symm
   .exact ne_of_lt (Heap.lt_size G) q
   .exact ne_of_lt (Heap.lt_size L) q
   .exact ne_of_lt (Heap.lt_size g1) q
   .exact ne_of_lt (Heap.lt_size g2) q
  rw[ah nb];exact(U b F).1
 done:=by
  intro X hP hw hK hc i pins s σ H E I U st hg;subst hP hw hK;obtain⟨R,G,⟨a,b,L⟩,h1,h2⟩:=st;obtain⟨xs,ys,q1,q2,e⟩:=hg;obtain⟨am,ac,p1,_⟩:=I.list q1;obtain⟨a4,ad,p2,_⟩:=I.list q2;have a6:=ac.length;have a5:=ad.length;have f4:∀b∈[z,TO,O,J],ff X pins H b:=λb F=>U b (by simp only[mem_cons,not_mem_nil,or_false]at F ⊢;rcases F with h|h|h|h<;>simp[h]);refine wpAny_pyNext_zip_end (I.ok.hd hc) D R G L h1 h2 p1.isList p2.isList (e.elim (λe=>.inl (by simp;omega)) λe=>.inr (by simp;omega)) λh' Y=>⟨rfl,I.fh (t':=s.toks) (ch:=[z,TO,O,J]) (λb o F e=>Y b o (λq=>F (by simp[q])) (λq=>F (by simp[q])) (λq=>F (by simp[q])) (λq=>F (by simp[q])) e) f4⟩
 self:=λ_ _ _ _ _ st h=>wpAny_pyIter_zip st.1 h
section
variable {X:Cx}
def Hi (K:Frag) (ta:TA):TI:=λσ H R=>ta σ H λvs H1=>x8 λl1 l2=>C1 (vs=[.ref l1,.ref l2]) ((∃xs,bq K H1 l1 xs)) ((∃ys,bq K H1 l2 ys)) (R (FC K l1 l2) H1)
theorem D7 {es:List Expr}{kx:Nat}{px:Pos}{a b:Expr}{ta:TA}{p pos:Pos}(hg:Gl X "zip") (S:X.mg "zip" = none) (ha:PA X [a,b] ta) (hs:starEach [a,b] X.env=[(false,eval a X.env),(false,eval b X.env)]:=by rfl) (J:starEach [b] X.env=[(false,eval b X.env)]:=by rfl) :
  PI X (.Tuple es kx px) (.Call (.Name "zip" p) [a,b] [] pos) (Hi X.K ta):=by
 intro pins s σ H R I h;refine Call_ (gx I hg S zm (PyProof.Rows.callWith_type1 (bT (ha pos pins s σ H _ I h) λus F ⟨vs,H1,G,r1,q1⟩=>?_) (by rw[hs,J]) (by rw[J];rfl)));obtain⟨l1,l2,rfl,⟨xs,g1⟩,⟨ys,g2⟩,q⟩:=q1;obtain⟨u1,u2,rfl,e1,e2⟩:=vals2 r1;obtain rfl:u1=Value.ref l1:=e1;obtain rfl:u2=Value.ref l2:=e2;obtain⟨as,aB,O,_⟩:=G.list g1;obtain⟨a0,aT,p2,_⟩:=G.list g2;have ab:l1<F.heap.objs.size:=let ⟨_,e,_⟩:=O.isList;Heap.lt_size e;have U:l2<F.heap.objs.size:=let ⟨_,e,_⟩:=p2.isList;Heap.lt_size e;refine call_zip_2 O.isList p2.isList λh' L ad ac am ap hsz Y=>?_;refine wpAny_pyIter_zip L ?_;refine⟨F.heap.objs.size+4,[F.heap.objs.size+4,F.heap.objs.size+2,F.heap.objs.size+3,F.heap.objs.size,F.heap.objs.size+1],_,_,H1,rfl,G.kept (t':=F.toks) Y,Af (zipApart_new ab U),⟨L,ad,⟨_,_,ac⟩,am,ap⟩,λb N=>?_,q⟩;have le:F.heap.objs.size<=b:=by
  simp only[mem_cons,not_mem_nil,or_false]at N;rcases N with e|e|e|e|e<;>rw[e]<;>first|exact le_refl _|exact Nat.le_add_right _ _
 exact G.iD le (G.bG.fresh le)
def FA (K:Frag) (l:Addr):It :=
 ⟨λi H=>∃xs x,bq K H l xs/\xs[i]?=some x,
  λi H v H'=>∃T x,v=.ref T/\H T=none/\H'=upd H T (.tup [.int i,x])/\∀xs,bq K H l xs->xs[i]?=some x,
  λi H=>∃xs,bq K H l xs/\xs.length<=i⟩
def Jc (e F l:Addr) (i:Nat) (h:Heap):Prop:=(∃G,IsEnum h e F i G)/\h.IsListIter F l i
theorem w6 {P:Program}{w:World}{K:Frag}{es:List Expr}{kx:Nat}{px:Pos}{e J l:Addr}(D:e≠J):Turn P w K (.Tuple es kx px) (FA K l) [e,J] e (Jc e J l) where
 mem:=by simp
 obj:=by
  rintro i h ⟨⟨R,G⟩,h1⟩ b F;simp only[mem_cons,not_mem_nil,or_false]at F;rcases F with rfl|rfl
  .exact⟨_,G,λv q=>by cases(show Data.fields _=Data.cell v from q)⟩
  .obtain⟨o,e,c,d⟩:=h1;exact⟨o,e,λv q=>by rw[d]at q;cases q⟩
 keep:=λi h h' ⟨⟨R,G⟩,h1⟩ k=>⟨⟨R,k e (by simp) _ G⟩,h1.at λo q=>k J (by simp) o q⟩
 item:=by
  intro X U hw hK hc i pins s σ H E I N st hg;subst U hw hK;obtain⟨⟨R,G⟩,h1⟩:=st;obtain⟨xs,x,S,Y⟩:=hg;obtain⟨ac,ab,p1,_⟩:=I.list S;obtain⟨u1,ap,as⟩:=ab.get Y;refine wpAny_pyNext_enum_item G h1 p1.isList (x:=u1) (by simpa using ap) D λh' eo a1 pT sz kk=>?_;have I1:Inv X pins σ H { s with heap:=h',toks:=s.toks+1 }:=I.fh (t':=s.toks+1) (ch:=[e,J]) (λb o F q=>kk b o (λz=>F (by simp[z])) (λz=>F (by simp[z])) q) N;refine⟨_,rfl,wpAny_letOwnedTupleGo_enum eo λO e2 L=>?_⟩;replace L:Heap.SameBut e h' O:=L;have I2:Inv X pins σ H { s with heap:=O,toks:=s.toks+1 }:=I1.fh (s:={ s with heap:=h',toks:=s.toks+1 }) (h':=O) (t':=s.toks+1) (ch:=[e]) (λb o F q=>(L.2 b (λz=>F (by simp[z]))).trans q) λb F=>N b (by simp only[mem_singleton]at F;simp[F]);have fT:ff X pins H s.heap.objs.size:=I.iD (le_refl _) (I.bG.fresh (le_refl _));have ne:s.heap.objs.size≠e:=ne_of_gt (Heap.lt_size G);have am:=L.extBut _ _ ne pT;have I3:Inv X pins σ (upd H s.heap.objs.size (.tup [.int i,x])) { s with heap:=O,toks:=s.toks+1 }:=I2.qk (its:=[.int i s.toks,u1]) fT ⟨_,am,rfl,_,rfl⟩ (.cons ⟨_,rfl⟩ (.cons as .nil)) oX;refine⟨.ref s.heap.objs.size,_,I3,rfl,⟨_,x,rfl,fT.1,rfl,λzs ad=>by rw[I.gL ad S];exact Y⟩,⟨⟨u1,?_⟩,a1.extBut L.extBut (Ne.symm D)⟩,λb F=>?_⟩
  .have ec:((i+1:Nat):Int)=(i:Int)+1:=(by push_cast;rfl);rw[ec];exact e2
  .have nb:b≠s.heap.objs.size:=by
    intro q;simp only[mem_cons,not_mem_nil,or_false]at F;obtain⟨o1,g1,_⟩:=h1;rcases F with z|z<;>rw[z]at q
    .exact ne q.symm
    .exact ne_of_lt (Heap.lt_size g1) q
   rw[ah nb];exact(N b F).1
 done:=by
  intro X U hw hK hc i pins s σ H E I N st hg;subst U hw hK;obtain⟨⟨R,G⟩,h1⟩:=st;obtain⟨xs,S,Y⟩:=hg;obtain⟨ac,ab,p1,_⟩:=I.list S;have aB:=ab.length;obtain⟨f0,f1,f2,f3,f4,f5⟩:=N J (by simp);exact wpAny_pyNext_enum_end (I.ok.hd hc) G h1 p1.isList (by simp;omega) λh' eb=>⟨rfl,I.turned (t':=s.toks) (λb o F q=>eb b o F q) f0 f1 f3 f4 f5⟩
 self:=λ_ _ _ _ _ st h=>let ⟨⟨_,G⟩,_⟩:=st;wpAny_pyIter_enum G h
def Gd (K:Frag) (ta:TA):TI:=λσ H R=>ta σ H λvs H1=>∃l,vs=[.ref l]/\(∃xs,bq K H1 l xs)/\R (FA K l) H1
theorem BF {es:List Expr}{kx:Nat}{px:Pos}{a:Expr}{ta:TA}{p pos:Pos}(hg:Gl X "enumerate") (N:X.mg "enumerate" = none) (ha:PA X [a] ta) (hs:starEach [a] X.env=[(false,eval a X.env)]:=by rfl) :
  PI X (.Tuple es kx px) (.Call (.Name "enumerate" p) [a] [] pos) (Gd X.K ta):=by
 intro pins s σ H R I h;refine Call_ (gx I hg N qp (PyProof.Rows.callWith_type1 (bT (ha pos pins s σ H _ I h) λus F ab=>?_) hs rfl));obtain⟨vs,H1,G,r1,S⟩:=ab;obtain⟨l,rfl,⟨xs,g1⟩,q⟩:=S;obtain⟨Y,rfl,U⟩:=vals1 r1;obtain rfl:Y=Value.ref l:=U;obtain⟨ac,ad,p1,_⟩:=G.list g1;refine call_enumerate_list p1.isList λh' J hi hsz O=>?_;refine wpAny_pyIter_enum J ?_;refine⟨F.heap.objs.size+1,[F.heap.objs.size+1,F.heap.objs.size],_,_,H1,rfl,G.kept (t':=F.toks) O,w6 (l:=l) (Nat.succ_ne_self _),⟨⟨_,J⟩,hi⟩,λb L=>?_,q⟩;have le:F.heap.objs.size<=b:=by
  simp only[mem_cons,not_mem_nil,or_false]at L;rcases L with e|e<;>rw[e]<;>first|exact le_refl _|exact Nat.le_add_right _ _
 exact G.iD le (G.bG.fresh le)
theorem qG:∀{bs:List Bool}{its:List Value},Vals (bs.map V.bl) its->its=bs.map Value.bool
 | [],_,.nil=>rfl
 |b::bs,_,.cons r t=>by rw[qG t,show _=Value.bool b from r];rfl
theorem ke (hc:X.calm=true):dr X (.builtin "all") (λxs H Q=>∃(l:Addr) (bs:List Bool),xs=[.ref l]/\bq X.K H l (bs.map V.bl)/\Q (.bl (bs.all id)) H):=by
 intro pins s σ H xs us Q I r h;obtain⟨l,bs,rfl,O,q⟩:=h;obtain⟨u,rfl,R⟩:=vals1 r;obtain rfl:u=Value.ref l:=R;obtain⟨its,rv,p,_⟩:=I.list O;have ei:=qG rv;subst ei;have J:=p.isList;have ab:l<s.heap.objs.size:=let ⟨_,e,_⟩:=J;Heap.lt_size e;refine call_all_walk (wpAny_pyIter_list J ?_);refine⟨s.heap.objs.size,[s.heap.objs.size,l],[s.heap.objs.size],(bs.map Value.bool).toArray.size,_,_,λi=>(bs[i]?).getD true,rfl,Walks.list (A:=X.A.in1) (I.ok.hd hc) _ l (ne_of_lt ab) (bs.map Value.bool).toArray,
  ⟨⟨_,Heap.get?_push_size _ rfl,rfl,rfl⟩,J.push _⟩,λi v s' Q' E' N L=>?_,λh' tk Y=>?_⟩
 .have U:(bs.map Value.bool).toArray[i]?=some v:=N;have F:(bs.map Value.bool)[i]?=some v:=(by simpa using U);rw[getElem?_map]at F;cases G:bs[i]? with
  |none=>rw[G]at F;cases F
  |some b =>
   rw[G]at F;have S:Value.bool b=v:=Option.some.inj F;subst S;simp only[G,getD_some]at L;exact wpAny_truthy_bool L
 .have e:((List.range (bs.map Value.bool).toArray.size).all λi=>(bs[i]?).getD true)=bs.all id:=by
   rw[size_toArray,length_map];exact LSm.range_all bs
  rw[e];exact⟨.bl _,H,I.kept (LSm.kept_iter Y),rfl,q⟩
end
theorem yx {K:Frag}{a:Addr}{xs:List V}{g:TG}{tb:TS}{D:Ends}{σ:St}{H:Hp}(Pv:Nat->St->Hp->Prop) (S:Pv 0 σ H) (Y:∀i σ H,i<=xs.length->Pv i σ H->bq K H a xs)
  (hs:∀i x σ H T,xs[i]?=some x->H T=none->Pv i σ H->g (.ref T) σ (upd H T (.tup [.int i,x])) λG H2=>tb { D with nx:=Pv (i+1),ct:=Pv (i+1),bk:=D.nx } G H2) (hd:∀σ H,Pv xs.length σ H->D.nx σ H) :
  ∃W:Nat->Nat->St->Hp->Prop,(∃m,W 0 m σ H)/\∀i m σ H,W i m σ H ->
   ((FA K a).stop i H/\D.nx σ H)\/((FA K a).go i H/\∃N:St->Hp->Prop,(∀I H',N I H'->∃J,J<m/\W (i+1) J I H')/\∀x H',(FA K a).AJ i H x H'->g x σ H' λG H2=>tb { D with nx:=N,ct:=N,bk:=D.nx } G H2):=by
 refine⟨λi m σ H=>m=xs.length-i/\i<=xs.length/\Pv i σ H,⟨xs.length,by simp,zero_le _,S⟩,?_⟩;rintro i m σ H ⟨rfl,hi,p⟩;have F:=Y i σ H hi p;by_cases L:i<xs.length
 .refine .inr ⟨⟨xs,xs[i],F,by simp[L]⟩,Pv (i+1),λI H' R=>⟨xs.length-(i+1),af,rfl,L,R⟩,?_⟩;rintro v H' ⟨T,x,rfl,U,rfl,O⟩;exact hs i x σ H T (O xs F) U p
 .have e:i=xs.length:=af;subst e;exact .inl ⟨⟨xs,F,le_refl _⟩,hd σ H p⟩
section
variable {X:Cx}
theorem jw (hc:X.calm=true):dr X (.builtin "sorted") (λxs H Q=>∃(a:Addr) (kvs:List (Key×V)) (ns:List Int),xs=[.ref a]/\H a=some (.dK kvs)/\kvs.map (·.1)=ns.map Sum.inl/\ns.Nodup/\ns.length<=1000 /\
  ∀(l:Addr) (ns':List Int),H l=none->ns'.Perm ns->ns'.Pairwise (· <= ·)->Q (.ref l) (upd H l (.lst (ns'.map V.int)))):=by
 intro pins s σ H xs us Q I r h;obtain⟨a,kvs,ns,rfl,ha,U,ab,hn,q⟩:=h;obtain⟨u,rfl,ru⟩:=vals1 r;cases ru;obtain⟨_,hd,vs,ac,dd⟩:=gD I.bG ha;obtain⟨ep,ad⟩:=dd.dictAt;have J:vs.map (·.1)=ns.map Sum.inl:=(by rw[<-ac.keys];exact U);have ll:ns.length=vs.length:=by
  have:=congrArg List.length J;simpa using this.symm
 have hs:sizeLine=16777216:=sizeLine_eq;refine Srt.uJ (kdl_dict (knd:=bt X.prog X.w) (kvs:=vs) (ep:=ep) (d:=a) hd) (I.ok.hd hc) ad (ns:=ns) (λi w' O=>?_) ll ab af λh1 h' tk out ns' e k1 k2 Y R N S=>?_
 .obtain⟨k,x,e1,e2⟩:=O;have F:(vs.map (·.1))[i]?=some k:=(by rw[getElem?_map,e1];rfl);rw[J,getElem?_map]at F;cases G:ns[i]? with
  |none=>rw[G]at F;cases F
  |some m =>
   rw[G]at F;obtain rfl:Sum.inl m=k:=Option.some.inj F;obtain⟨t,rfl⟩:=qv e2;exact⟨m,t,rfl,rfl⟩
 .have L:Inv X pins σ H { s with heap:=h1,toks:=tk }:=I.kept k1;exact⟨.ref h1.objs.size,_,L.laid (t':=tk) k2 (le_refl _) (show bV X.prog X.w _ _ _ (.lst (ns'.map V.int))from⟨by rw[length_map,N.length_eq];omega,out.toList,e,iB R,by simpa using Y⟩),rfl,q _ ns' (L.bG.fresh (le_refl _)) N S⟩
inductive wx (H₀:Hp) (t:TE) (Q:VK) (v:V) (H':Hp):Prop
 |mk (a:_) (o:_) (kvs:_) (_:H' a=some (.frz o (.dK kvs))) (_:(∀o u',H₀ a≠some (.frz o u'))) (_:Q v (upd H' a (.dK kvs))):wx H₀ t Q v H'
def DR (H₀:Hp) (t:TE):TE:=λσ H Q=>t σ H λv H'=>wx H₀ t Q v H'
theorem vQ {e:Expr}{t:TE}(h:PE X e t):PE X e (DR X.H₀ t):=by
 intro pins s σ H Q I q;refine bT (h pins s σ H _ I q) λu O L=>?_;obtain⟨v,H',F,r,a,o,kvs,J,N,G⟩:=L;exact⟨v,_,F.Dy J N,r,G⟩
end
theorem mf:entryFor table "dict_itemiterator.__iter__" = some Builtin.«dict_keyiterator.__iter__» :=
 entryFor_alias (id' := "dict_keyiterator.__iter__") (by kernel_rfl) (by first|rfl|decide +kernel|(unfold String.splitOn;simp +decide [String.splitOnAux])) ao (by kernel_rfl)
theorem gK {prog:Program}{w:World}{A:Around}{E:Value->Shared->Prop}{s:Shared}{G d:Addr}{i n ep:Nat}{ok ov:Value}{Q:Value->Shared->Prop}(J:IsItemIter s.heap G d i n ep ok ov) (h:Q (.ref G) s):wpAny (model prog w) A (pyIter (.ref G)) Q E s:=by
 have I:s.TypeIs (.ref G) "dict_itemiterator" := ⟨_,J,rfl⟩;refine wpAny_pyIter_slot I PySem.F.slot_dict_itemiterator_iter (wpAny_call_entry PySem.F.slot_dict_itemiterator_iter I mf ?_ (PySem.F.args_dict_itemiterator_iter_1 _));show wpAny _ _ (ret (.ref G)) _ _ s;exact wpAny_pure ⟨_,rfl,"dict_itemiterator",_,I,PySem.F.slot_dict_itemiterator_next.lookup,h⟩
def Eu (a:Addr) (o:Obj) (kvs:List (Key×V)):It :=
 ⟨λi H=>H a=some (.frz o (.dK kvs))/\i<kvs.length,λi H x H'=>∃T k v,x=.ref T/\H T=none/\kvs[i]?=some (k,v)/\H'=upd H T (.tup [kV k,v]),λi H=>H a=some (.frz o (.dK kvs))/\kvs.length<=i⟩
theorem yS:∀{kvs:List (Key×V)}{vs:List (Key×Value)},Paired (λ(p:Key×V) (q:Key×Value)=>p.1=q.1/\RelV p.2 q.2) kvs vs->∀{i:Nat},i<kvs.length->∃k v x,kvs[i]?=some (k,v)/\vs[i]?=some (k,x)/\RelV v x
 |_,_,.nil,_,h=>by simp at h
 |p::_,J::_,.cons q _,0,_=>⟨p.1,p.2,J.2,rfl,by rw[q.1];rfl,q.2⟩
 |_::_,_::_,.cons _ t,i+1,h=>by
  obtain⟨k,v,x,I,F,G⟩:=yS t (i:=i) (by simpa using h);exact⟨k,v,x,by simpa using I,by simpa using F,G⟩
theorem Cq {kvs:List (Key×V)}{vs:List (Key×Value)}(r:KV kvs vs) {i:Nat}(hi:i<kvs.length):∃k v x,kvs[i]?=some (k,v)/\vs[i]?=some (k,x)/\RelV v x:=yS r hi
theorem vg {P:Program}{w:World}{K:Frag}{es:List Expr}{kx:Nat}{px:Pos}(a F:Addr) (aB:a≠F) (o:Obj) (kvs:List (Key×V)):Turn P w K (.Tuple es kx px) (Eu a o kvs) [F] F (λi h=>∃ok ov,IsItemIter h F a i kvs.length (yb o) ok ov) where
 mem:=by simp
 obj:=λi h st b G=>by
  have e:b=F:=(by simpa using G);subst e;obtain⟨ok,ov,st⟩:=st;exact⟨_,st,λv q=>by cases(show Data.fields _=Data.cell v from q)⟩
 keep:=λi h h' st k=>let ⟨ok,ov,st⟩:=st;⟨ok,ov,k F (by simp) _ st⟩
 item:=by
  intro X hP hw hK hc i pins s σ H E I U st hg;subst hP hw hK;obtain⟨ab,ad⟩:=hg;obtain⟨Y,L,f2,R,N,O⟩:=U F (by simp);obtain⟨hd,vs,r,da⟩:=kq I.bG ab;have ac:=r.length;obtain⟨k,v,x,e1,e2,e3⟩:=Cq r ad;obtain⟨ok,ov,st⟩:=st;rw[ac]at st ⊢;refine wpAny_pyNext_items_item st da e2 λap h' am ho hT hsz hk=>?_;have I1:Inv X pins σ H { s with heap:=h',toks:=s.toks }:=I.turned (λb o G e=>hk b o G e) Y L R N O;refine⟨_,rfl,wpAny_letOwnedTupleGo_items ho λJ e4 S=>?_⟩;replace S:Heap.SameBut F h' J:=S;have I2:Inv X pins σ H { s with heap:=J,toks:=s.toks }:=I1.turned (s:={ s with heap:=h',toks:=s.toks }) (h':=J) (t':=s.toks) (λb o G e=>(S.2 b G).trans e) Y L R N O;have fT:ff X pins H s.heap.objs.size:=I.iD (le_refl _) (I.bG.fresh (le_refl _));have ne:s.heap.objs.size≠F:=ne_of_gt (Heap.lt_size st);have as:=S.extBut _ _ ne hT;have I3:Inv X pins σ (upd H s.heap.objs.size (.tup [kV k,v])) { s with heap:=J,toks:=s.toks }:=I2.qk (its:=[ap,x]) fT ⟨_,as,rfl,_,rfl⟩ (.cons (qv am) (.cons e3 .nil)) oX;refine⟨.ref s.heap.objs.size,_,I3,rfl,⟨_,k,v,rfl,fT.1,e1,rfl⟩,⟨_,_,e4⟩,λb G=>?_⟩;have nb:b≠s.heap.objs.size:=λq=>ne (by rw[<-q];simpa using G);rw[ah nb];exact(U b G).1
 done:=by
  intro X hP hw hK hc i pins s σ H E I U st hg;subst hP hw hK;obtain⟨ab,ad⟩:=hg;obtain⟨Y,L,f2,R,N,O⟩:=U F (by simp);obtain⟨hd,vs,r,da⟩:=kq I.bG ab;have ac:=r.length;obtain⟨ok,ov,st⟩:=st;rw[ac]at st;exact wpAny_pyNext_items_end (I.ok.hd hc) st da (by simp;omega) λh' eb=>⟨rfl,I.turned (t':=s.toks) (λb o G e=>eb b o G e) Y L R N O⟩
 self:=λ_ _ _ _ _ st h=>by
  obtain⟨ok,ov,st⟩:=st;exact gK st h
section
variable {X:Cx}
def CF (H₀:Hp) (td:TE):TI:=λσ H R=>td σ H λx H1=>x8 λa kvs=>C1 (x=.ref a) (H1 a=some (.dK kvs)) ((∀o F,H₀ a≠some (.frz o F))) (∀o,R (Eu a o kvs) (upd H1 a (.frz o (.dK kvs))))
theorem qT {es:List Expr}{kx:Nat}{px:Pos}{o:Expr}{apos cpos:Pos}{td:TE}(ho:PE X o td) (ab:attributeBase o "items" X.env (eval o X.env)=eval o X.env:=by rfl) (ad:(apos.endLine==cpos.line)=true:=by rfl):PI X (.Tuple es kx px) (.Call (.Attribute o "items" apos) [] [] cpos) (CF X.H₀ td):=by
 intro pins s σ H R I h;refine wpAny_Call_method0_late ab ad (bT (ho pins s σ H _ I h) λu G am=>?_);obtain⟨x,H1,S,rx,a,kvs,ex,L,hn,q⟩:=am;subst ex;obtain rfl:u=Value.ref a:=rx;obtain⟨t1,t2,hd⟩:=jQ S (.inl ⟨kvs,.inl L⟩);obtain⟨_,_,vs,aT,U⟩:=gD S.bG L;refine⟨"dict","dict.items",plainAttrs_dict,PySem.F.slot_dict_items,PySem.F.type_dict_items,t1,t2,Calls.callWith_builtin rfl (PySem.evalArgs_none ?_)⟩;refine call_meetsIn PySem.F.slot_dict_items U.typeIs PySem.F.entry_dict_items (PySem.F.args_dict_items_1 _) (meets_dict_items (bt X.prog X.w) a hd) ⟨⟨vs,U⟩,?_⟩;have nw:=Heap.get?_push_size G.heap (o:={ cls:=.type "dict_items",data:=.fields #[.ref a] }) rfl;have Y:Inv X pins σ H1 { G with heap:=G.heap.push { cls:=.type "dict_items",data:=.fields #[.ref a] },toks:=G.toks }:=S.kept λb o e=>Heap.get?_push_of_some _ e;obtain⟨_,aB,ac,ap,AD⟩:=gD Y.bG L;obtain⟨J,as,ep,O,g2,g3,g4⟩:=id AD;have N:=Y.freeze L O hn;have lt:a<(G.heap.push { cls:=.type "dict_items",data:=.fields #[.ref a] }).objs.size:=Heap.lt_size O;have da:(G.heap.push { cls:=.type "dict_items",data:=.fields #[.ref a] }).DictAt (bt X.prog X.w) a ac (yb J):=⟨J,as,O,g2,by unfold yb;rw[g3],g4⟩;refine wpAny_pyIter_items ⟨_,nw,rfl,rfl⟩ da ?_;refine⟨(G.heap.push { cls:=.type "dict_items",data:=.fields #[.ref a] }).objs.size,[(G.heap.push { cls:=.type "dict_items",data:=.fields #[.ref a] }).objs.size],_,Eu a J kvs,_,rfl,N.kept (t':=G.toks) λb o e=>Heap.get?_push_of_some _ e,vg a _ (ne_of_lt lt) J kvs,⟨.none,.none,?_⟩,λb hb=>?_,q J⟩
 .rw[ap.length];exact Heap.get?_push_size _ rfl
 .have e:b=(G.heap.push { cls:=.type "dict_items",data:=.fields #[.ref a] }).objs.size:=(by simpa using hb);subst e;exact N.iD (le_refl _) (N.bG.fresh (le_refl _))
end
def GJ (a:Addr) (o:Obj) (kvs:List (Key×V)):It :=
 ⟨λi H=>H a=some (.frz o (.dK kvs))/\i<kvs.length,λi H x H'=>H'=H/\∃k,kvs[i]?=some (k,x),λi H=>H a=some (.frz o (.dK kvs))/\kvs.length<=i⟩
theorem wI {P:Program}{w:World}{K:Frag}{tg:Expr}(a F:Addr) (as:a≠F) (o:Obj) (kvs:List (Key×V)):Turn P w K tg (GJ a o kvs) [F] F (λi h=>h.IsValIter F a i kvs.length (yb o)) where
 mem:=by simp
 obj:=λi h st b G=>by
  have e:b=F:=(by simpa using G);subst e;obtain⟨L,h1,_,J⟩:=st;exact⟨L,h1,λv z=>by rw[J]at z;cases z⟩
 keep:=λi h h' ⟨L,h1,h2,J⟩ k=>⟨L,k F (by simp) _ h1,h2,J⟩
 item:=by
  intro X O S hK hc i pins s σ H E I N st hg;subst O S hK;obtain⟨ab,am⟩:=hg;obtain⟨f0,f1,f2,U,f4,R⟩:=N F (by simp);obtain⟨hd,vs,r,Y⟩:=kq I.bG ab;have ac:=r.length;obtain⟨k,v,x,e1,e2,e3⟩:=Cq r am;rw[ac]at st ⊢;refine wpAny_pyNext_values_item st Y e2 λh' ad ap=>?_;have I1:Inv X pins σ H { s with heap:=h',toks:=s.toks }:=I.turned (λb o G e=>(ap.2 b G).trans e) f0 f1 U f4 R;obtain⟨L,h1,h2,J⟩:=id ad;exact⟨_,rfl,nN (s:={ s with heap:=h' }) (n := "dict_valueiterator") h1 h2 J av ⟨v,H,I1,e3,⟨rfl,k,e1⟩,ad,λb G=>(N b G).1⟩⟩
 done:=by
  intro X O S hK hc i pins s σ H E I N st hg;subst O S hK;obtain⟨ab,am⟩:=hg;obtain⟨f0,f1,f2,U,f4,R⟩:=N F (by simp);obtain⟨hd,vs,r,Y⟩:=kq I.bG ab;have ac:=r.length;rw[ac]at st;exact wpAny_pyNext_values_end (I.ok.hd hc) st Y (by simp;omega) λh' eb=>⟨rfl,I.turned (t':=s.toks) (λb o G e=>eb b o G e) f0 f1 U f4 R⟩
 self:=λ_ _ _ _ _ st h=>wpAny_pyIter_valiter st h
section
variable {X:Cx}{tg:Expr}
def Fp (H₀:Hp) (td:TE):TI:=λσ H R=>td σ H λx H1=>x8 λa kvs=>C1 (x=.ref a) (H1 a=some (.dK kvs)) ((∀o F,H₀ a≠some (.frz o F))) (∀o,R (GJ a o kvs) (upd H1 a (.frz o (.dK kvs))))
theorem AY {o:Expr}{apos cpos:Pos}{td:TE}(ho:PE X o td) (ac:attributeBase o "values" X.env (eval o X.env)=eval o X.env:=by rfl) (am:(apos.endLine==cpos.line)=true:=by rfl):PI X tg (.Call (.Attribute o "values" apos) [] [] cpos) (Fp X.H₀ td):=by
 intro pins s σ H R I h;refine wpAny_Call_method0_late ac am (bT (ho pins s σ H _ I h) λu G ab=>?_);obtain⟨x,H1,S,rx,a,kvs,ex,L,hn,q⟩:=ab;subst ex;obtain rfl:u=Value.ref a:=rx;obtain⟨t1,t2,hd⟩:=jQ S (.inl ⟨kvs,.inl L⟩);obtain⟨_,_,vs,aT,U⟩:=gD S.bG L;refine⟨"dict","dict.values",plainAttrs_dict,PySem.F.slot_dict_values,PySem.F.type_dict_values,t1,t2,Calls.callWith_builtin rfl (PySem.evalArgs_none ?_)⟩;refine call_meetsIn PySem.F.slot_dict_values U.typeIs PySem.F.entry_dict_values (PySem.F.args_dict_values_1 _) (meets_dict_values (bt X.prog X.w) a hd) ⟨⟨vs,U⟩,?_⟩;have nw:=Heap.get?_push_size G.heap (o:={ cls:=.type "dict_values",data:=.fields #[.ref a] }) rfl;have Y:Inv X pins σ H1 { G with heap:=G.heap.push { cls:=.type "dict_values",data:=.fields #[.ref a] },toks:=G.toks }:=S.kept λb o e=>Heap.get?_push_of_some _ e;obtain⟨_,aB,ad,ap,AD⟩:=gD Y.bG L;obtain⟨J,as,ep,O,g2,g3,g4⟩:=id AD;have N:=Y.freeze L O hn;have lt:a<(G.heap.push { cls:=.type "dict_values",data:=.fields #[.ref a] }).objs.size:=Heap.lt_size O;have da:(G.heap.push { cls:=.type "dict_values",data:=.fields #[.ref a] }).DictAt (bt X.prog X.w) a ad (yb J):=⟨J,as,O,g2,by unfold yb;rw[g3],g4⟩;refine wpAny_pyIter_values ⟨_,nw,rfl,rfl⟩ da ?_;refine⟨(G.heap.push { cls:=.type "dict_values",data:=.fields #[.ref a] }).objs.size,[(G.heap.push { cls:=.type "dict_values",data:=.fields #[.ref a] }).objs.size],_,GJ a J kvs,_,rfl,N.kept (t':=G.toks) λb o e=>Heap.get?_push_of_some _ e,wI a _ (ne_of_lt lt) J kvs,?_,λb hb=>?_,q J⟩
 .rw[ap.length];exact⟨_,Heap.get?_push_size _ rfl,rfl,rfl⟩
 .have e:b=(G.heap.push { cls:=.type "dict_values",data:=.fields #[.ref a] }).objs.size:=(by simpa using hb);subst e;exact N.iD (le_refl _) (N.bG.fresh (le_refl _))
end
end L2
namespace Srt
open PySem PyProof.Rows
section
variable {prog:Program}{w:World}{A:Around}{E:Value->Shared->Prop}{s:Shared}{a₀:Array Keyed}
end
section
variable {prog:Program}{w:World}{A:Around}{E:Value->Shared->Prop}{s:Shared}
end
section
variable {prog:Program}{w:World}{A:Around}{E:Value->Shared->Prop}{s:Shared}{T:String}{r d:Addr}{n:Nat}{P:Nat->Value->Prop}{OK:Heap->Prop}
end
end Srt
namespace L2
open PySem PySem.Spec PyProof.Rows
section
variable {X:Cx}
end
end L2
namespace Sp
open PySem PySem.StrLaws PySem.Builtin PySem.Builtin.Str
end Sp
namespace L2
open PySem PySem.Spec PyProof.Rows PySem.Builtin PySem.Builtin.Str
section
variable {X:Cx}
theorem lP (O:X.calm=true):dr X (.builtin "sum") (λxs H Q=>∃(p:Addr) (ns:List Int),xs=[.ref p]/\bq X.K H p (ns.map V.int)/\Q (.int ns.sum) H):=by
 intro pins s σ H xs us Q I r h;obtain⟨p,ns,rfl,L,q⟩:=h;obtain⟨u,rfl,N⟩:=vals1 r;cases N;obtain⟨its,S,pl,U⟩:=I.list L;have F:=intsAre_of S;have R:=F.numsOf;obtain⟨ys,e⟩:=F.allInts.items;have G:=pl.isList;rw[e]at G;refine sum_intListG (I.ok.hd O) G λh' tk t' J=>?_;have hs:preSum (numAt ys) ys.size=ns.sum:=by
  rw[preSum_eq,take_of_length_le (by simp), <-nums_intItems, <-e];rw[show its.toArray.toList=its from rfl,R]
 exact⟨.int ns.sum,H,I.kept J,⟨_,by rw[hs]⟩,q⟩
end
section
variable {X:Cx}
theorem xq:dr X (.type "range") (λxs H Q=>∃i j:Int,xs=[.int i,.int j]/\∀p,H p=none->Q (.ref p) (upd H p (.rng i j))):=by
 intro pins s σ H xs us Q I r h;obtain⟨i,j,rfl,q⟩:=h;obtain⟨u,F,rfl,⟨t,rfl⟩,⟨t',rfl⟩⟩:=vals2 r;refine call_range_2 ⟨.ref s.heap.objs.size,_,I.laid (λb o e=>Heap.get?_push_of_some _ e) (le_refl _) ?_,rfl,q _ (I.bG.fresh (le_refl _))⟩;exact⟨_,_,_,Heap.get?_push_size s.heap rfl⟩
end
section
variable {X:Cx}
def vR (K:Frag):List V->Hp->VK->Prop:=λxs H Q=>∃p ys,xs=[.ref p]/\(bq K H p ys\/bR K H p ys)/\Q (.int (ys.length:Nat)) H
theorem xp:dr X (.builtin "len") (vR X.K):=bF
end
section
variable {X:Cx}
theorem mC (hc:X.calm=true):dr X (.type "list") (λxs H Q=>∃(p:Addr) (i:Int) (n:Nat),xs=[.ref p]/\H p=some (.rng i (i+n))/\n<=1000 /\ -1000<=i/\i<=1000/\∀l,H l=none->Q (.ref l) (upd H l (.lst ((List.range n).map λk:Nat=>V.int (i+k))))):=by
 intro pins s σ H xs us Q I r h;obtain⟨p,i,n,rfl,O,hn,i0,i1,q⟩:=h;obtain⟨u,rfl,Y⟩:=vals1 r;cases Y;have hs:sizeLine=16777216:=sizeLine_eq;obtain⟨t,u,v,e⟩:=(show bV X.prog X.w H s.heap p (.rng i (i+n))from I.bG p _ O);refine call_list_range (n:=n) (I.ok.hd hc) e (small_one af af af af) (by rw[rangeSize_one];split<;>omega) af λh' tk G S kp L J=>?_;have rv:Vals ((List.range n).map λk:Nat=>V.int (i+k)) G.toList:=by
  obtain⟨h1,h2⟩:=J;refine qA ?_ λj x v F R=>?_
  .rw[length_map,length_range];simpa using h1.symm
  .rw[getElem?_map]at F;obtain⟨k,N,rfl⟩:=Option.map_eq_some_iff.mp F;have U:k=j:=by
    have:=List.getElem?_eq_some_iff.mp N;obtain⟨_,e⟩:=this;simpa using e.symm
   obtain⟨t,e⟩:=h2 j v (by simpa using R);exact⟨t,by rw[e,U];congr 1;omega⟩
 refine⟨.ref s.heap.objs.size,_,I.laid kp (le_refl _) (show bV X.prog X.w _ h' _ (.lst ((List.range n).map λk:Nat=>V.int (i+k)))from⟨by rw[length_map,length_range];omega,G.toList,S,rv,by simpa using L⟩),rfl,q _ (I.bG.fresh (le_refl _))⟩
end
theorem u4 {a:Addr}{o:Obj}{kvs:List (Key×V)}{caps:List (Str×Nat)}{te:TE}{σ:St}{H:Hp}{F:List V->Hp->Prop}(Pv:Nat->List V->Hp->Prop) (R:Pv 0 [] H)
  (N:∀i zs H,i<=kvs.length->Pv i zs H->H a=some (.frz o (.dK kvs)))
  (hs:∀i k v zs H,kvs[i]?=some (k,v)->Pv i zs H->te (fM caps σ (some (kV k))) H (λz J=>zs.length<sizeLine/\Pv (i+1) (zs++[z]) J))
  (hd:∀zs H,Pv kvs.length zs H->F zs H):∃W:Nat->Nat->List V->Hp->Prop,(∃m,W 0 m [] H)/\gQ caps m4 te σ (C9 a o kvs) F W:=by
 refine⟨λi m zs H=>m=kvs.length-i/\i<=kvs.length/\Pv i zs H,⟨kvs.length,by simp,zero_le _,R⟩,?_⟩;rintro i m zs H ⟨rfl,hi,p⟩;have G:=N i zs H hi p;by_cases I:i<kvs.length
 .refine .inr ⟨⟨G,I⟩,Pv (i+1),λS H' O=>⟨kvs.length-(i+1),af,rfl,I,O⟩,?_⟩;rintro x H' ⟨rfl,k,v,L,rfl⟩;unfold m4;dsimp only;rw[if_pos rfl];exact hs i k v zs _ L p
 .have e:i=kvs.length:=af;subst e;exact .inl ⟨⟨G,le_refl _⟩,hd zs H p⟩
theorem p5 {caps:List (Str×Nat)}{te:TE}{σ:St}{H:Hp}{lo st:Int}{n:Nat}{G:List V->Hp->Prop}(Pv:Nat->List V->Hp->Prop) (L:Pv 0 [] H)
  (hs:∀i ys H,i<n->Pv i ys H->te (fM caps σ (some (.int (lo+i*st)))) H (λy I=>ys.length<sizeLine/\Pv (i+1) (ys++[y]) I))
  (hd:∀ys H,Pv n ys H->G ys H):∃W:Nat->Nat->List V->Hp->Prop,(∃m,W 0 m [] H)/\gQ caps m4 te σ (Dq lo st n) G W:=by
 refine⟨λi m ys H=>m=n-i/\i<=n/\Pv i ys H,⟨n,by simp,zero_le _,L⟩,?_⟩;rintro i m ys H ⟨rfl,hi,p⟩;by_cases F:i<n
 .refine .inr ⟨F,Pv (i+1),λN H' J=>⟨n-(i+1),af,rfl,F,J⟩,λx H' y=>?_⟩;obtain⟨e,y⟩:=y;subst e y;unfold m4;dsimp only;rw[if_pos rfl];exact hs i ys _ F p
 .have e:i=n:=af;subst e;exact .inl ⟨le_refl _,hd ys H p⟩
theorem AQ {K:Frag}{a b:Addr}{xs ys:List V}{g:TG}{tb:TS}{D:Ends}{σ:St}{H:Hp}(Pv:Nat->St->Hp->Prop) (U:Pv 0 σ H) (he:xs.length=ys.length)
  (hl:∀i σ H,i<=xs.length->Pv i σ H->bq K H a xs/\bq K H b ys)
  (hs:∀i x y σ H T,xs[i]?=some x->ys[i]?=some y->H T=none->Pv i σ H->g (.ref T) σ (upd H T (.tup [x,y])) λI H2=>tb { D with nx:=Pv (i+1),ct:=Pv (i+1),bk:=D.nx } I H2)
  (hd:∀σ H,Pv xs.length σ H->D.nx σ H) :
  ∃W:Nat->Nat->St->Hp->Prop,(∃m,W 0 m σ H)/\∀i m σ H,W i m σ H ->
   ((FC K a b).stop i H/\D.nx σ H)\/((FC K a b).go i H/\∃N:St->Hp->Prop,(∀J H',N J H'->∃L,L<m/\W (i+1) L J H')/\∀x H',(FC K a b).AJ i H x H'->g x σ H' λI H2=>tb { D with nx:=N,ct:=N,bk:=D.nx } I H2):=by
 refine⟨λi m σ H=>m=xs.length-i/\i<=xs.length/\Pv i σ H,⟨xs.length,by simp,zero_le _,U⟩,?_⟩;rintro i m σ H ⟨rfl,hi,p⟩;obtain⟨F,G⟩:=hl i σ H hi p;by_cases O:i<xs.length
 .have Y:i<ys.length:=af;refine .inr ⟨⟨xs,ys,xs[i],ys[i],F,G,by simp[O],by simp[Y]⟩,Pv (i+1),λJ H' S=>⟨xs.length-(i+1),af,rfl,O,S⟩,?_⟩;rintro v H' ⟨T,x,y,rfl,hT,rfl,R,e2⟩;exact hs i x y σ H T (R _ F) (e2 _ G) hT p
 .have e:i=xs.length:=af;subst e;exact .inl ⟨⟨xs,ys,F,G,.inl (le_refl _)⟩,hd σ H p⟩
end L2
namespace PySem
section
variable {prog:Program}{w:World}{A:Around}{E:Value->Shared->Prop}{s:Shared}
theorem jC {G t:Addr}{i:Nat}{items} {x:Value}{Q:Value->Shared->Prop}(J:s.heap.IsTupleIter G t i) (O:s.heap.IsTuple t items) (S:items[i]?=some x)
  (U:∀h',h'.IsTupleIter G t (i+1)->Heap.SameBut G s.heap h'->Q x { s with heap:=h' }):wpAny (model prog w) A (Builtin.SmallTypes.nextOf (.ref G)) Q E s:=by
 obtain⟨o,I,R,hd⟩:=id J;obtain⟨Y,N,_,nl,L⟩:=O;unfold Builtin.SmallTypes.nextOf;refine wpAny_bind (wpAny_callSpecial?_slot (name:=Str.ofString "__next__") J.typeIs F.slot_tuple_iterator_next (wpAny_call_entry F.slot_tuple_iterator_next J.typeIs F.entry_tuple_iterator_next ?_ (F.args_tuple_iterator_next_1 _)));show wpAny _ _ (field (.ref G) 0>>=_) _ _ s;refine wpAny_bind (wpAny_field I hd (x:=.ref t) rfl ?_);show wpAny _ _ (if (Value.ref t==Value.none)=true then _ else _) _ _ s;rw[if_neg (show ¬ ((Value.ref t==Value.none)=true)from Bool.false_ne_true)];show wpAny _ _ (field (.ref G) 1>>=_) _ _ s;refine wpAny_bind (wpAny_field I hd (x:=.int i 0) rfl ?_);show wpAny _ _ (seqItems? (.ref t)>>=_) _ _ s;refine wpAny_bind (wpAny_seqItems N L ?_);simp only[toNat_natCast,S];refine wpAny_bind (wpAny_setField I hd (by simp) (wpAny_pure ⟨x,rfl,wpAny_pure (U _ ⟨_,Heap.get?_update_self _ I (Obj.isFreed_of_fields (Obj.data_mapFields hd _)),(Obj.cls_mapFields ..).trans R,?_⟩ (Heap.SameBut.update ..))⟩));rw[Obj.data_mapFields hd];simp[rawInt]
theorem kf {G t:Addr}{i:Nat}{items} {Q:Value->Shared->Prop}(L:A.handled=none) (I:s.heap.IsTupleIter G t i) (S:s.heap.IsTuple t items) (U:items[i]?=none)
  (R:∀h' e,Heap.ExtBut G s.heap h'->(∃o,h'.get? e=some o/\o.cls=.type "StopIteration")->E (.ref e) { s with heap:=h' }):wpAny (model prog w) A (Builtin.SmallTypes.nextOf (.ref G)) Q E s:=by
 obtain⟨o,J,hc,hd⟩:=id I;obtain⟨Y,O,_,nl,N⟩:=S;unfold Builtin.SmallTypes.nextOf;refine wpAny_bind (wpAny_callSpecial?_slot (name:=Str.ofString "__next__") I.typeIs F.slot_tuple_iterator_next (wpAny_call_entry F.slot_tuple_iterator_next I.typeIs F.entry_tuple_iterator_next ?_ (F.args_tuple_iterator_next_1 _)));show wpAny _ _ (field (.ref G) 0>>=_) _ _ s;refine wpAny_bind (wpAny_field J hd (x:=.ref t) rfl ?_);show wpAny _ _ (if (Value.ref t==Value.none)=true then _ else _) _ _ s;rw[if_neg (show ¬ ((Value.ref t==Value.none)=true)from Bool.false_ne_true)];show wpAny _ _ (field (.ref G) 1>>=_) _ _ s;refine wpAny_bind (wpAny_field J hd (x:=.int i 0) rfl ?_);show wpAny _ _ (seqItems? (.ref t)>>=_) _ _ s;refine wpAny_bind (wpAny_seqItems O N ?_);simp only[toNat_natCast,U];refine wpAny_bind (wpAny_rule (wpAny_bind (wpAny_setField J hd (by simp) ?_)));show wpAny _ _ (newExc (.type "StopIteration") []>>=_) _ _ _;refine wpAny_bind ?_;simp only[newExc,newTuple];refine wpAny_bind (wpAny_newObj_type ?_ (by size_fits));refine wpAny_bind (m:=firstArgMember _ _) (wpAny_of_eq (a:=Value.none) (by first|rfl|(simp only[firstArgMember];rfl)) ?_);refine wpAny_newObj_type ?_ (by size_fits);simp only[raiseNew];refine wpAny_bind (wpAny_handled ?_)
 first|rw[show A.in1.handled=none from L]|rw[L]
 exact wpAny_bind (wpAny_pure (wpAny_throw (R _ _ (((Heap.SameBut.update ..).extBut.push _).push _) ⟨_,Heap.get?_push_size _ rfl,rfl⟩)))
theorem wM {z TI TO I J l1 l2:Addr}{k:Nat}{xs ys:Array Value}{x y a b:Value}{Q:Option Value->Shared->Prop}(D:ZipApart z TI TO I J l1 l2) (R:IsZip s.heap z TI TO .none) (am:IsPair s.heap TI (.ref I) (.ref J)) (ad:IsPair s.heap TO a b)
  (h1:s.heap.IsTupleIter I l1 k) (h2:s.heap.IsListIter J l2 k) (ap:s.heap.IsTuple l1 xs) (ac:s.heap.IsList l2 ys) (hx:xs[k]?=some x) (hy:ys[k]?=some y)
  (hQ:∀h',IsZip h' z TI TO (rawInt s.heap.objs.size)->IsPair h' TO x y->h'.IsTupleIter I l1 (k+1)->h'.IsListIter J l2 (k+1)->IsPair h' s.heap.objs.size x y ->
   (∀c o,c≠z->c≠TO->c≠I->c≠J->s.heap.get? c=some o->h'.get? c=some o)->Q (some (.ref s.heap.objs.size)) { s with heap:=h' }):wpAny (model prog w) A (pyNext (.ref z)) Q E s:=by
 have hT:s.TypeIs (.ref z) "zip" := ⟨_,R,rfl⟩;unfold pyNext;refine wpAny_bind (wpAny_attempt (wpAny_callSpecial?_slot (name:=Str.ofString "__next__") hT F.slot_zip_next (wpAny_call_entry F.slot_zip_next hT F.entry_zip_next ?_ (F.args_zip_next_1 _))));show wpAny _ _ (field (.ref z) 2>>=_) _ _ _;refine wpAny_bind (wpAny_field R rfl (x:=.bool false) rfl ?_);show wpAny _ _ (field (.ref z) 3>>=_) _ _ _;refine wpAny_bind (wpAny_field R rfl (x:=.ref TI) rfl (wpAny_bind (wpAny_seqItems am rfl ?_)));show wpAny _ _ (Builtin.SmallTypes.ownedTupleIsFree (.ref z)>>=_) _ _ _;refine wpAny_bind ?_;unfold Builtin.SmallTypes.ownedTupleIsFree;refine wpAny_bind (wpAny_field R rfl (x:=.none) rfl (wpAny_pure ?_));simp only[if_true];refine wpAny_bind (wpAny_rule (wpAny_bind (wpAny_field R rfl (x:=.ref TO) rfl (wpAny_bind (wpAny_setField_rec R (by simp) λg1 z1 L=>?_)))));replace z1:IsZip g1 z TI TO .ellipsis:=z1;refine wpAny_bind ?_;simp only[List.zipIdx_cons,List.zipIdx_nil,List.forIn_cons,List.forIn_nil];refine wpAny_bind (wpAny_bind (wpAny_onRaise ?_));show wpAny _ _ (Builtin.SmallTypes.nextOf (.ref I)>>=_) _ _ _;refine wpAny_bind (jC (h1.extBut L.extBut D.i1z) (ap.extBut L.extBut D.l1z) hx λg2 j1 S=>wpAny_pure ?_);have t2:IsPair g2 TO a b:=S.extBut _ _ D.TOi1 (L.extBut _ _ D.TOz ad);refine wpAny_bind (wpAny_seqItems t2 rfl (wpAny_bind (wpAny_updateSeq_pair t2 λg3 t3 O=>?_)));replace t3:IsPair g3 TO x b:=t3;refine wpAny_bind (wpAny_letGo (wpAny_pure (wpAny_bind (wpAny_bind (wpAny_onRaise ?_)))));show wpAny _ _ (Builtin.SmallTypes.nextOf (.ref J)>>=_) _ _ _;refine wpAny_bind (wpAny_nextOf_list_item (((h2.extBut L.extBut D.i2z).extBut S.extBut D.i12.symm).extBut O.extBut D.TOi2.symm) (((ac.extBut L.extBut D.l2z).extBut S.extBut D.l2i1).extBut O.extBut D.l2TO) hy λg4 j2 U=>wpAny_pure ?_);have t4:IsPair g4 TO x b:=U.extBut _ _ D.TOi2 t3;refine wpAny_bind (wpAny_seqItems t4 rfl (wpAny_bind (wpAny_updateSeq_pair t4 λG t5 Y=>?_)));replace t5:IsPair G TO x y:=t5;refine wpAny_bind (wpAny_letGo (wpAny_pure (wpAny_pure (wpAny_bind (wpAny_seqItems t5 rfl (wpAny_bind (wpAny_newTuple ?_)))))));have ez:G.objs.size=s.heap.objs.size:=(by rw[Y.1,U.1,O.1,S.1,L.1]);have z5:IsZip G z TI TO .ellipsis:=Y.extBut _ _ D.TOz.symm (U.extBut _ _ D.i2z.symm (O.extBut _ _ D.TOz.symm (S.extBut _ _ D.i1z.symm z1)));have k5:∀c o,c≠z->c≠TO->c≠I->c≠J->s.heap.get? c=some o->G.get? c=some o:=λc o N c2 c3 c4 e=>Y.extBut _ _ c2 (U.extBut _ _ c4 (O.extBut _ _ c2 (S.extBut _ _ c3 (L.extBut _ _ N e))));have j1:G.IsTupleIter I l1 (k+1):=((j1.extBut O.extBut D.TOi1.symm).extBut U.extBut D.i12).extBut Y.extBut D.TOi1.symm;have j2:G.IsListIter J l2 (k+1):=j2.extBut Y.extBut D.TOi2.symm;have ab:z<G.objs.size:=Heap.lt_size z5;show wpAny _ _ (Builtin.SmallTypes.ownedTupleHandOut (.ref z) (.ref G.objs.size)>>=_) _ _ _;refine wpAny_bind ?_;unfold Builtin.SmallTypes.ownedTupleHandOut;have z6:IsZip (G.push { cls:=.type "tuple",data:=.seq #[x,y] }) z TI TO .ellipsis:=Heap.get?_push_of_some _ z5;refine wpAny_bind (wpAny_setField_rec z6 (by simp) λg7 z7 e7=>?_);replace z7:IsZip g7 z TI TO (rawInt G.objs.size):=z7;refine wpAny_setField_rec z7 (by simp) λg8 z8 e8=>?_;replace z8:IsZip g8 z TI TO (rawInt G.objs.size):=z8;have up:∀c o,c≠z->G.get? c=some o->g8.get? c=some o:=λc o N e=>e8.extBut _ _ N (e7.extBut _ _ N (Heap.get?_push_of_some _ e));have t8:IsPair g8 G.objs.size x y:=e8.extBut _ _ (ne_of_gt ab) (e7.extBut _ _ (ne_of_gt ab) (Heap.get?_push_size _ rfl));rw[ez]at z8 t8;refine wpAny_pure ⟨_,rfl,wpAny_pure ?_⟩;show Q (some (.ref G.objs.size)) _;rw[ez];exact hQ g8 z8 (up _ _ D.TOz t5) (j1.at λo e=>up _ o D.i1z e) (j2.at λo e=>up _ o D.i2z e) t8 λc o N c2 c3 c4 e=>up c o N (k5 c o N c2 c3 c4 e)
theorem zU {z TI TO I i2 l1 l2:Addr}{k:Nat}{xs:Array Value}{Q:Option Value->Shared->Prop}(hh:A.handled=none) (D:ZipApart z TI TO I i2 l1 l2) (G:IsZip s.heap z TI TO .none) (ad:IsPair s.heap TI (.ref I) (.ref i2))
  (h1:s.heap.IsTupleIter I l1 k) (am:s.heap.IsTuple l1 xs) (hx:xs[k]?=none)
  (hQ:∀h',(∀c o,c≠z->c≠I->s.heap.get? c=some o->h'.get? c=some o)->Q none { s with heap:=h' }):wpAny (model prog w) A (pyNext (.ref z)) Q E s:=by
 have U:s.TypeIs (.ref z) "zip" := ⟨_,G,rfl⟩;unfold pyNext;refine wpAny_bind (wpAny_attempt (wpAny_callSpecial?_slot (name:=Str.ofString "__next__") U F.slot_zip_next (wpAny_call_entry F.slot_zip_next U F.entry_zip_next ?_ (F.args_zip_next_1 _))));show wpAny _ _ (field (.ref z) 2>>=_) _ _ _;refine wpAny_bind (wpAny_field G rfl (x:=.bool false) rfl ?_);show wpAny _ _ (field (.ref z) 3>>=_) _ _ _;refine wpAny_bind (wpAny_field G rfl (x:=.ref TI) rfl (wpAny_bind (wpAny_seqItems ad rfl ?_)));show wpAny _ _ (Builtin.SmallTypes.ownedTupleIsFree (.ref z)>>=_) _ _ _;refine wpAny_bind ?_;unfold Builtin.SmallTypes.ownedTupleIsFree;refine wpAny_bind (wpAny_field G rfl (x:=.none) rfl (wpAny_pure ?_));simp only[if_true];refine wpAny_bind (wpAny_rule (wpAny_bind (wpAny_field G rfl (x:=.ref TO) rfl (wpAny_bind (wpAny_setField_rec G (by simp) λg1 N J=>?_)))));replace N:IsZip g1 z TI TO .ellipsis:=N;refine wpAny_bind ?_;simp only[List.zipIdx_cons,List.zipIdx_nil,List.forIn_cons,List.forIn_nil];refine wpAny_bind (wpAny_bind (wpAny_onRaise ?_));show wpAny _ _ (Builtin.SmallTypes.nextOf (.ref I)>>=_) _ _ _;refine wpAny_bind (kf hh (h1.extBut J.extBut D.i1z) (am.extBut J.extBut D.l1z) hx λg2 e Y he=>?_);obtain⟨oe,L,ab⟩:=he;have O:IsZip g2 z TI TO .ellipsis:=Y _ _ D.i1z.symm N;have ac:e≠z:=λq=>(by subst q;rw[O]at L;cases L;simp at ab);refine wpAny_setField_rec O (by simp) λg3 _ R=>?_;refine wpAny_bind (wpAny_isInstance (T := "StopIteration") (b:=true) ⟨oe,R.extBut _ _ ac L,ab⟩ isSubtype_stop ?_);exact wpAny_pure (hQ _ λc o S c3 q=>R.extBut _ _ S (Y _ _ c3 (J.extBut _ _ S q)))
abbrev Gq (h:Heap) (t:Addr):Heap:=h.push { cls:=.type "tuple_iterator",data:=.fields #[.ref t,.int 0 0] }
abbrev GQ (h:Heap) (t l:Addr):Heap:=(Gq h t).push { cls:=.type "list_iterator",data:=.fields #[.ref l,.int 0 0] }
abbrev Gp (h:Heap) (t l:Addr):Heap:=(GQ h t l).push { cls:=.type "tuple",data:=.seq #[.ref h.objs.size,.ref (Gq h t).objs.size] }
abbrev GZ (h:Heap) (t l:Addr):Heap:=(Gp h t l).push { cls:=.type "tuple",data:=.seq #[.none,.none] }
abbrev Ey (h:Heap) (t l:Addr):Heap:=(GZ h t l).push { cls:=.type "zip",data:=.fields #[.none,.bool false,.bool false,.ref (GQ h t l).objs.size,.ref (Gp h t l).objs.size] }
theorem zd (t l:Addr) (xs ys:Array Value) :
  Meets (Builtin.«zip.__new__» ⟨[.type "zip",.ref t,.ref l],[]⟩) (λ_ R s=>s.heap.IsTuple t xs/\s.heap.IsList l ys/\R (.ok (.ret (.ref (GZ s.heap t l).objs.size))) { s with heap:=Ey s.heap t l }):=
 .of_wp λprog w A R s h=>by
  obtain⟨F,g,d,tk,os⟩:=s;obtain⟨h1,h2,h⟩:=h;have J:=sub_zip;have G:Heap.IsTuple (Shared.heap ⟨F,g,d,tk,os⟩) t xs:=h1;have I:Heap.IsList (Shared.heap ⟨F.push { cls:=.type "tuple_iterator",data:=.fields #[.ref t,.int 0 0] },g,d,tk,os⟩) l ys:=Heap.IsList.push h2 _
  wp_walk using wpAny_pyIter_tuple G,wpAny_pyIter_list I
  exact⟨_,rfl,h⟩
theorem xP {t l:Addr}{xs ys:Array Value}{Q:Value->Shared->Prop}(h1:s.heap.IsTuple t xs) (h2:s.heap.IsList l ys)
  (h:∀h',IsZip h' (s.heap.objs.size+4) (s.heap.objs.size+2) (s.heap.objs.size+3) .none->IsPair h' (s.heap.objs.size+2) (.ref s.heap.objs.size) (.ref (s.heap.objs.size+1)) ->
   IsPair h' (s.heap.objs.size+3) .none .none->h'.IsTupleIter s.heap.objs.size t 0->h'.IsListIter (s.heap.objs.size+1) l 0 ->
   (∀c o,s.heap.get? c=some o->h'.get? c=some o)->Q (.ref (s.heap.objs.size+4)) { s with heap:=h' }) :
  wpAny (model prog w) A (call (.type "zip") [.ref t,.ref l]) Q E s:=by
 refine callType_new F.called_zip av (F.typeCall_zip_2 _ _) (F.newCall_zip_2 _ _) (λobj=>F.args_object_init_3 obj _ _) F.entry_zip_new (zd t l xs ys) ⟨h1,h2,?_⟩;have N:(Gq s.heap t).objs.size=s.heap.objs.size+1:=Heap.size_push ..;have J:(GQ s.heap t l).objs.size=s.heap.objs.size+2:=(by rw[Heap.size_push,N]);have I:(Gp s.heap t l).objs.size=s.heap.objs.size+3:=(by rw[Heap.size_push,J]);have R:(GZ s.heap t l).objs.size=s.heap.objs.size+4:=(by rw[Heap.size_push,I]);have G:∀{c:Addr}{o:Obj}(u:Heap) (p:Obj),u.get? c=some o->(u.push p).get? c=some o:=λu p e=>Heap.get?_push_of_some _ e;have L:(Ey s.heap t l).get? (GZ s.heap t l).objs.size=some _:=Heap.get?_push_size _ rfl;have U:(Ey s.heap t l).get? (Gp s.heap t l).objs.size=some _:=G _ _ (Heap.get?_push_size _ rfl);have S:(Ey s.heap t l).get? (GQ s.heap t l).objs.size=some _:=G _ _ (G _ _ (Heap.get?_push_size _ rfl));have O:(Ey s.heap t l).get? (Gq s.heap t).objs.size=some _:=G _ _ (G _ _ (G _ _ (Heap.get?_push_size _ rfl)));have Y:(Ey s.heap t l).get? s.heap.objs.size=some _:=G _ _ (G _ _ (G _ _ (G _ _ (Heap.get?_push_size _ rfl))));show _/\_;rw[J,I,R]at L;rw[N,J]at S;rw[I]at U;rw[N]at O;rw[R];exact⟨⟨_,L,rfl⟩,h _ L S U ⟨_,Y,rfl,rfl⟩ ⟨_,O,rfl,rfl⟩ λc o x=>G _ _ (G _ _ (G _ _ (G _ _ (G _ _ x))))⟩
end
end PySem
namespace L2
open PySem PySem.Spec PyProof.Rows
def zJ (K:Frag) (l1 l2:Addr):It :=
 ⟨λi H=>∃xs ys x y,bR K H l1 xs/\bq K H l2 ys/\xs[i]?=some x/\ys[i]?=some y,
  λi H v H'=>∃T x y,v=.ref T/\H T=none/\H'=upd H T (.tup [x,y])/\(∀xs,bR K H l1 xs->xs[i]?=some x)/\∀ys,bq K H l2 ys->ys[i]?=some y,
  λi H=>∃xs,bR K H l1 xs/\xs.length<=i⟩
def IY (z TI TO F G l1 l2:Addr) (i:Nat) (h:Heap):Prop:=IsZip h z TI TO .none/\IsPair h TI (.ref F) (.ref G)/\(∃a b,IsPair h TO a b)/\h.IsTupleIter F l1 i/\h.IsListIter G l2 i
theorem wZ {P:Program}{w:World}{K:Frag}{es:List Expr}{kx:Nat}{px:Pos}{z TI TO O R l1 l2:Addr}(D:ZipApart z TI TO O R l1 l2):Turn P w K (.Tuple es kx px) (zJ K l1 l2) [z,TI,TO,O,R] z (IY z TI TO O R l1 l2) where
 mem:=by simp
 obj:=by
  rintro i h ⟨L,G,⟨a,b',N⟩,h1,h2⟩ b F;simp only[mem_cons,not_mem_nil,or_false]at F;rcases F with rfl|rfl|rfl|rfl|rfl
  .exact⟨_,L,λv q=>by cases(show Data.fields _=Data.cell v from q)⟩
  .exact⟨_,G,λv q=>by cases(show Data.seq _ _=Data.cell v from q)⟩
  .exact⟨_,N,λv q=>by cases(show Data.seq _ _=Data.cell v from q)⟩
  .obtain⟨o,e,c,d⟩:=h1;exact⟨o,e,λv q=>by rw[d]at q;cases q⟩
  .obtain⟨o,e,c,d⟩:=h2;exact⟨o,e,λv q=>by rw[d]at q;cases q⟩
 keep:=λi h h' ⟨L,G,⟨a,b,N⟩,h1,h2⟩ k=>⟨k z (by simp) _ L,k TI (by simp) _ G,⟨a,b,k TO (by simp) _ N⟩,h1.at λo e=>k O (by simp) o e,h2.at λo e=>k R (by simp) o e⟩
 item:=by
  intro X hP hw hK hc i pins s σ H E I U st hg;subst hP hw hK;obtain⟨L,G,⟨a,b,N⟩,h1,h2⟩:=st;obtain⟨xs,ys,x,y,q1,q2,e1,e2⟩:=hg;obtain⟨ad,ac,p1,_⟩:=I.tuple q1;obtain⟨a5,am,p2,_⟩:=I.list q2;obtain⟨u1,a0,a3⟩:=ac.get e1;obtain⟨u2,aT,aB⟩:=am.get e2;have f4:∀b∈[z,TO,O,R],ff X pins H b:=λb F=>U b (by simp only[mem_cons,not_mem_nil,or_false]at F ⊢;rcases F with h|h|h|h<;>simp[h]);refine wM D L G N h1 h2 p1 p2.isList (x:=u1) (y:=u2) (by simpa using a0) (by simpa using aT) λh' z' ap a1 a2 pT Y=>?_;have I1:Inv X pins σ H { s with heap:=h' }:=I.fh (t':=s.toks) (ch:=[z,TO,O,R]) (λb o F e=>Y b o (λq=>F (by simp[q])) (λq=>F (by simp[q])) (λq=>F (by simp[q])) (λq=>F (by simp[q])) e) f4;refine⟨_,rfl,wpAny_letOwnedTupleGo_zip z' λS z2 J=>?_⟩;replace J:Heap.SameBut z h' S:=J;have I2:Inv X pins σ H { s with heap:=S }:=I1.fh (s:={ s with heap:=h' }) (h':=S) (t':=s.toks) (ch:=[z]) (λb o F e=>(J.2 b (λq=>F (by simp[q]))).trans e) λb F=>U b (by simp only[mem_singleton]at F;simp[F]);have fT:ff X pins H s.heap.objs.size:=I.iD (le_refl _) (I.bG.fresh (le_refl _));have nz:s.heap.objs.size≠z:=ne_of_gt (Heap.lt_size L);have as:IsPair S s.heap.objs.size u1 u2:=J.extBut _ _ nz pT;have I3:Inv X pins σ (upd H s.heap.objs.size (.tup [x,y])) { s with heap:=S }:=I2.qk (its:=[u1,u2]) fT ⟨_,as,rfl,_,rfl⟩ (.cons a3 (.cons aB .nil)) oX;refine⟨.ref s.heap.objs.size,_,I3,rfl,⟨_,x,y,rfl,fT.1,rfl,λzs ab=>by rw[I.oK ab q1];exact e1,λzs ab=>by rw[I.gL ab q2];exact e2⟩,⟨z2,J.extBut _ _ D.TIz (Y _ _ D.TIz D.TITO D.TIi1 D.TIi2 G),⟨_,_,J.extBut _ _ D.TOz ap⟩,a1.extBut J.extBut D.i1z,a2.extBut J.extBut D.i2z⟩,λb F=>?_⟩;have nb:b≠s.heap.objs.size:=by
   intro q;simp only[mem_cons,not_mem_nil,or_false]at F;obtain⟨o1,g1,_⟩:=h1;obtain⟨o2,g2,_⟩:=h2;rcases F with e|e|e|e|e<;>rw[e]at q
   .exact nz q.symm
   .exact ne_of_lt (Heap.lt_size G) q
   .exact ne_of_lt (Heap.lt_size N) q
   .exact ne_of_lt (Heap.lt_size g1) q
   .exact ne_of_lt (Heap.lt_size g2) q
  rw[ah nb];exact(U b F).1
 done:=by
  intro X hP hw hK hc i pins s σ H E I U st hg;subst hP hw hK;obtain⟨L,G,⟨a,b,N⟩,h1,h2⟩:=st;obtain⟨xs,q1,e⟩:=hg;obtain⟨ad,ac,p1,_⟩:=I.tuple q1;have a4:=ac.length;refine zU (I.ok.hd hc) D L G h1 p1 (by simp;omega) λh' Y=>⟨rfl,I.fh (t':=s.toks) (ch:=[z,O]) (λb o F e=>Y b o (λq=>F (by simp[q])) (λq=>F (by simp[q])) e) λb F=>U b ?_⟩;simp only[mem_cons,not_mem_nil,or_false]at F ⊢;rcases F with h|h<;>simp[h]
 self:=λ_ _ _ _ _ st h=>wpAny_pyIter_zip st.1 h
section
variable {X:Cx}
inductive Cd (K:Frag) (ta:TA) (σ:St) (H:Hp) (R:It->Hp->Prop):Prop
 |mk (_:ta σ H λvs H1=>x8 λl1 l2=>C1 (vs=[.ref l1,.ref l2]) (∃xs,bR K H1 l1 xs) (∃ys,bq K H1 l2 ys) (R (zJ K l1 l2) H1)):Cd K ta σ H R
theorem Be {es:List Expr}{kx:Nat}{px:Pos}{a b:Expr}{ta:TA}{p pos:Pos}(hg:Gl X "zip") (S:X.mg "zip" = none) (ha:PA X [a,b] ta) (hs:starEach [a,b] X.env=[(false,eval a X.env),(false,eval b X.env)]:=by rfl) (J:starEach [b] X.env=[(false,eval b X.env)]:=by rfl) :
  PI X (.Tuple es kx px) (.Call (.Name "zip" p) [a,b] [] pos) (Cd X.K ta):=by
 intro pins s σ H R I h;obtain⟨h⟩:=h;refine Call_ (gx I hg S zm (PyProof.Rows.callWith_type1 (bT (ha pos pins s σ H _ I h) λus F ⟨vs,H1,G,r1,q1⟩=>?_) (by rw[hs,J]) (by rw[J];rfl)));obtain⟨l1,l2,rfl,⟨xs,g1⟩,⟨ys,g2⟩,q⟩:=q1;obtain⟨u1,u2,rfl,e1,e2⟩:=vals2 r1;obtain rfl:u1=Value.ref l1:=e1;obtain rfl:u2=Value.ref l2:=e2;obtain⟨as,aB,O,_⟩:=G.tuple g1;obtain⟨a0,aT,p2,_⟩:=G.list g2;have ab:l1<F.heap.objs.size:=(by obtain⟨_,e,_⟩:=id O;exact Heap.lt_size e);have U:l2<F.heap.objs.size:=(by obtain⟨_,e,_⟩:=p2.isList;exact Heap.lt_size e);refine xP O p2.isList λh' L ad ac am ap Y=>?_;refine wpAny_pyIter_zip L ?_;refine⟨F.heap.objs.size+4,[F.heap.objs.size+4,F.heap.objs.size+2,F.heap.objs.size+3,F.heap.objs.size,F.heap.objs.size+1],_,_,H1,rfl,G.kept (t':=F.toks) Y,wZ (zipApart_new ab U),⟨L,ad,⟨_,_,ac⟩,am,ap⟩,λb N=>?_,q⟩;have le:F.heap.objs.size<=b:=by
  simp only[mem_cons,not_mem_nil,or_false]at N;rcases N with e|e|e|e|e<;>rw[e]<;>first|exact le_refl _|exact Nat.le_add_right _ _
 exact G.iD le (G.bG.fresh le)
end
theorem ze {K:Frag}{a b:Addr}{xs ys:List V}{g:TG}{tb:TS}{D:Ends}{σ:St}{H:Hp}(Pv:Nat->St->Hp->Prop) (U:Pv 0 σ H) (he:xs.length=ys.length)
  (hl:∀i σ H,i<=xs.length->Pv i σ H->bR K H a xs/\bq K H b ys)
  (hs:∀i x y σ H T,xs[i]?=some x->ys[i]?=some y->H T=none->Pv i σ H->g (.ref T) σ (upd H T (.tup [x,y])) λI H2=>tb { D with nx:=Pv (i+1),ct:=Pv (i+1),bk:=D.nx } I H2)
  (hd:∀σ H,Pv xs.length σ H->D.nx σ H) :
  ∃W:Nat->Nat->St->Hp->Prop,(∃m,W 0 m σ H)/\∀i m σ H,W i m σ H ->
   ((zJ K a b).stop i H/\D.nx σ H)\/((zJ K a b).go i H/\∃N:St->Hp->Prop,(∀J H',N J H'->∃O,O<m/\W (i+1) O J H')/\∀x H',(zJ K a b).AJ i H x H'->g x σ H' λI H2=>tb { D with nx:=N,ct:=N,bk:=D.nx } I H2):=by
 refine⟨λi m σ H=>m=xs.length-i/\i<=xs.length/\Pv i σ H,⟨xs.length,by simp,zero_le _,U⟩,?_⟩;rintro i m σ H ⟨rfl,hi,p⟩;obtain⟨G,L⟩:=hl i σ H hi p;by_cases F:i<xs.length
 .have Y:i<ys.length:=af;refine .inr ⟨⟨xs,ys,xs[i],ys[i],G,L,by simp[F],by simp[Y]⟩,Pv (i+1),λJ H' S=>⟨xs.length-(i+1),Nat.sub_succ_lt_self xs.length i F,rfl,F,S⟩,?_⟩;rintro v H' ⟨T,x,y,rfl,hT,rfl,R,e2⟩;exact hs i x y σ H T (R _ G) (e2 _ L) hT p
 .have e:i=xs.length:=Nat.le_antisymm hi (Nat.not_lt.mp F);exact .inl ⟨⟨xs,G,Nat.not_lt.mp F⟩,hd σ H (e▸p)⟩
inductive Md (P:Program) (w:World) (K:Frag) (mg:Str->Option Value) (base:Heap) (cx:wy) (k:Nat) (C:Addr) (m:Str) (sp:Sp):Prop
 |mk (f:Addr) (fd:FuncData) (ps:List Str) (_:bf P w K mg base cx k f fd ps sp) (_:Binds K fd ps []) (_:Meth K C m f):Md P w K mg base cx k C m sp
inductive Df (P:Program) (w:World) (K:Frag) (mg:Str->Option Value) (base:Heap) (cx:wy) (k:Nat) (x:Str) (sp:Sp):Prop
 |mk (f:Addr) (fd:FuncData) (ps:List Str) (_:bf P w K mg base cx k f fd ps sp) (_:Binds K fd ps []) (_:mg x=some (.ref f)) (_:keepIn K (.ref f)=true):Df P w K mg base cx k x sp
section
variable {X:Cx}{CX:wy}{k j:Nat}{C:Addr}{sp:Sp}{E:XK}{x m:Str}{p pos apos:Pos}{e o:Expr}{es:List Expr}{ta:TE}{t:TA}
theorem pm {pl:Sem Bool}(L:PE X o ta) (c:qR X.K C) (F:Md X.prog X.w X.K X.mg X.base CX k C m sp) (G:dA j X.A) (O:Passes CX X E) (J:PA X (e::es) t) (I:k<=j:=by decide)
  (N:starEach (e::es) X.env=(false,eval e X.env)::starEach es X.env:=by rfl) (R:(backTo pos (starEach es X.env)).any (·.1)=false:=by rfl)
  (S:eval (.Call (.Attribute o m apos) (e::es) [] pos) X.env=(do
   let ov <-eval o X.env
   standAt apos.atName
   let (f,first) <-holding [ov] (getMethod ov m pl)
   callWith pos f first (backTo pos (starEach (e::es) X.env)) (backToKw pos (keywordEach [] X.env))):=by rfl) :
  PE X (.Call (.Attribute o m apos) (e::es) [] pos) (vI C m sp [] E ta t):=by
 obtain⟨f,fd,_,g,b,q⟩:=F;exact Bv L c q g (G.mono I) b .nil O J N R S
theorem sF {pl:Sem Bool}(J:PE X o ta) (c:qR X.K C) (F:Md X.prog X.w X.K X.mg X.base CX k C m sp) (G:dA j X.A) (L:Passes CX X E) (I:k<=j:=by decide)
  (N:eval (.Call (.Attribute o m apos) [] [] pos) X.env=(do
   let ov <-eval o X.env
   standAt apos.atName
   let (f,first) <-holding [ov] (getMethod ov m pl)
   callWith pos f first (backTo pos (starEach [] X.env)) (backToKw pos (keywordEach [] X.env))):=by rfl) :
  PE X (.Call (.Attribute o m apos) [] [] pos) (vI C m sp [] E ta Ba):=by
 obtain⟨f,fd,_,g,b,q⟩:=F;exact zu J c q g (G.mono I) b .nil L N
theorem pc (F:Df X.prog X.w X.K X.mg X.base CX k x sp) (G:dA j X.A) (N:Passes CX X E) (J:PA X (e::es) t) (hg:Gl X x:=by rfl) (I:k<=j:=by decide)
  (O:(x==("__debug__" : Str))=false:=by decide) (L:starEach (e::es) X.env=(false,eval e X.env)::starEach es X.env:=by rfl) (R:(backTo pos (starEach es X.env)).any (·.1)=false:=by rfl) :
  PE X (.Call (.Name x p) (e::es) [] pos) (Cc sp [] E t):=by
 obtain⟨f,fd,_,g,b,q,r⟩:=F;exact Bd g (G.mono I) hg q r b .nil N J O L R
end
end L2
namespace St
open PySem L2
def top (i:Nat):Stmt:=PySem.Challenge.pw_ownroom_k15_owners_counted.main.body.getD i (.Pass ⟨0,0,0,0⟩)
abbrev l9:Stmt:=inClass (top 10) 0
abbrev zR:Stmt:=inClass (top 10) 1
abbrev zb:Stmt:=inClass (top 10) 3
abbrev zj:Stmt:=inClass (top 10) 2
abbrev yE:Stmt:=inClass (top 10) 7
abbrev tD:Stmt:=inClass (top 10) 4
abbrev uh:Stmt:=inClass (top 10) 5
abbrev Dt:Stmt:=inClass (top 10) 6
abbrev qO:Stmt:=inClass (top 10) 8
theorem kc:¬ (("owners" : Str) = "contents"):=ao
def jG (ow co:Addr):List (Str×V):=bo "contents" (.ref co) (bo "owners" (.ref ow) [])
theorem dZ (ow co:Addr):(jG ow co).lookup ("owners" : Str)=some (.ref ow):=by
 unfold jG;rw[aD,if_neg kc,aD,if_pos rfl]
theorem pF (ow co:Addr):(jG ow co).lookup ("contents" : Str)=some (.ref co):=by
 unfold jG;rw[aD,if_pos rfl]
theorem aW (ow co:Addr) {m:Str}(h1:¬ m = "contents") (h2:¬ m = "owners"):(jG ow co).lookup m=none:=by
 unfold jG;rw[aD,if_neg h1,aD,if_neg h2]
 all_goals rfl
def dJ (H:Hp) (M:Addr->Prop):V->Option (List Int)->Prop
 |.non,none=>True
 |.ref a,some ns=>¬ M a/\H a=some (.lst (ns.map V.int))
 |_,_=>False
structure aQ (C:Addr) (H:Hp) (M:Addr->Prop) (p ow co:Addr) (os:List Int) (pg:List (Option (List Int))):Prop where
 ob:∃dx,H p=some (.ins C dx (jG ow co))
 hw:H ow=some (.lst (os.map V.int))
 hc:∃cs,H co=some (.lst cs)/\Paired (dJ H M) cs pg
def Off (B:Addr->Prop) (H H':Hp):Prop:=∀b o,H b=some o->¬ B b->H' b=some o
theorem dJ.off {B M:Addr->Prop}{H H':Hp}(h:Off B H H') (F:∀b,B b->M b):∀{v:V}{x:Option (List Int)},dJ H M v x->dJ H' M v x
 |.non,none,_=>trivial
 |.ref a,some ns,⟨h1,h2⟩=>⟨h1,h a _ h2 λz=>h1 (F a z)⟩
theorem ic {B M:Addr->Prop}{H H':Hp}(h:Off B H H') (F:∀b,B b->M b) {cs:List V}{pg:List (Option (List Int))}(q:Paired (dJ H M) cs pg):Paired (dJ H' M) cs pg :=
 Paired.zF q λ_ _ z=>z.off h F
theorem lK {α G:Type}{F:α->G->Prop}:∀{xs:List α}{ys:List G}{i:Nat}{y:G},Paired F xs ys->ys[i]?=some y->∃x,xs[i]?=some x/\F x y
 |_,_,_,_,.nil,e=>by simp at e
 |_,_,0,_,.cons r _,e=>by simp at e;subst e;exact⟨_,rfl,r⟩
 |_,_,i+1,y,.cons _ t,e=>by
  obtain⟨u,h1,h2⟩:=lK (i:=i) (y:=y) t (by simpa using e);exact⟨u,by simpa using h1,h2⟩
theorem iY {α G:Type}{F:α->G->Prop}{x:α}{y:G}(r:F x y):∀{xs:List α}{ys:List G}(i:Nat),Paired F xs ys->Paired F (xs.set i x) (ys.set i y)
 |_,_,_,.nil=>.nil
 |_,_,0,.cons _ t=>.cons r t
 |_,_,i+1,.cons q t=>.cons q (iY r i t)
theorem lQ {α G:Type}{F:α->G->Prop}{x:α}{y:G}(r:F x y):∀n:Nat,Paired F (replicate n x) (replicate n y)
 |0=>.nil
 |n+1=>.cons r (lQ r n)
structure Txt (K:Frag) (mg:Str->Option Value) (C:Addr):Prop where
 cl:qR K C
 nO:cQ K C "owners"
 nC:cQ K C "contents"
 len:mg "len" = none
 list:mg "list" = none
 pc:∃u,mg "PAGE_CELLS" = some u/\RelV (.int 8) u
inductive gT (C:Addr) (vs:List V) (H:Hp) (Q:VK) (e3:XK):Prop
 |mk (p dx:Addr) (n:Nat) (_:vs=[.ref p,.int n]) (_:n<=60) (_:H p=some (.ins C dx [])) (_:∀(ow co:Addr) (H':Hp),H ow=none->H co=none->ow≠co->(∀M,aQ C H' M p ow co (replicate n 0) (replicate n none))->Off (· = p) H H'->Q .non H'):gT C vs H Q e3
def dH (os:List Int) (n:Int):Int:=if n<0\/(os.length:Int)<=n then 0 else os.getD n.toNat 0
theorem kZ {os:List Int}{n:Int}(h:dH os n≠0):0<=n/\n.toNat<os.length/\n<os.length/\n=(n.toNat:Int):=by
 unfold dH at h;by_cases z:n<0\/(os.length:Int)<=n
 .rw[if_pos z]at h;exact absurd rfl h
 .omega
theorem uX {os:List Int}{j:Nat}(h:j<os.length):dH os (j:Int)=os.getD j 0:=by
 unfold dH;rw[if_neg af];simp
inductive gC (C:Addr) (vs:List V) (H:Hp) (Q:VK) (e3:XK):Prop
 |mk (p ow co:Addr) (M:Addr->Prop) (os:List Int) (pg:List (Option (List Int))) (n:Int) (_:vs=[.ref p,.int n]) (_:aQ C H M p ow co os pg) (_:os.length<=60) (_:Q (.int (dH os n)) H):gC C vs H Q e3
inductive fW (C:Addr) (vs:List V) (H:Hp) (Q:VK) (e3:XK):Prop
 |mk (p ow co:Addr) (M:Addr->Prop) (os:List Int) (pg:List (Option (List Int))) (n:Int) (_:vs=[.ref p,.int n]) (_:aQ C H M p ow co os pg) (_:os.length<=60) (_:dH os n≠0) (_:Q .non H):fW C vs H Q e3
inductive vm (C:Addr) (vs:List V) (H:Hp) (Q:VK) (e3:XK):Prop
 |mk (p ow co:Addr) (M:Addr->Prop) (os:List Int) (pg:List (Option (List Int))) (_:vs=[.ref p]) (_:aQ C H M p ow co os pg) (_:M ow) (_:M co) (_:(∀b,M b->H b≠none)) (_:ow≠co) (_:os.length=pg.length) (_:os.length<=60) (_:(¬ (0:Int)∈os->Q .non H)) (_:((0:Int)∈os->∀H',aQ C H' M p ow co (os.set (os.idxOf 0) 1) (pg.set (os.idxOf 0) (some (replicate 8 0)))->Off (λb=>b=ow\/b=co) H H'->Q (.int (os.idxOf 0:Nat)) H')):vm C vs H Q e3
inductive qM (C:Addr) (vs:List V) (H:Hp) (Q:VK) (e3:XK):Prop
 |mk (p ow co:Addr) (M:Addr->Prop) (os:List Int) (pg:List (Option (List Int))) (n:Int) (_:vs=[.ref p,.int n]) (_:aQ C H M p ow co os pg) (_:M ow) (_:M co) (_:ow≠co) (_:os.length<=60) (_:dH os n≠0) (_:∀H',aQ C H' M p ow co (os.set n.toNat (dH os n-1)) pg->Off (λb=>b=ow\/b=co) H H'->Q .non H'):qM C vs H Q e3
inductive o8 (C:Addr) (vs:List V) (H:Hp) (Q:VK) (e3:XK):Prop
 |mk (p ow co:Addr) (M:Addr->Prop) (os:List Int) (pg:List (Option (List Int))) (n:Int) (_:vs=[.ref p,.int n]) (_:aQ C H M p ow co os pg) (_:M ow) (_:M co) (_:ow≠co) (_:os.length<=60) (_:dH os n≠0) (_:∀H',aQ C H' M p ow co (os.set n.toNat (dH os n+1)) pg->Off (λb=>b=ow\/b=co) H H'->Q .non H'):o8 C vs H Q e3
inductive oV (C:Addr) (vs:List V) (H:Hp) (Q:VK) (e3:XK):Prop
 |mk (p ow co:Addr) (M:Addr->Prop) (os:List Int) (pg:List (Option (List Int))) (_:vs=[.ref p]) (_:aQ C H M p ow co os pg) (_:Q (.int (os.count 0:Nat)) H):oV C vs H Q e3
inductive k7 (C:Addr) (vs:List V) (H:Hp) (Q:VK) (e3:XK):Prop
 |mk (p ow co:Addr) (M:Addr->Prop) (os:List Int) (pg:List (Option (List Int))) (n:Int) (ns:List Int) (_:vs=[.ref p,.int n]) (_:aQ C H M p ow co os pg) (_:os.length<=60) (_:dH os n≠0) (_:pg[n.toNat]?=some (some ns)) (_:∀l,H l=none->Q (.ref l) (upd H l (.lst (ns.map V.int)))):k7 C vs H Q e3
inductive vZ (K:Frag) (C:Addr) (vs:List V) (H:Hp) (Q:VK) (e3:XK):Prop
 |mk (p ow co c:Addr) (M:Addr->Prop) (os:List Int) (pg:List (Option (List Int))) (n:Int) (ns:List Int) (_:vs=[.ref p,.int n,.ref c]) (_:aQ C H M p ow co os pg) (_:M ow) (_:M co) (_:(∀b,M b->H b≠none)) (_:ow≠co) (_:os.length=pg.length) (_:os.length<=60) (_:dH os n≠0) (_:bq K H c (ns.map V.int)) (_:∀H',aQ C H' M p ow co os (pg.set n.toNat (some ns))->Off (λb=>b=ow\/b=co) H H'->Q .non H'):vZ K C vs H Q e3
section
variable {P:Program}{w:World}{K:Frag}{mg:Str->Option Value}{base:Heap}
theorem rep1 {α:Type}(x:α) (n:Nat):(replicate n [x]).flatten=replicate n x:=by
 induction n with
 |zero=>rfl
 |succ n F=>rw[replicate_succ,flatten_cons,F,replicate_succ];rfl
theorem Ho:az ["self","many"] ["self","many"] (aq l9):=L2.bD
theorem oU {f C:Addr}{fd:FuncData}(F:cL K "__init__" "Store.__init__" l9 f fd) (T:Txt K mg C):bf P w K mg base aU 1 f fd ["self","many"] (gT C):=by
 refine F.ok Ho (λvs H Q E h=>?_) (λaB A outer s H vs Q E hr h=>?_)
 .obtain⟨p,dx,n,rfl,_⟩:=h;rfl
 .obtain⟨p,dx,n,rfl,hn,L,k⟩:=h;refine⟨_,ag (fb (pv 0) (ay iQ (bX (aa ak ai)) (pv 1)) rfl) (aj (fb (pv 0) (ay iQ (bX (aa pW ai)) (pv 1)) rfl)),?_⟩;have hs:sizeLine=16777216:=sizeLine_eq;refine⟨av,λl1 ab=>?_⟩;have am:p≠l1:=ar L ab;refine⟨_,rfl,l1,n,_,rfl,rfl,ae,af,af,by rw[length_singleton];omega,λow J=>?_⟩;have ap:ow≠l1:=λz=>(by rw[z,ae]at J;cases J);rw[ah ap]at J;have R:p≠ow:=ar L J;refine⟨_,rfl,p,C,dx,[],rfl,by rw[ah R,ah am];exact L,T.cl,T.nO,av,?_⟩;refine⟨av,λl2 I=>?_⟩;have U:l2≠p:=λz=>(by rw[z,ae]at I;cases I);rw[ah U]at I;have S:l2≠ow:=λz=>(by rw[z,ae]at I;cases I);rw[ah S]at I;have ac:l2≠l1:=λz=>(by rw[z,ae]at I;cases I);rw[ah ac]at I;refine⟨_,rfl,l2,n,_,rfl,rfl,ae,af,af,by rw[length_singleton];omega,λco G=>?_⟩;have ad:co≠l2:=λz=>(by rw[z,ae]at G;cases G);rw[ah ad]at G;have N:co≠p:=λz=>(by rw[z,ae]at G;cases G);rw[ah N]at G;have O:co≠ow:=λz=>(by rw[z,ae]at G;cases G);rw[ah O]at G;have as:co≠l1:=λz=>(by rw[z,ae]at G;cases G);rw[ah as]at G;refine⟨_,rfl,p,C,dx,_,rfl,by rw[ah (Ne.symm N),ah (Ne.symm U),ae],T.cl,T.nC,by show 1<1000;decide,?_⟩;rw[show((n:Int)).toNat=n by omega,rep1,rep1];refine k ow co _ J G (Ne.symm O) (λM=>⟨⟨dx,ae⟩,?_,⟨_,?_,lQ (show dJ _ M .non none from trivial) n⟩⟩) λb o e hb=>?_
  .rw[ah (Ne.symm R),ah (Ne.symm O),ah (Ne.symm S),ah (Ne.symm R),ae,List.map_replicate]
  .rw[ah N,ae]
  .have Y:b≠p:=hb;rw[ah Y,ah (ar e G),ah (ar e I),ah Y,ah (ar e J),ah (ar e ab)];exact e
theorem Gw:az ["self","n"] ["self","n"] (aq tD):=L2.bD
theorem zS {f C:Addr}{fd:FuncData}(F:cL K "count" "Store.count" tD f fd) (T:Txt K mg C):bf P w K mg base aU 1 f fd ["self","n"] (gC C):=by
 refine F.ok Gw (λvs H Q E h=>?_) (λL A outer s H vs Q E O h=>?_)
 .obtain⟨p,ow,co,M,os,pg,n,rfl,_⟩:=h;rfl
 .obtain⟨p,ow,co,M,os,pg,n,rfl,S,N,k⟩:=h;obtain⟨⟨dx,h1⟩,I,_⟩:=id S;refine⟨_,ag (aS (gj (aC gG (pv 1) ak (aH _)) (eY (aC Fb (pv 1) (aN bF (by rfl) T.len boot_len (aa (aJ (pv 0) rfl) ai)) (aH _)))).pt (aj (aE ak)) aF)
   (aj (aE (aZ ck (aJ (pv 0) rfl) (pv 1) (λ_ _=>rfl)))),?_⟩
  refine⟨_,rfl,_,_,rfl,rfl,_,rfl,?_⟩;refine iM (λc=>?_) (λc=>?_)
  .refine dG ?_;have J:n<0:=(by simpa using c);unfold dH at k;rw[if_pos (.inl J)]at k;exact k
  .have J:¬ n<0:=(by simpa using c);refine⟨_,rfl,_,rfl,p,C,dx,_,_,rfl,h1,T.cl,T.nO,dZ _ _,ow,_,rfl,.inl (bq.of I),_,_,rfl,rfl,_,rfl,?_⟩;refine iM (λd=>?_) (λd=>?_)
   .have d':(os.length:Int)<=n:=(by simpa using d);unfold dH at k;rw[if_pos (.inr d')]at k;exact k
   .have d':¬ (os.length:Int)<=n:=(by simpa using d);obtain⟨j,rfl⟩:∃j:Nat,n=j:=⟨n.toNat,af⟩;have G:j<os.length:=af;rw[uX G]at k;refine⟨_,rfl,p,C,dx,_,_,rfl,h1,T.cl,T.nO,dZ _ _,_,rfl,ow,_,j,.int (os.getD j 0),rfl,rfl,bq.of I,ij ?_,k⟩;rw[getElem?_map,getElem?_eq_getElem G];simp[G]
theorem Jf:az ["self","n"] ["self","n"] (aq qO):=L2.bD
theorem xZ {f C:Addr}{fd:FuncData}(F:cL K "refuse_free" "Store.refuse_free" qO f fd) (T:Txt K mg C) (G:Md P w K mg base aU 1 C "count" (gC C)) :
  bf P w K mg base aU 2 f fd ["self","n"] (fW C):=by
 refine F.ok Jf (λvs H Q E h=>?_) (λO A outer s H vs Q E J h=>?_)
 .obtain⟨p,ow,co,M,os,pg,n,rfl,_⟩:=h;rfl
 .obtain⟨p,ow,co,M,os,pg,n,rfl,S,I,L,k⟩:=h;obtain⟨⟨dx,h1⟩,N,_⟩:=id S;refine⟨_,aj (aS (aC bW (pm (pv 0) T.cl G J aw (aa (pv 1) ai)) ak (aH _)) (cN) aF),?_⟩;refine⟨_,rfl,p,dx,_,rfl,h1,aW _ _ ao ao,_,rfl,p,ow,co,M,os,pg,n,rfl,S,I,rfl,_,rfl,?_⟩;refine iM (λc=>?_) (λc=>?_)
  .exact absurd (by simpa using c) L
  .exact k
theorem Gs:az ["self","n"] ["self","n"] (aq zb):=L2.bD
theorem fZ {H:Hp}{M:Addr->Prop}{a:Addr}{o:HO}{cs:List V}{pg:List (Option (List Int))}(F:M a) (q:Paired (dJ H M) cs pg):Paired (dJ (upd H a o) M) cs pg :=
 ic (B:=(· = a)) (λb u e G=>by rw[ah (show b≠a from G)];exact e) (λb z=>by rw[show b=a from z];exact F) q
theorem jX {H:Hp}{M:Addr->Prop}{a:Addr}{o:HO}{cs:List V}{pg:List (Option (List Int))}(F:H a=none) (q:Paired (dJ H M) cs pg):Paired (dJ (upd H a o) M) cs pg :=
 ic (B:=λ_=>False) (λb u e _=>by rw[ah (ar e F)];exact e) (λb z=>z.elim) q
theorem iy {H:Hp}{p a C dx:Addr}{fs:List (Str×V)}{xs:List V}(h:H p=some (.ins C dx fs)) (h':H a=some (.lst xs)):p≠a:=cE h h' (by intro z;cases z)
theorem Bb {f C:Addr}{fd:FuncData}(F:cL K "less" "Store.less" zb f fd) (T:Txt K mg C) (O:Md P w K mg base aU 2 C "refuse_free" (fW C)) :
  bf P w K mg base aU 3 f fd ["self","n"] (qM C):=by
 refine F.ok Gs (λvs H Q E h=>?_) (λab A outer s H vs Q E hr h=>?_)
 .obtain⟨p,ow,co,M,os,pg,n,rfl,_⟩:=h;rfl
 .obtain⟨p,ow,co,M,os,pg,n,rfl,S,L,mc,U,hl,J,k⟩:=h;obtain⟨⟨dx,h1⟩,G,cs,Y,N⟩:=id S;refine⟨_,ag (aL (pm (pv 0) T.cl O hr aw (aa (pv 1) ai)))
   (aj (pY (aJ (pv 0) rfl) (pv 1) (my) ak DL set_list)),?_⟩
  refine⟨_,rfl,p,dx,_,rfl,h1,aW _ _ ao ao,_,rfl,p,ow,co,M,os,pg,n,rfl,S,hl,J,?_⟩;obtain⟨h0,I,hn,R⟩:=kZ J;generalize n.toNat=j at *;subst R;refine⟨_,rfl,p,C,dx,_,_,rfl,h1,T.cl,T.nO,dZ _ _,_,rfl,ow,_,j,.int (os.getD j 0),rfl,rfl,bq.of G,ij (by rw[getElem?_map,getElem?_eq_getElem I];simp[I]),_,_,rfl,rfl,ow,_,j,j,rfl,rfl,G,?_,?_⟩
  .unfold rT;rw[length_map,if_pos af,if_pos af];simp
  .rw[uX I]at k;refine k _ ⟨⟨dx,by rw[ah (iy h1 G)];exact h1⟩,?_,⟨cs,by rw[ah (Ne.symm U)];exact Y,fZ L N⟩⟩ λb o e hb=>?_
   .rw[ae,map_set]
   .rw[ah (λz=>hb (.inl z))];exact e
theorem Jo:az ["self","n"] ["self","n"] (aq uh):=L2.bD
theorem yQ {f C:Addr}{fd:FuncData}(F:cL K "cells" "Store.cells" uh f fd) (T:Txt K mg C) (J:Md P w K mg base aU 2 C "refuse_free" (fW C)) :
  bf P w K mg base aU 3 f fd ["self","n"] (k7 C):=by
 refine F.ok Jo (λvs H Q E h=>?_) (λab A outer s H vs Q E U h=>?_)
 .obtain⟨p,ow,co,M,os,pg,n,ns,rfl,_⟩:=h;rfl
 .obtain⟨p,ow,co,M,os,pg,n,ns,rfl,S,R,G,hg,k⟩:=h;obtain⟨⟨dx,h1⟩,hw,cs,O,I⟩:=id S;refine⟨_,ag (aL (pm (pv 0) T.cl J U aw (aa (pv 1) ai)))
   (aj (aE (bE cA (by rfl) T.list dt (aa (aZ ck (aJ (pv 0) rfl) (pv 1) (λ_ _=>rfl)) ai)))),?_⟩
  refine⟨_,rfl,p,dx,_,rfl,h1,aW _ _ ao ao,_,rfl,p,ow,co,M,os,pg,n,rfl,S,R,G,?_⟩;obtain⟨h0,hj,hn,N⟩:=kZ G;generalize n.toNat=j at *;subst N;obtain⟨v,L,cv⟩:=lK I hg;obtain⟨a,rfl,Y⟩:∃a,v=.ref a/\H a=some (.lst (ns.map V.int)):=by
   cases v with
   |ref a=>exact⟨a,rfl,cv.2⟩
   |_=>exact False.elim cv
  refine⟨_,rfl,p,C,dx,_,_,rfl,h1,T.cl,T.nC,pF _ _,_,rfl,co,cs,j,_,rfl,rfl,bq.of O,ij L,a,_,rfl,.inl (bq.of Y),k⟩
theorem Fl:az ["self","n","cells"] ["self","n","cells"] (aq Dt):=L2.bD
theorem iO {α G:Type}{F:α->G->Prop}:∀{xs:List α}{ys:List G},Paired F xs ys->xs.length=ys.length
 |_,_,.nil=>rfl
 |_,_,.cons _ t=>by rw[length_cons,length_cons,iO t]
theorem Ek {f C:Addr}{fd:FuncData}(F:cL K "put" "Store.put" Dt f fd) (T:Txt K mg C) (R:Md P w K mg base aU 2 C "refuse_free" (fW C)) :
  bf P w K mg base aU 3 f fd ["self","n","cells"] (vZ K C):=by
 refine F.ok Fl (λvs H Q E h=>?_) (λad A outer s H vs Q E hr h=>?_)
 .obtain⟨p,ow,co,c,M,os,pg,n,ns,rfl,_⟩:=h;rfl
 .obtain⟨p,ow,co,c,M,os,pg,n,ns,rfl,S,mw,mc,mt,ab,ac,hl,O,hq,k⟩:=h;obtain⟨⟨dx,h1⟩,L,cs,J,N⟩:=id S;refine⟨_,ag (aL (pm (pv 0) T.cl R hr aw (aa (pv 1) ai)))
   (aj (cG (bE cA (by rfl) T.list dt (aa (pv 2) ai)) (dS (aJ (pv 0) rfl) (pv 1) set_list))),?_⟩
  refine⟨_,rfl,p,dx,_,rfl,h1,aW _ _ ao ao,_,rfl,p,ow,co,M,os,pg,n,rfl,S,hl,O,?_⟩;obtain⟨h0,hj,hn,U⟩:=kZ O;generalize n.toNat=j at *;subst U;have am:=iO N;refine⟨_,rfl,c,_,rfl,.inl hq,λl I=>?_⟩;have G:∀{b:Addr}{o:HO},H b=some o->b≠l:=λe=>ar e I;refine⟨_,rfl,p,C,dx,_,_,rfl,by rw[ah (G h1)];exact h1,T.cl,T.nC,pF _ _,_,rfl,co,cs,j,j,rfl,rfl,by rw[ah (G J)];exact J,?_,?_⟩
  .unfold rT;rw[if_pos af,if_pos af];simp
  .have Y:¬ M l:=λz=>mt l z I;refine k _ ⟨⟨dx,by rw[ah (iy h1 J),ah (G h1)];exact h1⟩,by rw[ah ab,ah (G L)];exact L,⟨_,ae,fZ mc (iY ⟨Y,ae⟩ j (jX I N))⟩⟩ λb o e hb=>?_;rw[ah (λz=>hb (.inr z)),ah (G e)];exact e
theorem IB:az ["self","n"] ["self"] (aq zR):=L2.bD
theorem Jg (os:List Int):CY (.int 0) (os.map V.int)=decide ((0:Int)∈os):=by
 unfold CY;rw[List.any_map,Bool.eq_iff_iff,List.any_eq_true,decide_eq_true_iff];constructor
 .rintro⟨x,G,e⟩;have F:x=0:=by
   have:(x==(0:Int))=true:=e;simpa using this
  subst F;exact G
 .intro h;exact⟨0,h,rfl⟩
theorem AZ {f C:Addr}{fd:FuncData}(F:cL K "take" "Store.take" zR f fd) (T:Txt K mg C):bf P w K mg base aU 1 f fd ["self"] (vm C):=by
 refine F.ok IB (λvs H Q E h=>?_) (λad A outer s H vs Q E hr h=>?_)
 .obtain⟨p,ow,co,M,os,pg,rfl,_⟩:=h;rfl
 .obtain⟨p,ow,co,M,os,pg,rfl,S,mw,mc,mt,ab,ac,hl,k0,k1⟩:=h;obtain⟨⟨dx,h1⟩,I,cs,O,R⟩:=id S;obtain⟨u8,m8,r8⟩:=T.pc;have hs:sizeLine=16777216:=sizeLine_eq;refine⟨_,ag (aS (aC jB ak (aJ (pv 0) rfl) (by with_unfolding_all rfl)) (aj (aE pW)) aF)
   (ag (aK (i:=1) IB.nd rfl (Or.inl rfl) (gI plainAttrs_list PySem.F.slot_list_index PySem.F.type_list_index zM (aJ (pv 0) rfl) (aa ak ai)))
   (ag (cG ak (dS (aJ (pv 0) rfl) (pv 1) set_list))
   (ag (cG (ay iQ (bX (aa ak ai)) (cj (by rfl) m8 r8)) (dS (aJ (pv 0) rfl) (pv 1) set_list))
   (aj (aE (pv 1)))))),?_⟩
  refine⟨_,rfl,p,C,dx,_,_,rfl,h1,T.cl,T.nO,dZ _ _,ow,_,rfl,.inl (bq.of I),rfl,eO _,_,rfl,?_⟩;show if (!CY (.int 0) (os.map V.int))=true then _ else _
  rw[Jg];by_cases c:(0:Int)∈os
  .rw[decide_eq_true c];refine bw ?_;have hj:os.idxOf 0<os.length:=List.idxOf_lt_length_iff.mpr c;have am:=iO R;refine⟨_,rfl,p,C,dx,_,_,rfl,h1,T.cl,T.nO,dZ _ _,.inl ⟨rfl,_,bq.of I⟩,ow,os,0,rfl,rfl,I,c,?_⟩;have k2:=k1 c;generalize os.idxOf 0=j at *;refine⟨_,rfl,p,C,dx,_,_,rfl,h1,T.cl,T.nO,dZ _ _,_,rfl,ow,_,j,j,rfl,rfl,I,?_,?_⟩
   .unfold rT;rw[length_map,if_pos af,if_pos af];simp
   .refine⟨av,λl N=>?_⟩;have lw:l≠ow:=λz=>(by rw[z,ae]at N;cases N);rw[ah lw]at N;refine⟨l,8,_,rfl,rfl,ae,af,af,by rw[length_singleton];omega,λq G=>?_⟩;have U:q≠l:=λz=>(by rw[z,ae]at G;cases G);rw[ah U]at G;have Y:q≠ow:=λz=>(by rw[z,ae]at G;cases G);rw[ah Y]at G;have J:∀{b:Addr}{o:HO},H b=some o->b≠l:=λe=>ar e N;have L:∀{b:Addr}{o:HO},H b=some o->b≠q:=λe=>ar e G;refine⟨_,rfl,p,C,dx,_,_,rfl,by rw[ah (L h1),ah (J h1),ah (iy h1 I)];exact h1,T.cl,T.nC,pF _ _,_,rfl,co,cs,j,j,rfl,rfl,by rw[ah (L O),ah (J O),ah (Ne.symm ab)];exact O,?_,?_⟩
    .unfold rT;rw[if_pos af,if_pos af];simp
    .refine⟨_,rfl,?_⟩;have hM:¬ M q:=λz=>mt q z G;refine k2 _ ⟨⟨dx,by rw[ah (iy h1 O),ah (L h1),ah (J h1),ah (iy h1 I)];exact h1⟩,?_,⟨_,ae,fZ mc (iY ⟨hM,by rw[ae];rfl⟩ j (jX (by rw[ah U,ah Y];exact G) (jX (by rw[ah lw];exact N) (fZ mw R))))⟩⟩ λb o e hb=>?_
     .rw[ah ab,ah (L I),ah (J I),ae,map_set]
     .rw[ah (λz=>hb (.inr z)),ah (L e),ah (J e),ah (λz=>hb (.inl z))];exact e
  .rw[decide_eq_false c];exact k0 c
theorem HN:az ["self","n"] ["self","n"] (aq zj):=L2.bD
theorem BQ {f C:Addr}{fd:FuncData}(F:cL K "more" "Store.more" zj f fd) (T:Txt K mg C) (O:Md P w K mg base aU 2 C "refuse_free" (fW C)) :
  bf P w K mg base aU 3 f fd ["self","n"] (o8 C):=by
 refine F.ok HN (λvs H Q E h=>?_) (λab A outer s H vs Q E hr h=>?_)
 .obtain⟨p,ow,co,M,os,pg,n,rfl,_⟩:=h;rfl
 .obtain⟨p,ow,co,M,os,pg,n,rfl,S,L,mc,U,hl,J,k⟩:=h;obtain⟨⟨dx,h1⟩,G,cs,Y,N⟩:=id S;refine⟨_,ag (aL (pm (pv 0) T.cl O hr aw (aa (pv 1) ai)))
   (aj (pY (aJ (pv 0) rfl) (pv 1) (my) ak Ae set_list)),?_⟩
  refine⟨_,rfl,p,dx,_,rfl,h1,aW _ _ ao ao,_,rfl,p,ow,co,M,os,pg,n,rfl,S,hl,J,?_⟩;obtain⟨h0,I,hn,R⟩:=kZ J;generalize n.toNat=j at *;subst R;refine⟨_,rfl,p,C,dx,_,_,rfl,h1,T.cl,T.nO,dZ _ _,_,rfl,ow,_,j,.int (os.getD j 0),rfl,rfl,bq.of G,ij (by rw[getElem?_map,getElem?_eq_getElem I];simp[I]),_,_,rfl,rfl,ow,_,j,j,rfl,rfl,G,?_,?_⟩
  .unfold rT;rw[length_map,if_pos af,if_pos af];simp
  .rw[uX I]at k;refine k _ ⟨⟨dx,by rw[ah (iy h1 G)];exact h1⟩,?_,⟨cs,by rw[ah (Ne.symm U)];exact Y,fZ L N⟩⟩ λb o e hb=>?_
   .rw[ae,map_set]
   .rw[ah (λz=>hb (.inl z))];exact e
theorem HL:az ["self"] ["self"] (aq yE):=L2.bD
theorem B1 {f C:Addr}{fd:FuncData}(F:cL K "free" "Store.free" yE f fd) (T:Txt K mg C):bf P w K mg base aU 1 f fd ["self"] (oV C):=by
 refine F.ok HL (λvs H Q E h=>?_) (λJ A outer s H vs Q E I h=>?_)
 .obtain⟨p,ow,co,M,os,pg,rfl,_⟩:=h;rfl
 .obtain⟨p,ow,co,M,os,pg,rfl,S,k⟩:=h;obtain⟨⟨dx,h1⟩,G,_⟩:=id S;refine⟨_,aj (aE (gI plainAttrs_list PySem.F.slot_list_count PySem.F.type_list_count za (aJ (pv 0) rfl) (aa ak ai))),?_⟩;exact⟨_,rfl,p,C,dx,_,_,rfl,h1,T.cl,T.nO,dZ _ _,.inl ⟨rfl,_,bq.of G⟩,ow,os,0,rfl,rfl,G,k⟩
end
end St
namespace Tb
open PySem L2
def top (i:Nat):Stmt:=PySem.Challenge.pw_ownroom_k15_owners_counted.main.body.getD i (.Pass ⟨0,0,0,0⟩)
abbrev vA:Stmt:=top 29
abbrev l9:Stmt:=inClass (top 30) 0
abbrev D0:Stmt:=inClass (top 30) 1
abbrev DN:Stmt:=inClass (top 30) 2
abbrev uc:Stmt:=inClass (top 30) 3
abbrev tQ:Stmt:=inClass (top 30) 4
theorem au {H:Hp}{l:Addr}{X:HO}(h:H l=none):a8 H (upd H l X):=λb o e=>by rw[ah (ar e h)];exact e
def Off (B:Addr->Prop) (H H':Hp):Prop:=∀b o,H b=some o->¬ B b->H' b=some o
section
variable {α:Type}
def look (l:List (Int×α)) (k:Int):Option α:=(l.find? λx=>decide (x.1=k)).map (·.2)
def dk (f:α->V) (l:List (Int×α)):List (Key×V):=l.map λx=>(Sum.inl x.1,f x.2)
def aY (l:List (Int×α)) (k:Int) (a:α):List (Int×α):=l.map λx=>if x.1=k then(k,a)else x
def bg (l:List (Int×α)) (k:Int):List (Int×α):=l.filter λx=>decide (x.1≠k)
theorem gW (k:Int):look ([]:List (Int×α)) k=none:=rfl
theorem aM (x:Int×α) (l:List (Int×α)) (k:Int):look (x::l) k=if x.1=k then some x.2 else look l k:=by
 unfold look;rw[find?_cons];by_cases h:x.1=k
 .rw[decide_eq_true h,if_pos h];rfl
 .rw[decide_eq_false h,if_neg h]
theorem cK (f:α->V) (k:Int):∀l:List (Int×α),dF (dk f l) (Sum.inl k)=(look l k).map f
 | []=>rfl
 |x::l=>by
  have F:=cK f k l;show dF ((Sum.inl x.1,f x.2)::dk f l) (Sum.inl k)=_;rw[aM];by_cases h:x.1=k
  .rw[if_pos h,eD (by rw[h])];rfl
  .rw[if_neg h,cg (λe=>h (Sum.inl.inj e)),F]
theorem aA {l:List (Int×α)}{k:Int}{a:α}(h:look l k=some a):(k,a)∈l:=by
 unfold look at h;obtain⟨x,F,e⟩:=Option.map_eq_some_iff.mp h;have h1:=List.mem_of_find?_eq_some F;have h2:x.1=k:=(by simpa using List.find?_some F);rw[<-h2, <-e];exact h1
theorem cp {l:List (Int×α)}{k:Int}(h:look l k=none):¬ k∈l.map (·.1):=by
 unfold look at h;rw[Option.map_eq_none_iff,List.find?_eq_none]at h;rintro m;obtain⟨x,F,e⟩:=List.mem_map.mp m;exact h x F (decide_eq_true e)
theorem bN {l:List (Int×α)}{k:Int}{a:α}(F:(l.map (·.1)).Nodup) (h:(k,a)∈l):look l k=some a:=by
 induction l with
 |nil=>cases h
 |cons x l I =>
  rw[aM];obtain⟨J,G⟩:=List.nodup_cons.mp (show(x.1::l.map (·.1)).Nodup from F);rcases List.mem_cons.mp h with e|m
  .rw[<-e,if_pos rfl]
  .have:¬ x.1=k:=λe=>J (e▸List.mem_map.mpr ⟨_,m,rfl⟩);rw[if_neg this];exact I G m
theorem Ed (f:α->V) (l:List (Int×α)) (k:Int):((dk f l).any λF=>decide (F.1=Sum.inl k))=(look l k).isSome:=by
 rw[ju,cK];cases look l k<;>rfl
theorem cy {f:α->V}{l:List (Int×α)}{k:Int}{a:α}(h:look l k=none):putK (dk f l) (Sum.inl k) (f a)=dk f (l++[(k,a)]):=by
 rw[jg _ (by rw[cK,h];rfl)];unfold dk;rw[map_append];rfl
theorem gU {f:α->V}{l:List (Int×α)}{k:Int}{a b:α}(h:look l k=some b):putK (dk f l) (Sum.inl k) (f a)=dk f (aY l k a):=by
 unfold putK;rw[if_pos (by rw[Ed,h];rfl)];unfold dk aY;rw[map_map,map_map];congr 1;funext x;show(if (Sum.inl x.1:Key)=Sum.inl k then((Sum.inl x.1:Key),f a)else(Sum.inl x.1,f x.2))=((Sum.inl (if x.1=k then(k,a)else x).1:Key),f (if x.1=k then(k,a)else x).2);by_cases e:x.1=k
 .rw[if_pos (by rw[e]),if_pos e,e]
 .rw[if_neg (λz=>e (Sum.inl.inj z)),if_neg e]
theorem eu (f:α->V) (l:List (Int×α)) (k:Int):lX (dk f l) (Sum.inl k)=dk f (bg l k):=by
 unfold lX dk bg;rw[List.filter_map];congr 1;congr 1;funext x;show decide (¬ (Sum.inl x.1:Key)=Sum.inl k)=decide (¬ x.1=k);by_cases e:x.1=k
 .rw[e];simp
 .simp[e]
theorem bM {l:List (Int×α)}{k:Int}{a:α}(j:Int) (h:look l k=none):look (l++[(k,a)]) j=if j=k then some a else look l j:=by
 induction l with
 |nil =>
  show look [(k,a)] j=_;rw[aM,gW];by_cases e:j=k
  .rw[if_pos e,if_pos e.symm]
  .rw[if_neg e,if_neg (Ne.symm e)]
 |cons x l G =>
  rw[aM]at h;by_cases e:x.1=k
  .rw[if_pos e]at h;cases h
  .rw[if_neg e]at h;show look (x::(l++[(k,a)])) j=_;rw[aM,aM,G h];by_cases F:x.1=j
   .rw[if_pos F,if_pos F,if_neg (λz=>e (F.trans z))]
   .rw[if_neg F,if_neg F]
theorem bU {l:List (Int×α)}{k:Int}{a b:α}(j:Int) (h:look l k=some b):look (aY l k a) j=if j=k then some a else look l j:=by
 induction l with
 |nil=>cases h
 |cons x l G =>
  rw[aM]at h;show look ((if x.1=k then(k,a)else x)::aY l k a) j=_;by_cases e:x.1=k
  .rw[if_pos e,aM,aM];by_cases F:j=k
   .rw[if_pos F.symm,if_pos F]
   .rw[if_neg (Ne.symm F),if_neg F,if_neg (λz=>F (z.symm.trans e))];clear G h
    induction l with
    |nil=>rfl
    |cons y l G =>
     show look ((if y.1=k then(k,a)else y)::aY l k a) j=_;by_cases I:y.1=k
     .rw[if_pos I,aM,aM,if_neg (Ne.symm F),if_neg (λz=>F (z.symm.trans I)),G]
     .rw[if_neg I,aM,aM,G]
  .rw[if_neg e]at h;rw[if_neg e,aM,aM,G h];by_cases F:x.1=j
   .rw[if_pos F,if_pos F,if_neg (λz=>e (F.trans z))]
   .rw[if_neg F,if_neg F]
theorem cz (l:List (Int×α)) (k j:Int):look (bg l k) j=if j=k then none else look l j:=by
 induction l with
 |nil =>
  show look [] j=if j=k then none else look [] j
  rw[gW];split<;>rfl
 |cons x l G =>
  unfold bg at *;rw[filter_cons];by_cases e:x.1=k
  .rw[if_neg (by simp[e]),G,aM];by_cases F:j=k
   .rw[if_pos F,if_pos F]
   .rw[if_neg F,if_neg F,if_neg (λz=>F (z.symm.trans e))]
  .rw[if_pos (by simp[e]),aM,aM,G];by_cases F:x.1=j
   .rw[if_pos F,if_pos F,if_neg (λz=>e (F.trans z))]
   .rw[if_neg F,if_neg F]
theorem eU (l:List (Int×α)) (k:Int) (a:α):(aY l k a).map (·.1)=l.map (·.1):=by
 unfold aY;rw[map_map];congr 1;funext x;show(if x.1=k then(k,a)else x).1=x.1;by_cases e:x.1=k
 .rw[if_pos e,e]
 .rw[if_neg e]
theorem jf (l:List (Int×α)) (k:Int):(bg l k).map (·.1)=(l.map (·.1)).filter λx=>decide (x≠k):=by
 unfold bg;rw[List.filter_map];rfl
theorem gz (l:List (Int×α)) (k:Int) (a:α):(aY l k a).length=l.length:=by unfold aY;rw[length_map]
theorem mem_set {l:List (Int×α)}{k:Int}{a:α}{x:Int×α}(h:x∈aY l k a):x=(k,a)\/(x∈l/\x.1≠k):=by
 unfold aY at h;obtain⟨y,F,e⟩:=List.mem_map.mp h;by_cases c:y.1=k
 .rw[if_pos c]at e;exact .inl e.symm
 .rw[if_neg c]at e;subst e;exact .inr ⟨F,c⟩
theorem cf {l:List (Int×α)}{k:Int}{x:Int×α}(h:x∈bg l k):x∈l/\x.1≠k:=by
 unfold bg at h;obtain⟨h1,h2⟩:=List.mem_filter.mp h;exact⟨h1,of_decide_eq_true h2⟩
theorem cm (f:α->V) (l:List (Int×α)):(dk f l).length=l.length:=by unfold dk;rw[length_map]
theorem lu {l:List (Int×α)}{k:Int}{a:α}(F:(l.map (·.1)).Nodup) (h:look l k=some a):(bg l k).length+1=l.length:=by
 induction l with
 |nil=>cases h
 |cons x l J =>
  obtain⟨L,G⟩:=List.nodup_cons.mp (show(x.1::l.map (·.1)).Nodup from F);rw[aM]at h;unfold bg at *;rw[filter_cons];by_cases e:x.1=k
  .rw[if_neg (by simp[e])];have:l.filter (λx=>decide (x.1≠k))=l:=by
    rw[filter_eq_self];intro y I;have:y.1≠k:=λz=>L (by rw[e, <-z];exact List.mem_map.mpr ⟨_,I,rfl⟩);simpa using this
   rw[this,length_cons]
  .rw[if_neg e]at h;rw[if_pos (by simpa using e),length_cons,length_cons,J G h]
end
abbrev sO:=List (Int×(Addr×List V))
abbrev ja:=List (Int×(Addr×sO))
def fS:Addr×List V->V:=λx=>.ref x.1
def fF:Addr×sO->V:=λx=>.ref x.1
def yA:V->Bool
 |.int _=>true
 |.str _=>true
 |_=>false
def lN (xs:List V):Bool:=xs.all yA&&decide (xs.length<1000)
theorem BB {xs:List V}(h:lN xs=true):xs.all yA=true:=(Bool.and_eq_true_iff.mp h).1
theorem BR {xs:List V}(h:lN xs=true):xs.length<1000:=of_decide_eq_true (Bool.and_eq_true_iff.mp h).2
def jG (fs:Addr):List (Str×V):=bo "first_step" (.ref fs) []
theorem jT (fs:Addr):(jG fs).lookup ("first_step" : Str)=some (.ref fs):=by
 unfold jG;rw[aD,if_pos rfl]
theorem aW (fs:Addr) {m:Str}(h:¬ m = "first_step"):(jG fs).lookup m=none:=by
 unfold jG;rw[aD,if_neg h]
 all_goals rfl
structure gE (H:Hp) (k:Int) (sec:sO):Prop where
 ht:∀y∈sec,H y.2.1=some (.tup y.2.2)/\lN y.2.2=true/\y.1/8=k/\0<=y.1/\y.1<64
 ns:(sec.map (·.1)).Nodup
 ne:sec≠[]
structure TabAt (C:Addr) (H:Hp) (p fs:Addr) (tb:ja):Prop where
 ob:∃dx,H p=some (.ins C dx (jG fs))
 hf:H fs=some (.dK (dk fF tb))
 hd:∀x∈tb,H x.2.1=some (.dK (dk fS x.2.2))
 hs:∀x∈tb,gE H x.1 x.2.2
 nk:(tb.map (·.1)).Nodup
 na:∀x∈tb,∀y∈tb,x.2.1=y.2.1->x.1=y.1
 nf:∀x∈tb,x.2.1≠fs
def cW (tb:ja) (q:Int):Option (List V):=(look tb (q/8)).bind λx=>(look x.2 q).map (·.2)
def eg (fs:Addr) (tb:ja):Addr->Prop:=λb=>b=fs\/∃x∈tb,b=x.2.1
theorem gE.keep {H H':Hp}{k:Int}{G:sO}(S:gE H k G) (h:∀b xs,H b=some (.tup xs)->H' b=some (.tup xs)):gE H' k G :=
 ⟨λy F=>⟨h _ _ (S.ht y F).1,(S.ht y F).2⟩,S.ns,S.ne⟩
theorem TabAt.same {C:Addr}{H H':Hp}{p fs:Addr}{tb:ja}(T:TabAt C H p fs tb) (s:a8 H H'):TabAt C H' p fs tb:=by
 obtain⟨⟨dx,h1⟩,h2,N,G,L,J,I⟩:=T;exact⟨⟨dx,s _ _ h1⟩,s _ _ h2,λx F=>s _ _ (N x F),λx F=>(G x F).keep λb xs e=>s _ _ e,L,J,I⟩
theorem TabAt.put {C:Addr}{H H':Hp}{p fs d:Addr}{tb:ja}{k:Int}{G sec':sO}(T:TabAt C H p fs tb) (L:look tb k=some (d,G)) (o:Off (· = d) H H') (hd:H' d=some (.dK (dk fS sec'))) (S:gE H' k sec'):TabAt C H' p fs (aY tb k (d,sec')):=by
 obtain⟨⟨dx,h1⟩,h2,R,h4,h5,Y,N⟩:=T;have I:=aA L;have U:=R _ I;have O:∀x∈tb,x.1≠k->x.2.1≠d:=λx F hk e=>hk (Y x F _ I e);have same:dk fF (aY tb k (d,sec'))=dk fF tb:=by
  have e:=gU (f:=fF) (a:=(d,sec')) L;rw[<-e];have e2:=gU (f:=fF) (a:=(d,G)) L;have e3:fF (d,sec')=fF (d,G):=rfl;rw[e3,e2];unfold dk aY;rw[map_map];refine map_congr_left λx F=>?_;show((Sum.inl (if x.1=k then(k,(d,G))else x).1:Key),fF (if x.1=k then(k,(d,G))else x).2)=(Sum.inl x.1,fF x.2);by_cases c:x.1=k
  .rw[if_pos c,c];have:look tb k=some x.2:=bN h5 (by rw[<-c];exact F);rw[L]at this;rw[<-Option.some.inj this]
  .rw[if_neg c]
 refine⟨⟨dx,o _ _ h1 (cE h1 U (by intro z;cases z))⟩,by rw[same];exact o _ _ h2 (Ne.symm (N _ I)),λx F=>?_,λx F=>?_,by rw[eU];exact h5,λx F y J e=>?_,λx F=>?_⟩
 .rcases mem_set F with rfl|⟨F,c⟩
  .exact hd
  .exact o _ _ (R x F) (O x F c)
 .rcases mem_set F with rfl|⟨F,c⟩
  .exact S
  .exact(h4 x F).keep λb xs e=>o _ _ e (cE e U (by intro z;cases z))
 .rcases mem_set F with rfl|⟨F,c⟩<;>rcases mem_set J with rfl|⟨J,c'⟩
  .rfl
  .exact absurd e.symm (O y J c')
  .exact absurd e (O x F c)
  .exact Y x F y J e
 .rcases mem_set F with rfl|⟨F,c⟩
  .exact(N _ I:d≠fs)
  .exact N x F
theorem TabAt.add {C:Addr}{H H':Hp}{p fs d:Addr}{tb:ja}{k:Int}{sec':sO}(T:TabAt C H p fs tb) (U:look tb k=none) (I:H d=none) (o:Off (· = fs) H H') (R:H' fs=some (.dK (dk fF (tb++[(k,(d,sec'))])))) (hd:H' d=some (.dK (dk fS sec'))) (S:gE H' k sec') :
  TabAt C H' p fs (tb++[(k,(d,sec'))]):=by
 obtain⟨⟨dx,h1⟩,h2,L,O,h5,Y,J⟩:=T;have N:∀x∈tb,x.2.1≠d:=λx F=>ar (L x F) I;have ab:d≠fs:=λe=>(by rw[e,h2]at I;cases I);refine⟨⟨dx,o _ _ h1 (cE h1 h2 (by intro z;cases z))⟩,R,λx F=>?_,λx F=>?_,?_,λx F y G e=>?_,λx F=>?_⟩
 .rcases List.mem_append.mp F with F|F
  .exact o _ _ (L x F) (J x F)
  .rw[List.mem_singleton.mp F];exact hd
 .rcases List.mem_append.mp F with F|F
  .exact(O x F).keep λb xs e=>o _ _ e (cE e h2 (by intro z;cases z))
  .rw[List.mem_singleton.mp F];exact S
 .rw[map_append];exact gv h5 (cp U)
 .rcases List.mem_append.mp F with F|F<;>rcases List.mem_append.mp G with G|G
  .exact Y x F y G e
  .rw[List.mem_singleton.mp G]at e;exact absurd e (N x F)
  .rw[List.mem_singleton.mp F]at e;exact absurd e.symm (N y G)
  .rw[List.mem_singleton.mp F,List.mem_singleton.mp G]
 .rcases List.mem_append.mp F with F|F
  .exact J x F
  .rw[List.mem_singleton.mp F];exact ab
theorem TabAt.del {C:Addr}{H H':Hp}{p fs d:Addr}{tb:ja}{k:Int}{ab:sO}(T:TabAt C H p fs tb) (U:look tb k=some (d,ab)) (o:Off (λb=>b=d\/b=fs) H H') (S:H' fs=some (.dK (dk fF (bg tb k)))):TabAt C H' p fs (bg tb k):=by
 obtain⟨⟨dx,h1⟩,h2,L,O,Y,J,I⟩:=T;have G:=aA U;have N:=L _ G;refine⟨⟨dx,o _ _ h1 λz=>z.elim (cE h1 N (by intro z;cases z)) (cE h1 h2 (by intro z;cases z))⟩,S,λx F=>?_,λx F=>?_,?_,λx F y R e=>J x (cf F).1 y (cf R).1 e,λx F=>I x (cf F).1⟩
 .obtain⟨F,c⟩:=cf F;exact o _ _ (L x F) λz=>z.elim (λe=>c (J x F _ G e)) (I x F)
 .obtain⟨F,c⟩:=cf F;exact(O x F).keep λb xs e=>o _ _ e λz=>z.elim (cE e N (by intro z;cases z)) (cE e h2 (by intro z;cases z))
 .rw[jf];exact Y.filter _
theorem AE:∀(n:Nat) (a:Int) (l:List Int),l.Nodup->(∀x∈l,a<=x/\x<a+n)->l.length<=n
 |0,a,l,_,h=>by
  cases l with
  |nil=>exact le_refl _
  |cons x r=>have:=h x mem_cons_self;omega
 |n+1,a,l,F,h=>by
  have I:=AE n a (l.filter λx=>decide (x≠a+n)) (F.filter _) λx O=>by
   obtain⟨h1,h2⟩:=List.mem_filter.mp O;have S:=h x h1;have R:x≠a+n:=of_decide_eq_true h2;omega
  have e:(l.filter λx=>decide (x≠a+n)).length+1>=l.length:=by
   clear I h
   induction l with
   |nil=>simp
   |cons x r N =>
    obtain⟨J,L⟩:=List.nodup_cons.mp F;rw[filter_cons];by_cases c:x=a+n
    .rw[if_neg (by simp[c])];have:r.filter (λx=>decide (x≠a+n))=r:=by
      rw[filter_eq_self];intro y G;have:y≠a+n:=λe=>J (by rw[c, <-e];exact G);simpa using this
     rw[this];simp
    .rw[if_pos (by simpa using c)];have:=N L;rw[length_cons,length_cons];omega
  omega
theorem gE.len {H:Hp}{k:Int}{F:sO}(S:gE H k F):F.length<=64:=by
 have:=AE 64 0 (F.map (·.1)) S.ns λx I=>by
  obtain⟨y,G,rfl⟩:=List.mem_map.mp I;have:=S.ht y G;omega
 rwa [length_map]at this
theorem TabAt.kb {C:Addr}{H:Hp}{p fs:Addr}{tb:ja}(T:TabAt C H p fs tb):∀x∈tb,0<=x.1/\x.1<8:=λx F=>by
 have S:=T.hs x F;cases e:x.2.2 with
 |nil=>exact absurd e S.ne
 |cons y r =>
  have:=S.ht y (by rw[e];exact mem_cons_self);omega
theorem TabAt.len {C:Addr}{H:Hp}{p fs:Addr}{tb:ja}(T:TabAt C H p fs tb):tb.length<=8:=by
 have:=AE 8 0 (tb.map (·.1)) T.nk λx G=>by
  obtain⟨y,F,rfl⟩:=List.mem_map.mp G;have:=T.kb y F;omega
 rwa [length_map]at this
theorem TabAt.vL {C:Addr}{H:Hp}{p fs:Addr}{tb:ja}(T:TabAt C H p fs tb) {q:Int}(h:cW tb q≠none):0<=q/\q<64:=by
 unfold cW at h;cases e:look tb (q/8)with
 |none=>rw[e]at h;exact absurd rfl h
 |some a =>
  rw[e,bind_some]at h;cases F:look a.2 q with
  |none=>rw[F]at h;exact absurd rfl h
  |some b =>
   have:=(T.hs _ (aA e)).ht _ (aA F);omega
end Tb
namespace L2
open PySem PySem.Spec PyProof.Rows
section
variable {X:Cx}
theorem nV {α F:Type}(f:α->F):∀(l:List α) (i:Nat),(l.map f).eraseIdx i=(l.eraseIdx i).map f
 | [],_=>rfl
 |_::_,0=>rfl
 |a::l,i+1=>by
  show f a::(l.map f).eraseIdx i=f a::(l.eraseIdx i).map f;rw[nV f l i]
inductive vU (x:V) (vs:List V) (H:Hp) (Q:VK):Prop
 |mk (l:Addr) (ns:List Int) (k:Int) (_:x=.ref l) (_:vs=[.int k]) (_:H l=some (.lst (ns.map V.int))) (_:k∈ns) (_:Q .non (upd H l (.lst ((ns.erase k).map V.int)))):vU x vs H Q
theorem oH:DB X "list.remove" vU:=by
 intro pins s σ H x vs v us Q I U rv h;obtain⟨l,ns,k,rfl,rfl,N,L,q⟩:=h;cases U;obtain⟨u,rfl,R⟩:=rv.one;obtain⟨t,rfl⟩:=R;obtain⟨z,its,n,r,J,e⟩:=I.mq N;have hi:=intsAre_of r;have S:=hi.length;have ac:=J;rw[length_map]at J z;have hs:sizeLine=16777216:=sizeLine_eq;have G:ns.idxOf k<ns.length:=List.idxOf_lt_length_iff.mpr L;refine call_meets slot_list_remove ⟨_,e,rfl⟩ PySem.F.entry_list_remove (PySem.F.args_list_remove_2 _ _)
  (MeetsSeq.list_remove l its.toArray n (.int k t) (isInt k) (λy O=>eq_isInt k t hi y (by simpa using O)) (ns.idxOf k) (by simpa[S]using G) ?_ ?_ (by rw[size_toArray];omega)) ⟨e,?_⟩
 .show isInt k its[ns.idxOf k]=true;rw[isInt_at k hi _ af G];simpa using List.getElem_idxOf G
 .intro j ab Y;show isInt k its[j]=false;rw[isInt_at k hi j (by simpa using ab) af];exact ne_of_lt_idxOf Y _
 .refine⟨.non,_,I.B5 (its':=its.eraseIdx (ns.idxOf k)) N e ?_ ?_ ?_,?_,q⟩
  .show its.toArray.eraseIdxIfInBounds _=(its.eraseIdx _).toArray;rw[List.eraseIdxIfInBounds_toArray]
  .rw[List.erase_eq_eraseIdx_of_idxOf rfl, <-nV];exact r.eraseIdx _
  .rw[length_map];have:=List.length_erase_of_mem L;omega
  .trivial
end
def iE (K:Frag) (H:Hp) (a:Addr) (xs:List V):Prop:=H a=some (.tup xs)\/bR K (λ_=>none) a xs
theorem iE.sq {K:Frag}{H:Hp}{a:Addr}{xs:List V}(h:iE K H a xs):bR K H a xs:=by
 rcases h with h|h
 .exact bR.of h
 .rcases h with h|h
  .rcases h with h|⟨o,h⟩
   .cases h
   .cases h
  .exact .inr h
theorem iE.keep {K:Frag}{H H':Hp}{a:Addr}{xs:List V}(h:iE K H a xs) (s:∀o,H a=some o->H' a=some o):iE K H' a xs:=by
 rcases h with h|h
 .exact .inl (s _ h)
 .exact .inr h
theorem iE.off {K:Frag}{H H':Hp}{a:Addr}{xs:List V}(h:iE K H a xs) (s:H a=some (.tup xs)->H' a=some (.tup xs)):iE K H' a xs:=by
 rcases h with h|h
 .exact .inl (s h)
 .exact .inr h
theorem xt {X:Cx}:dr X (.builtin "isinstance") (λxs H Q=>(∃x n t b,xs=[x,.ty n]/\jI X.K H x t/\kitOne X.K t (.type n)=some b/\Q (.bl b) H)\/∃a ys,xs=[.ref a,.ty "tuple"]/\bR X.K H a ys/\Q (.bl true) H):=by
 intro pins s σ H xs us Q I r h;rcases h with h|⟨a,ys,rfl,F,q⟩
 .exact dn pins s σ H xs us Q I r h
 .obtain⟨u,c,rfl,J,G⟩:=vals2 r;obtain rfl:c=Value.type "tuple" := G;cases(show u=Value.ref a from J);obtain⟨its,_,⟨o,h1,h2,_⟩,_⟩:=I.tuple F;exact kia_one kitx_tuple I.kh ⟨o,h1,h2⟩ (zf _) (λz=>nomatch z) λtk=>⟨.bl true,H,I.tok _,rfl,q⟩
end L2
namespace Tb
open PySem L2
structure yp (mg:Str->Option Value):Prop where
 yH:mg "isinstance" = none
 tuple:mg "tuple" = none
 list:mg "list" = none
 dict:mg "dict" = none
 len:mg "len" = none
 sorted:mg "sorted" = none
def zT:V->Bool
 |.int _=>true
 |.str _=>true
 |.non=>true
 |_=>false
inductive qH (vs:List V) (H:Hp) (Q:VK) (e3:XK):Prop
 |mk (v:_) (_:vs=[v]) (_:zT v=true) (_:Q v H):qH vs H Q e3
def um (K:Frag):Sp:=λvs H Q _=>(∃v,vs=[v]/\zT v=true/\Q v H)\/∃(a:Addr) (xs:List V),vs=[.ref a]/\iE K H a xs/\lN xs=true/\∀H' l,a8 H H'->H l=none->H' l=some (.tup xs)->Q (.ref l) H'
theorem BH:∀{v:V},yA v=true->zT v=true
 |.int _,_=>rfl
 |.str _,_=>rfl
section
variable {P:Program}{w:World}{K:Frag}{mg:Str->Option Value}{base:Heap}
theorem Gw:az ["value","copied","key"] ["value"] (aq vA):=L2.bD
theorem yK {f:Addr}{fd:FuncData}(F:cL K "own_copy" "own_copy" vA f fd) (T:yp mg):bf P w K mg base aU 1 f fd ["value"] qH:=by
 refine F.ok Gw (λvs H Q E h=>?_) (λJ A outer s H vs Q E I h=>?_)
 .obtain⟨v,rfl,_⟩:=h;rfl
 .obtain⟨v,rfl,G,k⟩:=h;refine⟨_,(ag (aS (fQ (aN dn (by rfl) T.yH bO (aa (pv 0) (aa (d0 (v:=.ty "tuple") (by rfl) T.tuple jD rfl) ai)))) (aj dP) aF)
   (ag (aS (fQ (aN dn (by rfl) T.yH bO (aa (pv 0) (aa (d0 (v:=.ty "list") (by rfl) T.list dt rfl) ai)))) (aj dP) aF)
   (ag (aS (fQ (aN dn (by rfl) T.yH bO (aa (pv 0) (aa (d0 (v:=.ty "dict") (by rfl) T.dict qg rfl) ai)))) (ag dP
   (ag dP
   (aj dP))) aF)
   (aj (aE (pv 0)))))),?_⟩
  cases v with
  |int i=>exact⟨_,rfl,.int i,"tuple",_,false,rfl,.int i,zD _,false,rfl,bw ⟨_,rfl,.int i,"list",_,false,rfl,.int i,yM _,false,rfl,bw ⟨_,rfl,.int i,"dict",_,false,rfl,.int i,yj _,false,rfl,bw ⟨_,rfl,k⟩⟩⟩⟩
  |str i=>exact⟨_,rfl,.str i,"tuple",_,false,rfl,.str i,zP _,false,rfl,bw ⟨_,rfl,.str i,"list",_,false,rfl,.str i,yd _,false,rfl,bw ⟨_,rfl,.str i,"dict",_,false,rfl,.str i,zZ _,false,rfl,bw ⟨_,rfl,k⟩⟩⟩⟩
  |non=>exact⟨_,rfl,.non,"tuple",_,false,rfl,.non,zB _,false,rfl,bw ⟨_,rfl,.non,"list",_,false,rfl,.non,yL _,false,rfl,bw ⟨_,rfl,.non,"dict",_,false,rfl,.non,yG _,false,rfl,bw ⟨_,rfl,k⟩⟩⟩⟩
  |_=>cases G
theorem BE {f:Addr}{fd:FuncData}(F:cL K "own_copy" "own_copy" vA f fd) (T:yp mg) (G0:Df P w K mg base aU 1 "own_copy" qH):bf P w K mg base aU 2 f fd ["value"] (um K):=by
 refine F.ok Gw (λvs H Q E h=>?_) (λac A outer s H vs Q E hr h=>?_)
 .rcases h with⟨v,rfl,_⟩|⟨a,xs,rfl,_⟩
  .rfl
  .rfl
 .refine⟨_,(ag (aS (fQ (aN xt (by rfl) T.yH bO (aa (pv 0) (aa (d0 (v:=.ty "tuple") (by rfl) T.tuple jD rfl) ai)))) (aj (aE (bE nj (by rfl) T.tuple jD (aa (gp (cl:=[]) (caps:=[]) ⟨rfl,ao,ao,rfl,by kernel_rfl,by intro p I;simp at I,by kernel_rfl,by intro p I;simp at I,ao⟩ rfl (CV (pv 0)) (λ_ _ _ _=>fm) (λ_ _ _ _=>(pc G0 hr aw (aa (pv 0) ai)))) ai)))) aF)
   (ag (aS (fQ (aN dn (by rfl) T.yH bO (aa (pv 0) (aa (d0 (v:=.ty "list") (by rfl) T.list dt rfl) ai)))) (aj dP) aF)
   (ag (aS (fQ (aN dn (by rfl) T.yH bO (aa (pv 0) (aa (d0 (v:=.ty "dict") (by rfl) T.dict qg rfl) ai)))) (ag dP
   (ag dP
   (aj dP))) aF)
   (aj (aE (pv 0)))))),?_⟩
  rcases h with⟨v,rfl,N,k⟩|⟨a,xs,rfl,J,L,k⟩
  .cases v with
   |int i=>exact⟨_,rfl,.inl ⟨.int i,"tuple",_,false,rfl,.int i,zD _,false,rfl,bw ⟨_,rfl,.int i,"list",_,false,rfl,.int i,yM _,false,rfl,bw ⟨_,rfl,.int i,"dict",_,false,rfl,.int i,yj _,false,rfl,bw ⟨_,rfl,k⟩⟩⟩⟩⟩
   |str i=>exact⟨_,rfl,.inl ⟨.str i,"tuple",_,false,rfl,.str i,zP _,false,rfl,bw ⟨_,rfl,.str i,"list",_,false,rfl,.str i,yd _,false,rfl,bw ⟨_,rfl,.str i,"dict",_,false,rfl,.str i,zZ _,false,rfl,bw ⟨_,rfl,k⟩⟩⟩⟩⟩
   |non=>exact⟨_,rfl,.inl ⟨.non,"tuple",_,false,rfl,.non,zB _,false,rfl,bw ⟨_,rfl,.non,"list",_,false,rfl,.non,yL _,false,rfl,bw ⟨_,rfl,.non,"dict",_,false,rfl,.non,yG _,false,rfl,bw ⟨_,rfl,k⟩⟩⟩⟩⟩
   |_=>cases N
  .have hs:sizeLine=16777216:=sizeLine_eq;have R:=BB L;have hn:=BR L;refine⟨_,rfl,.inr ⟨a,xs,rfl,J.sq,true,rfl,dG ?_⟩⟩;refine⟨_,rfl,a,rfl,⟨xs,J.sq⟩,?_⟩;refine xW (xs:=xs) (λi ys H'=>H'=H/\ys=xs.take i) ⟨rfl,rfl⟩ (λi ys H' _ p=>by rw[p.1];exact J.sq) (λi x ys H' hi p=>?_) (λys H' p l Y=>?_)
   .obtain⟨rfl,rfl⟩:=p;obtain⟨ab,S⟩:=List.getElem?_eq_some_iff.mp hi;refine⟨_,rfl,x,rfl,BH (List.all_eq_true.mp R x (S▸getElem_mem ab)),?_,rfl,?_⟩
    .rw[length_take];omega
    .rw[take_succ,hi];rfl
   .obtain⟨rfl,rfl⟩:=p;rw[take_length];refine⟨l,xs,rfl,.inl ⟨bq.of ae,λl2 G=>?_⟩⟩;have U:l2≠l:=λz=>(by rw[z,ae]at G;cases G);have O:H' l2=none:=(by rw[ah U]at G;exact G);exact k _ l2 ((au Y).trans (au G)) O ae
end
structure Txt (K:Frag) (mg:Str->Option Value) (C:Addr):Prop where
 cl:qR K C
 nF:cQ K C "first_step"
 sp:∃u,mg "STEP_PAGES" = some u/\RelV (.int 8) u
def FG (H:Hp) (v:V):Option (List V)->Prop
 |none=>v=.non
 |some xs=>∃t,v=.ref t/\H t=some (.tup xs)
inductive gT (C:Addr) (vs:List V) (H:Hp) (Q:VK) (e3:XK):Prop
 |mk (p dx:Addr) (_:vs=[.ref p]) (_:H p=some (.ins C dx [])) (_:∀(fs:Addr) (H':Hp),H fs=none->TabAt C H' p fs []->Off (· = p) H H'->Q .non H'):gT C vs H Q e3
inductive mD (C:Addr) (vs:List V) (H:Hp) (Q:VK) (e3:XK):Prop
 |mk (p fs:Addr) (tb:ja) (q:Int) (_:vs=[.ref p,.int q]) (_:TabAt C H p fs tb) (_:∀H' v,a8 H H'->FG H' v (cW tb q)->Q v H'):mD C vs H Q e3
inductive rO (K:Frag) (C:Addr) (vs:List V) (H:Hp) (Q:VK) (e3:XK):Prop
 |mk (p fs t:Addr) (tb:ja) (q:Int) (xs:List V) (_:vs=[.ref p,.int q,.ref t]) (_:TabAt C H p fs tb) (_:0<=q) (_:q<64) (_:iE K H t xs) (_:lN xs=true) (_:∀H' tb',TabAt C H' p fs tb'->(∀j,cW tb' j=if j=q then some xs else cW tb j)->Off (eg fs tb) H H'->(∀b,eg fs tb' b->eg fs tb b\/H b=none)->Q .non H'):rO K C vs H Q e3
inductive pH (C:Addr) (vs:List V) (H:Hp) (Q:VK) (e3:XK):Prop
 |mk (p fs:Addr) (tb:ja) (q:Int) (_:vs=[.ref p,.int q]) (_:TabAt C H p fs tb) (_:∀H' tb',TabAt C H' p fs tb'->(∀j,cW tb' j=if j=q then none else cW tb j)->(tb'.length=tb.length\/tb'.length+1=tb.length)->Off (eg fs tb) H H'->(∀b,eg fs tb' b->eg fs tb b\/H b=none)->Q .non H'):pH C vs H Q e3
def fP (tb:ja):List Int:=tb.flatMap λx=>x.2.2.map (·.1)
inductive eM (C:Addr) (vs:List V) (H:Hp) (Q:VK) (e3:XK):Prop
 |mk (p fs:Addr) (tb:ja) (_:vs=[.ref p]) (_:TabAt C H p fs tb) (_:∀H' l (ns:List Int),a8 H H'->H l=none->H' l=some (.lst (ns.map V.int))->ns.Perm (fP tb)->ns.Pairwise (· <= ·)->Q (.ref l) H'):eM C vs H Q e3
theorem rl {C:Addr}{H:Hp}{p fs:Addr}{tb:ja}(T:TabAt C H p fs tb) (q:Int):q∈fP tb↔cW tb q≠none:=by
 unfold fP;rw[List.mem_flatMap];constructor
 .rintro⟨x,I,J⟩;obtain⟨y,F,rfl⟩:=List.mem_map.mp J;have S:=T.hs x I;unfold cW;rw[(S.ht y F).2.2.1,bN T.nk I,bind_some,bN S.ns F];simp
 .intro h;unfold cW at h;cases e:look tb (q/8)with
  |none=>rw[e]at h;exact absurd rfl h
  |some a =>
   rw[e,bind_some]at h;cases G:look a.2 q with
   |none=>rw[G]at h;exact absurd rfl h
   |some b=>exact⟨_,aA e,List.mem_map.mpr ⟨_,aA G,rfl⟩⟩
theorem jL {C:Addr}{H:Hp}{p fs:Addr}{tb:ja}(T:TabAt C H p fs tb):(fP tb).Nodup:=by
 have hs:=T.hs;have N:=T.nk;clear T
 induction tb with
 |nil=>exact nodup_nil
 |cons x r S =>
  obtain⟨R,n2⟩:=List.nodup_cons.mp (show(x.1::r.map (·.1)).Nodup from N);show(x.2.2.map (·.1)++fP r).Nodup;rw[List.nodup_append];refine⟨(hs x mem_cons_self).ns,S (λy F=>hs y (mem_cons_of_mem _ F)) n2,λa ha b G e=>R ?_⟩;obtain⟨y,F,rfl⟩:=List.mem_map.mp ha;obtain⟨z,I,G⟩:=List.mem_flatMap.mp G;obtain⟨J,Y,rfl⟩:=List.mem_map.mp G;have O:=((hs x mem_cons_self).ht y F).2.2.1;have U:=((hs z (mem_cons_of_mem _ I)).ht J Y).2.2.1;have L:y.1=J.1:=e;rw[<-O,L,U];exact List.mem_map.mpr ⟨z,I,rfl⟩
theorem qY {C:Addr}{H:Hp}{p fs:Addr}{tb:ja}(T:TabAt C H p fs tb) (i:Nat):(fP (tb.take i)).length<=64:=by
 have h1:(fP tb).length<=64:=AE 64 0 (fP tb) (jL T) λx F=>by
  have:=T.vL ((rl T x).mp F);omega
 have h2:(fP (tb.take i)).length<=(fP tb).length:=by
  conv=>rhs;rw[<-take_append_drop i tb]
  unfold fP;rw[flatMap_append,length_append];omega
 omega
theorem rJ {tb:ja}{q:Int}{d:Addr}{F:sO}(h:look tb (q/8)=some (d,F)):cW tb q=(look F q).map (·.2):=by
 unfold cW;rw[h,bind_some]
theorem rq {tb:ja}{q:Int}(h:look tb (q/8)=none):cW tb q=none:=by
 unfold cW;rw[h];rfl
theorem oj {tb:ja}{k q:Int}{d:Addr}{F sec':sO}{o:Option (Addr×List V)}(G:look tb k=some (d,F)) (I:q/8=k) (h:∀j,look sec' j=if j=q then o else look F j) (j:Int) :
  cW (aY tb k (d,sec')) j=if j=q then o.map (·.2)else cW tb j:=by
 unfold cW;rw[bU (j/8) G];by_cases c:j/8=k
 .rw[if_pos c,bind_some,h j,c,G,bind_some];by_cases e:j=q
  .rw[if_pos e,if_pos e]
  .rw[if_neg e,if_neg e]
 .rw[if_neg c,if_neg (λe=>c (by rw[e];exact I))]
theorem xF {tb:ja}{k q:Int}{d:Addr}{sec':sO}{o:Option (Addr×List V)}(F:look tb k=none) (G:q/8=k) (h:∀j,look sec' j=if j=q then o else none) (j:Int) :
  cW (tb++[(k,(d,sec'))]) j=if j=q then o.map (·.2)else cW tb j:=by
 unfold cW;rw[bM (j/8) F];by_cases c:j/8=k
 .rw[if_pos c,bind_some,h j,c,F];by_cases e:j=q
  .rw[if_pos e,if_pos e]
  .rw[if_neg e,if_neg e];rfl
 .rw[if_neg c,if_neg (λe=>c (by rw[e];exact G))]
theorem wD {tb:ja}{k q:Int}{d:Addr}{F:sO}(G:look tb k=some (d,F)) (I:q/8=k) (h:∀j,j≠q->look F j=none) (j:Int) :
  cW (bg tb k) j=if j=q then none else cW tb j:=by
 unfold cW;rw[cz];by_cases c:j/8=k
 .rw[if_pos c,c,G];by_cases e:j=q
  .rw[if_pos e];rfl
  .rw[if_neg e,bind_some,h j e];rfl
 .rw[if_neg c,if_neg (λe=>c (by rw[e];exact I))]
theorem AN {H:Hp}{k q:Int}{G:sO}{l:Addr}{xs:List V}(S:gE H k G) (J:H l=some (.tup xs)) (L:lN xs=true) (I:q/8=k) (N:0<=q) (h1:q<64) :
  ∃sec',putK (dk fS G) (Sum.inl q) (.ref l)=dk fS sec'/\(∀j,look sec' j=if j=q then some (l,xs)else look G j)/\gE H k sec':=by
 cases e:look G q with
 |none =>
  refine⟨G++[(q,(l,xs))],cy (f:=fS) (a:=(l,xs)) e,λj=>bM j e,λy F=>?_,?_,by simp⟩
  .rcases List.mem_append.mp F with F|F
   .exact S.ht y F
   .rw[List.mem_singleton.mp F];exact⟨J,L,I,N,h1⟩
  .rw[map_append];exact gv S.ns (cp e)
 |some b =>
  refine⟨aY G q (l,xs),gU (f:=fS) (a:=(l,xs)) e,λj=>bU j e,λy F=>?_,?_,?_⟩
  .rcases mem_set F with rfl|⟨F,_⟩
   .exact⟨J,L,I,N,h1⟩
   .exact S.ht y F
  .rw[eU];exact S.ns
  .intro z;have:=gz G q (l,xs);rw[z]at this;exact S.ne (List.length_eq_zero_iff.mp this.symm)
theorem gN {B:Addr->Prop}{H H' F:Hp}(s:a8 H H') (o:Off B H' F):Off B H F:=λb u e G=>o b u (s b u e) G
theorem pC {B:Addr->Prop}{H:Hp}{a:Addr}{X:HO}(h:B a):Off B H (upd H a X):=λb u e F=>by rw[ah (λz=>F (by rw[z];exact h))];exact e
theorem Off.mono {B F:Addr->Prop}{H H':Hp}(o:Off B H H') (h:∀b,B b->F b):Off F H H':=λb u e G=>o b u e λz=>G (h b z)
theorem DC {C:Addr}{H:Hp}{p fs:Addr}{tb:ja}(T:TabAt C H p fs tb):(dk fF tb).length<sizeLine:=by
 have h:=T.len;have hs:sizeLine=16777216:=sizeLine_eq;rw[cm];omega
theorem CN {H:Hp}{k:Int}{F:sO}(S:gE H k F):(dk fS F).length<sizeLine:=by
 have h:=S.len;have hs:sizeLine=16777216:=sizeLine_eq;rw[cm];omega
theorem wo {fs d:Addr}{tb:ja}{k:Int}{I sec':sO}(G:(k,(d,I))∈tb) {b:Addr}(h:eg fs (aY tb k (d,sec')) b):eg fs tb b:=by
 rcases h with h|⟨x,F,h⟩
 .exact .inl h
 .rcases mem_set F with rfl|⟨F,_⟩
  .exact .inr ⟨_,G,h⟩
  .exact .inr ⟨x,F,h⟩
theorem BO {fs:Addr}{tb:ja}{k:Int}{b:Addr}(h:eg fs (bg tb k) b):eg fs tb b:=by
 rcases h with h|⟨x,F,h⟩
 .exact .inl h
 .exact .inr ⟨x,(cf F).1,h⟩
theorem kj (tb:ja) (k:Int):dF (dk fF tb) (Sum.inl k)=(look tb k).map fF:=cK fF k tb
theorem uD (F:sO) (k:Int):dF (dk fS F) (Sum.inl k)=(look F k).map fS:=cK fS k F
section
variable {P:Program}{w:World}{K:Frag}{mg:Str->Option Value}{base:Heap}
theorem Ho:az ["self"] ["self"] (aq l9):=L2.bD
theorem oU {f C:Addr}{fd:FuncData}(F:cL K "__init__" "Table.__init__" l9 f fd) (T:Txt K mg C):bf P w K mg base aU 1 f fd ["self"] (gT C):=by
 refine F.ok Ho (λvs H Q E h=>?_) (λO A outer s H vs Q E N h=>?_)
 .obtain⟨p,dx,rfl,_⟩:=h;rfl
 .obtain⟨p,dx,rfl,J,k⟩:=h;refine⟨_,(aj (fb (pv 0) c6 rfl)),?_⟩;intro fs I;have np:p≠fs:=ar J I;refine⟨_,rfl,p,C,dx,[],rfl,by rw[ah np];exact J,T.cl,T.nF,av,?_⟩;refine k fs _ I ⟨⟨dx,by rw[ae];rfl⟩,by rw[ah (Ne.symm np),ae];rfl,λx G=>(not_mem_nil G).elim,λx G=>(not_mem_nil G).elim,.nil,λx G=>(not_mem_nil G).elim,λx G=>(not_mem_nil G).elim⟩ λb u e L=>?_;rw[ah L,ah (ar e I)];exact e
theorem IC:az ["self","page","second"] ["self","page"] (aq D0):=L2.bD
theorem Cw {f C:Addr}{fd:FuncData}(F:cL K "get" "Table.get" D0 f fd) (T:Txt K mg C) (U:Df P w K mg base aU 2 "own_copy" (um K)):bf P w K mg base aU 3 f fd ["self","page"] (mD C):=by
 obtain⟨u8,Y,R⟩:=T.sp;refine F.ok IC (λvs H Q E h=>?_) (λac A outer s H vs Q E L h=>?_)
 .obtain⟨p,fs,tb,q,rfl,_⟩:=h;rfl
 .obtain⟨p,fs,tb,q,rfl,TT,k⟩:=h;obtain⟨dx,h1⟩:=TT.ob;refine⟨_,(ag (aK (i:=2) IC.nd rfl (Or.inl rfl) (sM (bj L) (aJ (pv 0) rfl) (ay bJ (pv 1) (cj (by rfl) Y R)) c6 ⟨rfl,rfl,rfl,rfl⟩))
   (aj (aE (pc U L aw (aa (yT (bj L) (pv 2) (pv 1) ⟨rfl,rfl,rfl,rfl⟩) ai))))),?_⟩
  refine⟨_,rfl,p,C,dx,_,.ref fs,rfl,h1,T.cl,T.nF,jT fs,fs,rfl,.inl ⟨_,.inl TT.hf⟩,_,rfl,_,_,rfl,rfl,⟨av,av⟩,λe O=>?_⟩;have G:=au (X:=.dK []) O;have J:=TT.same G;refine⟨_,dB.k (k:=.inl (q/8)) J.hf,?_⟩;rw[kj];cases c:look tb (q/8)with
  |none =>
   refine⟨_,rfl,e,rfl,.inl ⟨_,.inl ae⟩,_,rfl,_,dB.k (k:=.inl q) ae,.inl ⟨.non,rfl,rfl,k _ _ G ?_⟩⟩;rw[rq c];rfl
  |some a =>
   obtain⟨d,ab⟩:=a;have N:=aA c;have hd:=J.hd _ N;refine⟨_,rfl,d,rfl,.inl ⟨_,.inl hd⟩,_,rfl,_,dB.k (k:=.inl q) hd,?_⟩;rw[uD];have le:=rJ c;cases I:look ab q with
   |none =>
    refine .inl ⟨.non,rfl,rfl,k _ _ G ?_⟩;rw[le,I];rfl
   |some b =>
    obtain⟨t,xs⟩:=b;have hs:=(J.hs _ N).ht _ (aA I);refine .inr ⟨t,xs,rfl,.inl hs.1,hs.2.1,λH' l s' ad S=>k _ _ (G.trans s') ?_⟩;rw[le,I];exact⟨l,rfl,S⟩
theorem Gs:az ["self","page","entry","second"] ["self","page","entry"] (aq DN):=L2.bD
theorem Es {f C:Addr}{fd:FuncData}(F:cL K "lay" "Table.lay" DN f fd) (T:Txt K mg C) (GC:Df P w K mg base aU 2 "own_copy" (um K)):bf P w K mg base aU 3 f fd ["self","page","entry"] (rO K C):=by
 obtain⟨u8,m8,r8⟩:=T.sp;refine F.ok Gs (λvs H Q E h=>?_) (λam A outer s H vs Q E hr h=>?_)
 .obtain⟨p,fs,t,tb,q,xs,rfl,_⟩:=h;rfl
 .obtain⟨p,fs,t,tb,q,xs,rfl,TT,q0,q1,ht,G,k⟩:=h;obtain⟨dx,h1⟩:=TT.ob;refine⟨_,(ag (aK (i:=3) Gs.nd rfl (Or.inl rfl) (zl (aJ (pv 0) rfl) (ay bJ (pv 1) (cj (by rfl) m8 r8)) c6 ⟨rfl,rfl,rfl,rfl⟩))
   (aj (jH (bj hr) (pv 3) (pv 1) (pc GC hr aw (aa (pv 2) ai)) rfl))),?_⟩
  refine⟨_,rfl,p,C,dx,_,.ref fs,rfl,h1,T.cl,T.nF,jT fs,fs,rfl,.inl ⟨_,.inl TT.hf⟩,_,rfl,_,_,rfl,rfl,⟨av,av⟩,λe N=>?_⟩;have se:=au (X:=.dK []) N;have T1:=TT.same se;refine⟨_,.inl (q/8),T1.hf,rfl,DC T1,λv I=>?_,λI=>?_⟩
  .rw[kj]at I;cases c:look tb (q/8)with
   |none=>rw[c]at I;cases I
   |some a =>
    obtain⟨d,ap⟩:=a;rw[c]at I;obtain rfl:V.ref d=v:=Option.some.inj I;have R:=aA c;refine⟨_,rfl,.inr ⟨t,xs,rfl,ht.keep λo e=>se _ _ e,G,λH2 l O ac U=>?_⟩⟩;have S:=T1.same O;obtain⟨sec',e1,e2,S'⟩:=AN (S.hs _ R) U G rfl q0 q1;have hd:=S.hd _ R;refine⟨_,rfl,_,rfl,d,_,rfl,gb.k (k:=.inl q) hd (CN (S.hs _ R)),?_⟩;rw[e1];have L:Off (· = d) H2 (upd H2 d (.dK (dk fS sec'))):=pC rfl;refine k _ _ (S.put c L ae (S'.keep λb ys J=>L _ _ J (cE J hd (by intro z;cases z)))) (λj=>oj c rfl e2 j) (gN (se.trans O) (L.mono λb z=>.inr ⟨_,R,z⟩)) λb z=>.inl (wo R z)
  .rw[kj]at I;have c:look tb (q/8)=none:=by
    cases c:look tb (q/8)with
    |none=>rfl
    |some a=>rw[c]at I;cases I
   have ep:putK (dk fF tb) (Sum.inl (q/8)) (.ref e)=dk fF (tb++[(q/8,(e,[]))]):=cy (f:=fF) (a:=(e,[])) c;rw[ep];have ef:e≠fs:=λz=>ar TT.hf N z.symm;have hE:upd (upd H e (.dK [])) fs (.dK (dk fF (tb++[(q/8,(e,[]))]))) e=some (.dK []):=(by rw[ah ef,ae]);have o1:Off (· = fs) H (upd (upd H e (.dK [])) fs (.dK (dk fF (tb++[(q/8,(e,[]))])))):=λb u J Y=>(by rw[ah Y,ah (ar J N)];exact J);refine⟨_,rfl,.inr ⟨t,xs,rfl,ht.off λe=>o1 _ _ e (cE e TT.hf (by intro z;cases z)),G,λH2 l O ac U=>?_⟩⟩;have ab:=O _ _ hE;refine⟨_,rfl,_,rfl,e,_,rfl,gb.k (k:=.inl q) ab av,?_⟩;have e1:putK ([]:List (Key×V)) (Sum.inl q) (.ref l)=dk fS [(q,(l,xs))]:=rfl;rw[e1];have L:Off (· = e) H2 (upd H2 e (.dK (dk fS [(q,(l,xs))]))):=pC rfl;have oA:Off (· = fs) H (upd H2 e (.dK (dk fS [(q,(l,xs))]))):=λb u J Y=>L b u (O _ _ (o1 b u J Y)) (ar J N);have ad:(upd H2 e (.dK (dk fS [(q,(l,xs))]))) l=some (.tup xs):=L _ _ U (cE U ab (by intro z;cases z));refine k _ _ (TT.add (sec':=[(q,(l,xs))]) c N oA ?_ ae ⟨λy hy=>?_,?_,by simp⟩) (λj=>xF (o:=some (l,xs)) c rfl (λj=>?_) j) (oA.mono λb z=>.inl z) λb z=>?_
   rotate_left 4
   .rcases z with z|⟨x,G,z⟩
    .exact .inl (.inl z)
    .rcases List.mem_append.mp G with G|G
     .exact .inl (.inr ⟨x,G,z⟩)
     .rw[List.mem_singleton.mp G]at z;rw[z];exact .inr N
   .refine L _ _ (O _ _ ae) (Ne.symm ef) |>.trans ?_;unfold dk;rw[map_append,map_append];rfl
   .rw[List.mem_singleton.mp hy];exact⟨ad,G,rfl,q0,q1⟩
   .simp
   .rw[aM,gW];by_cases z:j=q
    .rw[if_pos z,if_pos z.symm]
    .rw[if_neg z,if_neg (Ne.symm z)]
theorem Hm:az ["self","page","k","second"] ["self","page"] (aq uc):=L2.bD
theorem Ar {f C:Addr}{fd:FuncData}(F:cL K "clear" "Table.clear" uc f fd) (T:Txt K mg C) (TP:yp mg):bf P w K mg base aU 1 f fd ["self","page"] (pH C):=by
 obtain⟨u8,m8,r8⟩:=T.sp;have R:=T;refine F.ok Hm (λvs H Q E h=>?_) (λam A outer s H vs Q E hr h=>?_)
 .obtain⟨p,fs,tb,q,rfl,_⟩:=h;rfl
 .obtain⟨p,fs,tb,q,rfl,TT,k⟩:=h;obtain⟨dx,h1⟩:=TT.ob;replace T:=TP;refine⟨_,(ag (aK (i:=2) Hm.nd rfl (Or.inl rfl) (ay bJ (pv 1) (cj (by rfl) m8 r8)))
   (ag (aK (i:=3) Hm.nd rfl (Or.inl rfl) (sM (bj hr) (aJ (pv 0) rfl) (pv 2) c6 ⟨rfl,rfl,rfl,rfl⟩))
   (ag (aS (iU (gf (bj hr) (pv 1) (pv 3))) (aj qq) aF)
   (ag (aL (eE (pv 3) (pv 1) ⟨rfl,rfl,rfl,rfl⟩))
   (aj (aS (aC bW (aN j5 (by rfl) T.len boot_len (aa (pv 3) ai)) ak (aH _)) (aj (aL (eE (aJ (pv 0) rfl) (pv 2) ⟨rfl,rfl,rfl,rfl⟩))) aF)))))),?_⟩
  refine⟨_,rfl,_,_,rfl,rfl,⟨av,av⟩,?_⟩;refine⟨_,rfl,p,C,dx,_,.ref fs,rfl,h1,R.cl,R.nF,jT fs,fs,rfl,.inl ⟨_,.inl TT.hf⟩,_,rfl,λe he=>?_⟩;have J:=au (X:=.dK []) he;have I:=TT.same J;refine⟨_,dB.k (k:=.inl (q/8)) I.hf,?_⟩;rw[kj];cases c:look tb (q/8)with
  |none =>
   refine⟨_,rfl,_,rfl,e,_,rfl,dB.k (k:=.inl q) ae,true,rfl,dG ?_⟩;refine k _ _ I (λj=>?_) (.inl rfl) (gN J λb u O _=>O) λb z=>.inl z;by_cases z:j=q
   .rw[if_pos z,z];exact rq c
   .rw[if_neg z]
  |some a =>
   obtain⟨d,G⟩:=a;have L:=aA c;have hd:=I.hd _ L;have S:=I.hs _ L;refine⟨_,rfl,_,rfl,d,_,rfl,dB.k (k:=.inl q) hd,?_⟩;rw[uD];cases c2:look G q with
   |none =>
    refine⟨true,rfl,dG ?_⟩;refine k _ _ I (λj=>?_) (.inl rfl) (gN J λb u O _=>O) λb z=>.inl z;by_cases z:j=q
    .rw[if_pos z,z,rJ c,c2];rfl
    .rw[if_neg z]
   |some b =>
    refine⟨false,rfl,bw ?_⟩;refine⟨_,rfl,d,rfl,.inl ⟨_,.inl hd⟩,_,rfl,_,.inl q,fS b,hd,rfl,by rw[uD,c2];rfl,?_⟩;rw[eu];refine⟨_,rfl,d,_,rfl,ae,rfl,?_⟩;have N:Off (· = d) (upd H e (.dK [])) (upd (upd H e (.dK [])) d (.dK (dk fS (bg G q)))):=pC rfl;by_cases z:bg G q=[]
    .have U:decide (V.int ((dk fS (bg G q)).length:Nat)=V.int 0)=true:=(by rw[z];rfl);rw[U];refine⟨true,rfl,dG ?_⟩;have ad:d≠fs:=TT.nf _ L;have ab:(upd (upd H e (.dK [])) d (.dK (dk fS (bg G q)))) fs=some (.dK (dk fF tb)):=N _ _ I.hf (Ne.symm ad);have ac:(upd (upd H e (.dK [])) d (.dK (dk fS (bg G q)))) p=some (.ins C dx (jG fs)):=N _ _ (J _ _ h1) (cE (J _ _ h1) hd (by intro z;cases z));refine⟨_,rfl,p,C,dx,_,.ref fs,rfl,ac,R.cl,R.nF,jT fs,fs,rfl,.inl ⟨_,.inl ab⟩,_,rfl,_,.inl (q/8),fF (d,G),ab,rfl,by rw[kj,c];rfl,?_⟩;rw[eu];have o3:Off (λb=>b=d\/b=fs) (upd H e (.dK [])) (upd (upd (upd H e (.dK [])) d (.dK (dk fS (bg G q)))) fs (.dK (dk fF (bg tb (q/8))))):=λb u O hb=>by
      rw[ah λz=>hb (.inr z),ah λz=>hb (.inl z)];exact O
     refine k _ _ (I.del c o3 ae) (λj=>wD c rfl (λj hj=>?_) j) (.inr ?_) (gN J (o3.mono λb z=>z.elim (λz=>.inr ⟨_,L,z⟩) .inl)) λb z=>.inl (BO z)
     .have:=cz G q j;rw[z,gW,if_neg hj]at this;exact this.symm
     .exact lu TT.nk c
    .have U:decide (V.int ((dk fS (bg G q)).length:Nat)=V.int 0)=false:=decide_eq_false λy=>by
      injection y with y;rw[cm]at y;exact z (List.length_eq_zero_iff.mp af)
     rw[U];refine⟨false,rfl,bw ?_⟩;have S2:gE (upd (upd H e (.dK [])) d (.dK (dk fS (bg G q)))) (q/8) (bg G q):=⟨λy hy=>?_,?_,z⟩
     .refine k _ _ (I.put c N ae S2) (λj=>oj c rfl (λj=>cz G q j) j) (.inl (gz _ _ _)) (gN J (N.mono λb z=>.inr ⟨_,L,z⟩)) λb z=>.inl (wo L z)
     .have Y:=S.ht y (cf hy).1;exact⟨N _ _ Y.1 (cE Y.1 hd (by intro z;cases z)),Y.2⟩
     .rw[jf];exact S.ns.filter _
theorem Fl:az ["self","found","k"] ["self"] (aq tQ):=L2.bD
theorem yt {f C:Addr}{fd:FuncData}(F:cL K "pages" "Table.pages" tQ f fd) (L:Txt K mg C) (T:yp mg):bf P w K mg base aU 1 f fd ["self"] (eM C):=by
 refine F.ok Fl (λvs H Q E h=>?_) (λap A outer s H vs Q E hr h=>?_)
 .obtain⟨p,fs,tb,rfl,_⟩:=h;rfl
 .obtain⟨p,fs,tb,rfl,TT,k⟩:=h;obtain⟨dx,h1⟩:=TT.ob;have I:=TT.hf;have hs:sizeLine=16777216:=sizeLine_eq;refine⟨_,(ag (aK (i:=1) Fl.nd rfl (Or.inl rfl) (bX ai))
   (ag (k9 (cO PassesOwn.never rfl (pj (aJ (pv 0) rfl)) (aX (i:=2) Fl.nd rfl (Or.inl rfl)) (aj (aL (gI plainAttrs_list slot_list_extend type_list_extend (ur rfl) (pv 1) (aa (bA (bj hr) (aJ (pv 0) rfl) (pv 2) (λ_ _=>rfl)) ai))))))
   (aj (aE (aN qC (by rfl) T.sorted kC (aa (pv 1) ai)))))),?_⟩
  have S:∀o Y,H fs≠some (.frz o Y):=λo Y z=>(by rw[I]at z;cases z);refine⟨av,λl J=>?_⟩;have sl:=au (X:=.lst []) J;have O:l≠fs:=λz=>ar I J z.symm;have ac:p≠l:=ar h1 J;have ab:p≠fs:=cE h1 I (by intro z;cases z);refine⟨_,rfl,p,C,dx,_,.ref fs,rfl,sl _ _ h1,L.cl,L.nF,jT fs,fs,_,rfl,sl _ _ I,S,λo=>?_⟩;refine sN (kvs:=dk fF tb) (λi σ H'=>H'=upd (upd H l (.lst ((fP (tb.take i)).map V.int))) fs (.frz o (.dK (dk fF tb)))/\∃v,σ=[some (.ref p),some (.ref l),v]) ⟨rfl,_,rfl⟩ (λi σ H' _ h=>by rw[h.1,ae]) (λi k v σ H' hi h=>?_) (λσ H' h=>?_)
  .obtain⟨rfl,v',rfl⟩:=h;unfold dk at hi;rw[getElem?_map]at hi;cases e:tb[i]? with
   |none=>rw[e]at hi;cases hi
   |some x =>
    rw[e]at hi;obtain⟨rfl,rfl⟩:=Prod.mk.inj (Option.some.inj hi);have N:x∈tb:=mem_of_getElem? e;have hd:=TT.hd x N;have dl:x.2.1≠l:=ar hd J;have df:x.2.1≠fs:=TT.nf x N;have as:i<tb.length:=(List.getElem?_eq_some_iff.mp e).1;have AE:=qY TT i;have bx:=(TT.hs x N).len;have U:(upd (upd H l (.lst ((fP (tb.take i)).map V.int))) fs (.frz o (.dK (dk fF tb)))) l=some (.lst ((fP (tb.take i)).map V.int)):=(by rw[ah O,ae]);refine⟨_,rfl,.inl ⟨rfl,_,bq.of U⟩,_,rfl,p,C,dx,_,.ref fs,rfl,by rw[ah ab,ah ac];exact h1,L.cl,L.nF,jT fs,_,rfl,fs,.ref x.2.1,rfl,.inl ⟨dk fF tb,.inl x.1,.inr ⟨o,ae⟩,rfl,?_⟩,l,x.2.1,_,dk fS x.2.2,rfl,rfl,U,by rw[ah df,ah dl];exact hd,?_,?_⟩
    .rw[kj,bN TT.nk N];rfl
    .rw[length_map,cm];omega
    .refine⟨?_,_,rfl⟩;rw[take_succ,e];funext b;by_cases z:b=l
     .rw[z,ae,ah O,ae];have ek:(dk fS x.2.2).map (λkv=>kV kv.1)=(x.2.2.map (·.1)).map V.int:=by
       unfold dk;rw[map_map,map_map];rfl
      rw[ek, <-map_append];unfold fP;rw[flatMap_append];simp
     .rw[ah z];by_cases R:b=fs
      .rw[R,ae,ae]
      .rw[ah R,ah R,ah z,ah z]
  .obtain⟨rfl,v',rfl⟩:=h;refine⟨fs,o,_,ae,S,?_⟩;rw[cm,take_length];have e0:upd (upd (upd H l (.lst ((fP tb).map V.int))) fs (.frz o (.dK (dk fF tb)))) fs (.dK (dk fF tb))=upd H l (.lst ((fP tb).map V.int)):=by
    funext b;by_cases z:b=fs
    .rw[z,ae,ah (Ne.symm O)];exact I.symm
    .rw[ah z,ah z]
   rw[e0];have AE:=qY TT tb.length;rw[take_length]at AE;have ad:=au (X:=.lst ((fP tb).map V.int)) J;refine⟨_,rfl,l,fP tb,rfl,bq.of ae,jL TT,af,λl2 ns' G hp hs=>?_⟩;have am:l2≠l:=λz=>(by rw[z,ae]at G;cases G);exact k _ l2 ns' (ad.trans (au G)) (by rw[ah am]at G;exact G) ae hp hs
end
end Tb
namespace Rm
open PySem L2
def top (i:Nat):Stmt:=PySem.Challenge.pw_ownroom_k15_owners_counted.main.body.getD i (.Pass ⟨0,0,0,0⟩)
abbrev iL:Stmt:=top 20
abbrev jR:Stmt:=top 21
abbrev vq:Stmt:=top 22
abbrev qt:Stmt:=top 23
abbrev mJ:Stmt:=top 24
abbrev pU:Stmt:=top 25
abbrev yR:Stmt:=top 26
theorem au {H:Hp}{l:Addr}{X:HO}(h:H l=none):a8 H (upd H l X):=λb o e=>by rw[ah (ar e h)];exact e
theorem Bz {H H':Hp}{l:Addr}{X:HO}(s:a8 H H') (h:H l=none):a8 H (upd H' l X):=λb o e=>by rw[ah (ar e h)];exact s b o e
structure yl (mg:Str->Option Value):Prop where
 vL:∃u,mg "ROOM_PAGES" = some u/\RelV (.int 64) u
 cells:∃u,mg "PAGE_CELLS" = some u/\RelV (.int 8) u
 list:mg "list" = none
 range:mg "range" = none
 len:mg "len" = none
def cu (p m:Int):Prop:=m<1\/p<0\/64<p+m
def aR (p m:Int):List Int:=(List.range m.toNat).map λk:Nat=>p+k
inductive eh (vs:List V) (H:Hp) (Q:VK) (e3:XK):Prop
 |mk (p m:Int) (_:vs=[.int p,.int m]) (_:¬ cu p m) (_:∀(H':Hp) (l:Addr),a8 H H'->H l=none->H' l=some (.lst ((aR p m).map V.int))->Q (.ref l) H'):eh vs H Q e3
theorem lR (q:Int):∀F:List Int,CY (.int q) (F.map V.int)=decide (q∈F)
 | []=>rfl
 |m::F=>by
  have G:=lR q F;unfold CY at G ⊢;rw[map_cons,any_cons,G];by_cases e:q=m
  .rw[e];simp[jP]
  .have I:m≠q:=Ne.symm e;simp[jP,e,I]
inductive gB (vs:List V) (H:Hp) (Q:VK) (e3:XK):Prop
 |mk (a b:Addr) (ms ps:List Int) (_:vs=[.ref a,.ref b]) (_:H a=some (.lst (ms.map V.int))) (_:H b=some (.lst (ps.map V.int))) (_:(∀q∈ps,q∈ms)) (_:Q .non H):gB vs H Q e3
section
variable {P:Program}{w:World}{K:Frag}{mg:Str->Option Value}{base:Heap}
theorem Ht:az ["page","many"] ["page","many"] (aq iL):=L2.bD
theorem ph {f:Addr}{fd:FuncData}(F:cL K "pages_from" "pages_from" iL f fd) (T:yl mg):bf P w K mg base aU 1 f fd ["page","many"] eh:=by
 obtain⟨ad,Y,L⟩:=T.vL;refine F.ok Ht (λvs H Q E h=>?_) (λac A outer s H vs Q E hr h=>?_)
 .obtain⟨p,m,rfl,_⟩:=h;rfl
 .obtain⟨p,m,rfl,G,R⟩:=h;have hs:sizeLine=16777216:=sizeLine_eq;have S:¬ m<1:=λz=>G (.inl z);have d2:¬ p<0:=λz=>G (.inr (.inl z));have N:¬ 64<p+m:=λz=>G (.inr (.inr z));refine⟨_,(ag (aS (PW.pt (gj (aC gG (pv 1) ak (aH _)) (gj (aC gG (pv 0) ak (aH _)) (eY (aC iJ (ay bu (pv 0) (pv 1)) (cj (by rfl) Y L) (aH _)))))) cN aF)
   (aj (aE (bE (mC rfl) (by rfl) T.list dt (aa (bE xq (by rfl) T.range zV (aa (pv 0) (aa (ay bu (pv 0) (pv 1)) ai))) ai))))),?_⟩
  refine bZ λ_ O U=>?_;clear O;refine⟨_,rfl,_,_,rfl,rfl,_,rfl,?_⟩;refine iM (λc=>absurd (of_decide_eq_true c) S) (λ_=>?_);refine⟨_,rfl,_,_,rfl,rfl,_,rfl,?_⟩;refine iM (λc=>absurd (of_decide_eq_true c) d2) (λ_=>?_);refine⟨_,rfl,_,rfl,_,_,rfl,rfl,_,_,rfl,rfl,_,rfl,?_⟩;refine Ap (λc=>absurd (of_decide_eq_true c) N) (λ_=>U _ ?_);refine⟨_,rfl,_,rfl,_,rfl,_,_,rfl,rfl,p,p+m,rfl,λpr ab=>?_⟩;have I:=au (X:=.rng p (p+m)) ab;refine⟨pr,p,m.toNat,rfl,by rw[ae,Int.toNat_of_nonneg af],af,af,af,λl J=>?_⟩;refine R _ l (I.trans (au J)) (I.free J) ?_;rw[ae];unfold aR;rw[map_map];rfl
theorem EF:az ["mapped","pages","page"] ["mapped","pages"] (aq jR):=L2.bD
theorem rZ {f:Addr}{fd:FuncData}(F:cL K "refuse_unmapped" "refuse_unmapped" jR f fd):bf P w K mg base aU 1 f fd ["mapped","pages"] gB:=by
 refine F.ok EF (λvs H Q E h=>?_) (λY A outer s H vs Q E U h=>?_)
 .obtain⟨a,b,S,ps,rfl,_⟩:=h;rfl
 .obtain⟨a,b,S,ps,rfl,O,G,J,L⟩:=h;refine⟨_,(aj (cO PassesOwn.never rfl (fA (pv 1)) (aX (i:=2) EF.nd rfl (Or.inl rfl)) (aj (aS (aC jB (pv 2) (pv 0) (by with_unfolding_all rfl)) cN aF)))),?_⟩;refine⟨_,rfl,b,rfl,⟨_,bq.of G⟩,?_⟩;refine eT (K:=K) (a:=b) (xs:=ps.map V.int) (λi σ H2=>∃v2:Option V,σ=[some (.ref a),some (.ref b),v2]/\H2=H) ⟨_,rfl,rfl⟩ (λi σ H2 _ R=>by obtain⟨_,_,e⟩:=R;rw[e];exact bq.of G) ?_ ?_
  .rintro i x σ H2 I ⟨v2,rfl,rfl⟩;rw[getElem?_map]at I;obtain⟨q,N,rfl⟩:=Option.map_eq_some_iff.mp I;refine⟨_,rfl,_,rfl,a,_,rfl,.inl (bq.of O),rfl,eO _,_,rfl,?_⟩;rw[lR,decide_eq_true (J q (mem_of_getElem? N))];exact bw ⟨_,rfl,rfl⟩
  .rintro σ H2 ⟨v2,rfl,rfl⟩;exact L
end
theorem xO {p m:Int}(h:¬ cu p m):∀q∈aR p m,0<=q/\q<64/\q.natAbs.log2<1920:=λq F=>by
 unfold aR at F;obtain⟨k,G,rfl⟩:=List.mem_map.mp F;rw[List.mem_range]at G;have h1:¬ m<1:=λz=>h (.inl z);have h2:¬ p<0:=λz=>h (.inr (.inl z));have I:¬ 64<p+m:=λz=>h (.inr (.inr z));refine⟨af,af,?_⟩;by_cases z:(p+(k:Int)).natAbs=0
 .rw[z];decide
 .rw[Nat.log2_lt z];have L:(p+(k:Int)).natAbs<64:=af;have J:(64:Nat)<2^1920:=ao;omega
inductive qI (vs:List V) (H:Hp) (Q:VK) (e3:XK):Prop
 |mk (a:Addr) (ms:List Int) (p m:Int) (_:vs=[.ref a,.int p,.int m]) (_:H a=some (.lst (ms.map V.int))) (_:¬ cu p m) (_:(∀q∈aR p m,¬ q∈ms)) (_:∀(H':Hp) (l:Addr),a8 H H'->H l=none->H' l=some (.lst ((aR p m).map V.int))->Q (.ref l) H'):qI vs H Q e3
inductive lV (vs:List V) (H:Hp) (Q:VK) (e3:XK):Prop
 |mk (a:Addr) (ms:List Int) (p m:Int) (_:vs=[.ref a,.int p,.int m]) (_:H a=some (.lst (ms.map V.int))) (_:¬ cu p m) (_:(∀q∈aR p m,q∈ms)) (_:∀(H':Hp) (l:Addr),a8 H H'->H l=none->H' l=some (.lst ((aR p m).map V.int))->Q (.ref l) H'):lV vs H Q e3
def jq (ad:Int):Int:=ad/8
def iG (ad n:Int):Int:=(ad+n-1)/8-ad/8+1
def di (ad n:Int) (F:List Int):Prop:=n<0\/(0<n/\(cu (jq ad) (iG ad n)\/¬ ∀q∈aR (jq ad) (iG ad n),q∈F))
def aO (ad n:Int):List Int:=if n=0 then[]else aR (jq ad) (iG ad n)
inductive iu (vs:List V) (H:Hp) (Q:VK) (e3:XK):Prop
 |mk (a:Addr) (ms:List Int) (ad n:Int) (_:vs=[.ref a,.int ad,.int n]) (_:H a=some (.lst (ms.map V.int))) (_:¬ di ad n ms) (_:∀(H':Hp) (l:Addr),a8 H H'->H l=none->H' l=some (.lst ((aO ad n).map V.int))->Q (.ref l) H'):iu vs H Q e3
section
variable {P:Program}{w:World}{K:Frag}{mg:Str->Option Value}{base:Heap}
theorem Dx:az ["mapped","page","many","pages","wanted"] ["mapped","page","many"] (aq vq):=L2.bD
theorem yf {f:Addr}{fd:FuncData}(F:cL K "pages_to_map" "pages_to_map" vq f fd) (O:Df P w K mg base aU 1 "pages_from" eh):bf P w K mg base aU 2 f fd ["mapped","page","many"] qI:=by
 refine F.ok Dx (λvs H Q E h=>?_) (λab A outer s H vs Q E hr h=>?_)
 .obtain⟨a,U,p,m,rfl,_⟩:=h;rfl
 .obtain⟨a,U,p,m,rfl,ha,nb,Y,N⟩:=h;refine⟨_,(ag (aK (i:=3) Dx.nd rfl (Or.inl rfl) (pc O hr aw (aa (pv 1) (aa (pv 2) ai))))
   (ag (cO PassesOwn.never rfl (fA (pv 3)) (aX (i:=4) Dx.nd rfl (Or.inl rfl)) (aj (aS (aC xf (pv 4) (pv 0) (by with_unfolding_all rfl)) cN aF)))
   (aj (aE (pv 3))))),?_⟩
  refine⟨_,rfl,_,rfl,p,m,rfl,nb,λH1 l J S I=>?_⟩;refine⟨_,rfl,l,rfl,⟨_,bq.of I⟩,?_⟩;refine eT (K:=K) (a:=l) (xs:=(aR p m).map V.int) (λi σ H2=>∃G:Option V,σ=[some (.ref a),some (.int p),some (.int m),some (.ref l),G]/\H2=H1) ⟨_,rfl,rfl⟩ (λi σ H2 _ z0=>by obtain⟨_,_,e⟩:=z0;rw[e];exact bq.of I) ?_ ?_
  .rintro i x σ H2 L ⟨G,rfl,rfl⟩;rw[getElem?_map]at L;obtain⟨q,R,rfl⟩:=Option.map_eq_some_iff.mp L;refine⟨_,rfl,_,rfl,a,_,rfl,.inl (bq.of (J _ _ ha)),rfl,eO _,_,rfl,?_⟩;rw[lR,decide_eq_false (Y q (mem_of_getElem? R))];exact bw ⟨_,rfl,rfl⟩
  .rintro σ H2 ⟨G,rfl,rfl⟩;exact⟨_,rfl,N _ l J S I⟩
theorem EX:az ["mapped","page","many","pages"] ["mapped","page","many"] (aq qt):=L2.bD
theorem xh {f:Addr}{fd:FuncData}(F:cL K "pages_to_drop" "pages_to_drop" qt f fd) (S:Df P w K mg base aU 1 "pages_from" eh) (GU:Df P w K mg base aU 1 "refuse_unmapped" gB):bf P w K mg base aU 2 f fd ["mapped","page","many"] lV:=by
 refine F.ok EX (λvs H Q E h=>?_) (λab A outer s H vs Q E J h=>?_)
 .obtain⟨a,L,p,m,rfl,_⟩:=h;rfl
 .obtain⟨a,L,p,m,rfl,U,O,R,N⟩:=h;refine⟨_,(ag (aK (i:=3) EX.nd rfl (Or.inl rfl) (pc S J aw (aa (pv 1) (aa (pv 2) ai))))
   (ag (aL (pc GU J aw (aa (pv 0) (aa (pv 3) ai))))
   (aj (aE (pv 3))))),?_⟩
  refine⟨_,rfl,_,rfl,p,m,rfl,O,λH1 l G Y I=>?_⟩;exact⟨_,rfl,_,rfl,a,l,L,aR p m,rfl,G _ _ U,I,R,⟨_,rfl,N _ l G Y I⟩⟩
theorem Bn:az ["mapped","address","many","first","last","pages"] ["mapped","address","many"] (aq mJ):=L2.bD
theorem u9 {f:Addr}{fd:FuncData}(F:cL K "pages_of_cells" "pages_of_cells" mJ f fd) (T:yl mg) (GP:Df P w K mg base aU 1 "pages_from" eh) (GU:Df P w K mg base aU 1 "refuse_unmapped" gB):bf P w K mg base aU 2 f fd ["mapped","address","many"] iu:=by
 obtain⟨u8,U,O⟩:=T.cells;refine F.ok Bn (λvs H Q E h=>?_) (λab A outer s H vs Q E Y h=>?_)
 .obtain⟨a,G,ad,n,rfl,_⟩:=h;rfl
 .obtain⟨a,G,ad,n,rfl,ha,I,N⟩:=h;refine⟨_,(ag (aS (aC bW (pv 2) ak (aH _)) (aj (aE (bX ai))) aF)
   (ag (aS (aC gG (pv 2) ak (aH _)) cN aF)
   (ag (aK (i:=3) Bn.nd rfl (Or.inl rfl) (ay bJ (pv 1) (cj (by rfl) U O)))
   (ag (aK (i:=4) Bn.nd rfl (Or.inl rfl) (ay bJ (ay pI (ay bu (pv 1) (pv 2)) ak) (cj (by rfl) U O)))
   (ag (aK (i:=5) Bn.nd rfl (Or.inl rfl) (pc GP Y aw (aa (pv 3) (aa (ay bu (ay pI (pv 4) (pv 3)) ak) ai))))
   (ag (aL (pc GU Y aw (aa (pv 0) (aa (pv 5) ai))))
   (aj (aE (pv 5))))))))),?_⟩
  refine⟨_,rfl,rfl,_,rfl,?_⟩;refine iM (λc=>?_) (λc=>?_)
  .have e:n=0:=V.int.inj (of_decide_eq_true c);refine⟨av,λl R=>?_⟩;refine N _ l (au R) R ?_;rw[ae];unfold aO;rw[if_pos e];rfl
  have ne:¬ n=0:=λz=>c (decide_eq_true (by rw[z]));have nn:¬ n<0:=λz=>I (.inl z);have L:0<n:=af;have np:¬ cu (jq ad) (iG ad n):=λz=>I (.inr ⟨L,.inl z⟩);have ni:∀q∈aR (jq ad) (iG ad n),q∈G:=Classical.byContradiction λz=>I (.inr ⟨L,.inr z⟩);refine⟨_,rfl,_,_,rfl,rfl,_,rfl,?_⟩;refine iM (λc'=>absurd (of_decide_eq_true c') nn) (λ_=>?_);refine⟨_,rfl,_,_,rfl,rfl,⟨av,av⟩,_,rfl,_,rfl,_,_,rfl,rfl,_,_,rfl,rfl,_,_,rfl,rfl,⟨av,av⟩,?_⟩;refine⟨_,rfl,_,rfl,_,rfl,_,_,rfl,rfl,_,_,rfl,rfl,jq ad,iG ad n,rfl,np,λH1 l J nl S=>?_⟩;refine⟨_,rfl,_,rfl,a,l,G,aR (jq ad) (iG ad n),rfl,J _ _ ha,S,ni,⟨_,rfl,N _ l J nl ?_⟩⟩;unfold aO;rw[if_neg ne];exact S
end
theorem oS {ws:List Int}{s n:Nat}:eV (ws.map V.int) (some (s:Int)) (some ((s:Int)+(n:Int)))=((ws.drop s).take n).map V.int:=by
 unfold eV;rw[length_map,HT.lq,show((s:Int)+(n:Int))=((s+n:Nat):Int)by push_cast;rfl,HT.lq, <-List.map_drop, <-map_take];congr 1;by_cases h:s<=ws.length
 .rw[min_eq_left h];by_cases h2:s+n<=ws.length
  .rw[min_eq_left h2,show s+n-s=n by omega]
  .rw[min_eq_right af,take_of_length_le (by rw[length_drop];omega),take_of_length_le (by rw[length_drop];omega)]
 .rw[min_eq_right af,min_eq_right af,List.drop_eq_nil_of_le (le_refl _),List.drop_eq_nil_of_le af];simp
theorem tK {ws:List Int}{s:Nat}:eV (ws.map V.int) none (some (s:Int))=(ws.take s).map V.int:=by
 unfold eV;rw[length_map,HT.lq,show HT.cU ws.length 0 none=0 from rfl,List.drop_zero,Nat.sub_zero, <-map_take];congr 1;by_cases h:s<=ws.length
 .rw[min_eq_left h]
 .rw[min_eq_right af,take_of_length_le (le_refl _),take_of_length_le af]
theorem wQ {ws:List Int}{s:Nat}:eV (ws.map V.int) (some (s:Int)) none=(ws.drop s).map V.int:=by
 unfold eV;rw[length_map,HT.lq,show HT.cU ws.length ws.length none=ws.length from rfl, <-List.map_drop, <-map_take];congr 1;by_cases h:s<=ws.length
 .rw[min_eq_left h,take_of_length_le (by rw[length_drop];omega)]
 .rw[min_eq_right af,List.drop_eq_nil_of_le (le_refl _),List.drop_eq_nil_of_le af];simp
theorem ed {K:Frag}{H H':Hp}{a:Addr}{xs:List V}(h:bq K H a xs) (s:∀o,H a=some o->H' a=some o):bq K H' a xs:=by
 rcases h with(h|⟨o,h⟩)|h
 .exact .inl (.inl (s _ h))
 .exact .inl (.inr ⟨o,s _ h⟩)
 .exact .inr h
theorem uR {α I:Type}{F G:α->I->Prop}(h:∀x y,F x y->G x y):∀{xs:List α}{ys:List I},Paired F xs ys->Paired G xs ys
 |_,_,.nil=>.nil
 |_,_,.cons q t=>.cons (h _ _ q) (uR h t)
theorem tR {α J:Type}{F:α->J->Prop}{xs G:List α}{ys I:List J}(p:Paired F xs ys) (h:Paired F G I):Paired F (xs++G) (ys++I):=by
 induction p with
 |nil=>exact h
 |cons q _ L=>exact .cons q L
theorem ui {α G:Type}{F:α->G->Prop}{x:α}{xs:List α}{ys:List G}(p:Paired F xs ys) (h:x∈xs):∃y,F x y:=by
 induction p with
 |nil=>cases h
 |cons q _ I =>
  rcases List.mem_cons.mp h with e|h
  .exact⟨_,e▸q⟩
  .exact I h
inductive mz (vs:List V) (H:Hp) (Q:VK) (e3:XK):Prop
 |mk (a:Addr) (ws:List Int) (ad:Int) (n:Nat) (_:vs=[.ref a,.int ad,.int n]) (_:H a=some (.lst (ws.map V.int))) (_:∀(H':Hp) (l:Addr),a8 H H'->H l=none->H' l=some (.lst (((ws.drop (ad%8).toNat).take n).map V.int))->Q (.ref l) H'):mz vs H Q e3
def eG (ws:List Int) (s:Nat) (cs:List Int):List Int:=ws.take s++cs++ws.drop (s+cs.length)
def gM (k:Nat) (ws:List Int):List (List Int):=(List.range k).map λi=>(ws.drop (8*i)).take 8
inductive ue (K:Frag) (vs:List V) (H:Hp) (Q:VK) (e3:XK):Prop
 |mk (a c:Addr) (ws cs:List Int) (ad:Int) (k:Nat) (_:vs=[.ref a,.int ad,.ref c]) (_:H a=some (.lst (ws.map V.int))) (_:bq K H c (cs.map V.int)) (_:ws.length<=600) (_:cs.length<=600) (_:k<=64) (_:(eG ws (ad%8).toNat cs).length=8*k) (_:∀(H':Hp) (l:Addr) (rs:List Addr),a8 H H'->H l=none->H' l=some (.lst (rs.map V.ref))->Paired (λr (row:List Int)=>H' r=some (.lst (row.map V.int))) rs (gM k (eG ws (ad%8).toNat cs))->(∀r∈rs,H r=none)->rs.Nodup->Q (.ref l) H'):ue K vs H Q e3
theorem Hv:∀k:Nat,k<65->Builtin.Range.small 0 (8*(k:Int)) 8=true/\Builtin.Range.rangeSize 0 (8*(k:Int)) 8=(k:Int)/\Builtin.divisionGoesByPylong (8*(k:Int)-0) 8=false:=ao
section
variable {P:Program}{w:World}{K:Frag}{mg:Str->Option Value}{base:Heap}
theorem Fq:az ["whole","address","many","start"] ["whole","address","many"] (aq pU):=L2.bD
theorem wO {f:Addr}{fd:FuncData}(F:cL K "run_within" "run_within" pU f fd) (T:yl mg):bf P w K mg base aU 1 f fd ["whole","address","many"] mz:=by
 obtain⟨R,L,N⟩:=T.cells;refine F.ok Fq (λvs H Q E h=>?_) (λU A outer s H vs Q E S h=>?_)
 .obtain⟨a,ws,ad,n,rfl,_⟩:=h;rfl
 .obtain⟨a,ws,ad,n,rfl,O,k⟩:=h;refine⟨_,(ag (aK (i:=3) Fq.nd rfl (Or.inl rfl) (ay bH (pv 1) (cj (by rfl) L N)))
   (aj (aE (dg gq (pv 0) (cV (pv 3)) (cV (ay bu (pv 3) (pv 2))))))),?_⟩
  refine⟨_,rfl,_,_,rfl,rfl,(by show(0:Int)<8;decide),?_⟩;have I:=emod_nonneg ad (show(8:Int)≠0 by decide);refine⟨_,rfl,_,rfl,ad%8,rfl,_,rfl,_,rfl,_,_,rfl,rfl,ad%8+n,rfl,a,_,rfl,bq.of O,λl G=>?_⟩;have e:ad%8=((ad%8).toNat:Int):=(Int.toNat_of_nonneg I).symm;have J:eV (ws.map V.int) (some (ad%8)) (some (ad%8+n))=((ws.drop (ad%8).toNat).take n).map V.int:=by
   rw[e];exact oS
  exact k _ l (au G) G (by rw[ae,J])
theorem CM:az ["whole","address","cells","start","changed"] ["whole","address","cells"] (aq yR):=L2.bD
theorem Bp {f:Addr}{fd:FuncData}(F:cL K "pages_with" "pages_with" yR f fd) (T:yl mg):bf P w K mg base aU 1 f fd ["whole","address","cells"] (ue K):=by
 obtain⟨u8,m8,r8⟩:=T.cells;refine F.ok CM (λvs H Q E h=>?_) (λa5 A outer s H vs Q E hr h=>?_)
 .obtain⟨a,c,ws,cs,ad,j,rfl,_⟩:=h;rfl
 .obtain⟨a,c,ws,cs,ad,j,rfl,ha,hc,hw,a4,hj,a0,k⟩:=h;have hs:sizeLine=16777216:=sizeLine_eq;refine⟨_,(ag (aK (i:=3) CM.nd rfl (Or.inl rfl) (ay bH (pv 1) (cj (by rfl) m8 r8)))
   (ag (aK (i:=4) CM.nd rfl (Or.inr rfl) (ay vj (ay vj (dg gq (pv 0) fq (cV (pv 3))) (bE cA (by rfl) T.list dt (aa (pv 2) ai))) (dg gq (pv 0) (cV (ay bu (pv 3) (aN bF (by rfl) T.len boot_len (aa (pv 2) ai)))) fq)))
   (aj (aE (gp (cl:=[("changed",s.heap.objs.size+1)]) (caps:=[("changed",4)]) ⟨rfl,ao,ao,rfl,by kernel_rfl,by intro p G;simp only[mem_cons,not_mem_nil,or_false]at G;rcases G with rfl<;>first|rfl|exact⟨rfl,.inl rfl,.inl rfl⟩|exact⟨rfl,.inl rfl,.inr rfl⟩,by kernel_rfl,by intro p G;simp only[mem_cons,not_mem_nil,or_false]at G;rcases G with rfl<;>first|rfl|exact⟨rfl,.inl rfl,.inl rfl⟩|exact⟨rfl,.inl rfl,.inr rfl⟩,ao⟩ rfl (xv (by rfl) T.range (aa ak (aa (aN bF (by rfl) T.len boot_len (aa (pv 4) ai)) (aa (cj (by rfl) m8 r8) ai)))) (λ_ _ _ _=>fm) (λ_ _ _ _=>(dg (show E7 _ (Er K)from gq) (pv 1) (cV (pv 0)) (cV (ay bu (pv 0) (cj (by rfl) m8 r8)))))))))),?_⟩
  refine fN λ_ jt=>?_;refine⟨_,rfl,_,_,rfl,rfl,(by show(0:Int)<8;decide),?_⟩;have m0:=emod_nonneg ad (show(8:Int)≠0 by decide);have e:ad%8=((ad%8).toNat:Int):=(Int.toNat_of_nonneg m0).symm;refine jt _ _ ?_;show ml _ _ _ [some (V.ref a),some (.int ad),some (.ref c),some (.int (ad%8)),none] H;rw[e];generalize (ad%8).toNat=st at *;clear e m0;refine fN λ_ jt=>?_;refine⟨_,rfl,_,rfl,(st:Int),rfl,a,_,rfl,bq.of ha,λl1 a3=>?_⟩;rw[tK];have s1:=au (X:=.lst ((ws.take st).map V.int)) a3;have e1:(upd H l1 (.lst ((ws.take st).map V.int))) l1=some (.lst ((ws.take st).map V.int)):=ae;refine⟨_,rfl,c,_,rfl,.inl (ed hc (s1 _)),λl2 a1=>?_⟩;have s2:=au (X:=.lst (cs.map V.int)) a1;refine⟨l1,l2,_,_,rfl,rfl,s2 _ _ e1,ae,by rw[length_map,length_map,length_take];omega,λS aT=>?_⟩;rw[<-map_append];have s3:=au (X:=.lst ((ws.take st++cs).map V.int)) aT;have U:=(s1.trans s2).trans s3;have e3:(upd (upd (upd H l1 (.lst ((ws.take st).map V.int))) l2 (.lst (cs.map V.int))) S (.lst ((ws.take st++cs).map V.int))) S=some (.lst ((ws.take st++cs).map V.int)):=ae;generalize upd (upd (upd H l1 (.lst ((ws.take st).map V.int))) l2 (.lst (cs.map V.int))) S (.lst ((ws.take st++cs).map V.int))=Y at *;refine⟨_,rfl,_,rfl,_,rfl,c,_,rfl,.inl (ed hc (U _)),_,_,rfl,rfl,_,rfl,a,_,rfl,bq.of (U _ _ ha),λR a2=>?_⟩;rw[show((st:Int)+((cs.map V.int).length:Nat))=((st+cs.length:Nat):Int)by rw[length_map];push_cast;rfl,wQ];have s4:=au (X:=.lst ((ws.drop (st+cs.length)).map V.int)) a2;refine⟨S,R,_,_,rfl,rfl,s4 _ _ e3,ae,by rw[length_map,length_map,length_append,length_take,length_drop];omega,λN aB=>?_⟩;rw[<-map_append,show ws.take st++cs++ws.drop (st+cs.length)=eG ws st cs from rfl];have S5:a8 H (upd (upd Y R (.lst ((ws.drop (st+cs.length)).map V.int))) N (.lst ((eG ws st cs).map V.int))):=(U.trans s4).trans (au aB);have e5:(upd (upd Y R (.lst ((ws.drop (st+cs.length)).map V.int))) N (.lst ((eG ws st cs).map V.int))) N=some (.lst ((eG ws st cs).map V.int)):=ae;generalize upd (upd Y R (.lst ((ws.drop (st+cs.length)).map V.int))) N (.lst ((eG ws st cs).map V.int))=H5 at *;generalize eG ws st cs=sp at *;obtain⟨r1,r2,r3⟩:=Hv j af;refine jt _ _ (HJ λ_ jr=>?_);refine⟨_,rfl,N,_,rfl,.inl (bq.of e5),0,8*(j:Int),8,j,by rw[length_map,a0];push_cast;rfl,r1,r2,av,r3,?_⟩;refine p5 (lo:=0) (st:=8) (n:=j) (λi ys O=>∃I:List Addr,xa (ys=I.map V.ref) (I.length=i) (Paired (λr (am:List Int)=>O r=some (.lst (am.map V.int))) I (gM i sp)) (a8 H5 O) ((∀r∈I,H5 r=none)) I.Nodup) ⟨[],rfl,rfl,.nil,a8.refl _,(λ_ h=>nomatch h),nodup_nil⟩ ?_ ?_
  .rintro i ys O hi ⟨I,rfl,ac,G,L,hn,nd⟩;refine⟨_,rfl,_,rfl,_,rfl,_,rfl,_,_,rfl,rfl,_,rfl,N,_,rfl,bq.of (L _ _ e5),λr ab=>?_⟩;rw[show(0+(i:Int)*8)=((8*i:Nat):Int)by push_cast;omega,show(((8*i:Nat):Int)+8)=((8*i:Nat):Int)+((8:Nat):Int)from rfl,oS];have sr:=au (X:=.lst (((sp.drop (8*i)).take 8).map V.int)) ab;refine⟨by rw[length_map];omega,I++[r],by rw[map_append];rfl,by rw[length_append,ac];rfl,?_,L.trans sr,λx J=>?_,?_⟩
   .unfold gM at G ⊢;rw[range_succ,map_append];exact tR (uR (λx y h=>sr _ _ h) G) (.cons ae .nil)
   .rcases List.mem_append.mp J with J|J
    .exact hn x J
    .rw[List.mem_singleton.mp J];exact L.free ab
   .refine List.nodup_append.mpr ⟨nd,List.nodup_cons.mpr ⟨by simp,nodup_nil⟩,λx J y hy=>?_⟩;rw[List.mem_singleton.mp hy];intro z;obtain⟨am,as⟩:=ui G J;rw[z,ab]at as;cases as
  .rintro ys O ⟨I,rfl,ac,G,L,hn,nd⟩ l6 ap;have s7:=au (X:=.lst (I.map V.ref)) ap;exact jr _ _ (k _ l6 I ((S5.trans L).trans s7) ((S5.trans L).free ap) ae (uR (λx y h=>s7 _ _ h) G) (λr h=>S5.free (hn r h)) nd)
end
end Rm
namespace Pg
def upd {α:Type}(f:Bool->α) (b:Bool) (v:α):Bool->α:=λc=>if c=b then v else f c
def dh {α:Type}(f:Int->α) (k:Int) (v:α):Int->α:=λj=>if j=k then v else f j
theorem ae {α:Type}{f:Bool->α}{b:Bool}{v:α}:upd f b v b=v:=if_pos rfl
theorem aV {α:Type}{f:Bool->α}{b c:Bool}{v:α}(h:c≠b):upd f b v c=f c:=if_neg h
theorem bp {α:Type}{f:Int->α}{b:Int}{v:α}:dh f b v b=v:=if_pos rfl
theorem aG {α:Type}{f:Int->α}{b c:Int}{v:α}(h:c≠b):dh f b v c=f c:=if_neg h
structure PS where
 ow:Bool->List Int
 co:Bool->List (Option (List Int))
 pl:Int->Option (Bool×Nat)
 ls:Int
 inf:List Int
def Vw (s:PS) (k:Int) (cs:List Int) (c:Int):Prop:=∃b n,s.pl k=some (b,n)/\(s.co b)[n]?=some (some cs)/\(s.ow b)[n]?=some c
structure Good (s:PS):Prop where
 rg:∀k p,s.pl k=some p->1<=k/\k<=s.ls
 va:∀k b n,s.pl k=some (b,n)->∃cs c,(s.co b)[n]?=some (some cs)/\(s.ow b)[n]?=some c/\1<=c/\cs.length=8
 inj:∀k j p,s.pl k=some p->s.pl j=some p->k=j
 on:∀b n c,(s.ow b)[n]?=some c->c=0\/∃k,s.pl k=some (b,n)
 ln:∀b,(s.co b).length=(s.ow b).length
 nd:s.inf.Nodup
 fi:∀k,k∈s.inf↔∃n,s.pl k=some (true,n)
def vD (s:PS) (b:Bool) (k:Int) (cs:List Int) (c:Int):PS :=
 { ow:=upd s.ow b ((s.ow b).set ((s.ow b).idxOf 0) c),co:=upd s.co b ((s.co b).set ((s.ow b).idxOf 0) (some cs)),pl:=dh s.pl k (some (b,(s.ow b).idxOf 0)),ls:=s.ls,inf:=if b=true then s.inf++[k]else s.inf }
def ny (s:PS) (k:Int) (b:Bool) (n:Nat):PS :=
 { ow:=upd s.ow b ((s.ow b).set n 0),co:=s.co,pl:=dh s.pl k none,ls:=s.ls,inf:=s.inf.erase k }
def cq (s:PS) (b:Bool) (n:Nat) (c:Int):PS:={ s with ow:=upd s.ow b ((s.ow b).set n c) }
def write (s:PS) (b:Bool) (n:Nat) (cs:List Int):PS:={ s with co:=upd s.co b ((s.co b).set n (some cs)) }
theorem vc {l:List Int}(h:(0:Int)∈l):l[l.idxOf 0]?=some 0:=by
 have F:l.idxOf 0<l.length:=List.idxOf_lt_length_iff.mpr h;rw[getElem?_eq_getElem F,List.getElem_idxOf F]
theorem tT {l:List Int}(h:(0:Int)∈l):l.idxOf 0<l.length:=List.idxOf_lt_length_iff.mpr h
section
variable {s:PS}{b:Bool}{k:Int}{cs:List Int}{c:Int}{n:Nat}
theorem wg (G:Good s) (h:(0:Int)∈s.ow b):∀j,s.pl j≠some (b,(s.ow b).idxOf 0):=by
 intro j e;obtain⟨cs,c,_,h2,F,_⟩:=G.va _ _ _ e;rw[vc h]at h2;cases h2;omega
theorem lO (G:Good s) (h0:(0:Int)∈s.ow b) (S:s.pl k=none) (h1:1<=k) (h2:k<=s.ls) (h3:1<=c) (h4:cs.length=8):Good (vD s b k cs c):=by
 have hl:=tT h0;have U:=wg G h0;have ac:(s.ow b).idxOf 0<(s.co b).length:=(by rw[G.ln b];exact hl);refine⟨?_,?_,?_,?_,?_,?_,?_⟩
 .intro j p e;by_cases I:j=k
  .subst I;exact⟨h1,h2⟩
  .exact G.rg j p (by rw[<-e];exact(aG I).symm)
 .intro j b' O e;by_cases I:j=k
  .subst I;have e:some (b,(s.ow b).idxOf 0)=some (b',O):=(by rw[<-e];exact bp.symm);cases e;refine⟨cs,c,?_,?_,h3,h4⟩
   .show(upd s.co b _ b)[_]?=_;rw[ae,getElem?_set_self ac]
   .show(upd s.ow b _ b)[_]?=_;rw[ae,getElem?_set_self hl]
  .have L:s.pl j=some (b',O):=(by rw[<-e];exact(aG I).symm);obtain⟨ab,Y,e1,e2,e3,e4⟩:=G.va _ _ _ L;refine⟨ab,Y,?_,?_,e3,e4⟩
   .show(upd s.co b _ b')[_]?=_;by_cases F:b'=b
    .subst F;rw[ae,getElem?_set_ne (λq=>U j (by rw[L,q]))];exact e1
    .rw[aV F];exact e1
   .show(upd s.ow b _ b')[_]?=_;by_cases F:b'=b
    .subst F;rw[ae,getElem?_set_ne (λq=>U j (by rw[L,q]))];exact e2
    .rw[aV F];exact e2
 .intro j N p e J;by_cases I:j=k
  .by_cases R:N=k
   .rw[I,R]
   .subst I;have e:some (b,(s.ow b).idxOf 0)=some p:=(by rw[<-e];exact bp.symm);have J:s.pl N=some p:=(by rw[<-J];exact(aG R).symm);exact absurd (J.trans e.symm) (U N)
  .have L:s.pl j=some p:=(by rw[<-e];exact(aG I).symm);by_cases R:N=k
   .subst R;have J:some (b,(s.ow b).idxOf 0)=some p:=(by rw[<-J];exact bp.symm);exact absurd (L.trans J.symm) (U j)
   .have J:s.pl N=some p:=(by rw[<-J];exact(aG R).symm);exact G.inj _ _ _ L J
 .intro b' O Y e;have e:(upd s.ow b ((s.ow b).set ((s.ow b).idxOf 0) c) b')[O]?=some Y:=e;by_cases F:b'=b
  .subst F;by_cases en:(s.ow b').idxOf 0=O
   .exact .inr ⟨k,by show dh s.pl k _ k=_;rw[bp,en]⟩
   .rw[ae,getElem?_set_ne en]at e;rcases G.on _ _ _ e with h|⟨j,h⟩
    .exact .inl h
    .refine .inr ⟨j,?_⟩;show dh s.pl k _ j=_;rw[aG (λq=>by rw[q,S]at h;cases h)];exact h
  .rw[aV F]at e;rcases G.on _ _ _ e with h|⟨j,h⟩
   .exact .inl h
   .refine .inr ⟨j,?_⟩;show dh s.pl k _ j=_;rw[aG (λq=>by rw[q,S]at h;cases h)];exact h
 .intro b';show(upd s.co b _ b').length=(upd s.ow b _ b').length;by_cases F:b'=b
  .subst F;rw[ae,ae,length_set,length_set];exact G.ln _
  .rw[aV F,aV F];exact G.ln _
 .show(if b=true then s.inf++[k]else s.inf).Nodup;by_cases F:b=true
  .rw[if_pos F];refine List.nodup_append.mpr ⟨G.nd,by simp,?_⟩;intro x hx y hy e;rw[mem_singleton]at hy;subst hy;subst e;obtain⟨m,hm⟩:=(G.fi x).mp hx;rw[S]at hm;cases hm
  .rw[if_neg F];exact G.nd
 .intro j;show j∈(if b=true then s.inf++[k]else s.inf)↔∃m,dh s.pl k (some (b,(s.ow b).idxOf 0)) j=some (true,m);by_cases I:j=k
  .subst I;rw[bp];by_cases F:b=true
   .subst F;rw[if_pos rfl];exact⟨λ_=>⟨_,rfl⟩,λ_=>by simp⟩
   .rw[if_neg F,G.fi];exact⟨λ⟨m,h⟩=>(by rw[S]at h;cases h),λ⟨m,h⟩=>(by cases h;exact absurd rfl F)⟩
  .rw[aG I, <-G.fi];by_cases F:b=true
   .rw[if_pos F];simp[I]
   .rw[if_neg F]
theorem mK (F:(0:Int)∈s.ow b) (G:Good s):Vw (vD s b k cs c) k cs c:=by
 refine⟨b,(s.ow b).idxOf 0,bp,?_,?_⟩
 .show(upd s.co b _ b)[_]?=_;rw[ae,getElem?_set_self (by rw[G.ln b];exact tT F)]
 .show(upd s.ow b _ b)[_]?=_;rw[ae,getElem?_set_self (tT F)]
theorem jS (G:Good s) (Y:(0:Int)∈s.ow b) {j:Int}(S:j≠k) {R:List Int}{O:Int}:Vw (vD s b k cs c) j R O↔Vw s j R O:=by
 have U:=wg G Y;have A:∀b' F,s.pl j=some (b',F)->((vD s b k cs c).co b')[F]?=(s.co b')[F]?/\((vD s b k cs c).ow b')[F]?=(s.ow b')[F]?:=by
  intro b' F e;show(upd s.co b _ b')[F]?=_/\(upd s.ow b _ b')[F]?=_;by_cases N:b'=b
  .subst N;have:(s.ow b').idxOf 0≠F:=λq=>U j (by rw[e,q]);rw[ae,ae,getElem?_set_ne this,getElem?_set_ne this];exact⟨rfl,rfl⟩
  .rw[aV N,aV N];exact⟨rfl,rfl⟩
 constructor
 .rintro⟨b',F,I,J,L⟩;have I:s.pl j=some (b',F):=(by rw[<-I];exact(aG S).symm);exact⟨b',F,I,by rw[<-(A _ _ I).1];exact J,by rw[<-(A _ _ I).2];exact L⟩
 .rintro⟨b',F,I,J,L⟩;exact⟨b',F,(aG S).trans I,by rw[(A _ _ I).1];exact J,by rw[(A _ _ I).2];exact L⟩
theorem jh (G:Good s) (J:s.pl k=some (b,n)):Good (ny s k b n):=by
 obtain⟨ac,c0,g1,g2,_,_⟩:=G.va _ _ _ J;have hn:n<(s.ow b).length:=(List.getElem?_eq_some_iff.mp g2).1;have N:∀{j p},(ny s k b n).pl j=some p->j≠k/\s.pl j=some p:=by
  intro j p e;by_cases F:j=k
  .subst F;have L:(none:Option (Bool×Nat))=some p:=(by rw[<-e];exact bp.symm);cases L
  .exact⟨F,by rw[<-e];exact(aG F).symm⟩
 refine⟨?_,?_,?_,?_,?_,?_,?_⟩
 .intro j p e;exact G.rg j p (N e).2
 .intro j b' O e;obtain⟨F,L⟩:=N e;obtain⟨ab,R,e1,U,e3,Y⟩:=G.va _ _ _ L;refine⟨ab,R,e1,?_,e3,Y⟩;show(upd s.ow b _ b')[_]?=_;by_cases I:b'=b
  .subst I;rw[ae,getElem?_set_ne (λq=>F (G.inj _ _ _ L (by rw[J,q])))];exact U
  .rw[aV I];exact U
 .intro j j' p e e';exact G.inj _ _ _ (N e).2 (N e').2
 .intro b' O R e;have e:(upd s.ow b ((s.ow b).set n 0) b')[O]?=some R:=e;by_cases I:b'=b
  .subst I;by_cases S:n=O
   .subst S;rw[ae,getElem?_set_self hn]at e;cases e;exact .inl rfl
   .rw[ae,getElem?_set_ne S]at e;rcases G.on _ _ _ e with h|⟨j,h⟩
    .exact .inl h
    .refine .inr ⟨j,?_⟩;show dh s.pl k _ j=_;rw[aG (λq=>by rw[q,J]at h;cases h;exact S rfl)];exact h
  .rw[aV I]at e;rcases G.on _ _ _ e with h|⟨j,h⟩
   .exact .inl h
   .refine .inr ⟨j,?_⟩;show dh s.pl k _ j=_;rw[aG (λq=>by rw[q,J]at h;cases h;exact I rfl)];exact h
 .intro b';show(s.co b').length=(upd s.ow b _ b').length;by_cases I:b'=b
  .subst I;rw[ae,length_set];exact G.ln _
  .rw[aV I];exact G.ln _
 .exact G.nd.erase k
 .intro j;show j∈s.inf.erase k↔∃m,dh s.pl k none j=some (true,m);rw[List.Nodup.mem_erase_iff G.nd,G.fi];by_cases F:j=k
  .subst F;rw[bp];exact⟨λh=>absurd rfl h.1,λ⟨m,h⟩=>by cases h⟩
  .rw[aG F];exact⟨λh=>h.2,λh=>⟨F,h⟩⟩
theorem ip (G:Good s) (U:s.pl k=some (b,n)) {j:Int}(N:j≠k) {R:List Int}{O:Int}:Vw (ny s k b n) j R O↔Vw s j R O:=by
 have A:∀b' F,s.pl j=some (b',F)->((ny s k b n).ow b')[F]?=(s.ow b')[F]?:=by
  intro b' F e;show(upd s.ow b _ b')[F]?=_;by_cases S:b'=b
  .subst S;rw[ae,getElem?_set_ne (λq=>N (G.inj _ _ _ e (by rw[U,q])))]
  .rw[aV S]
 constructor
 .rintro⟨b',F,I,J,L⟩;have I:s.pl j=some (b',F):=(by rw[<-I];exact(aG N).symm);exact⟨b',F,I,J,by rw[<-A _ _ I];exact L⟩
 .rintro⟨b',F,I,J,L⟩;exact⟨b',F,(aG N).trans I,J,by rw[A _ _ I];exact L⟩
theorem rG (G:Good s) (J:s.pl k=some (b,n)):(0:Int)∈(ny s k b n).ow b:=by
 obtain⟨L,O,N,F,_,_⟩:=G.va _ _ _ J;have I:n<(s.ow b).length:=(List.getElem?_eq_some_iff.mp F).1;show(0:Int)∈upd s.ow b _ b;rw[ae];exact mem_of_getElem? (getElem?_set_self I)
theorem jb (G:Good s) (O:s.pl k=some (b,n)) (hc:1<=c):Good (cq s b n c):=by
 obtain⟨ab,c0,g1,g2,_,g4⟩:=G.va _ _ _ O;have hn:n<(s.ow b).length:=(List.getElem?_eq_some_iff.mp g2).1;refine⟨G.rg,?_,G.inj,?_,?_,G.nd,G.fi⟩
 .intro j b' I e;obtain⟨Y,N,e1,R,S,U⟩:=G.va j b' I e;have A:∃L,(upd s.ow b ((s.ow b).set n c) b')[I]?=some L/\1<=L:=by
   by_cases F:b'=b
   .subst F;rw[ae];by_cases J:n=I
    .subst J;exact⟨c,getElem?_set_self hn,hc⟩
    .rw[getElem?_set_ne J];exact⟨N,R,S⟩
   .rw[aV F];exact⟨N,R,S⟩
  obtain⟨L,a1,a2⟩:=A;exact⟨Y,L,e1,a1,a2,U⟩
 .intro b' I N e;have e:(upd s.ow b ((s.ow b).set n c) b')[I]?=some N:=e;by_cases F:b'=b
  .subst F;rw[ae]at e;by_cases J:n=I
   .subst J;exact .inr ⟨k,O⟩
   .rw[getElem?_set_ne J]at e;exact G.on _ _ _ e
  .rw[aV F]at e;exact G.on _ _ _ e
 .intro b';show(s.co b').length=(upd s.ow b _ b').length;by_cases F:b'=b
  .subst F;rw[ae,length_set];exact G.ln _
  .rw[aV F];exact G.ln _
theorem iW (G:Good s) (F:s.pl k=some (b,n)) {N:Int}(h:Vw s k cs N):Vw (cq s b n c) k cs c:=by
 obtain⟨b',O,I,J,L⟩:=h;rw[F]at I;cases I;refine⟨b,n,F,J,?_⟩;show(upd s.ow b _ b)[_]?=_;rw[ae,getElem?_set_self (List.getElem?_eq_some_iff.mp L).1]
theorem dq (G:Good s) (S:s.pl k=some (b,n)) {j:Int}(U:j≠k) {O:List Int}{N:Int}:Vw (cq s b n c) j O N↔Vw s j O N:=by
 have A:∀b' F,s.pl j=some (b',F)->((cq s b n c).ow b')[F]?=(s.ow b')[F]?:=by
  intro b' F e;show(upd s.ow b _ b')[F]?=_;by_cases R:b'=b
  .subst R;rw[ae,getElem?_set_ne (λq=>U (G.inj _ _ _ e (by rw[S,q])))]
  .rw[aV R]
 constructor
 .rintro⟨b',F,I,J,L⟩;exact⟨b',F,I,J,by rw[<-A _ _ I];exact L⟩
 .rintro⟨b',F,I,J,L⟩;exact⟨b',F,I,J,by rw[A _ _ I];exact L⟩
theorem tY (G:Good s) (S:s.pl k=some (b,n)) (hc:cs.length=8):Good (write s b n cs):=by
 obtain⟨ab,c0,g1,g2,_,g4⟩:=G.va _ _ _ S;have hn:n<(s.co b).length:=(List.getElem?_eq_some_iff.mp g1).1;refine⟨G.rg,?_,G.inj,G.on,?_,G.nd,G.fi⟩
 .intro j b' J e;obtain⟨N,Y,O,e2,e3,L⟩:=G.va j b' J e;have A:∃I,(upd s.co b ((s.co b).set n (some cs)) b')[J]?=some (some I)/\I.length=8:=by
   by_cases F:b'=b
   .subst F;rw[ae];by_cases R:n=J
    .subst R;exact⟨cs,getElem?_set_self hn,hc⟩
    .rw[getElem?_set_ne R];exact⟨N,O,L⟩
   .rw[aV F];exact⟨N,O,L⟩
  obtain⟨I,U,a2⟩:=A;exact⟨I,Y,U,e2,e3,a2⟩
 .intro b';show(upd s.co b _ b').length=(s.ow b').length;by_cases F:b'=b
  .subst F;rw[ae,length_set];exact G.ln _
  .rw[aV F];exact G.ln _
theorem yk (G:Good s) (F:s.pl k=some (b,n)) {J:List Int}(h:Vw s k J c):Vw (write s b n cs) k cs c:=by
 obtain⟨b',O,I,L,N⟩:=h;rw[F]at I;cases I;refine⟨b,n,F,?_,N⟩;show(upd s.co b _ b)[_]?=_;rw[ae,getElem?_set_self (List.getElem?_eq_some_iff.mp L).1]
theorem gY (G:Good s) (S:s.pl k=some (b,n)) {j:Int}(U:j≠k) {O:List Int}{N:Int}:Vw (write s b n cs) j O N↔Vw s j O N:=by
 have A:∀b' F,s.pl j=some (b',F)->((write s b n cs).co b')[F]?=(s.co b')[F]?:=by
  intro b' F e;show(upd s.co b _ b')[F]?=_;by_cases R:b'=b
  .subst R;rw[ae,getElem?_set_ne (λq=>U (G.inj _ _ _ e (by rw[S,q])))]
  .rw[aV R]
 constructor
 .rintro⟨b',F,I,J,L⟩;exact⟨b',F,I,by rw[<-A _ _ I];exact J,L⟩
 .rintro⟨b',F,I,J,L⟩;exact⟨b',F,I,by rw[A _ _ I];exact J,L⟩
end
end Pg
namespace Pg
theorem sum_set {l:List Int}{n:Nat}{x y:Int}(h:l[n]?=some x):(l.set n y).sum=l.sum-x+y:=by
 induction l generalizing n with
 |nil=>cases h
 |cons a l F =>
  cases n with
  |zero =>
   cases h;show(y::l).sum=_;simp only[sum_cons];lia
  |succ n =>
   have h:l[n]?=some x:=h;show(a::l.set n y).sum=_;simp only[sum_cons,F h];lia
def all (s:PS):Int:=(s.ow true).sum+(s.ow false).sum
theorem oQ {ow:Bool->List Int}{b:Bool}{n:Nat}{x y:Int}(h:(ow b)[n]?=some x) :
  (upd ow b ((ow b).set n y) true).sum+(upd ow b ((ow b).set n y) false).sum=(ow true).sum+(ow false).sum-x+y:=by
 cases b
 .rw[aV av,ae,sum_set h];lia
 .rw[ae,aV av,sum_set h];lia
section
variable {s s':PS}{b:Bool}{k:Int}{cs:List Int}{c:Int}{n:Nat}
theorem pS (F:(0:Int)∈s.ow b):all (vD s b k cs c)=all s+c:=by
 have:=oQ (ow:=s.ow) (y:=c) (vc F);unfold all vD;dsimp only;lia
theorem qN {F:Int}(h:(s.ow b)[n]?=some F):all (ny s k b n)=all s-F:=by
 have:=oQ (ow:=s.ow) (y:=0) h;unfold all ny;dsimp only;lia
theorem kG {F:Int}(h:(s.ow b)[n]?=some F):all (cq s b n c)=all s-F+c:=by
 have:=oQ (ow:=s.ow) (y:=c) h;unfold all cq;dsimp only;omega +splitNatSub
theorem du {f:Bool->List Int}{n:Nat}{x:Int}(b':Bool):(upd f b ((f b).set n x) b').length=(f b').length:=by
 by_cases e:b'=b
 .subst e;rw[ae,length_set]
 .rw[aV e]
structure Kept (s s':PS) (k:Int):Prop where
 ot:∀j cs' c',j≠k->(Vw s' j cs' c'↔Vw s j cs' c')
 ln:∀b,(s'.ow b).length=(s.ow b).length
 fr:(0:Int)∈s'.ow true->(0:Int)∈s.ow true/\∀j m,j≠k->s.pl j=some (true,m)->s'.pl j=some (true,m)
theorem Au {l:List Int}{n:Nat}{x:Int}(F:x≠0) (h:(0:Int)∈l.set n x):(0:Int)∈l:=by
 rcases List.mem_or_eq_of_mem_set h with h|h
 .exact h
 .exact absurd h.symm F
theorem xC (G:Good s) (I:(0:Int)∈s.ow true) (N:1<=c):Kept s (vD s true k cs c) k :=
 ⟨λj L J F=>jS G I F,λb=>du b,λh=>⟨I,λj m F e=>(aG F).trans e⟩⟩
def out (s:PS) (F:Int) (J:Nat) (G:List Int) (I:Int):PS:=vD (ny s F true J) false F G I
theorem rF (G:Good s) {F:Int}{I:Nat}{L:List Int}{J:Int}(N:s.pl F=some (true,I)) (hv:Vw s F L J) (hf:(0:Int)∈s.ow false) :
  Good (out s F I L J)/\Vw (out s F I L J) F L J/\(∀j S U,j≠F->(Vw (out s F I L J) j S U↔Vw s j S U))/\(0:Int)∈(out s F I L J).ow true/\all (out s F I L J)=all s /\
  (∀b,((out s F I L J).ow b).length=(s.ow b).length)/\(∀j,j≠F->(out s F I L J).pl j=s.pl j):=by
 obtain⟨b',n',e1,e2,e3⟩:=hv;rw[N]at e1;cases e1;obtain⟨ab,c9,a1,a2,a3,a4⟩:=G.va _ _ _ N;rw[e2]at a1;cases a1;rw[e3]at a2;cases a2;have Y:=jh G N;have R:(0:Int)∈(ny s F true I).ow false:=by
  exact(aV (f:=s.ow) (v:=(s.ow true).set I 0) (show false≠true by decide)).symm▸hf
 have hn:(ny s F true I).pl F=none:=bp;have hr:=G.rg _ _ N;refine⟨lO Y R hn hr.1 hr.2 a3 a4,mK R Y,?_,?_,?_,?_,?_⟩
 .intro j S U O;exact(jS Y R O).trans (ip G N O)
 .exact(aV (f:=(ny s F true I).ow) (b:=false) (v:=((ny s F true I).ow false).set (((ny s F true I).ow false).idxOf 0) J) (show true≠false by decide)).symm▸rG G N
 .show all (vD _ _ _ _ _)=_;rw[pS R,qN e3];lia
 .intro b;exact(du (f:=(ny s F true I).ow) b).trans (du b)
 .intro j O;exact(aG O).trans (aG O)
inductive BI (s:PS) (k:Int) (cs:List Int) (c:Int):PS->Prop
 |free:(0:Int)∈s.ow true->BI s k cs c (vD s true k cs c)
 |full {k0:Int}{r:List Int}{n0:Nat}{cs0:List Int}{c0:Int}:¬ (0:Int)∈s.ow true->(0:Int)∈s.ow false->s.inf=k0::r->s.pl k0=some (true,n0)->Vw s k0 cs0 c0->BI s k cs c (vD (out s k0 n0 cs0 c0) true k cs c)
structure Iz (s:PS) (k:Int) (cs:List Int) (c:Int) (s':PS):Prop where
 good:Good s'
 vw:Vw s' k cs c
 fr:∃m,s'.pl k=some (true,m)
 kept:Kept s s' k
 ls:s'.ls=s.ls
 al:all s'=all s+c
theorem Cn (G:Good s) (U:s.pl k=none) (h1:1<=k) (h2:k<=s.ls) (h3:1<=c) (h4:cs.length=8) (h:BI s k cs c s'):Iz s k cs c s':=by
 cases h with
 |free Y=>exact⟨lO G Y U h1 h2 h3 h4,mK Y G,⟨_,bp⟩,xC G Y h3,rfl,pS Y⟩
 | @full I r F L J nf hf hi hp hv =>
  obtain⟨g1,g2,g3,S,g5,g6,g7⟩:=rF G hp hv hf;have ad:k≠I:=λe=>(by rw[e,hp]at U;cases U);have am:(out s I F L J).pl k=none:=(by rw[g7 k ad];exact U);refine⟨lO g1 S am h1 h2 h3 h4,mK S g1,⟨_,bp⟩,⟨?_,?_,?_⟩,rfl,?_⟩
  .intro j ac c' hj;rw[jS g1 S hj];by_cases e:j=I
   .subst e;constructor
    .intro hw;obtain⟨x1,x2,y1,y2,y3⟩:=hw;obtain⟨z1,z2,N,O,R⟩:=g2;rw[y1]at N;cases N;rw[y2]at O;cases O;rw[y3]at R;cases R;exact hv
    .intro hw;obtain⟨x1,x2,y1,y2,y3⟩:=hw;obtain⟨z1,z2,N,O,R⟩:=hv;rw[y1]at N;cases N;rw[y2]at O;cases O;rw[y3]at R;cases R;exact g2
   .exact g3 j ac c' e
  .intro b;exact(du (f:=(out s I F L J).ow) b).trans (g6 b)
  .intro h;exfalso;apply nf;have h:(0:Int)∈upd (out s I F L J).ow true (((out s I F L J).ow true).set (((out s I F L J).ow true).idxOf 0) c) true:=h;rw[ae]at h;have e1:(out s I F L J).ow true=(s.ow true).set F 0:=by
    exact(aV (f:=(ny s I true F).ow) (b:=false) (v:=((ny s I true F).ow false).set (((ny s I true F).ow false).idxOf 0) J) (show true≠false by decide)).trans (show upd s.ow true ((s.ow true).set F 0) true=_ from ae)
   rw[e1]at h;obtain⟨i,ab,e⟩:=getElem_of_mem h;have hl:i<(s.ow true).length:=(by simpa using ab);have hz:(0:Int)∈(s.ow true).set F 0:=e1▸S;have e0:((s.ow true).set F 0).idxOf 0=F:=by
    have q:=vc hz;by_cases en:F=((s.ow true).set F 0).idxOf 0
    .exact en.symm
    .rw[getElem?_set_ne en]at q;exact absurd (mem_of_getElem? q) nf
   rw[List.getElem_set]at e;split at e
   .lia
   .rename_i ne;rw[List.getElem_set]at e;split at e
    .rename_i e2;exact absurd (e0.trans e2) ne
    .exact e▸getElem_mem hl
  .rw[pS S,g5]
theorem EM (G:Good s) (hf:(0:Int)∈s.ow true\/(0:Int)∈s.ow false) (U:s.ow true≠[]):((0:Int)∈s.ow true)\/(¬ (0:Int)∈s.ow true/\(0:Int)∈s.ow false/\∃F r I J L,s.inf=F::r/\s.pl F=some (true,I)/\Vw s F J L):=by
 by_cases h:(0:Int)∈s.ow true
 .exact .inl h
 .refine .inr ⟨h,hf.resolve_left h,?_⟩;have O:0<(s.ow true).length:=List.length_pos_iff.mpr U;have Y:(s.ow true)[0]?=some (s.ow true)[0]:=getElem?_eq_getElem O;rcases G.on _ _ _ Y with e|⟨j,e⟩
  .exact absurd (e▸getElem_mem O) h
  .have R:j∈s.inf:=(G.fi j).mpr ⟨_,e⟩;cases hi:s.inf with
   |nil=>rw[hi]at R;cases R
   |cons F r =>
    obtain⟨I,N⟩:=(G.fi F).mp (by rw[hi];exact mem_cons_self);obtain⟨J,L,S,a2,_,_⟩:=G.va _ _ _ N;exact⟨F,r,I,J,L,rfl,N,true,I,N,S,a2⟩
end
end Pg
namespace Pg
section
variable {s s':PS}{b:Bool}{k:Int}{cs:List Int}{c:Int}{n:Nat}
theorem Vw.one {G:List Int}{F:Int}(h:Vw s k cs c) (h':Vw s k G F):G=cs/\F=c:=by
 obtain⟨S,U,O,N,R⟩:=h;obtain⟨z1,Y,J,I,L⟩:=h';rw[O]at J;cases J;rw[N]at I;cases I;rw[R]at L;cases L;exact⟨rfl,rfl⟩
theorem Good.vw (G:Good s) (h:Vw s k cs c):1<=c/\cs.length=8:=by
 obtain⟨S,U,N,O,R⟩:=h;obtain⟨ab,Y,I,F,L,J⟩:=G.va _ _ _ N;rw[O]at I;cases I;rw[R]at F;cases F;exact⟨L,J⟩
def used (s:PS) (k:Int):PS:={ s with inf:=s.inf.erase k++[k] }
theorem xV (G:Good s) (I:s.pl k=some (true,n)):Good (used s k):=by
 refine⟨G.rg,G.va,G.inj,G.on,G.ln,?_,?_⟩
 .refine List.nodup_append.mpr ⟨G.nd.erase k,by simp,?_⟩;intro x J y F e;rw[mem_singleton]at F;subst F;subst e;exact((List.Nodup.mem_erase_iff G.nd).mp J).1 rfl
 .intro j;show j∈s.inf.erase k++[k]↔_;rw[List.mem_append,mem_singleton,List.Nodup.mem_erase_iff G.nd,G.fi];constructor
  .rintro(h|h)
   .exact h.2
   .subst h;exact⟨n,I⟩
  .intro h;by_cases e:j=k
   .exact .inr e
   .exact .inl ⟨e,h⟩
inductive FE (s:PS) (k:Int):PS->Prop
 |here {n:Nat}:s.pl k=some (true,n)->FE s k (used s k)
 |away {n:Nat}{cs:List Int}{c:Int}{s':PS}:s.pl k=some (false,n)->Vw s k cs c->BI (ny s k false n) k cs c s'->FE s k s'
structure Jl (s:PS) (k:Int) (s':PS):Prop where
 good:Good s'
 vw:∀j cs c,Vw s' j cs c↔Vw s j cs c
 fr:∃m,s'.pl k=some (true,m)
 kept:Kept s s' k
 ls:s'.ls=s.ls
 al:all s'=all s
theorem oM (G:Good s) (h:FE s k s'):Jl s k s':=by
 cases h with
 |here F=>exact⟨xV G F,λ_ _ _=>Iff.rfl,⟨_,F⟩,⟨λ_ _ _ _=>Iff.rfl,λ_=>rfl,λh=>⟨h,λ_ _ _ e=>e⟩⟩,rfl,rfl⟩
 | @away n cs c _ F I hb =>
  have GR:=jh G F;have S:=G.rg _ _ F;have U:=G.vw I;have B:=Cn GR (show dh s.pl k none k=none from bp) S.1 S.2 U.1 U.2 hb;have e3:(s.ow false)[n]?=some c:=by
   obtain⟨x1,x2,R,y2,y3⟩:=I;rw[F]at R;cases R;exact y3
  refine⟨B.good,?_,B.fr,⟨?_,?_,?_⟩,B.ls,?_⟩
  .intro j J N;by_cases e:j=k
   .subst e;constructor
    .intro h;obtain⟨L,O⟩:=B.vw.one h;subst L;subst O;exact I
    .intro h;obtain⟨L,O⟩:=I.one h;subst L;subst O;exact B.vw
   .exact(B.kept.ot j J N e).trans (ip G F e)
  .intro j J N e;exact(B.kept.ot j J N e).trans (ip G F e)
  .intro b;exact(B.kept.ln b).trans (du b)
  .intro h;obtain⟨Y,a2⟩:=B.kept.fr h;have e0:(ny s k false n).ow true=s.ow true:=aV (f:=s.ow) (v:=(s.ow false).set n 0) (show true≠false by decide);exact⟨e0▸Y,λj m e hj=>a2 j m e ((aG e).trans hj)⟩
  .rw[B.al,qN e3];omega
def next (s:PS):PS:={ s with ls:=s.ls+1 }
theorem nX (G:Good s):Good (next s):=⟨λk p h=>by have:=G.rg k p h;exact⟨this.1,by show k<=s.ls+1;omega⟩,G.va,G.inj,G.on,G.ln,G.nd,G.fi⟩
theorem eQ (G:Good s):s.pl (s.ls+1)=none:=by
 cases h:s.pl (s.ls+1)with
 |none=>rfl
 |some p=>have:=G.rg _ _ h;omega
theorem kl (G:Good s) (I:0<=s.ls) (F:cs.length=8) (h:BI (next s) (s.ls+1) cs 1 s'):Iz (next s) (s.ls+1) cs 1 s' :=
 Cn (nX G) (eQ G) af (Int.le_refl _) (Int.le_refl _) F h
inductive B6 (s:PS) (k:Int):PS->Prop
 |more {b:Bool}{n:Nat}{cs:List Int}{c:Int}:s.pl k=some (b,n)->Vw s k cs c->1<c->B6 s k (cq s b n (c-1))
 |last {b:Bool}{n:Nat}{cs:List Int}:s.pl k=some (b,n)->Vw s k cs 1->B6 s k (ny s k b n)
theorem rE (G:s.pl k=some (b,n)) (I:Vw s k cs c):(s.ow b)[n]?=some c:=by
 obtain⟨L,N,F,O,J⟩:=I;rw[G]at F;cases F;exact J
structure Jk (s:PS) (k:Int) (c:Int) (s':PS):Prop where
 good:Good s'
 ot:∀j cs' c',j≠k->(Vw s' j cs' c'↔Vw s j cs' c')
 me:∀cs' c',Vw s' k cs' c'↔(1<c/\c'=c-1/\Vw s k cs' c)
 pl:∀j,j≠k->s'.pl j=s.pl j
 ln:∀b,(s'.ow b).length=(s.ow b).length
 ls:s'.ls=s.ls
 al:all s'=all s-1
 kept:1<c->Kept s s' k
theorem vP (G:Good s) (L:Vw s k cs c) (h:B6 s k s'):Jk s k c s':=by
 cases h with
 | @more b n ab Y F S hc =>
  obtain⟨J,N⟩:=L.one S;subst J;subst N;have U:=rE F L;refine⟨jb G F af,λj O R I=>dq G F I,?_,λ_ _=>rfl,λb=>du b,rfl,?_,?_⟩
  .intro O R;have W:=iW (c:=Y-1) G F L;constructor
   .intro h;obtain⟨J,N⟩:=W.one h;subst J;subst N;exact⟨hc,rfl,L⟩
   .rintro⟨_,q,h⟩;obtain⟨J,N⟩:=L.one h;subst J;subst q;exact W
  .rw[kG U];omega
  .intro _;refine⟨λj O R I=>dq G F I,λb=>du b,λh=>⟨?_,λ_ _ _ e=>e⟩⟩;have h:(0:Int)∈upd s.ow b ((s.ow b).set n (Y-1)) true:=h;by_cases e:true=b
   .subst e;rw[ae]at h;exact Au af h
   .rw[aV e]at h;exact h
 | @last b n ab F S =>
  obtain⟨J,N⟩:=L.one S;subst J;subst N;have U:=rE F L;refine⟨jh G F,λj O R I=>ip G F I,?_,λ_ I=>aG I,λb=>du b,rfl,?_,λh=>absurd h av⟩
  .intro O R;constructor
   .rintro⟨x1,x2,y1,_,_⟩;have y9:(none:Option (Bool×Nat))=some (x1,x2):=(by rw[<-y1];exact bp.symm);cases y9
   .rintro⟨q,_,_⟩;exact absurd q av
  .rw[qN U]
theorem yn (G:Good s) (F:s.pl k=some (b,n)) (I:Vw s k cs c):Good (cq s b n (c+1))/\Vw (cq s b n (c+1)) k cs (c+1)/\all (cq s b n (c+1))=all s+1:=by
 have:=G.vw I;refine⟨jb G F af,iW G F I,?_⟩;rw[kG (rE F I)];omega
end
end Pg
namespace Pg
abbrev Ent:=Option Int
def full (es:List Ent):Int:=(es.countP (·.isSome):Nat)
structure RI (s:PS) (es:List Ent):Prop where
 good:Good s
 l0:0<=s.ls
 ne:s.ow true≠[]
 is:∀k,some k∈es->∃cs c,Vw s k cs c
 ct:∀k cs c,Vw s k cs c->c=(es.count (some k):Nat)
 al:all s=full es
 rm:es.length<=(s.ow true).length+(s.ow false).length
section
variable {s s':PS}{es r:List Ent}{k:Int}{cs:List Int}{c:Int}
theorem RI.perm {es':List Ent}(R:RI s es) (p:es.Perm es'):RI s es' :=
 ⟨R.good,R.l0,R.ne,λk h=>R.is k (p.mem_iff.mpr h),λk cs c h=>by rw[<-p.count_eq];exact R.ct k cs c h,by rw[R.al];unfold full;rw[p.countP_eq],by rw[<-p.length_eq];exact R.rm⟩
theorem iq:full (none::es)=full es:=by unfold full;rw[List.countP_cons_of_neg (by simp)]
theorem fY:full (some k::es)=full es+1:=by unfold full;rw[List.countP_cons_of_pos (by simp)];simp
theorem wd:full es<=es.length:=by unfold full;exact_mod_cast List.countP_le_length
theorem iP {j:Int}:(none::es).count (some j)=es.count (some j):=List.count_cons_of_ne (by simp)
theorem dy:(some k::es).count (some k)=es.count (some k)+1:=List.count_cons_self
theorem eB {j:Int}(h:j≠k):(some k::es).count (some j)=es.count (some j):=List.count_cons_of_ne (by simpa using Ne.symm h)
theorem RI.lay (R:RI s es) (h:es.length<(s.ow true).length+(s.ow false).length):RI s (none::es):=
 ⟨R.good,R.l0,R.ne,λk h=>R.is k (by simpa using h),λk cs c h=>by rw[iP];exact R.ct k cs c h,by rw[iq];exact R.al,h⟩
theorem RI.bare (R:RI s (none::es)):RI s es :=
 ⟨R.good,R.l0,R.ne,λk h=>R.is k (by simpa using h),λk cs c h=>by rw[<-iP];exact R.ct k cs c h,by rw[<-iq];exact R.al,Nat.le_of_succ_le R.rm⟩
theorem RI.leave (R:RI s (some k::es)) (J:Vw s k cs c) (h:B6 s k s'):RI s' es:=by
 have L:=vP R.good J h;have O:=R.ct _ _ _ J;rw[dy]at O;refine⟨L.good,by rw[L.ls];exact R.l0,?_,?_,?_,?_,?_⟩
 .intro e;have:=L.ln true;rw[e]at this;exact R.ne (List.length_eq_zero_iff.mp this.symm)
 .intro j I;by_cases e:j=k
  .subst e;have:0<es.count (some j):=List.count_pos_iff.mpr I;exact⟨cs,c-1,(L.me cs (c-1)).mpr ⟨af,rfl,J⟩⟩
  .obtain⟨G,F,q⟩:=R.is j (mem_cons_of_mem _ I);exact⟨G,F,(L.ot j G F e).mpr q⟩
 .intro j G F I;by_cases e:j=k
  .subst e;obtain⟨Y,U,S⟩:=(L.me G F).mp I;omega
  .rw[<-eB e];exact R.ct j G F ((L.ot j G F e).mp I)
 .have N:=R.al;rw[fY]at N;rw[L.al,N];omega
 .rw[L.ln,L.ln];exact Nat.le_of_succ_le R.rm
theorem RI.share {b:Bool}{n:Nat}(R:RI s es) (I:s.pl k=some (b,n)) (L:Vw s k cs c) (h:es.length<(s.ow true).length+(s.ow false).length):RI (cq s b n (c+1)) (some k::es):=by
 obtain⟨g,v,a⟩:=yn R.good I L;have N:=R.ct _ _ _ L;refine⟨g,R.l0,?_,?_,?_,?_,?_⟩
 .intro e;have:=du (f:=s.ow) (b:=b) (n:=n) (x:=c+1) true;have e:upd s.ow b ((s.ow b).set n (c+1)) true=[]:=e;rw[e]at this;exact R.ne (List.length_eq_zero_iff.mp this.symm)
 .intro j F;by_cases e:j=k
  .subst e;exact⟨cs,c+1,v⟩
  .obtain⟨G,J,q⟩:=R.is j (by simpa[e]using F);exact⟨G,J,(dq R.good I e).mpr q⟩
 .intro j G J F;by_cases e:j=k
  .subst e;obtain⟨_,q⟩:=v.one F;rw[dy];omega
  .rw[eB e];exact R.ct j G J ((dq R.good I e).mp F)
 .rw[a,fY,R.al]
 .show es.length+1<=(upd s.ow b _ true).length+(upd s.ow b _ false).length;rw[du,du];exact h
theorem RI.Ck (R:RI s es) (h:FE s k s'):RI s' es:=by
 have F:=oM R.good h;refine⟨F.good,by rw[F.ls];exact R.l0,?_,?_,?_,by rw[F.al];exact R.al,by rw[F.kept.ln,F.kept.ln];exact R.rm⟩
 .intro e;have:=F.kept.ln true;rw[e]at this;exact R.ne (List.length_eq_zero_iff.mp this.symm)
 .intro j G;obtain⟨cs,c,q⟩:=R.is j G;exact⟨cs,c,(F.vw j cs c).mpr q⟩
 .intro j cs c G;exact R.ct j cs c ((F.vw j cs c).mp G)
theorem RI.fill (R:RI s (none::r)) (N:cs.length=8) (h:BI (next s) (s.ls+1) cs 1 s'):RI s' (some (s.ls+1)::r):=by
 have B:=kl R.good R.l0 N h;have O:r.count (some (s.ls+1))=0:=by
  apply Nat.eq_zero_of_not_pos;intro q;obtain⟨G,F,S,U,L,_⟩:=R.is _ (mem_cons_of_mem _ (List.count_pos_iff.mp q));rw[eQ R.good]at L;cases L
 refine⟨B.good,by rw[B.ls];show 0<=s.ls+1;have:=R.l0;omega,?_,?_,?_,?_,?_⟩
 .intro e;have:=B.kept.ln true;rw[e]at this;exact R.ne (List.length_eq_zero_iff.mp this.symm)
 .intro j I;by_cases e:j=s.ls+1
  .subst e;exact⟨cs,1,B.vw⟩
  .obtain⟨G,F,q⟩:=R.is j (by simpa[e]using I);exact⟨G,F,(B.kept.ot j G F e).mpr q⟩
 .intro j G F I;by_cases e:j=s.ls+1
  .subst e;obtain⟨_,q⟩:=B.vw.one I;rw[dy,O,q];rfl
  .rw[eB e, <-iP];exact R.ct j G F ((B.kept.ot j G F e).mp I)
 .have J:=R.al;rw[iq]at J;rw[B.al,fY, <-J];rfl
 .rw[B.kept.ln,B.kept.ln];exact R.rm
theorem jd {l:List Int}(h:∀x∈l,1<=x):(l.length:Int)<=l.sum:=by
 induction l with
 |nil=>exact Int.le_refl _
 |cons a l F =>
  have h1:=h a mem_cons_self;have h2:=F λx G=>h x (mem_cons_of_mem _ G);rw[sum_cons,length_cons];omega
theorem Good.pos (G:Good s) {b:Bool}(h:¬ (0:Int)∈s.ow b):∀x∈s.ow b,1<=x:=by
 intro x I;obtain⟨n,J⟩:=List.getElem?_of_mem I;rcases G.on _ _ _ J with e|⟨j,e⟩
 .exact absurd (e▸I) h
 .obtain⟨cs,c,_,F,L,_⟩:=G.va _ _ _ e;rw[J]at F;cases F;exact L
theorem RI.room (R:RI s (none::r)):(0:Int)∈s.ow true\/(0:Int)∈s.ow false:=by
 by_cases h1:(0:Int)∈s.ow true
 .exact .inl h1
 .by_cases h2:(0:Int)∈s.ow false
  .exact .inr h2
  .exfalso;have L:=jd (R.good.pos h1);have I:=jd (R.good.pos h2);have F:=R.al;rw[iq]at F;have J:=wd (es:=r);have G:=R.rm;rw[length_cons]at G;unfold all at F;omega
theorem q8 {l:List Int}(h:∀x∈l,1<=x) {n:Nat}{c:Int}(F:l[n]?=some c):(l.length:Int)+c-1<=l.sum:=by
 induction l generalizing n with
 |nil=>cases F
 |cons a l G =>
  have h2:∀x∈l,1<=x:=λx I=>h x (mem_cons_of_mem _ I);have h1:=h a mem_cons_self;cases n with
  |zero =>
   cases F;have:=jd h2;rw[sum_cons,length_cons];omega
  |succ n =>
   have:=G h2 (show l[n]?=some c from F);rw[sum_cons,length_cons];omega
theorem RI.Fg (R:RI s es) (I:Vw s k cs c) (L:1<c):(0:Int)∈s.ow true\/(0:Int)∈s.ow false:=by
 by_cases h1:(0:Int)∈s.ow true
 .exact .inl h1
 .by_cases h2:(0:Int)∈s.ow false
  .exact .inr h2
  .exfalso;have J:=jd (R.good.pos h1);have N:=jd (R.good.pos h2);have G:=R.al;have O:=wd (es:=es);have S:=R.rm;unfold all at G;obtain⟨b,n,_,_,F⟩:=I;cases b
   .have:=q8 (R.good.pos h2) F;omega
   .have:=q8 (R.good.pos h1) F;omega
end
end Pg
namespace Pg
def ya (s:PS) (e:Ent) (cs:List Int):Prop:=match e with
 |none=>cs=replicate 8 0
 |some k=>∃c,Vw s k cs c
def a8 (es:List Ent) (s s':PS):Prop:=∀e∈es,∀cs,ya s e cs->ya s' e cs
theorem a8.refl {es:List Ent}{s:PS}:a8 es s s:=λ_ _ _ h=>h
section
variable {s s':PS}{es r:List Ent}{k:Int}{cs:List Int}{c:Int}
theorem RI.tZ (R:RI s (some k::es)) (F:Vw s k cs c) (h:B6 s k s'):a8 es s s':=by
 have L:=vP R.good F h;have S:=R.ct _ _ _ F;rw[dy]at S;intro e J U q;cases e with
 |none=>exact q
 |some j =>
  obtain⟨G,q⟩:=q;by_cases I:j=k
  .subst I;obtain⟨O,N⟩:=F.one q;subst O;subst N;have:0<es.count (some j):=List.count_pos_iff.mpr J;exact⟨G-1,(L.me _ _).mpr ⟨af,rfl,F⟩⟩
  .exact⟨G,(L.ot j _ _ I).mpr q⟩
theorem uz {b:Bool}{n:Nat}(G:Good s) (I:s.pl k=some (b,n)) (J:Vw s k cs c):a8 es s (cq s b n (c+1)):=by
 intro e R O q;cases e with
 |none=>exact q
 |some j =>
  obtain⟨L,q⟩:=q;by_cases F:j=k
  .subst F;obtain⟨N,S⟩:=J.one q;subst N;exact⟨c+1,iW G I J⟩
  .exact⟨L,(dq G I F).mpr q⟩
theorem uq (G:Good s) (h:FE s k s'):a8 es s s':=by
 intro e J I q;cases e with
 |none=>exact q
 |some j =>
  obtain⟨F,q⟩:=q;exact⟨F,((oM G h).vw _ _ _).mpr q⟩
theorem RI.xy (R:RI s (none::r)) (I:cs.length=8) (h:BI (next s) (s.ls+1) cs 1 s'):a8 r s s':=by
 have B:=kl R.good R.l0 I h;intro e S O q;cases e with
 |none=>exact q
 |some j =>
  obtain⟨G,q⟩:=q;have J:j≠s.ls+1:=by
   intro e;obtain⟨L,N,F,_⟩:=q;rw[e,eQ R.good]at F;cases F
  exact⟨G,(B.kept.ot _ _ _ J).mpr q⟩
theorem RI.part {s1 G:PS}{ab:List Int}{O:Int}(R:RI s (some k::r)) (Y:Vw s k ab O) (hc:1<O) (h4:cs.length=8) (hB:BI (next s) (s.ls+1) cs 1 s1) (hL:B6 s1 k G) :
  RI G (some (s.ls+1)::r)/\a8 r s G/\ya G (some (s.ls+1)) cs/\(∃m,G.pl (s.ls+1)=some (true,m))/\G.ls=s.ls+1 /\
  ((0:Int)∈G.ow true->(0:Int)∈s.ow true/\∀j m,s.pl j=some (true,m)->G.pl j=some (true,m))/\(∀b,(G.ow b).length=(s.ow b).length):=by
 have B:=kl R.good R.l0 h4 hB;have nn:=eQ R.good;have kn:k≠s.ls+1:=by
  intro e;obtain⟨x1,x2,I,_⟩:=Y;rw[e,nn]at I;cases I
 have U:Vw s1 k ab O:=(B.kept.ot _ _ _ kn).mpr Y;have L:=vP B.good U hL;have K:=L.kept hc;have ad:=R.ct _ _ _ Y;rw[dy]at ad;have no:r.count (some (s.ls+1))=0:=by
  apply Nat.eq_zero_of_not_pos;intro q;obtain⟨S,N,x1,x2,I,_⟩:=R.is _ (mem_cons_of_mem _ (List.count_pos_iff.mp q));rw[nn]at I;cases I
 have vn:Vw G (s.ls+1) cs 1:=(L.ot _ _ _ (Ne.symm kn)).mpr B.vw;have ln:∀b,(G.ow b).length=(s.ow b).length:=λb=>(L.ln b).trans (B.kept.ln b);refine⟨⟨L.good,?_,?_,?_,?_,?_,?_⟩,?_,⟨1,vn⟩,?_,?_,?_,ln⟩
 .rw[L.ls,B.ls];show 0<=s.ls+1;have:=R.l0;omega
 .intro e;have:=ln true;rw[e]at this;exact R.ne (List.length_eq_zero_iff.mp this.symm)
 .intro j J;by_cases e:j=s.ls+1
  .subst e;exact⟨cs,1,vn⟩
  .have J:some j∈r:=(by simpa[e]using J);by_cases F:j=k
   .subst F;exact⟨ab,O-1,(L.me _ _).mpr ⟨hc,rfl,U⟩⟩
   .obtain⟨S,N,q⟩:=R.is j (mem_cons_of_mem _ J);exact⟨S,N,(L.ot _ _ _ F).mpr ((B.kept.ot _ _ _ e).mpr q)⟩
 .intro j S N J;by_cases e:j=s.ls+1
  .subst e;obtain⟨_,q⟩:=vn.one J;rw[dy,no,q];rfl
  .rw[eB e];by_cases F:j=k
   .subst F;obtain⟨q1,q2,q3⟩:=(L.me _ _).mp J;omega
   .rw[<-eB F];exact R.ct j S N ((B.kept.ot _ _ _ e).mp ((L.ot _ _ _ F).mp J))
 .have h9:=R.al;rw[fY]at h9;rw[L.al,B.al,fY, <-h9];show all s+1-1=all s;omega
 .rw[ln,ln];exact R.rm
 .intro e he S q;cases e with
  |none=>exact q
  |some j =>
   obtain⟨N,q⟩:=q;have ej:j≠s.ls+1:=by
    intro e;obtain⟨x1,x2,I,_⟩:=q;rw[e,nn]at I;cases I
   by_cases F:j=k
   .subst F;obtain⟨q1,q2⟩:=Y.one q;subst q1;exact⟨O-1,(L.me _ _).mpr ⟨hc,rfl,U⟩⟩
   .exact⟨N,(L.ot _ _ _ F).mpr ((B.kept.ot _ _ _ ej).mpr q)⟩
 .obtain⟨m,hm⟩:=B.fr;exact⟨m,(L.pl _ (Ne.symm kn)).trans hm⟩
 .rw[L.ls,B.ls];rfl
 .intro h;obtain⟨a1,a2⟩:=K.fr h;obtain⟨b1,b2⟩:=B.kept.fr a1;refine⟨b1,?_⟩;intro j m e;have ej:j≠s.ls+1:=(by intro q;rw[q,nn]at e;cases e);have e1:=b2 j m ej e;by_cases F:j=k
  .subst F;cases hL with
   |more hk ac am=>exact e1
   |last hk ac =>
    have:=(U.one ac).2;omega
  .exact a2 j m F e1
theorem RI.write {I:PS}{m:Nat}(R:RI s (some k::r)) {U:List Int}(hv:Vw s k U 1) (h4:cs.length=8) (hF:FE s k I) (J:I.pl k=some (true,m)) :
  RI (write I true m cs) (some k::r)/\a8 r s (write I true m cs)/\ya (write I true m cs) (some k) cs:=by
 have F:=oM R.good hF;have G:=R.Ck hF;have Y:Vw I k U 1:=(F.vw _ _ _).mpr hv;have ab:=R.ct _ _ _ hv;rw[dy]at ab;have no:¬ some k∈r:=λh=>(by have:0<r.count (some k):=List.count_pos_iff.mpr h;omega);have S:=yk (cs:=cs) G.good J Y;refine⟨⟨tY G.good J h4,G.l0,G.ne,?_,?_,G.al,G.rm⟩,?_,⟨1,S⟩⟩
 .intro j O;by_cases e:j=k
  .subst e;exact⟨cs,1,S⟩
  .obtain⟨N,L,q⟩:=G.is j O;exact⟨N,L,(gY G.good J e).mpr q⟩
 .intro j N L O;by_cases e:j=k
  .subst e;obtain⟨_,q⟩:=S.one O;rw[q];exact G.ct _ _ _ Y
  .exact G.ct j N L ((gY G.good J e).mp O)
 .intro e he N q;cases e with
  |none=>exact q
  |some j =>
   obtain⟨L,q⟩:=q;have ek:j≠k:=λe=>no (e▸he);exact⟨L,(gY G.good J ek).mpr ((F.vw _ _ _).mpr q)⟩
end
end Pg
namespace St
open PySem L2
abbrev yP:Stmt:=top 12
abbrev pX:Stmt:=top 13
section
variable {P:Program}{w:World}{K:Frag}{mg:Str->Option Value}{base:Heap}
theorem aQ.keep {C p ow co:Addr}{M:Addr->Prop}{os:List Int}{pg:List (Option (List Int))}{H H':Hp}(S:aQ C H M p ow co os pg) (h:Off (λ_=>False) H H'):aQ C H' M p ow co os pg:=by
 obtain⟨⟨dx,h1⟩,G,cs,F,I⟩:=S;exact⟨⟨dx,h _ _ h1 id⟩,h _ _ G id,cs,h _ _ F id,ic h (λ_ z=>z.elim) I⟩
theorem cJ {H:Hp}{l:Addr}{o:HO}(h:H l=none):Off (λ_=>False) H (upd H l o):=by
 intro b o' e _;rw[ah (λz=>by rw[z,h]at e;cases e)];exact e
theorem fJ {os:List Int}{n:Nat}{x:Int}(h:n<os.length):dH (os.set n x) n=x:=by
 unfold dH;rw[if_neg (by rw[length_set];omega)];simp[h]
theorem cX {os:List Int}{n:Nat}{x:Int}(h:os[n]?=some x):dH os n=x:=by
 obtain⟨h1,h2⟩:=List.getElem?_eq_some_iff.mp h;unfold dH;rw[if_neg af];simp[h1,h2]
theorem AW {os:List Int}{n:Nat}{x:Int}(h:os[n]?=some x):os.set n x=os:=by
 obtain⟨h1,h2⟩:=List.getElem?_eq_some_iff.mp h;rw[<-h2];exact List.set_getElem_self h1
inductive oY (C:Addr) (vs:List V) (H:Hp) (Q:VK) (e3:XK):Prop
 |mk (p ow co:Addr) (M:Addr->Prop) (os:List Int) (pg:List (Option (List Int))) (n:Nat) (ns:List Int) (c:Nat) (_:vs=[.ref p,.int n]) (_:aQ C H M p ow co os pg) (_:M ow) (_:M co) (_:(∀b,M b->H b≠none)) (_:ow≠co) (_:os.length<=60) (_:os[n]?=some (c:Int)) (_:1<=c) (_:c<=1000) (_:pg[n]?=some (some ns)) (_:∀(H':Hp) (t l:Addr),H t=none->H' t=some (.tup [.ref l,.int c])->¬ M l->H' l=some (.lst (ns.map V.int))->aQ C H' M p ow co (os.set n 0) pg->Off (λb=>b=ow\/b=co) H H'->Q (.ref t) H'):oY C vs H Q e3
theorem FV:az ["store","n","moved"] ["store","n"] (aq yP):=L2.bD
theorem AS {f C:Addr}{fd:FuncData}(F:cL K "lift" "lift" yP f fd) (T:Txt K mg C) (GE:Md P w K mg base aU 3 C "cells" (k7 C)) (GC:Md P w K mg base aU 1 C "count" (gC C)) (GL:Md P w K mg base aU 3 C "less" (qM C)) :
  bf P w K mg base aU 4 f fd ["store","n"] (oY C):=by
 refine F.ok FV (λvs H Q E h=>?_) (λaT A outer s H vs Q E U h=>?_)
 .obtain⟨p,ow,co,M,os,pg,n,ns,c,rfl,_⟩:=h;rfl
 .obtain⟨p,ow,co,M,os,pg,n,ns,c,rfl,S,mw,mc,mt,aB,O,R,c1,c2,hg,k⟩:=h;obtain⟨⟨dx,h1⟩,hw,cs,a0,hp⟩:=id S;obtain⟨nl,_⟩:=List.getElem?_eq_some_iff.mp R;have hc:dH os n≠0:=(by rw[cX R];omega);refine⟨_,(ag (aK (i:=2) FV.nd rfl (Or.inl rfl) (cM (aa (pm (pv 0) T.cl GE U aw (aa (pv 1) ai)) (aa (pm (pv 0) T.cl GC U aw (aa (pv 1) ai)) ai))))
   (ag (rH PassesOwn.never (aC iJ (pm (pv 0) T.cl GC U aw (aa (pv 1) ai)) ak (aH _)) (aj (aL (pm (pv 0) T.cl GL U aw (aa (pv 1) ai)))))
   (aj (aE (pv 2))))),?_⟩
  refine⟨_,rfl,p,dx,_,rfl,h1,aW _ _ ao ao,_,rfl,p,ow,co,M,os,pg,n,ns,rfl,S,O,hc,hg,?_⟩;intro l Y;have N:=S.keep (cJ (o:=.lst (ns.map V.int)) Y);have am:upd H l (.lst (ns.map V.int)) l=some (.lst (ns.map V.int)):=ae;have O1:Off (λb=>b=ow\/b=co) H (upd H l (.lst (ns.map V.int))):=λb o e _=>cJ Y b o e id;generalize upd H l (.lst (ns.map V.int))=H1 at *;obtain⟨ad,ap⟩:=N.ob;refine⟨_,rfl,p,ad,_,rfl,ap,aW _ _ ao ao,_,rfl,p,ow,co,M,os,pg,n,rfl,N,O,?_⟩;rw[cX R];refine⟨by show 2<=sizeLine;decide,λt G=>?_⟩;have S2:=N.keep (cJ (o:=.tup [.ref l,.int c]) G);have ht:upd H1 t (.tup [.ref l,.int c]) t=some (.tup [.ref l,.int c]):=ae;have as:upd H1 t (.tup [.ref l,.int c]) l=some (.lst (ns.map V.int)):=cJ G l _ am id;have O2:Off (λb=>b=ow\/b=co) H (upd H1 t (.tup [.ref l,.int c])):=λb o e z=>cJ G b o (O1 b o e z) id;have nM:¬ M l:=λz=>mt l z Y;have fH:H t=none:=by
   cases e:H t with
   |none=>rfl
   |some o =>
    exfalso;by_cases z:t=ow\/t=co
    .rcases z with z|z
     .subst z;rw[N.hw]at G;cases G
     .subst z;obtain⟨_,q,_⟩:=N.hc;rw[q]at G;cases G
    .rw[O1 t o e z]at G;cases G
  generalize upd H1 t (.tup [.ref l,.int c])=H2 at *;refine⟨λm σ L=>∃c':Nat,m=c'/\σ=[some (.ref p),some (.int n),some (.ref t)]/\aQ C L M p ow co (os.set n c') pg/\L t=some (.tup [.ref l,.int c])/\L l=some (.lst (ns.map V.int))/\Off (λb=>b=ow\/b=co) H L,
   ⟨c,c,rfl,rfl,by rw[AW R];exact S2,ht,as,O2⟩,?_⟩
  rintro m σ L ⟨c',rfl,rfl,I,J,l3,O3⟩;obtain⟨ab,h3⟩:=I.ob;refine⟨_,rfl,p,ab,_,rfl,h3,aW _ _ ao ao,_,rfl,p,ow,co,M,_,pg,n,rfl,I,by rw[length_set];exact O,?_⟩;rw[fJ nl];refine⟨_,_,rfl,rfl,_,rfl,?_⟩;by_cases z:(0:Int)<m
  .rw[decide_eq_true z];refine⟨λac H'=>ac=[some (.ref p),some (.int n),some (.ref t)]/\aQ C H' M p ow co (os.set n (m-1:Nat)) pg/\H' t=some (.tup [.ref l,.int c])/\H' l=some (.lst (ns.map V.int))/\Off (λb=>b=ow\/b=co) H H',?_,?_⟩
   .rintro ac H' ⟨a1,a2,a3,a4,a5⟩;exact⟨m-1,af,m-1,rfl,a1,a2,a3,a4,a5⟩
   .refine⟨_,rfl,p,ab,_,rfl,h3,aW _ _ ao ao,_,rfl,p,ow,co,M,_,pg,n,rfl,I,mw,mc,aB,by rw[length_set];exact O,by rw[fJ nl];omega,?_⟩;intro H4 S4 O4;rw[fJ nl,show(n:Int).toNat=n from toNat_natCast n,List.set_set]at S4;refine⟨rfl,?_,?_,?_,?_⟩
    .have e:((m-1:Nat):Int)=(m:Int)-1:=af;rw[e];exact S4
    .refine O4 _ _ J λq=>?_;rcases q with q|q
     .subst q;rw[I.hw]at J;cases J
     .subst q;obtain⟨_,y,_⟩:=I.hc;rw[y]at J;cases J
    .refine O4 _ _ l3 λq=>?_;rcases q with q|q
     .exact nM (q▸mw)
     .exact nM (q▸mc)
    .intro b o e q;exact O4 b o (O3 b o e q) q
  .rw[decide_eq_false z];have e:m=0:=af;subst e;exact⟨_,rfl,k L t l fH J nM l3 I O3⟩
theorem nJ {C p ow co:Addr}{M:Addr->Prop}{os:List Int}{pg:List (Option (List Int))}{H H':Hp}(S:aQ C H' M p ow co os pg) (h:Off (λb=>b=ow\/b=co) H H') (mt:∀b,M b->H b≠none):∀b,M b->H' b≠none:=by
 intro b G e;by_cases z:b=ow\/b=co
 .rcases z with z|z
  .subst z;rw[S.hw]at e;cases e
  .subst z;obtain⟨_,q,_⟩:=S.hc;rw[q]at e;cases e
 .cases F:H b with
  |none=>exact mt b G F
  |some o=>rw[h b o F z]at e;cases e
inductive jo (C:Addr) (vs:List V) (H:Hp) (Q:VK) (e3:XK):Prop
 |mk (p ow co t l:Addr) (M:Addr->Prop) (os:List Int) (pg:List (Option (List Int))) (ns:List Int) (c:Nat) (_:vs=[.ref p,.ref t]) (_:aQ C H M p ow co os pg) (_:M ow) (_:M co) (_:(∀b,M b->H b≠none)) (_:ow≠co) (_:os.length=pg.length) (_:os.length<=60) (_:(0:Int)∈os) (_:H t=some (.tup [.ref l,.int c])) (_:H l=some (.lst (ns.map V.int))) (_:¬ M l) (_:1<=c) (_:c<=1000) (_:∀H':Hp,aQ C H' M p ow co (os.set (os.idxOf 0) c) (pg.set (os.idxOf 0) (some ns))->Off (λb=>b=ow\/b=co) H H'->Q (.int (os.idxOf 0:Nat)) H'):jo C vs H Q e3
theorem Bg:az ["store","moved","n"] ["store","moved"] (aq pX):=L2.bD
theorem xK {f C:Addr}{fd:FuncData}(F:cL K "settle" "settle" pX f fd) (T:Txt K mg C) (GT:Md P w K mg base aU 1 C "take" (vm C)) (GP:Md P w K mg base aU 3 C "put" (vZ K C)) (GC:Md P w K mg base aU 1 C "count" (gC C)) (GM:Md P w K mg base aU 3 C "more" (o8 C)) :
  bf P w K mg base aU 4 f fd ["store","moved"] (jo C):=by
 refine F.ok Bg (λvs H Q E h=>?_) (λa0 A outer s H vs Q E Y h=>?_)
 .obtain⟨p,ow,co,t,l,M,os,pg,ns,c,rfl,_⟩:=h;rfl
 .obtain⟨p,ow,co,t,l,M,os,pg,ns,c,rfl,S,O,mc,mt,ab,am,N,h0,J,as,nM,c1,c2,k⟩:=h;obtain⟨dx,h1⟩:=S.ob;have U:os.idxOf 0<os.length:=List.idxOf_lt_length_iff.mpr h0;refine⟨_,(ag (aK (i:=2) Bg.nd rfl (Or.inl rfl) (sF (pv 0) T.cl GT Y aw))
   (ag (aL (pm (pv 0) T.cl GP Y aw (aa (pv 2) (aa (aZ bh (pv 1) ak (λ_ _=>rfl)) ai))))
   (ag (rH PassesOwn.never (aC gG (pm (pv 0) T.cl GC Y aw (aa (pv 2) ai)) (aZ bh (pv 1) ak (λ_ _=>rfl)) (aH _)) (aj (aL (pm (pv 0) T.cl GM Y aw (aa (pv 2) ai)))))
   (aj (aE (pv 2)))))),?_⟩
  refine⟨_,rfl,p,dx,_,rfl,h1,aW _ _ ao ao,p,ow,co,M,os,pg,rfl,S,O,mc,mt,ab,am,N,λz=>absurd h0 z,λ_ H1 S1 R=>?_⟩;generalize os.idxOf 0=j at *;obtain⟨ap,aB⟩:=S1.ob;have nt:¬ (t=ow\/t=co):=λq=>by
   rcases q with q|q
   .subst q;rw[S.hw]at J;cases J
   .subst q;obtain⟨_,y,_⟩:=S.hc;rw[y]at J;cases J
  have aT:¬ (l=ow\/l=co):=λq=>by
   rcases q with q|q
   .exact nM (q▸O)
   .exact nM (q▸mc)
  have t1:=R _ _ J nt;have l1:=R _ _ as aT;refine⟨_,rfl,p,ap,_,rfl,aB,aW _ _ ao ao,_,rfl,_,rfl,t,_,0,_,rfl,rfl,bR.of t1,rfl,p,ow,co,l,M,_,_,_,ns,rfl,S1,O,mc,nJ S1 R mt,ab,by rw[length_set,length_set];exact am,by rw[length_set];exact N,by rw[fJ U];decide,bq.of l1,?_⟩;intro H2 S2 O2;rw[show(j:Int).toNat=j from toNat_natCast j,List.set_set]at S2;refine⟨λm σ I=>∃G:Nat,m+G=c/\1<=G/\σ=[some (.ref p),some (.ref t),some (.int j)]/\aQ C I M p ow co (os.set j G) (pg.set j (some ns))/\I t=some (.tup [.ref l,.int c])/\Off (λb=>b=ow\/b=co) H I,
   ⟨c-1,1,af,le_refl _,rfl,S2,O2 _ _ t1 nt,λb o e q=>O2 b o (R b o e q) q⟩,?_⟩
  rintro m σ I ⟨G,em,p1,rfl,L,t3,O3⟩;obtain⟨ac,h3⟩:=L.ob;refine⟨_,rfl,p,ac,_,rfl,h3,aW _ _ ao ao,_,rfl,p,ow,co,M,_,_,j,rfl,L,by rw[length_set];exact N,?_⟩;rw[fJ U];refine⟨_,rfl,t,_,1,_,rfl,rfl,bR.of t3,rfl,_,_,rfl,rfl,_,rfl,?_⟩;by_cases z:(G:Int)<c
  .rw[decide_eq_true z];refine⟨λad H'=>ad=[some (.ref p),some (.ref t),some (.int j)]/\aQ C H' M p ow co (os.set j (G+1:Nat)) (pg.set j (some ns))/\H' t=some (.tup [.ref l,.int c])/\Off (λb=>b=ow\/b=co) H H',?_,?_⟩
   .rintro ad H' ⟨a1,a2,a3,a4⟩;exact⟨m-1,af,G+1,af,af,a1,a2,a3,a4⟩
   .refine⟨_,rfl,p,ac,_,rfl,h3,aW _ _ ao ao,_,rfl,p,ow,co,M,_,_,j,rfl,L,O,mc,ab,by rw[length_set];exact N,by rw[fJ U];omega,?_⟩;intro H4 S4 O4;rw[fJ U,show(j:Int).toNat=j from toNat_natCast j,List.set_set]at S4;exact⟨rfl,S4,O4 _ _ t3 nt,λb o e q=>O4 b o (O3 b o e q) q⟩
  .rw[decide_eq_false z];have e:G=c:=af;subst e;exact⟨_,rfl,k I L O3⟩
end
structure PA where
 pg:Addr
 fp:Addr
 fo:Addr
 fc:Addr
 sp:Addr
 so:Addr
 sc:Addr
 pd:Addr
 il:Addr
def cH (A:PA) (n:Int):List (Str×V):=bo "in_frames" (.ref A.il) (bo "last_sheet" (.int n) (bo "places" (.ref A.pd) (bo "slots" (.ref A.sp) (bo "frames" (.ref A.fp) []))))
abbrev CC:=List (Int×Addr×Bool×Nat)
def qP (x:Addr×Bool×Nat):V:=.ref x.1
def jF (b:Bool) (n:Nat):List V:=[.str (if b=true then "frame" else "slot"),.int n]
structure bK (C CS:Addr) (H:Hp) (M:Addr->Prop) (A:PA) (s:Pg.PS):Prop where
 ob:∃dx,H A.pg=some (.ins C dx (cH A s.ls))
 fr:aQ CS H M A.fp A.fo A.fc (s.ow true) (s.co true)
 sl:aQ CS H M A.sp A.so A.sc (s.ow false) (s.co false)
 il:H A.il=some (.lst (s.inf.map V.int))
 le:∀b,(s.ow b).length<=60
 pd:∃l:CC,H A.pd=some (.dK (Tb.dk qP l))/\(l.map (·.1)).Nodup/\(∀x∈l,H x.2.1=some (.tup (jF x.2.2.1 x.2.2.2)))/\(∀k,(Tb.look l k).map (·.2)=s.pl k)/\l.length<=1000
structure mZ (K:Frag) (mg:Str->Option Value) (C:Addr):Prop where
 cl:qR K C
 nF:cQ K C "frames"
 nS:cQ K C "slots"
 nP:cQ K C "places"
 nL:cQ K C "last_sheet"
 nI:cQ K C "in_frames"
 list:mg "list" = none
abbrev uA:Stmt:=inClass (top 14) 9
section
variable {P:Program}{w:World}{K:Frag}{mg:Str->Option Value}{base:Heap}
inductive ie (C CS:Addr) (vs:List V) (H:Hp) (Q:VK) (e3:XK):Prop
 |mk (M:Addr->Prop) (A:PA) (s:Pg.PS) (k:Int) (b:Bool) (n:Nat) (_:vs=[.ref A.pg,.int k]) (_:bK C CS H M A s) (_:s.pl k=some (b,n)) (_:∀t,H t=some (.tup (jF b n))->Q (.ref t) H):ie C CS vs H Q e3
theorem nK (A:PA) (n:Int):(cH A n).lookup ("places" : Str)=some (.ref A.pd):=by
 unfold cH;rw[aD,if_neg ao,aD,if_neg ao,aD,if_pos rfl]
theorem Ip:az ["self","sheet"] ["self","sheet"] (aq uA):=L2.bD
theorem y0 {f C CS:Addr}{fd:FuncData}(F:cL K "place" "Paging.place" uA f fd) (T:mZ K mg C):bf P w K mg base aU 1 f fd ["self","sheet"] (ie C CS):=by
 refine F.ok Ip (λvs H Q E h=>?_) (λab A outer s H vs Q E O h=>?_)
 .obtain⟨M,I,s',k,b,n,rfl,_⟩:=h;rfl
 .obtain⟨M,I,s',k,b,n,rfl,G,R,q⟩:=h;obtain⟨dx,h1⟩:=G.ob;obtain⟨l,hd,Y,U,S,_⟩:=G.pd;refine⟨_,(ag (aS (iU (gf (bj O) (pv 1) (aJ (pv 0) rfl))) cN aF)
   (aj (aE (bA (bj O) (aJ (pv 0) rfl) (pv 1) (λ_ _=>rfl))))),?_⟩
  obtain⟨x,N,ex⟩:∃x,Tb.look l k=some x/\x.2=(b,n):=by
   have:=S k;rw[R]at this;exact Option.map_eq_some_iff.mp this
  have hg:dB H I.pd (.int k) (some (qP x)):=by
   have L:=dB.k (k:=Sum.inl k) hd;rw[Tb.cK,N]at L;exact L
  have J:=U _ (Tb.aA N);refine⟨_,rfl,_,rfl,I.pg,C,dx,_,_,rfl,h1,T.cl,T.nP,nK _ _,I.pd,_,rfl,hg,_,rfl,?_⟩;refine bw ⟨_,rfl,I.pg,C,dx,_,_,rfl,h1,T.cl,T.nP,nK _ _,_,rfl,I.pd,qP x,rfl,hg,q x.1 ?_⟩;rw[show x.2.1=b by rw[ex],show x.2.2=n by rw[ex]]at J;exact J
abbrev kg:Stmt:=inClass (top 14) 10
abbrev mX:Stmt:=inClass (top 14) 11
inductive de (C CS:Addr) (vs:List V) (H:Hp) (Q:VK) (e3:XK):Prop
 |mk (M:Addr->Prop) (A:PA) (s:Pg.PS) (k:Int) (b:Bool) (n:Nat) (_:vs=[.ref A.pg,.int k]) (_:bK C CS H M A s) (_:s.pl k=some (b,n)) (_:Q (.int n) H):de C CS vs H Q e3
def PA.st (A:PA) (b:Bool):Addr:=if b=true then A.fp else A.sp
inductive eS (C CS:Addr) (vs:List V) (H:Hp) (Q:VK) (e3:XK):Prop
 |mk (M:Addr->Prop) (A:PA) (s:Pg.PS) (k:Int) (b:Bool) (n:Nat) (_:vs=[.ref A.pg,.int k]) (_:bK C CS H M A s) (_:s.pl k=some (b,n)) (_:Q (.ref (A.st b)) H):eS C CS vs H Q e3
theorem cD (A:PA) (n:Int) {m:Str}(h1:¬ m = "in_frames") (h2:¬ m = "last_sheet") (F:¬ m = "places") (G:¬ m = "slots") (I:¬ m = "frames"):(cH A n).lookup m=none:=by
 unfold cH;rw[aD,if_neg h1,aD,if_neg h2,aD,if_neg F,aD,if_neg G,aD,if_neg I]
 all_goals rfl
theorem lH (A:PA) (n:Int):(cH A n).lookup ("frames" : Str)=some (.ref A.fp):=by
 unfold cH;rw[aD,if_neg ao,aD,if_neg ao,aD,if_neg ao,aD,if_neg ao,aD,if_pos rfl]
theorem sh (A:PA) (n:Int):(cH A n).lookup ("slots" : Str)=some (.ref A.sp):=by
 unfold cH;rw[aD,if_neg ao,aD,if_neg ao,aD,if_neg ao,aD,if_pos rfl]
theorem HK:az ["self","sheet"] ["self","sheet"] (aq kg):=L2.bD
theorem sk {f C CS:Addr}{fd:FuncData}(F:cL K "number_of" "Paging.number_of" kg f fd) (T:mZ K mg C) (N:Md P w K mg base aU 1 C "place" (ie C CS)):bf P w K mg base aU 2 f fd ["self","sheet"] (de C CS):=by
 refine F.ok HK (λvs H Q E h=>?_) (λR A outer s H vs Q E O h=>?_)
 .obtain⟨M,I,s',k,b,n,rfl,_⟩:=h;rfl
 .obtain⟨M,I,s',k,b,n,rfl,G,J,q⟩:=h;obtain⟨dx,h1⟩:=G.ob;refine⟨_,(aj (aE (aZ bh (pm (pv 0) T.cl N O aw (aa (pv 1) ai)) ak (λ_ _=>rfl)))),?_⟩;refine⟨_,rfl,I.pg,dx,_,rfl,h1,cD _ _ ao ao ao ao ao,_,rfl,M,I,s',k,b,n,rfl,G,J,λt L=>?_⟩;exact⟨t,_,1,_,rfl,rfl,bR.of L,rfl,q⟩
theorem Ic:az ["self","sheet"] ["self","sheet"] (aq mX):=L2.bD
theorem uY {f C CS:Addr}{fd:FuncData}(F:cL K "store_of" "Paging.store_of" mX f fd) (T:mZ K mg C) (N:Md P w K mg base aU 1 C "place" (ie C CS)):bf P w K mg base aU 2 f fd ["self","sheet"] (eS C CS):=by
 refine F.ok Ic (λvs H Q E h=>?_) (λR A outer s H vs Q E O h=>?_)
 .obtain⟨M,I,s',k,b,n,rfl,_⟩:=h;rfl
 .obtain⟨M,I,s',k,b,n,rfl,G,J,q⟩:=h;obtain⟨dx,h1⟩:=G.ob;refine⟨_,(ag (aS (aC bW (aZ bh (pm (pv 0) T.cl N O aw (aa (pv 1) ai)) ak (λ_ _=>rfl)) aI (aH _)) (aj (aE (aJ (pv 0) rfl))) aF)
   (aj (aE (aJ (pv 0) rfl)))),?_⟩
  refine⟨_,rfl,I.pg,dx,_,rfl,h1,cD _ _ ao ao ao ao ao,_,rfl,M,I,s',k,b,n,rfl,G,J,λt L=>?_⟩;refine⟨t,_,0,_,rfl,rfl,bR.of L,rfl,rfl,_,rfl,?_⟩;cases b with
  |true=>exact dG ⟨_,rfl,I.pg,C,dx,_,_,rfl,h1,T.cl,T.nF,lH _ _,q⟩
  |false=>exact bw ⟨_,rfl,I.pg,C,dx,_,_,rfl,h1,T.cl,T.nS,sh _ _,q⟩
abbrev qr:Stmt:=inClass (top 14) 12
abbrev pO:Stmt:=inClass (top 14) 4
def PA.ow (A:PA) (b:Bool):Addr:=if b=true then A.fo else A.so
def PA.co (A:PA) (b:Bool):Addr:=if b=true then A.fc else A.sc
theorem bK.st {C CS:Addr}{H:Hp}{M:Addr->Prop}{A:PA}{s:Pg.PS}(G:bK C CS H M A s) (b:Bool):aQ CS H M (A.st b) (A.ow b) (A.co b) (s.ow b) (s.co b):=by
 cases b
 .exact G.sl
 .exact G.fr
inductive lU (C CS:Addr) (vs:List V) (H:Hp) (Q:VK) (e3:XK):Prop
 |mk (M:Addr->Prop) (A:PA) (s:Pg.PS) (k:Int) (cs:List Int) (c:Int) (_:vs=[.ref A.pg,.int k]) (_:bK C CS H M A s) (_:Pg.Vw s k cs c) (_:Q (.int c) H):lU C CS vs H Q e3
inductive ma (C CS:Addr) (vs:List V) (H:Hp) (Q:VK) (e3:XK):Prop
 |mk (M:Addr->Prop) (A:PA) (s:Pg.PS) (k:Int) (cs:List Int) (c:Int) (_:vs=[.ref A.pg,.int k]) (_:bK C CS H M A s) (_:Pg.Vw s k cs c) (_:c≠0) (_:∀l,H l=none->Q (.ref l) (upd H l (.lst (cs.map V.int)))):ma C CS vs H Q e3
theorem Dl:az ["self","sheet"] ["self","sheet"] (aq qr):=L2.bD
theorem xD {f C CS:Addr}{fd:FuncData}(F:cL K "count" "Paging.count" qr f fd) (T:mZ K mg C) (TS:Txt K mg CS) (N:Md P w K mg base aU 2 C "store_of" (eS C CS)) (R:Md P w K mg base aU 2 C "number_of" (de C CS)) (Y:Md P w K mg base aU 1 CS "count" (gC CS)):bf P w K mg base aU 3 f fd ["self","sheet"] (lU C CS):=by
 refine F.ok Dl (λvs H Q E h=>?_) (λac A outer s H vs Q E J h=>?_)
 .obtain⟨M,I,s',k,cs,c,rfl,_⟩:=h;rfl
 .obtain⟨M,I,s',k,cs,c,rfl,G,⟨b,n,L,ab,U⟩,q⟩:=h;obtain⟨dx,h1⟩:=G.ob;have S:=G.st b;obtain⟨O,h2⟩:=S.ob;refine⟨_,(aj (aE (pm (pm (pv 0) T.cl N J aw (aa (pv 1) ai)) TS.cl Y J aw (aa (pm (pv 0) T.cl R J aw (aa (pv 1) ai)) ai)))),?_⟩;refine⟨_,rfl,I.pg,dx,_,rfl,h1,cD _ _ ao ao ao ao ao,_,rfl,M,I,s',k,b,n,rfl,G,L,?_⟩;refine⟨_,O,_,rfl,h2,aW _ _ ao ao,?_⟩;refine⟨_,rfl,I.pg,dx,_,rfl,h1,cD _ _ ao ao ao ao ao,_,rfl,M,I,s',k,b,n,rfl,G,L,?_⟩;refine⟨_,_,_,M,_,_,n,rfl,S,G.le b,?_⟩;rw[cX U];exact q
theorem Hw:az ["self","sheet"] ["self","sheet"] (aq pO):=L2.bD
theorem xr {f C CS:Addr}{fd:FuncData}(F:cL K "cells" "Paging.cells" pO f fd) (T:mZ K mg C) (TS:Txt K mg CS) (N:Md P w K mg base aU 2 C "store_of" (eS C CS)) (R:Md P w K mg base aU 2 C "number_of" (de C CS)) (GE:Md P w K mg base aU 3 CS "cells" (k7 CS)):bf P w K mg base aU 4 f fd ["self","sheet"] (ma C CS):=by
 refine F.ok Hw (λvs H Q E h=>?_) (λab A outer s H vs Q E J h=>?_)
 .obtain⟨M,I,s',k,cs,c,rfl,_⟩:=h;rfl
 .obtain⟨M,I,s',k,cs,c,rfl,G,⟨b,n,L,Y,U⟩,hc,q⟩:=h;obtain⟨dx,h1⟩:=G.ob;have S:=G.st b;obtain⟨O,h2⟩:=S.ob;refine⟨_,(aj (aE (pm (pm (pv 0) T.cl N J aw (aa (pv 1) ai)) TS.cl GE J aw (aa (pm (pv 0) T.cl R J aw (aa (pv 1) ai)) ai)))),?_⟩;refine⟨_,rfl,I.pg,dx,_,rfl,h1,cD _ _ ao ao ao ao ao,_,rfl,M,I,s',k,b,n,rfl,G,L,?_⟩;refine⟨_,O,_,rfl,h2,aW _ _ ao ao,?_⟩;refine⟨_,rfl,I.pg,dx,_,rfl,h1,cD _ _ ao ao ao ao ao,_,rfl,M,I,s',k,b,n,rfl,G,L,?_⟩;exact⟨_,_,_,M,_,_,n,cs,rfl,S,G.le b,by rw[cX U];exact hc,by rw[show(n:Int).toNat=n from toNat_natCast n];exact Y,q⟩
end
theorem aQ.off {C p ow co:Addr}{B M:Addr->Prop}{os:List Int}{pg:List (Option (List Int))}{H H':Hp}(S:aQ C H M p ow co os pg) (h:Off B H H') (L:∀b,B b->M b) (J:¬ B p) (O:¬ B ow) (N:¬ B co):aQ C H' M p ow co os pg:=by
 obtain⟨⟨dx,h1⟩,G,cs,F,I⟩:=S;exact⟨⟨dx,h _ _ h1 J⟩,h _ _ G O,cs,h _ _ F N,ic h L I⟩
structure PA.Ok (A:PA) (M:Addr->Prop):Prop where
 ds:[A.pg,A.fp,A.fo,A.fc,A.sp,A.so,A.sc,A.pd,A.il].Nodup
 mm:∀x∈[A.pg,A.fp,A.fo,A.fc,A.sp,A.so,A.sc,A.pd,A.il],M x
def PA.own (A:PA):Addr->Prop:=λb=>b∈[A.pg,A.fo,A.fc,A.so,A.sc,A.pd,A.il]
abbrev qJ:Stmt:=inClass (top 14) 8
theorem oi {α:Type}{l:List α}(h:l.Nodup) (i j:Nat) {a b:α}(hi:l[i]?=some a) (I:l[j]?=some b) (J:i≠j):a≠b:=by
 obtain⟨h1,G⟩:=List.getElem?_eq_some_iff.mp hi;obtain⟨h2,F⟩:=List.getElem?_eq_some_iff.mp I;have q:=List.pairwise_iff_getElem.mp h;rcases Nat.lt_or_gt_of_ne J with z|z
 .rw[<-G, <-F];exact q i j h1 h2 z
 .rw[<-G, <-F];exact Ne.symm (q j i h2 h1 z)
theorem gg {a b c:Addr}(h1:a≠b) (h2:a≠c):¬ (a=b\/a=c):=λz=>z.elim h1 h2
theorem FW {M:Addr->Prop}{a b:Addr}(h1:M a) (h2:M b):∀c,c=a\/c=b->M c:=λc z=>z.elim (λe=>by rw[e];exact h1) λe=>by rw[e];exact h2
theorem in1 {M:Addr->Prop}{a:Addr}(h1:M a):∀c,c=a->M c:=λc e=>by rw[e];exact h1
section
variable {A:PA}{M:Addr->Prop}
theorem PA.Ok.n (ok:A.Ok M) (i j:Nat) {a b:Addr}(hi:[A.pg,A.fp,A.fo,A.fc,A.sp,A.so,A.sc,A.pd,A.il][i]?=some a) (F:[A.pg,A.fp,A.fo,A.fc,A.sp,A.so,A.sc,A.pd,A.il][j]?=some b) (G:i≠j):a≠b:=oi ok.ds i j hi F G
theorem PA.Ok.m (ok:A.Ok M) (i:Nat) {a:Addr}(hi:[A.pg,A.fp,A.fo,A.fc,A.sp,A.so,A.sc,A.pd,A.il][i]?=some a):M a:=ok.mm a (mem_of_getElem? hi)
theorem PA.fV (i:Nat) {a:Addr}(hi:[A.pg,A.fo,A.fc,A.so,A.sc,A.pd,A.il][i]?=some a):A.own a:=mem_of_getElem? hi
theorem PA.Ok.own (ok:A.Ok M):∀b,A.own b->M b:=by
 intro b h;unfold PA.own at h;simp only[mem_cons,not_mem_nil,or_false]at h;rcases h with h|h|h|h|h|h|h<;>rw[h]
 .exact ok.m 0 rfl
 .exact ok.m 2 rfl
 .exact ok.m 3 rfl
 .exact ok.m 5 rfl
 .exact ok.m 6 rfl
 .exact ok.m 7 rfl
 .exact ok.m 8 rfl
theorem bK.alive {C CS:Addr}{H H':Hp}{s:Pg.PS}(G:bK C CS H' M A s) (o:Off A.own H H') (mt:∀b,M b->H b≠none):∀b,M b->H' b≠none:=by
 intro b I e;by_cases z:A.own b
 .unfold PA.own at z;simp only[mem_cons,not_mem_nil,or_false]at z;obtain⟨dx,h1⟩:=G.ob;obtain⟨_,J,_⟩:=G.fr.hc;obtain⟨_,N,_⟩:=G.sl.hc;obtain⟨l,L,_⟩:=G.pd;rcases z with z|z|z|z|z|z|z<;>rw[z]at e
  .rw[h1]at e;cases e
  .rw[G.fr.hw]at e;cases e
  .rw[J]at e;cases e
  .rw[G.sl.hw]at e;cases e
  .rw[N]at e;cases e
  .rw[L]at e;cases e
  .rw[G.il]at e;cases e
 .cases F:H b with
  |none=>exact mt b I F
  |some o'=>rw[o b o' F z]at e;cases e
theorem bK.keep {C CS:Addr}{H H':Hp}{s:Pg.PS}(G:bK C CS H M A s) (h:Off (λ_=>False) H H'):bK C CS H' M A s:=by
 obtain⟨dx,h1⟩:=G.ob;obtain⟨l,hd,F,N,I,J⟩:=G.pd;exact⟨⟨dx,h _ _ h1 id⟩,G.fr.keep h,G.sl.keep h,h _ _ G.il id,G.le,⟨l,h _ _ hd id,F,λx L=>h _ _ (N x L) id,I,J⟩⟩
theorem bK.mI {C CS:Addr}{H:Hp}{s:Pg.PS}(G:bK C CS H M A s) (ok:A.Ok M) (r:List Int):bK C CS (upd H A.il (.lst (r.map V.int))) M A { s with inf:=r }:=by
 have o:Off (· = A.il) H (upd H A.il (.lst (r.map V.int))):=λb o e z=>(by rw[ah z];exact e);obtain⟨dx,h1⟩:=G.ob;obtain⟨l,hd,N,F,L,J⟩:=G.pd;exact⟨⟨dx,o _ _ h1 (ok.n 0 8 rfl rfl av)⟩,G.fr.off o (in1 (ok.m 8 rfl)) (ok.n 1 8 rfl rfl av) (ok.n 2 8 rfl rfl av) (ok.n 3 8 rfl rfl av),G.sl.off o (in1 (ok.m 8 rfl)) (ok.n 4 8 rfl rfl av) (ok.n 5 8 rfl rfl av) (ok.n 6 8 rfl rfl av),ae,G.le,
  ⟨l,o _ _ hd (ok.n 7 8 rfl rfl av),N,λx I=>o _ _ (F x I) (cE (F x I) G.il (by intro z;cases z)),L,J⟩⟩
theorem bK.C4 {C CS:Addr}{H:Hp}{s s':Pg.PS}(G:bK C CS H M A s) (F:s'.ow=s.ow) (I:s'.co=s.co) (O:s'.ls=s.ls) (J:s'.inf=s.inf) (R:∀j,s'.pl j=s.pl j):bK C CS H M A s':=by
 obtain⟨l,hd,L,U,N,S⟩:=G.pd;exact⟨by rw[O];exact G.ob,by rw[F,I];exact G.fr,by rw[F,I];exact G.sl,by rw[J];exact G.il,by rw[F];exact G.le,⟨l,hd,L,U,λj=>by rw[R];exact N j,S⟩⟩
theorem Bi {H:Hp}{l:CC}{f:Int->Option (Bool×Nat)}{k:Int}{t:Addr}{b:Bool}{n:Nat}(L:(l.map (·.1)).Nodup) (J:∀x∈l,H x.2.1=some (.tup (jF x.2.2.1 x.2.2.2))) (I:∀j,(Tb.look l j).map (·.2)=f j) (S:l.length<=999\/(f k≠none/\l.length<=1000)) (O:H t=some (.tup (jF b n))) :
  ∃F:CC,putK (Tb.dk qP l) (Sum.inl k) (.ref t)=Tb.dk qP F/\(F.map (·.1)).Nodup/\(∀x∈F,H x.2.1=some (.tup (jF x.2.2.1 x.2.2.2)))/\(∀j,(Tb.look F j).map (·.2)=Pg.dh f k (some (b,n)) j)/\F.length<=1000:=by
 have N:∀F:CC,(∀j,Tb.look F j=if j=k then some (t,b,n)else Tb.look l j)->∀j,(Tb.look F j).map (·.2)=Pg.dh f k (some (b,n)) j:=by
  intro F h j;rw[h j];by_cases e:j=k
  .rw[if_pos e,e,Pg.bp];rfl
  .rw[if_neg e,Pg.aG e];exact I j
 cases e:Tb.look l k with
 |none =>
  have R:f k=none:=(by rw[<-I k,e];rfl);refine⟨l++[(k,(t,b,n))],Tb.cy (f:=qP) (a:=(t,b,n)) e,?_,λx G=>?_,N _ λj=>Tb.bM j e,?_⟩
  .rw[map_append];exact gv L (Tb.cp e)
  .rcases List.mem_append.mp G with G|G
   .exact J x G
   .rw[List.mem_singleton.mp G];exact O
  .rw[length_append,length_singleton];rcases S with h|h
   .omega
   .exact absurd R h.1
 |some y =>
  refine⟨Tb.aY l k (t,b,n),Tb.gU (f:=qP) (a:=(t,b,n)) e,by rw[Tb.eU];exact L,λx G=>?_,N _ λj=>Tb.bU j e,?_⟩
  .rcases Tb.mem_set G with rfl|⟨G,_⟩
   .exact O
   .exact J x G
  .rw[Tb.gz];omega
theorem bK.yr {C CS t:Addr}{H:Hp}{s:Pg.PS}{l:CC}{f:Int->Option (Bool×Nat)}{k:Int}{b:Bool}{n:Nat}(ok:A.Ok M)
  (Y:∃dx,H A.pg=some (.ins C dx (cH A s.ls))) (fr:aQ CS H M A.fp A.fo A.fc (s.ow true) (s.co true)) (sl:aQ CS H M A.sp A.so A.sc (s.ow false) (s.co false)) (il:H A.il=some (.lst (s.inf.map V.int))) (le:∀b,(s.ow b).length<=60)
  (hd:H A.pd=some (.dK (Tb.dk qP l))) (O:(l.map (·.1)).Nodup) (ht:∀x∈l,H x.2.1=some (.tup (jF x.2.2.1 x.2.2.2))) (hl:∀j,(Tb.look l j).map (·.2)=f j) (R:l.length<=999\/(f k≠none/\l.length<=1000)) (U:H t=some (.tup (jF b n))) (J:∀j,s.pl j=Pg.dh f k (some (b,n)) j) :
  bK C CS (upd H A.pd (.dK (putK (Tb.dk qP l) (Sum.inl k) (.ref t)))) M A s:=by
 have o:Off (· = A.pd) H (upd H A.pd (.dK (putK (Tb.dk qP l) (Sum.inl k) (.ref t)))):=λb o e z=>(by rw[ah z];exact e);obtain⟨L,N,e2,F,I,S⟩:=Bi (k:=k) O ht hl R U;obtain⟨dx,h1⟩:=Y;refine⟨⟨dx,o _ _ h1 (ok.n 0 7 rfl rfl av)⟩,fr.off o (in1 (ok.m 7 rfl)) (ok.n 1 7 rfl rfl av) (ok.n 2 7 rfl rfl av) (ok.n 3 7 rfl rfl av),sl.off o (in1 (ok.m 7 rfl)) (ok.n 4 7 rfl rfl av) (ok.n 5 7 rfl rfl av) (ok.n 6 7 rfl rfl av),o _ _ il (ok.n 8 7 rfl rfl av),le,
  ⟨L,by rw[ae,N],e2,λx G=>o _ _ (F x G) (cE (F x G) hd (by intro z;cases z)),λj=>by rw[J j];exact I j,S⟩⟩
theorem lu {α:Type}{k:Int}:∀{l:List (Int×α)},(l.map (·.1)).Nodup->l.length<=(Tb.bg l k).length+1
 | [],_=>zero_le _
 |x::r,h=>by
  obtain⟨J,F⟩:=List.nodup_cons.mp (show(x.1::r.map (·.1)).Nodup from h);have I:=lu (k:=k) F;unfold Tb.bg at I ⊢;rw[filter_cons];by_cases c:x.1=k
  .rw[if_neg (by simp[c])];have:r.filter (λx=>decide (x.1≠k))=r:=by
    rw[filter_eq_self];intro y G;have:y.1≠k:=λe=>J (by rw[c, <-e];exact List.mem_map.mpr ⟨y,G,rfl⟩);simpa using this
   rw[this,length_cons];exact le_refl _
  .rw[if_pos (by simpa using c),length_cons,length_cons];omega
theorem Bt {s:Pg.PS}(G:Pg.Good s) (le:∀b,(s.ow b).length<=60) {l:CC}(U:(l.map (·.1)).Nodup) (F:∀x∈l,s.pl x.1=some x.2.2):l.length<=120:=by
 have lt:∀x∈l,x.2.2.2<60:=λx I=>by
  obtain⟨cs,c,_,h2,_,_⟩:=G.va x.1 x.2.2.1 x.2.2.2 (F x I);have h3:=(List.getElem?_eq_some_iff.mp h2).1;have Y:=le x.2.2.1;omega
 have:=Tb.AE 120 0 (l.map λx=>if x.2.2.1=true then(x.2.2.2:Int)else 60+(x.2.2.2:Int)) ?_ ?_
 .rwa [length_map]at this
 .refine List.pairwise_map.mpr ((List.pairwise_map.mp U).imp_of_mem ?_);intro a b L J S e;have h1:=lt a L;have h2:=lt b J;refine S (G.inj a.1 b.1 b.2.2 ?_ (F b J));rw[F a L];congr 1;have e:(if a.2.2.1=true then(a.2.2.2:Int)else 60+(a.2.2.2:Int))=if b.2.2.1=true then(b.2.2.2:Int)else 60+(b.2.2.2:Int):=e
  refine Prod.ext ?_ ?_
  .cases O:a.2.2.1<;>cases N:b.2.2.1
   .rfl
   .rw[O,N,if_neg av,if_pos rfl]at e;omega
   .rw[O,N,if_pos rfl,if_neg av]at e;omega
   .rfl
  .split at e<;>split at e<;>omega
 .intro x I;obtain⟨y,R,rfl⟩:=List.mem_map.mp I;have h1:=lt y R;split<;>omega
theorem vN {s:Pg.PS}(G:Pg.Good s) (le:(s.ow true).length<=60):s.inf.length<=60:=by
 have:=Tb.AE 60 0 (s.inf.map λk=>match s.pl k with|some p=>(p.2:Int)|none=>0) ?_ ?_
 .rwa [length_map]at this
 .refine List.pairwise_map.mpr (G.nd.imp_of_mem ?_);intro a b O L N e;obtain⟨n,F⟩:=(G.fi a).mp O;obtain⟨m,I⟩:=(G.fi b).mp L;rw[F,I]at e;have e:(n:Int)=m:=e;have e:n=m:=af;subst e;exact N (G.inj _ _ _ F I)
 .intro x R;obtain⟨y,J,rfl⟩:=List.mem_map.mp R;obtain⟨n,F⟩:=(G.fi y).mp J;obtain⟨cs,c,_,h2,_,_⟩:=G.va _ _ _ F;have S:=(List.getElem?_eq_some_iff.mp h2).1;rw[F];show 0<=(n:Int)/\(n:Int)<0+(60:Nat);omega
end
section
variable {P:Program}{w:World}{K:Frag}{mg:Str->Option Value}{base:Heap}
inductive lG (C CS:Addr) (vs:List V) (H:Hp) (Q:VK) (e3:XK):Prop
 |mk (M:Addr->Prop) (A:PA) (s:Pg.PS) (k:Int) (n:Nat) (cs:List Int) (c:Nat) (_:vs=[.ref A.pg,.int k]) (_:bK C CS H M A s) (_:A.Ok M) (_:(∀b,M b->H b≠none)) (_:s.pl k=some (true,n)) (_:Pg.Vw s k cs c) (_:¬ k∈s.inf) (_:(0:Int)∈s.ow false) (_:(∀b,(s.co b).length=(s.ow b).length)) (_:1<=c) (_:c<=1000) (_:∀H':Hp,bK C CS H' M A (Pg.out s k n cs c)->Off A.own H H'->Q .non H'):lG C CS vs H Q e3
theorem E2:az ["self","sheet","moved"] ["self","sheet"] (aq qJ):=L2.bD
theorem sY {f C CS:Addr}{fd:FuncData}(F:cL K "put_out" "Paging.put_out" qJ f fd) (T:mZ K mg C) (a5:Df P w K mg base aU 4 "lift" (oY CS)) (a6:Df P w K mg base aU 4 "settle" (jo CS)) (a0:Md P w K mg base aU 2 C "number_of" (de C CS)):bf P w K mg base aU 5 f fd ["self","sheet"] (lG C CS):=by
 refine F.ok E2 (λvs H Q E h=>?_) (λa7 A outer s H vs Q E R h=>?_)
 .obtain⟨M,I,s',k,n,cs,c,rfl,_⟩:=h;rfl
 .obtain⟨M,I,s',k,n,cs,c,rfl,G,ok,mt,U,hv,ni,h0,ab,c1,Y,q⟩:=h;obtain⟨dx,h1⟩:=G.ob;obtain⟨b',n',e1,e2,e3⟩:=hv;rw[U]at e1;cases e1;obtain⟨l,hd,nd,L,hl,a1⟩:=G.pd;have hs:sizeLine=16777216:=sizeLine_eq;refine⟨_,(ag (aK (i:=2) E2.nd rfl (Or.inl rfl) (pc a5 R aw (aa (aJ (pv 0) rfl) (aa (pm (pv 0) T.cl a0 R aw (aa (pv 1) ai)) ai))))
   (aj (jH (bj R) (aJ (pv 0) rfl) (pv 1) (cM (aa aI (aa (pc a6 R aw (aa (aJ (pv 0) rfl) (aa (pv 2) ai))) ai))) rfl))),?_⟩
  refine⟨_,rfl,I.pg,C,dx,_,_,rfl,h1,T.cl,T.nF,lH _ _,?_⟩;refine⟨_,rfl,I.pg,dx,_,rfl,h1,cD _ _ ao ao ao ao ao,_,rfl,M,I,s',k,true,n,rfl,G,U,?_⟩;refine⟨I.fp,I.fo,I.fc,M,_,_,n,cs,c,rfl,G.fr,ok.m 2 rfl,ok.m 3 rfl,mt,ok.n 2 3 rfl rfl av,G.le true,e3,c1,Y,e2,?_⟩;intro H1 t l0 ft a2 nl as S1 O;have ad:=O _ _ h1 (gg (ok.n 0 2 rfl rfl av) (ok.n 0 3 rfl rfl av));have ac:=G.sl.off O (FW (ok.m 2 rfl) (ok.m 3 rfl)) (gg (ok.n 4 2 rfl rfl av) (ok.n 4 3 rfl rfl av)) (gg (ok.n 5 2 rfl rfl av) (ok.n 5 3 rfl rfl av)) (gg (ok.n 6 2 rfl rfl av) (ok.n 6 3 rfl rfl av));refine⟨_,rfl,I.pg,C,dx,_,_,rfl,ad,T.cl,T.nS,sh _ _,_,rfl,I.sp,I.so,I.sc,t,l0,M,_,_,cs,c,rfl,ac,ok.m 5 rfl,ok.m 6 rfl,nJ S1 O mt,ok.n 5 6 rfl rfl av,(ab false).symm,G.le false,h0,a2,as,nl,c1,Y,?_⟩;intro H2 S2 O2;refine⟨by show 2<=sizeLine;decide,λu S=>?_⟩;have am:=(S1.off O2 (FW (ok.m 5 rfl) (ok.m 6 rfl)) (gg (ok.n 1 5 rfl rfl av) (ok.n 1 6 rfl rfl av)) (gg (ok.n 2 5 rfl rfl av) (ok.n 2 6 rfl rfl av)) (gg (ok.n 3 5 rfl rfl av) (ok.n 3 6 rfl rfl av))).keep (cJ (o:=.tup (jF false ((s'.ow false).idxOf 0))) S);have ap:=S2.keep (cJ (o:=.tup (jF false ((s'.ow false).idxOf 0))) S);have N:∀b o,H b=some o->¬ (b=I.fo\/b=I.fc)->¬ (b=I.so\/b=I.sc)->upd H2 u (.tup (jF false ((s'.ow false).idxOf 0))) b=some o:=λb o e z1 z2=>cJ S b o (O2 b o (O b o e z1) z2) id;have hu:upd H2 u (.tup (jF false ((s'.ow false).idxOf 0))) u=some (.tup (jF false ((s'.ow false).idxOf 0))):=ae;have kd:=N _ _ hd (gg (ok.n 7 2 rfl rfl av) (ok.n 7 3 rfl rfl av)) (gg (ok.n 7 5 rfl rfl av) (ok.n 7 6 rfl rfl av));have ko:=N _ _ h1 (gg (ok.n 0 2 rfl rfl av) (ok.n 0 3 rfl rfl av)) (gg (ok.n 0 5 rfl rfl av) (ok.n 0 6 rfl rfl av));have ki:=N _ _ G.il (gg (ok.n 8 2 rfl rfl av) (ok.n 8 3 rfl rfl av)) (gg (ok.n 8 5 rfl rfl av) (ok.n 8 6 rfl rfl av));have aT:=G.fr.hw;have aB:=G.sl.hw;obtain⟨_,a3,_⟩:=G.fr.hc;obtain⟨_,a4,_⟩:=G.sl.hc;have kt:∀x∈l,upd H2 u (.tup (jF false ((s'.ow false).idxOf 0))) x.2.1=some (.tup (jF x.2.2.1 x.2.2.2)):=λx J=>N _ _ (L x J) (gg (cE (L x J) aT (by intro z;cases z)) (cE (L x J) a3 (by intro z;cases z))) (gg (cE (L x J) aB (by intro z;cases z)) (cE (L x J) a4 (by intro z;cases z)));show BJ K _ _ _ (upd H2 u (.tup (jF false ((s'.ow false).idxOf 0)))) _;generalize upd H2 u (.tup (jF false ((s'.ow false).idxOf 0)))=H3 at *;refine⟨_,rfl,I.pg,C,dx,_,_,rfl,ko,T.cl,T.nP,nK _ _,_,rfl,I.pd,_,rfl,gb.k (k:=Sum.inl k) kd (by rw[Tb.cm];omega),?_⟩;refine q _ (bK.yr (s:=Pg.out s' k n cs c) (f:=s'.pl) (b:=false) (n:=(s'.ow false).idxOf 0) ok ⟨dx,ko⟩ am ap ?_ ?_ kd nd kt hl (.inr ⟨by rw[U];simp,a1⟩) hu ?_) ?_
  .show H3 I.il=some (.lst ((s'.inf.erase k).map V.int));rw[List.erase_of_not_mem ni];exact ki
  .intro b;cases b
   .show(List.set _ _ _).length<=60;rw[length_set];exact G.le false
   .show(List.set _ _ _).length<=60;rw[length_set];exact G.le true
  .intro j;by_cases e:j=k
   .subst e;exact Pg.bp.trans Pg.bp.symm
   .exact(Pg.aG e).trans ((Pg.aG e).trans (Pg.aG e).symm)
  .intro b o e z;rw[ah (λy=>z (by rw[y];exact PA.fV 5 rfl))];exact N b o e (λy=>z (y.elim (λy=>by rw[y];exact PA.fV 1 rfl) λy=>by rw[y];exact PA.fV 2 rfl)) (λy=>z (y.elim (λy=>by rw[y];exact PA.fV 3 rfl) λy=>by rw[y];exact PA.fV 4 rfl))
abbrev lF:Stmt:=inClass (top 14) 7
inductive ir (C CS:Addr) (vs:List V) (H:Hp) (Q:VK) (e3:XK):Prop
 |mk (M:Addr->Prop) (A:PA) (s:Pg.PS) (k:Int) (t l:Addr) (cs:List Int) (c:Nat) (_:vs=[.ref A.pg,.int k,.ref t]) (_:bK C CS H M A s) (_:A.Ok M) (_:(∀b,M b->H b≠none)) (_:Pg.Good { s with pl:=Pg.dh s.pl k none }) (_:((0:Int)∈s.ow true\/(0:Int)∈s.ow false)) (_:s.ow true≠[]) (_:(∀b,∀x∈s.ow b,x<=1000)) (_:H t=some (.tup [.ref l,.int c])) (_:H l=some (.lst (cs.map V.int))) (_:¬ M l) (_:1<=c) (_:c<=1000) (_:∀(H':Hp) (s':Pg.PS),Pg.BI { s with pl:=Pg.dh s.pl k none } k cs c s'->bK C CS H' M A s'->Off A.own H H'->Q .non H'):ir C CS vs H Q e3
theorem sI (A:PA) (n:Int):(cH A n).lookup ("in_frames" : Str)=some (.ref A.il):=by
 unfold cH;rw[aD,if_pos rfl]
theorem Ie:az ["self","sheet","moved"] ["self","sheet","moved"] (aq lF):=L2.bD
theorem r6 {f C CS:Addr}{fd:FuncData}(F:cL K "bring_in" "Paging.bring_in" lF f fd) (T:mZ K mg C) (TS:Txt K mg CS) (GF:Md P w K mg base aU 1 CS "free" (oV CS)) (bx:Md P w K mg base aU 5 C "put_out" (lG C CS)) (bb:Df P w K mg base aU 4 "settle" (jo CS)):bf P w K mg base aU 6 f fd ["self","sheet","moved"] (ir C CS):=by
 refine F.ok Ie (λvs H Q E h=>?_) (λb0 A outer s H vs Q E hr h=>?_)
 .obtain⟨M,I,s',k,t,l,cs,c,rfl,_⟩:=h;rfl
 .obtain⟨M,I,s',k,t,l0,cs,c,rfl,G,ok,mt,gd,hf,hn,hb,N,ba,nl,c1,c2,q⟩:=h;obtain⟨dx,h1⟩:=G.ob;obtain⟨bd,h2⟩:=G.fr.ob;have hs:sizeLine=16777216:=sizeLine_eq;have bv:¬ I.own l0:=λz=>nl (ok.own _ z);refine⟨_,(ag (aS (aC bW (sF (aJ (pv 0) rfl) TS.cl GF hr aw) ak (aH _)) (aj (aL (pm (pv 0) T.cl bx hr aw (aa (gI plainAttrs_list PySem.F.slot_list_pop PySem.F.type_list_pop zN (aJ (pv 0) rfl) (aa ak ai)) ai)))) aF)
   (ag (jH (bj hr) (aJ (pv 0) rfl) (pv 1) (cM (aa aI (aa (pc bb hr aw (aa (aJ (pv 0) rfl) (aa (pv 2) ai))) ai))) rfl)
   (aj (aL (gI plainAttrs_list PySem.F.slot_list_append PySem.F.type_list_append iC (aJ (pv 0) rfl) (aa (pv 1) ai)))))),?_⟩
  refine share (λσ H9=>x8 λ(J O:Pg.PS)=>Gg (σ=[some (.ref I.pg),some (.int k),some (.ref t)]) (bK C CS H9 M I J) (O.ow=J.ow) (O.co=J.co) (O.ls=J.ls) (O.inf=J.inf) ((∀j,j≠k->O.pl j=J.pl j)) (Pg.Good O) ((0:Int)∈O.ow true) (Pg.BI { s' with pl:=Pg.dh s'.pl k none } k cs c (Pg.vD O true k cs c)) (Off I.own H H9)) (λu' aB=>?A) ?B
  case A =>
   refine⟨_,rfl,I.pg,C,dx,_,_,rfl,h1,T.cl,T.nF,lH _ _,I.fp,bd,_,rfl,h2,aW _ _ ao ao,I.fp,I.fo,I.fc,M,_,_,rfl,G.fr,rfl,_,rfl,?_⟩;refine iM (λz'=>?_) (λz'=>?_)
   rotate_left
   .have z:(0:Int)∈s'.ow true:=Classical.byContradiction λn=>z' (by rw[List.count_eq_zero.mpr n];simp);exact aB _ _ ⟨s', { s' with pl:=Pg.dh s'.pl k none },rfl,G,rfl,rfl,rfl,rfl,λj hj=>Pg.aG hj,gd,z,.free z,λb o e _=>e⟩
   .have z:¬ (0:Int)∈s'.ow true:=List.count_eq_zero.mp (by
     have:(((s'.ow true).count 0:Nat):Int)=0:=(by simpa using z');omega)
    rcases Pg.EM gd hf hn with h|⟨_,ad,R,r,n0,ap,c0,hi,U,ab⟩
    .exact absurd h z
    .have a4:R≠k:=λe=>by
      have U:Pg.dh s'.pl k none R=some (true,n0):=U;rw[e,Pg.bp]at U;cases U
     have hi:s'.inf=R::r:=hi;have bY:=(gd.vw ab).1;obtain⟨og,_,_,a7,_,_,bI⟩:=Pg.rF gd U ab ad;obtain⟨b1,n1,e1,e2,e3⟩:=id ab;rw[U]at e1;cases e1;have as:s'.pl R=some (true,n0):=(by rw[<-U];exact(Pg.aG a4).symm);have bG:=hb true c0 (mem_of_getElem? e3);obtain⟨aT,rfl⟩:∃c':Nat,c0=c':=⟨c0.toNat,af⟩;have S:=gd.nd;have S:s'.inf.Nodup:=S;rw[hi]at S;obtain⟨n1,n2⟩:=List.nodup_cons.mp S;have L:=G.mI ok r;have O1:Off I.own H (upd H I.il (.lst (r.map V.int))):=λb o e z=>(by rw[ah (λy=>z (by rw[y];exact PA.fV 6 rfl))];exact e);have am:=G.il;rw[hi]at am;refine⟨_,rfl,I.pg,dx,_,rfl,h1,cD _ _ ao ao ao ao ao,_,rfl,I.pg,C,dx,_,_,rfl,h1,T.cl,T.nI,sI _ _,.inl ⟨rfl,_,bq.of am⟩,I.il,_,0,0,.int R,rfl,rfl,am,av,av,seqIndex_of (Int.le_refl _) (by rw[length_map,length_cons];omega),rfl,?_⟩;refine⟨M,I,_,R,n0,ap,aT,rfl,L,ok,L.alive O1 mt,as,⟨true,n0,as,e2,e3⟩,n1,ad,gd.ln,af,af,λH2 G2 O2=>?_⟩;refine aB _ _ ⟨_,Pg.out { s' with pl:=Pg.dh s'.pl k none } R n0 ap aT,rfl,G2,rfl,rfl,rfl,?_,?_,og,a7,.full z ad hi U ab,λb o e y=>O2 b o (O1 b o e y) y⟩
     .show s'.inf.erase R=r.erase R;rw[hi,List.erase_cons_head,List.erase_of_not_mem n1]
     .intro j hj;by_cases e:j=R
      .subst e;exact Pg.bp.trans Pg.bp.symm
      .exact(Pg.aG e).trans ((Pg.aG e).trans ((Pg.aG hj).trans ((Pg.aG e).trans (Pg.aG e)).symm))
  case B =>
   rintro σ H9 ⟨J,O,rfl,L,Y,w2,w3,w4,w5,g2,z0,bn,O1⟩;obtain⟨ac,h3⟩:=L.ob;have bi:H9 t=some (.tup [.ref l0,.int c]):=O1 _ _ N λy=>by
    obtain⟨_,q1,_⟩:=G.fr.hc;obtain⟨_,q2,_⟩:=G.sl.hc;obtain⟨_,q3,_⟩:=G.pd;have q4:=G.fr.hw;have q5:=G.sl.hw;have q6:=G.il;unfold PA.own at y;simp only[mem_cons,not_mem_nil,or_false]at y;rcases y with y|y|y|y|y|y|y<;>rw[y]at N
    .rw[h1]at N;cases N
    .rw[q4]at N;cases N
    .rw[q1]at N;cases N
    .rw[q5]at N;cases N
    .rw[q2]at N;cases N
    .rw[q3]at N;cases N
    .rw[q6]at N;cases N
   have a3:=O1 _ _ ba bv;obtain⟨l,hd,S,ht,hl,b2⟩:=L.pd;have be:l.length<=999:=by
    have a1:=lu (k:=k) S;have a2:=Bt g2 (λb=>by rw[Y];exact L.le b) (l:=Tb.bg l k) (by rw[Tb.jf];exact S.filter _) λx hx=>by
     obtain⟨hx,bm⟩:=Tb.cf hx;have:=hl x.1;rw[Tb.bN S hx]at this;rw[w5 x.1 bm, <-this];rfl
    omega
   rw[Y]at z0;have a0:(J.co true).length=(J.ow true).length:=(by rw[<-Y, <-w2];exact g2.ln true);refine⟨_,rfl,I.pg,C,ac,_,_,rfl,h3,T.cl,T.nF,lH _ _,_,rfl,I.fp,I.fo,I.fc,t,l0,M,_,_,cs,c,rfl,L.fr,ok.m 2 rfl,ok.m 3 rfl,L.alive O1 mt,ok.n 2 3 rfl rfl av,a0.symm,L.le true,z0,bi,a3,nl,c1,c2,?_⟩;intro H2 S2 O2;refine⟨by show 2<=sizeLine;decide,λu fu=>?_⟩;have a5:=S2.keep (cJ (o:=.tup (jF true ((J.ow true).idxOf 0))) fu);have a6:=(L.sl.off O2 (FW (ok.m 2 rfl) (ok.m 3 rfl)) (gg (ok.n 4 2 rfl rfl av) (ok.n 4 3 rfl rfl av)) (gg (ok.n 5 2 rfl rfl av) (ok.n 5 3 rfl rfl av)) (gg (ok.n 6 2 rfl rfl av) (ok.n 6 3 rfl rfl av))).keep (cJ (o:=.tup (jF true ((J.ow true).idxOf 0))) fu);have kp:∀b o,H9 b=some o->¬ (b=I.fo\/b=I.fc)->upd H2 u (.tup (jF true ((J.ow true).idxOf 0))) b=some o:=λb o e z1=>cJ fu b o (O2 b o e z1) id;have hu:upd H2 u (.tup (jF true ((J.ow true).idxOf 0))) u=some (.tup (jF true ((J.ow true).idxOf 0))):=ae;have kd:=kp _ _ hd (gg (ok.n 7 2 rfl rfl av) (ok.n 7 3 rfl rfl av));have ko:=kp _ _ h3 (gg (ok.n 0 2 rfl rfl av) (ok.n 0 3 rfl rfl av));have ki:=kp _ _ L.il (gg (ok.n 8 2 rfl rfl av) (ok.n 8 3 rfl rfl av));have bc:=L.fr.hw;obtain⟨_,bz,_⟩:=L.fr.hc;have kt:∀x∈l,upd H2 u (.tup (jF true ((J.ow true).idxOf 0))) x.2.1=some (.tup (jF x.2.2.1 x.2.2.2)):=λx hx=>kp _ _ (ht x hx) (gg (cE (ht x hx) bc (by intro z;cases z)) (cE (ht x hx) bz (by intro z;cases z)));show BJ K _ _ _ (upd H2 u (.tup (jF true ((J.ow true).idxOf 0)))) _;generalize upd H2 u (.tup (jF true ((J.ow true).idxOf 0)))=H3 at *;refine⟨_,rfl,I.pg,C,ac,_,_,rfl,ko,T.cl,T.nP,nK _ _,_,rfl,I.pd,_,rfl,gb.k (k:=Sum.inl k) kd (by rw[Tb.cm];omega),?_⟩;have G4:=bK.yr (C:=C) (CS:=CS) (s:={ Pg.vD J true k cs c with inf:=J.inf }) (f:=J.pl) (k:=k) (b:=true) (n:=(J.ow true).idxOf 0) ok ⟨ac,ko⟩ a5 a6 ki (λb=>by
    cases b
    .exact L.le false
    .show(List.set _ _ _).length<=60;rw[length_set];exact L.le true) kd S kt hl (.inl be) hu (λj=>rfl)
   have O4:Off I.own H (upd H3 I.pd (.dK (putK (Tb.dk qP l) (Sum.inl k) (.ref u)))):=λb o e z=>by
    rw[ah (λy=>z (by rw[y];exact PA.fV 5 rfl))];exact kp b o (O1 b o e z) (λy=>z (y.elim (λy=>by rw[y];exact PA.fV 1 rfl) λy=>by rw[y];exact PA.fV 2 rfl))
   generalize upd H3 I.pd (.dK (putK (Tb.dk qP l) (Sum.inl k) (.ref u)))=H4 at *;obtain⟨bl,h4⟩:=G4.ob;have b3:J.inf.length<=60:=(by rw[<-w4];exact vN g2 (by rw[Y];exact L.le true));refine⟨_,rfl,I.pg,C,bl,_,_,rfl,h4,T.cl,T.nI,sI _ _,.inl ⟨rfl,_,bq.of G4.il⟩,_,rfl,I.il,_,.int k,rfl,rfl,G4.il,by rw[length_map];show J.inf.length<_;omega,?_⟩;have G5:=G4.mI ok (J.inf++[k]);rw[map_append]at G5;refine q _ _ bn (G5.C4 ?_ ?_ w3 ?_ ?_) λb o e z=>by
    rw[ah (λy=>z (by rw[y];exact PA.fV 6 rfl))];exact O4 b o e z
   .show Pg.upd O.ow true _=Pg.upd J.ow true _;rw[Y]
   .show Pg.upd O.co true _=Pg.upd J.co true _;rw[Y,w2]
   .show O.inf++[k]=J.inf++[k];rw[w4]
   .intro j;show Pg.dh O.pl k _ j=Pg.dh J.pl k _ j;by_cases e:j=k
    .rw[e,Pg.bp,Pg.bp,Y]
    .rw[Pg.aG e,Pg.aG e];exact w5 j e
end
end St
namespace Pg
theorem sD {α:Type}{f:Bool->α}{b:Bool}:upd f b (f b)=f:=by
 funext c;by_cases e:c=b
 .rw[e,ae]
 .rw[aV e]
theorem xb {α:Type}{f:Int->α}{k:Int}{v:α}(h:f k=v):dh f k v=f:=by
 funext c;by_cases e:c=k
 .rw[e,bp,h]
 .rw[aG e]
theorem vh {s:PS}(G:Good s):({ next s with pl:=dh (next s).pl (s.ls+1) none }:PS)=next s:=by
 have e:dh s.pl (s.ls+1) none=s.pl:=xb (eQ G);show PS.mk s.ow s.co (dh s.pl (s.ls+1) none) (s.ls+1) s.inf=PS.mk s.ow s.co s.pl (s.ls+1) s.inf;rw[e]
theorem vT {s:PS}{k:Int}{n:Nat}(G:Good s) (I:s.pl k=some (false,n)):¬ k∈s.inf:=λh=>by
 obtain⟨m,F⟩:=(G.fi k).mp h;rw[I]at F;cases F
theorem uS {s:PS}{k:Int}{n:Nat}(G:Good s) (F:s.pl k=some (false,n)):({ cq s false n 0 with pl:=dh (cq s false n 0).pl k none }:PS)=ny s k false n:=by
 show PS.mk (upd s.ow false ((s.ow false).set n 0)) s.co (dh s.pl k none) s.ls s.inf=PS.mk (upd s.ow false ((s.ow false).set n 0)) s.co (dh s.pl k none) s.ls (s.inf.erase k);rw[List.erase_of_not_mem (vT G F)]
def Cb (s:PS):Prop:=∀b,∀x∈s.ow b,x<=1000
theorem Dw {ow:Bool->List Int}{b:Bool}{n:Nat}{x:Int}(h:∀b,∀x∈ow b,x<=1000) (G:x<=1000):∀c,∀y∈upd ow b ((ow b).set n x) c,y<=1000:=by
 intro c y F;by_cases e:c=b
 .rw[e,ae]at F;rcases List.mem_or_eq_of_mem_set F with h' |h'
  .exact h b y h'
  .rw[h'];exact G
 .rw[aV e]at F;exact h c y F
end Pg
namespace Pg
theorem RI.cb {s:PS}{es:List Ent}(R:RI s es) (le:∀b,(s.ow b).length<=60):Cb s:=by
 intro b x I;obtain⟨n,F⟩:=List.getElem?_of_mem I;rcases R.good.on b n x F with e|⟨k,G⟩
 .omega
 .obtain⟨cs,c,h1,h2,_,_⟩:=R.good.va _ _ _ G;rw[F]at h2;cases h2;have N:=R.ct k cs x ⟨b,n,G,h1,F⟩;have J:=List.count_le_length (a:=some k) (l:=es);have S:=R.rm;have O:=le true;have L:=le false;omega
end Pg
namespace St
open PySem L2
section
variable {A:PA}{M:Addr->Prop}
theorem zA (A:PA) (n:Int):(cH A n).lookup ("last_sheet" : Str)=some (.int n):=by
 unfold cH;rw[aD,if_neg ao,aD,if_pos rfl]
theorem yz (A:PA) (n:Int):cH A n=([("frames",.ref A.fp),("slots",.ref A.sp),("places",.ref A.pd),("last_sheet",.int n),("in_frames",.ref A.il)]:List (Str×V)):=by
 have S:¬ (("frames" : Str) = "slots"):=ao;have I:¬ (("frames" : Str) = "places"):=ao;have J:¬ (("frames" : Str) = "last_sheet"):=ao;have F:¬ (("frames" : Str) = "in_frames"):=ao;have R:¬ (("slots" : Str) = "places"):=ao;have L:¬ (("slots" : Str) = "last_sheet"):=ao;have O:¬ (("slots" : Str) = "in_frames"):=ao;have G:¬ (("places" : Str) = "last_sheet"):=ao;have N:¬ (("places" : Str) = "in_frames"):=ao;have U:¬ (("last_sheet" : Str) = "in_frames"):=ao;unfold cH;simp only[bo,if_neg S,if_neg I,if_neg J,if_neg F,if_neg R,if_neg L,if_neg O,if_neg G,if_neg N,if_neg U]
theorem Cy (A:PA) (n m:Int):bo "last_sheet" (.int m) (cH A n)=cH A m:=by
 have G:¬ (("frames" : Str) = "last_sheet"):=ao;have I:¬ (("slots" : Str) = "last_sheet"):=ao;have F:¬ (("places" : Str) = "last_sheet"):=ao;rw[yz,yz];simp only[bo,if_neg G,if_neg I,if_neg F,if_true]
theorem bK.Fn {C CS dx:Addr}{H:Hp}{s:Pg.PS}(G:bK C CS H M A s) (ok:A.Ok M) (n:Int):bK C CS (upd H A.pg (.ins C dx (cH A n))) M A { s with ls:=n }:=by
 have o:Off (· = A.pg) H (upd H A.pg (.ins C dx (cH A n))):=λb o e z=>(by rw[ah z];exact e);obtain⟨O,h1⟩:=G.ob;obtain⟨l,hd,N,F,L,J⟩:=G.pd;exact⟨⟨dx,ae⟩,G.fr.off o (in1 (ok.m 0 rfl)) (ok.n 1 0 rfl rfl av) (ok.n 2 0 rfl rfl av) (ok.n 3 0 rfl rfl av),G.sl.off o (in1 (ok.m 0 rfl)) (ok.n 4 0 rfl rfl av) (ok.n 5 0 rfl rfl av) (ok.n 6 0 rfl rfl av),o _ _ G.il (ok.n 8 0 rfl rfl av),G.le,
  ⟨l,o _ _ hd (ok.n 7 0 rfl rfl av),N,λx I=>o _ _ (F x I) (cE (F x I) h1 (by intro z;cases z)),L,J⟩⟩
theorem bK.Cf {C CS:Addr}{H H':Hp}{s:Pg.PS}(G:bK C CS H M A s) (ok:A.Ok M) (b:Bool) {os:List Int}{pg:List (Option (List Int))}(S:aQ CS H' M (A.st b) (A.ow b) (A.co b) os pg) (o:Off (λx=>x=A.ow b\/x=A.co b) H H') (Y:os.length<=60):bK C CS H' M A { s with ow:=Pg.upd s.ow b os,co:=Pg.upd s.co b pg }:=by
 obtain⟨L,h1⟩:=G.ob;obtain⟨l,hd,N,F,J,R⟩:=G.pd;have le:∀c,(Pg.upd s.ow b os c).length<=60:=λc=>by
  by_cases e:c=b
  .rw[e,Pg.ae];exact Y
  .rw[Pg.aV e];exact G.le c
 have U:=(G.st b).hw;obtain⟨_,hc,_⟩:=(G.st b).hc;have O:∀x∈l,H' x.2.1=some (.tup (jF x.2.2.1 x.2.2.2)):=λx I=>o _ _ (F x I) (gg (cE (F x I) U (by intro z;cases z)) (cE (F x I) hc (by intro z;cases z)));cases b
 .exact⟨⟨L,o _ _ h1 (gg (ok.n 0 5 rfl rfl av) (ok.n 0 6 rfl rfl av))⟩,G.fr.off o (FW (ok.m 5 rfl) (ok.m 6 rfl)) (gg (ok.n 1 5 rfl rfl av) (ok.n 1 6 rfl rfl av)) (gg (ok.n 2 5 rfl rfl av) (ok.n 2 6 rfl rfl av)) (gg (ok.n 3 5 rfl rfl av) (ok.n 3 6 rfl rfl av)),S,o _ _ G.il (gg (ok.n 8 5 rfl rfl av) (ok.n 8 6 rfl rfl av)),le,
   ⟨l,o _ _ hd (gg (ok.n 7 5 rfl rfl av) (ok.n 7 6 rfl rfl av)),N,O,J,R⟩⟩
 .exact⟨⟨L,o _ _ h1 (gg (ok.n 0 2 rfl rfl av) (ok.n 0 3 rfl rfl av))⟩,S,G.sl.off o (FW (ok.m 2 rfl) (ok.m 3 rfl)) (gg (ok.n 4 2 rfl rfl av) (ok.n 4 3 rfl rfl av)) (gg (ok.n 5 2 rfl rfl av) (ok.n 5 3 rfl rfl av)) (gg (ok.n 6 2 rfl rfl av) (ok.n 6 3 rfl rfl av)),o _ _ G.il (gg (ok.n 8 2 rfl rfl av) (ok.n 8 3 rfl rfl av)),le,
   ⟨l,o _ _ hd (gg (ok.n 7 2 rfl rfl av) (ok.n 7 3 rfl rfl av)),N,O,J,R⟩⟩
theorem bK.Am {C CS:Addr}{H H':Hp}{s:Pg.PS}(G:bK C CS H M A s) (ok:A.Ok M) (b:Bool) {os:List Int}(S:aQ CS H' M (A.st b) (A.ow b) (A.co b) os (s.co b)) (o:Off (λx=>x=A.ow b\/x=A.co b) H H') (F:os.length<=60):bK C CS H' M A { s with ow:=Pg.upd s.ow b os }:=
 (G.Cf ok b S o F).C4 rfl Pg.sD.symm rfl rfl λ_=>rfl
theorem bK.FN {C CS:Addr}{H H':Hp}{s:Pg.PS}(G:bK C CS H M A s) (ok:A.Ok M) (b:Bool) {pg:List (Option (List Int))}(S:aQ CS H' M (A.st b) (A.ow b) (A.co b) (s.ow b) pg) (o:Off (λx=>x=A.ow b\/x=A.co b) H H'):bK C CS H' M A { s with co:=Pg.upd s.co b pg }:=
 (G.Cf ok b S o (G.le b)).C4 Pg.sD.symm rfl rfl rfl λ_=>rfl
theorem PA.kz (b:Bool):∀x,x=A.ow b\/x=A.co b->A.own x:=by
 intro x h;cases b
 .rcases h with h|h<;>rw[h]
  .exact PA.fV 3 rfl
  .exact PA.fV 4 rfl
 .rcases h with h|h<;>rw[h]
  .exact PA.fV 1 rfl
  .exact PA.fV 2 rfl
theorem PA.Ok.mo (ok:A.Ok M) (b:Bool):M (A.ow b):=ok.own _ (PA.kz b _ (.inl rfl))
theorem PA.Ok.mc (ok:A.Ok M) (b:Bool):M (A.co b):=ok.own _ (PA.kz b _ (.inr rfl))
theorem PA.Ok.oc (ok:A.Ok M) (b:Bool):A.ow b≠A.co b:=by
 cases b
 .exact ok.n 5 6 rfl rfl av
 .exact ok.n 2 3 rfl rfl av
theorem Off.mono {B F:Addr->Prop}{H H':Hp}(o:Off B H H') (h:∀b,B b->F b):Off F H H':=λb u e z=>o b u e λy=>z (h b y)
theorem Off.trans {B:Addr->Prop}{H H' F:Hp}(o:Off B H H') (o':Off B H' F):Off B H F:=λb u e z=>o' b u (o b u e z) z
theorem Off.wr {B:Addr->Prop}{H:Hp}{a:Addr}{o:HO}(h:B a):Off B H (upd H a o):=λb u e z=>by rw[ah (λy=>z (by rw[y];exact h))];exact e
theorem Off.new {B:Addr->Prop}{H:Hp}{a:Addr}{o:HO}(h:H a=none):Off B H (upd H a o):=λb u e z=>cJ h b u e id
theorem bK.Ea {C CS:Addr}{H:Hp}{s:Pg.PS}{l:CC}(G:bK C CS H M A s) (ok:A.Ok M) (k:Int) (hd:H A.pd=some (.dK (Tb.dk qP l))) (L:(l.map (·.1)).Nodup) (I:∀x∈l,H x.2.1=some (.tup (jF x.2.2.1 x.2.2.2))) (J:∀j,(Tb.look l j).map (·.2)=s.pl j) (N:l.length<=1000) :
  bK C CS (upd H A.pd (.dK (Tb.dk qP (Tb.bg l k)))) M A { s with pl:=Pg.dh s.pl k none }:=by
 have o:Off (· = A.pd) H (upd H A.pd (.dK (Tb.dk qP (Tb.bg l k)))):=λb o e z=>(by rw[ah z];exact e);obtain⟨dx,h1⟩:=G.ob;refine⟨⟨dx,o _ _ h1 (ok.n 0 7 rfl rfl av)⟩,G.fr.off o (in1 (ok.m 7 rfl)) (ok.n 1 7 rfl rfl av) (ok.n 2 7 rfl rfl av) (ok.n 3 7 rfl rfl av),G.sl.off o (in1 (ok.m 7 rfl)) (ok.n 4 7 rfl rfl av) (ok.n 5 7 rfl rfl av) (ok.n 6 7 rfl rfl av),o _ _ G.il (ok.n 8 7 rfl rfl av),G.le,
  ⟨Tb.bg l k,ae,by rw[Tb.jf];exact L.filter _,λx F=>?_,λj=>?_,le_trans (List.length_filter_le _ _) N⟩⟩
 .have F:=(Tb.cf F).1;exact o _ _ (I x F) (cE (I x F) hd (by intro z;cases z))
 .rw[Tb.cz];show _=Pg.dh s.pl k none j;by_cases e:j=k
  .rw[if_pos e,e,Pg.bp];rfl
  .rw[if_neg e,Pg.aG e];exact J j
end
theorem vY {D:Ends}{σ:St}{H:Hp}(h:D.nx σ H):rS D σ H:=h
abbrev j6:Stmt:=inClass (top 14) 1
abbrev tN:Stmt:=inClass (top 14) 2
abbrev uK:Stmt:=inClass (top 14) 3
abbrev pM:Stmt:=inClass (top 14) 5
abbrev uo:Stmt:=inClass (top 14) 6
structure ET (C CS:Addr) (H:Hp) (M:Addr->Prop) (A:PA) (s:Pg.PS):Prop where
 at_:bK C CS H M A s
 ok:A.Ok M
 mt:∀b,M b->H b≠none
 gd:Pg.Good s
 ne:s.ow true≠[]
 cb:Pg.Cb s
 l0:0<=s.ls
inductive gA (K:Frag) (C CS:Addr) (vs:List V) (H:Hp) (Q:VK) (e3:XK):Prop
 |mk (M:Addr->Prop) (A:PA) (s:Pg.PS) (ca:Addr) (cs:List Int) (_:vs=[.ref A.pg,.ref ca]) (_:ET C CS H M A s) (_:((0:Int)∈s.ow true\/(0:Int)∈s.ow false)) (_:bq K H ca (cs.map V.int)) (_:ca≠A.pg) (_:cs.length=8) (_:∀(H':Hp) (s':Pg.PS),Pg.BI (Pg.next s) (s.ls+1) cs 1 s'->bK C CS H' M A s'->Off A.own H H'->Q (.int (s.ls+1)) H'):gA K C CS vs H Q e3
inductive lg (C CS:Addr) (vs:List V) (H:Hp) (Q:VK) (e3:XK):Prop
 |mk (M:Addr->Prop) (A:PA) (s:Pg.PS) (k:Int) (cs:List Int) (c:Int) (_:vs=[.ref A.pg,.int k]) (_:ET C CS H M A s) (_:Pg.Vw s k cs c) (_:∀(H':Hp) (s':Pg.PS),Pg.FE s k s'->bK C CS H' M A s'->Off A.own H H'->Q .non H'):lg C CS vs H Q e3
inductive pL (C CS:Addr) (vs:List V) (H:Hp) (Q:VK) (e3:XK):Prop
 |mk (M:Addr->Prop) (A:PA) (s:Pg.PS) (k:Int) (b:Bool) (n:Nat) (cs:List Int) (c:Int) (_:vs=[.ref A.pg,.int k]) (_:ET C CS H M A s) (_:s.pl k=some (b,n)) (_:Pg.Vw s k cs c) (_:∀H':Hp,bK C CS H' M A (Pg.cq s b n (c+1))->Off A.own H H'->Q .non H'):pL C CS vs H Q e3
inductive k6 (C CS:Addr) (vs:List V) (H:Hp) (Q:VK) (e3:XK):Prop
 |mk (M:Addr->Prop) (A:PA) (s:Pg.PS) (k:Int) (cs:List Int) (c:Int) (_:vs=[.ref A.pg,.int k]) (_:bK C CS H M A s) (_:A.Ok M) (_:(∀b,M b->H b≠none)) (_:Pg.Good s) (_:Pg.Vw s k cs c) (_:∀(H':Hp) (s':Pg.PS),Pg.B6 s k s'->bK C CS H' M A s'->Off A.own H H'->Q .non H'):k6 C CS vs H Q e3
inductive lT (C CS:Addr) (vs:List V) (H:Hp) (Q:VK) (e3:XK):Prop
 |mk (M:Addr->Prop) (A:PA) (s:Pg.PS) (k:Int) (ca:Addr) (cs0:List Int) (c0:Int) (cs:List Int) (_:vs=[.ref A.pg,.int k,.ref ca]) (_:ET C CS H M A s) (_:Pg.Vw s k cs0 c0) (_:H ca=some (.lst (cs.map V.int))) (_:¬ A.own ca) (_:cs.length=8) (_:(1<c0->(0:Int)∈s.ow true\/(0:Int)∈s.ow false)) (_:(1<c0->∀(H':Hp) (s1 s2:Pg.PS),Pg.BI (Pg.next s) (s.ls+1) cs 1 s1->Pg.B6 s1 k s2->bK C CS H' M A s2->Off A.own H H'->Q (.int (s.ls+1)) H')) (_:(c0=1->∀(H':Hp) (s1:Pg.PS) (m:Nat),Pg.FE s k s1->s1.pl k=some (true,m)->bK C CS H' M A (Pg.write s1 true m cs)->Off A.own H H'->Q (.int k) H')):lT C CS vs H Q e3
section
variable {P:Program}{w:World}{K:Frag}{mg:Str->Option Value}{base:Heap}
theorem Io:az ["self","cells"] ["self","cells"] (aq j6):=L2.bD
theorem qu {f C CS:Addr}{fd:FuncData}(F:cL K "new_sheet" "Paging.new_sheet" j6 f fd) (T:mZ K mg C) (TS:Txt K mg CS) (GF:Md P w K mg base aU 1 CS "free" (oV CS)) (a2:Md P w K mg base aU 6 C "bring_in" (ir C CS)):bf P w K mg base aU 7 f fd ["self","cells"] (gA K C CS):=by
 refine F.ok Io (λvs H Q E h=>?_) (λa3 A outer s H vs Q E S h=>?_)
 .obtain⟨M,I,s',N,cs,rfl,_⟩:=h;rfl
 .obtain⟨M,I,s',N,cs,rfl,R,hf,aT,aB,h8,q⟩:=h;have G:=R.at_;have ok:=R.ok;obtain⟨dx,h1⟩:=G.ob;obtain⟨ad,h2⟩:=G.fr.ob;obtain⟨ap,h3⟩:=G.sl.ob;have hs:sizeLine=16777216:=sizeLine_eq;refine⟨_,(ag (aS (aC bW (ay bu (sF (aJ (pv 0) rfl) TS.cl GF S aw) (sF (aJ (pv 0) rfl) TS.cl GF S aw)) ak (aH _)) cN aF)
   (ag (xS (pv 0) ak Em)
   (ag (aL (pm (pv 0) T.cl a2 S aw (aa (aJ (pv 0) rfl) (aa (cM (aa (bE cA (by rfl) T.list dt (aa (pv 1) ai)) (aa ak ai))) ai))))
   (aj (aE (aJ (pv 0) rfl)))))),?_⟩
  refine⟨_,rfl,I.pg,C,dx,_,_,rfl,h1,T.cl,T.nF,lH _ _,I.fp,ad,_,rfl,h2,aW _ _ ao ao,I.fp,I.fo,I.fc,M,_,_,rfl,G.fr,?_⟩;refine⟨_,rfl,I.pg,C,dx,_,_,rfl,h1,T.cl,T.nS,sh _ _,I.sp,ap,_,rfl,h3,aW _ _ ao ao,I.sp,I.so,I.sc,M,_,_,rfl,G.sl,_,_,rfl,rfl,rfl,_,rfl,?_⟩;refine iM (λz=>?_) (λ_=>?_)
  .exfalso;have z:(((s'.ow true).count 0:Nat):Int)+(((s'.ow false).count 0:Nat):Int)=0:=(by simpa using z);rcases hf with h|h
   .have:=List.count_pos_iff.mpr h;omega
   .have:=List.count_pos_iff.mpr h;omega
  refine⟨_,rfl,I.pg,C,dx,_,_,rfl,h1,T.cl,T.nL,zA _ _,_,_,rfl,rfl,dx,_,h1,by rw[yz];show 5<1000;decide,?_⟩;rw[Cy];have U:=G.Fn (dx:=dx) ok (s'.ls+1);have Y:Off I.own H (upd H I.pg (.ins C dx (cH I (s'.ls+1)))):=Off.wr (PA.fV 0 rfl);have a1:bq K (upd H I.pg (.ins C dx (cH I (s'.ls+1)))) N (cs.map V.int):=Rm.ed aT λo e=>(by rw[ah aB];exact e);have ac:=U.alive Y R.mt;have ab:upd H I.pg (.ins C dx (cH I (s'.ls+1))) I.pg=some (.ins C dx (cH I (s'.ls+1))):=ae;generalize upd H I.pg (.ins C dx (cH I (s'.ls+1)))=H1 at *;refine⟨_,rfl,I.pg,dx,_,rfl,ab,cD _ _ ao ao ao ao ao,_,rfl,I.pg,C,dx,_,_,rfl,ab,T.cl,T.nL,zA _ _,_,rfl,N,_,rfl,.inl a1,λl L=>?_⟩;refine⟨by show 2<=sizeLine;decide,λt J=>?_⟩;have O2:Off I.own H1 (upd (upd H1 l (.lst (cs.map V.int))) t (.tup [.ref l,.int 1])):=(Off.new L).trans (Off.new J);have am:t≠l:=λe=>(by rw[e,ae]at J;cases J);have ht:upd (upd H1 l (.lst (cs.map V.int))) t (.tup [.ref l,.int 1]) t=some (.tup [.ref l,.int 1]):=ae;have hl:upd (upd H1 l (.lst (cs.map V.int))) t (.tup [.ref l,.int 1]) l=some (.lst (cs.map V.int)):=(by rw[ah (Ne.symm am),ae]);have G2:bK C CS (upd (upd H1 l (.lst (cs.map V.int))) t (.tup [.ref l,.int 1])) M I { s' with ls:=s'.ls+1 }:=(U.keep (cJ L)).keep (cJ J);generalize upd (upd H1 l (.lst (cs.map V.int))) t (.tup [.ref l,.int 1])=H2 at *;have es:=Pg.vh R.gd;refine⟨M,I,Pg.next s',s'.ls+1,t,l,cs,1,rfl,G2,ok,G2.alive O2 ac,by rw[es];exact Pg.nX R.gd,hf,R.ne,R.cb,ht,hl,λz=>ac l z L,le_refl _,av,λH3 s3 O G3 O3=>?_⟩;rw[es]at O;obtain⟨a0,h4⟩:=G3.ob;have as:s3.ls=s'.ls+1:=(Pg.kl R.gd R.l0 h8 O).ls;refine⟨_,rfl,I.pg,C,a0,_,_,rfl,h4,T.cl,T.nL,zA _ _,?_⟩;rw[as];exact q H3 s3 O G3 ((Y.trans O2).trans O3)
theorem Fm:az ["self","sheet","place"] ["self","sheet"] (aq uo):=L2.bD
theorem zc {f C CS:Addr}{fd:FuncData}(F:cL K "fetch" "Paging.fetch" uo f fd) (T:mZ K mg C) (Bk:Md P w K mg base aU 1 C "place" (ie C CS)) (ap:Md P w K mg base aU 6 C "bring_in" (ir C CS)) (as:Df P w K mg base aU 4 "lift" (oY CS)):bf P w K mg base aU 7 f fd ["self","sheet"] (lg C CS):=by
 refine F.ok Fm (λvs H Q E h=>?_) (λa0 A outer s H vs Q E Y h=>?_)
 .obtain⟨M,I,s',k,cs,c,rfl,_⟩:=h;rfl
 .obtain⟨M,I,s',k,cs,c,rfl,R,U,q⟩:=h;have G:=R.at_;have ok:=R.ok;have hc:=(R.gd.vw U).1;obtain⟨b,n,L,e2,e3⟩:=id U;obtain⟨dx,h1⟩:=G.ob;have hs:sizeLine=16777216:=sizeLine_eq;refine⟨_,(ag (aK (i:=2) Fm.nd rfl (Or.inl rfl) (pm (pv 0) T.cl Bk Y aw (aa (pv 1) ai)))
   (ag (aS (aC bW (aZ bh (pv 2) ak (λ_ _=>rfl)) aI (aH _)) (ag (aL (gI plainAttrs_list slot_list_remove PySem.F.type_list_remove oH (aJ (pv 0) rfl) (aa (pv 1) ai)))
   (ag (aL (gI plainAttrs_list PySem.F.slot_list_append PySem.F.type_list_append iC (aJ (pv 0) rfl) (aa (pv 1) ai)))
   (aj qq))) aF)
   (aj (aL (pm (pv 0) T.cl ap Y aw (aa (pv 1) (aa (pc as Y aw (aa (aJ (pv 0) rfl) (aa (aZ bh (pv 2) ak (λ_ _=>rfl)) ai))) ai))))))),?_⟩
  refine⟨_,rfl,I.pg,dx,_,rfl,h1,cD _ _ ao ao ao ao ao,_,rfl,M,I,s',k,b,n,rfl,G,L,λt ht=>?_⟩;refine⟨_,rfl,t,_,0,_,rfl,rfl,bR.of ht,rfl,rfl,_,rfl,?_⟩;cases b with
  |true =>
   refine dG ?_;have hi:k∈s'.inf:=(R.gd.fi k).mpr ⟨n,L⟩;refine⟨_,rfl,I.pg,C,dx,_,_,rfl,h1,T.cl,T.nI,sI _ _,.inl ⟨rfl,_,bq.of G.il⟩,_,rfl,I.il,s'.inf,k,rfl,rfl,G.il,hi,?_⟩;have J:=G.mI ok (s'.inf.erase k);have O:Off I.own H (upd H I.il (.lst ((s'.inf.erase k).map V.int))):=Off.wr (PA.fV 6 rfl);generalize upd H I.il (.lst ((s'.inf.erase k).map V.int))=H1 at *;obtain⟨ac,h2⟩:=J.ob;have hl:=vN R.gd (G.le true);have aT:(s'.inf.erase k).length<=s'.inf.length:=List.length_erase_le;refine⟨_,rfl,I.pg,C,ac,_,_,rfl,h2,T.cl,T.nI,sI _ _,.inl ⟨rfl,_,bq.of J.il⟩,_,rfl,I.il,_,.int k,rfl,rfl,J.il,by rw[length_map];show(s'.inf.erase k).length<_;omega,?_⟩;have N:=J.mI ok (s'.inf.erase k++[k]);rw[map_append]at N;exact q _ _ (.here L) N (O.trans (Off.wr (PA.fV 6 rfl)))
  |false =>
   refine bw ?_;obtain⟨S,rfl⟩:∃S:Nat,c=S:=⟨c.toNat,af⟩;have a1:=R.cb false _ (mem_of_getElem? e3);refine⟨_,rfl,I.pg,dx,_,rfl,h1,cD _ _ ao ao ao ao ao,_,rfl,_,rfl,I.pg,C,dx,_,_,rfl,h1,T.cl,T.nS,sh _ _,_,rfl,t,_,1,_,rfl,rfl,bR.of ht,rfl,?_⟩;refine⟨I.sp,I.so,I.sc,M,_,_,n,cs,S,rfl,G.sl,ok.m 5 rfl,ok.m 6 rfl,R.mt,ok.n 5 6 rfl rfl av,G.le false,e3,af,af,e2,?_⟩;intro H1 t1 l1 aB ad nl am S1 O;have J:=G.Am ok false S1 O (by rw[length_set];exact G.le false);have ab:Off I.own H H1:=O.mono (PA.kz false);have es:=Pg.uS R.gd L;refine⟨M,I,Pg.cq s' false n 0,k,t1,l1,cs,S,rfl,J,ok,J.alive ab R.mt,by rw[es];exact Pg.jh R.gd L,.inr (Pg.rG R.gd L),R.ne,Pg.Dw R.cb av,ad,am,nl,af,af,λH2 s2 hb N O2=>?_⟩;rw[es]at hb;exact q _ _ (.away L U hb) N (ab.trans O2)
theorem Im:az ["self","sheet"] ["self","sheet"] (aq tN):=L2.bD
theorem Ag {f C CS:Addr}{fd:FuncData}(F:cL K "share" "Paging.share" tN f fd) (T:mZ K mg C) (TS:Txt K mg CS) (ab:Md P w K mg base aU 2 C "store_of" (eS C CS)) (ad:Md P w K mg base aU 2 C "number_of" (de C CS)) (GM:Md P w K mg base aU 3 CS "more" (o8 CS)):bf P w K mg base aU 4 f fd ["self","sheet"] (pL C CS):=by
 refine F.ok Im (λvs H Q E h=>?_) (λam A outer s H vs Q E L h=>?_)
 .obtain⟨M,I,s',k,b,n,cs,c,rfl,_⟩:=h;rfl
 .obtain⟨M,I,s',k,b,n,cs,c,rfl,R,J,O,q⟩:=h;have G:=R.at_;have ok:=R.ok;have hc:=(R.gd.vw O).1;have U:=Pg.rE J O;obtain⟨dx,h1⟩:=G.ob;have S:=G.st b;obtain⟨ac,h2⟩:=S.ob;refine⟨_,(aj (aL (pm (pm (pv 0) T.cl ab L aw (aa (pv 1) ai)) TS.cl GM L aw (aa (pm (pv 0) T.cl ad L aw (aa (pv 1) ai)) ai)))),?_⟩;refine⟨_,rfl,I.pg,dx,_,rfl,h1,cD _ _ ao ao ao ao ao,_,rfl,M,I,s',k,b,n,rfl,G,J,?_⟩;refine⟨_,ac,_,rfl,h2,aW _ _ ao ao,?_⟩;refine⟨_,rfl,I.pg,dx,_,rfl,h1,cD _ _ ao ao ao ao ao,_,rfl,M,I,s',k,b,n,rfl,G,J,?_⟩;refine⟨_,_,_,M,_,_,n,rfl,S,ok.mo b,ok.mc b,ok.oc b,G.le b,by rw[cX U];omega,λH1 Y N=>?_⟩;rw[cX U,show(n:Int).toNat=n from toNat_natCast n]at Y;exact q H1 (G.Am ok b Y N (by rw[length_set];exact G.le b)) (N.mono (PA.kz b))
theorem CK:az ["self","sheet","store","n"] ["self","sheet"] (aq uK):=L2.bD
theorem yN {f C CS:Addr}{fd:FuncData}(F:cL K "leave" "Paging.leave" uK f fd) (T:mZ K mg C) (TS:Txt K mg CS) (am:Md P w K mg base aU 2 C "store_of" (eS C CS)) (aT:Md P w K mg base aU 2 C "number_of" (de C CS)) (GL:Md P w K mg base aU 3 CS "less" (qM CS)) (GC:Md P w K mg base aU 1 CS "count" (gC CS)):bf P w K mg base aU 4 f fd ["self","sheet"] (k6 C CS):=by
 refine F.ok CK (λvs H Q E h=>?_) (λa0 A outer s H vs Q E N h=>?_)
 .obtain⟨M,I,s',k,cs,c,rfl,_⟩:=h;rfl
 .obtain⟨M,I,s',k,cs,c,rfl,G,ok,mt,gd,O,q⟩:=h;have hc:=(gd.vw O).1;obtain⟨b,n,J,e2,e3⟩:=id O;obtain⟨nl,_⟩:=List.getElem?_eq_some_iff.mp e3;obtain⟨dx,h1⟩:=G.ob;have S:=G.st b;obtain⟨aB,h2⟩:=S.ob;refine⟨_,(ag (aK (i:=2) CK.nd rfl (Or.inl rfl) (pm (pv 0) T.cl am N aw (aa (pv 1) ai)))
   (ag (aK (i:=3) CK.nd rfl (Or.inl rfl) (pm (pv 0) T.cl aT N aw (aa (pv 1) ai)))
   (ag (aL (pm (pv 2) TS.cl GL N aw (aa (pv 3) ai)))
   (ag (aS (aC iJ (pm (pv 2) TS.cl GC N aw (aa (pv 3) ai)) ak (aH _)) (aj qq) aF)
   (ag (aS (aC bW (aZ bh (bA (bj N) (aJ (pv 0) rfl) (pv 1) (λ_ _=>rfl)) ak (λ_ _=>rfl)) aI (aH _)) (aj (aL (gI plainAttrs_list slot_list_remove PySem.F.type_list_remove oH (aJ (pv 0) rfl) (aa (pv 1) ai)))) aF)
   (aj (aL (eE (aJ (pv 0) rfl) (pv 1) ⟨rfl,rfl,rfl,rfl⟩)))))))),?_⟩
  refine⟨_,rfl,I.pg,dx,_,rfl,h1,cD _ _ ao ao ao ao ao,_,rfl,M,I,s',k,b,n,rfl,G,J,?_⟩;refine⟨_,rfl,I.pg,dx,_,rfl,h1,cD _ _ ao ao ao ao ao,_,rfl,M,I,s',k,b,n,rfl,G,J,?_⟩;refine⟨_,rfl,_,aB,_,rfl,h2,aW _ _ ao ao,_,rfl,_,_,_,M,_,_,n,rfl,S,ok.mo b,ok.mc b,ok.oc b,G.le b,by rw[cX e3];omega,λH1 U O1=>?_⟩;rw[cX e3,show(n:Int).toNat=n from toNat_natCast n]at U;have L:=G.Am ok b U O1 (by rw[length_set];exact G.le b);have ab:Off I.own H H1:=O1.mono (PA.kz b);obtain⟨ap,h3⟩:=U.ob;refine⟨_,rfl,_,ap,_,rfl,h3,aW _ _ ao ao,_,rfl,_,_,_,M,_,_,n,rfl,U,by rw[length_set];exact G.le b,?_⟩;rw[fJ nl];refine⟨_,_,rfl,rfl,_,rfl,?_⟩;by_cases z:(0:Int)<c-1
  .rw[decide_eq_true z];exact q _ _ (.more J O af) L ab
  .rw[decide_eq_false z];have ec:c=1:=af;subst ec;refine bw (vY ?_);obtain⟨ad,h4⟩:=L.ob;obtain⟨l,hd,nd,ht,Y,hn⟩:=L.pd;obtain⟨x,R,ex⟩:∃x,Tb.look l k=some x/\x.2=(b,n):=by
    have h9:(Tb.look l k).map (·.2)=some (b,n):=(Y k).trans J;exact Option.map_eq_some_iff.mp h9
   have hg:dB H1 I.pd (.int k) (some (qP x)):=by
    have q9:=dB.k (k:=Sum.inl k) hd;rw[Tb.cK,R]at q9;exact q9
   have hm:=ht _ (Tb.aA R);rw[show x.2.1=b by rw[ex],show x.2.2=n by rw[ex]]at hm;dsimp only;refine share (λσ H9=>σ=[some (.ref I.pg),some (.int k),some (.ref (I.st b)),some (.int n)]/\bK C CS H9 M I { Pg.cq s' b n 0 with inf:=s'.inf.erase k }/\Off I.own H H9) (λu' ac=>?A) ?B
   case A =>
    refine⟨_,rfl,I.pg,C,ad,_,_,rfl,h4,T.cl,T.nP,nK _ _,_,rfl,I.pd,qP x,rfl,hg,x.1,_,0,_,rfl,rfl,bR.of hm,rfl,rfl,_,rfl,?_⟩;cases b with
    |true =>
     refine dG ?_;have hi:k∈s'.inf:=(gd.fi k).mpr ⟨n,J⟩;refine⟨_,rfl,I.pg,C,ad,_,_,rfl,h4,T.cl,T.nI,sI _ _,.inl ⟨rfl,_,bq.of L.il⟩,_,rfl,I.il,s'.inf,k,rfl,rfl,L.il,hi,?_⟩;exact ac _ _ ⟨rfl,L.mI ok (s'.inf.erase k),ab.trans (Off.wr (PA.fV 6 rfl))⟩
    |false =>
     refine bw ?_;refine ac _ _ ⟨rfl,?_,ab⟩;rw[List.erase_of_not_mem (Pg.vT gd J)];exact L
   case B =>
    rintro σ H9 ⟨rfl,G9,O9⟩;obtain⟨as,h5⟩:=G9.ob;obtain⟨l,hd,nd,ht,Y,hn⟩:=G9.pd;obtain⟨x,R,ex⟩:∃x,Tb.look l k=some x/\x.2=(b,n):=by
     have h9:(Tb.look l k).map (·.2)=some (b,n):=(Y k).trans J;exact Option.map_eq_some_iff.mp h9
    refine⟨_,rfl,I.pg,C,as,_,_,rfl,h5,T.cl,T.nP,nK _ _,I.pd,rfl,.inl ⟨_,.inl hd⟩,_,rfl,_,Sum.inl k,qP x,hd,rfl,by rw[Tb.cK,R];rfl,?_⟩;rw[Tb.eu];exact q _ _ (.last J O) (G9.Ea ok k hd nd ht Y hn) (O9.trans (Off.wr (PA.fV 5 rfl)))
theorem EL:az ["self","sheet","cells","made"] ["self","sheet","cells"] (aq pM):=L2.bD
theorem wW {f C CS:Addr}{fd:FuncData}(F:cL K "change" "Paging.change" pM f fd) (T:mZ K mg C) (TS:Txt K mg CS) (as:Md P w K mg base aU 3 C "count" (lU C CS)) (ap:Md P w K mg base aU 7 C "new_sheet" (gA K C CS)) (a3:Md P w K mg base aU 4 C "leave" (k6 C CS)) (a0:Md P w K mg base aU 7 C "fetch" (lg C CS)) (aB:Md P w K mg base aU 2 C "number_of" (de C CS)) (GP:Md P w K mg base aU 3 CS "put" (vZ K CS)):bf P w K mg base aU 8 f fd ["self","sheet","cells"] (lT C CS):=by
 refine F.ok EL (λvs H Q E h=>?_) (λa4 A outer s H vs Q E S h=>?_)
 .obtain⟨M,I,s',k,ca,Y,L,cs,rfl,_⟩:=h;rfl
 .obtain⟨M,I,s',k,ca,Y,L,cs,rfl,R,O,ac,am,h8,hf,q1,q2⟩:=h;have G:=R.at_;have ok:=R.ok;have hc:=(R.gd.vw O).1;obtain⟨dx,h1⟩:=G.ob;refine⟨_,(ag (aS (aC iJ (pm (pv 0) T.cl as S aw (aa (pv 1) ai)) ak (aH _)) (ag (aK (i:=3) EL.nd rfl (Or.inl rfl) (pm (pv 0) T.cl ap S aw (aa (pv 2) ai)))
   (ag (aL (pm (pv 0) T.cl a3 S aw (aa (pv 1) ai)))
   (aj (aE (pv 3))))) aF)
   (ag (aL (pm (pv 0) T.cl a0 S aw (aa (pv 1) ai)))
   (ag (aL (pm (aJ (pv 0) rfl) TS.cl GP S aw (aa (pm (pv 0) T.cl aB S aw (aa (pv 1) ai)) (aa (pv 2) ai))))
   (aj (aE (pv 1)))))),?_⟩
  refine⟨_,rfl,I.pg,dx,_,rfl,h1,cD _ _ ao ao ao ao ao,_,rfl,M,I,s',k,Y,L,rfl,G,O,?_⟩;refine⟨_,_,rfl,rfl,_,rfl,?_⟩;by_cases z:(1:Int)<L
  .rw[decide_eq_true z];refine⟨_,rfl,I.pg,dx,_,rfl,h1,cD _ _ ao ao ao ao ao,_,rfl,M,I,s',ca,cs,rfl,R,hf z,bq.of ac,λe=>am (by rw[e];exact PA.fV 0 rfl),h8,λH1 U hb J N=>?_⟩;obtain⟨ab,h2⟩:=J.ob;have B:=Pg.kl R.gd R.l0 h8 hb;have kn:k≠s'.ls+1:=by
    intro e;obtain⟨x1,x2,y1,_⟩:=O;rw[e,Pg.eQ R.gd]at y1;cases y1
   refine⟨_,rfl,I.pg,ab,_,rfl,h2,cD _ _ ao ao ao ao ao,_,rfl,M,I,U,k,Y,L,rfl,J,ok,J.alive N R.mt,B.good,(B.kept.ot _ _ _ kn).mpr O,λH2 s2 hl G2 O2=>?_⟩;exact⟨_,rfl,q1 z H2 U s2 hb hl G2 (N.trans O2)⟩
  .rw[decide_eq_false z];have ec:L=1:=af;refine⟨_,rfl,I.pg,dx,_,rfl,h1,cD _ _ ao ao ao ao ao,_,rfl,M,I,s',k,Y,L,rfl,R,O,λH1 U ad J N=>?_⟩;have FF:=Pg.oM R.gd ad;obtain⟨m,hm⟩:=FF.fr;have aT:=(FF.vw k Y L).mpr O;have e3:=Pg.rE hm aT;obtain⟨ab,h2⟩:=J.ob;obtain⟨a1,h3⟩:=J.fr.ob;have a2:=N _ _ ac am;refine⟨_,rfl,I.pg,C,ab,_,_,rfl,h2,T.cl,T.nF,lH _ _,I.fp,a1,_,rfl,h3,aW _ _ ao ao,?_⟩;refine⟨_,rfl,I.pg,ab,_,rfl,h2,cD _ _ ao ao ao ao ao,_,rfl,M,I,U,k,true,m,rfl,J,hm,?_⟩;refine⟨_,rfl,I.fp,I.fo,I.fc,ca,M,_,_,m,cs,rfl,J.fr,ok.m 2 rfl,ok.m 3 rfl,J.alive N R.mt,ok.n 2 3 rfl rfl av,(FF.good.ln true).symm,J.le true,by rw[cX e3];omega,bq.of a2,λH2 S2 O2=>?_⟩;rw[show(m:Int).toNat=m from toNat_natCast m]at S2;exact⟨_,rfl,q2 ec H2 U m ad hm (J.FN ok true S2 O2) (N.trans (O2.mono (PA.kz true)))⟩
end
end St
namespace Tb
open PySem L2
section
variable {α:Type}
theorem AX {l:List (Int×α)}{k:Int}(h:¬ k∈l.map (·.1)):bg l k=l:=by
 unfold bg;rw[filter_eq_self];intro y F;have:y.1≠k:=λe=>h (List.mem_map.mpr ⟨y,F,e⟩);simpa using this
theorem j4 {k:Int}{a:α}:∀{l:List (Int×α)},(l.map (·.1)).Nodup->look l k=some a->l.Perm ((k,a)::bg l k)
 | [],_,h=>by cases h
 |x::r,G,h=>by
  obtain⟨J,I⟩:=List.nodup_cons.mp (show(x.1::r.map (·.1)).Nodup from G);rw[aM]at h;by_cases c:x.1=k
  .rw[if_pos c]at h;have e:x=(k,a):=Prod.ext c (Option.some.inj h);have F:bg (x::r) k=r:=by
    show filter _ (x::r)=r;rw[filter_cons,if_neg (by simp[c])];exact AX (c▸J)
   rw[F,e]
  .rw[if_neg c]at h;have F:bg (x::r) k=x::bg r k:=by
    show filter _ (x::r)=_;rw[filter_cons,if_pos (by simpa using c)];rfl
   rw[F];exact((j4 I h).cons x).trans (List.Perm.swap _ _ _)
theorem vy (l:List (Int×α)) (k:Int) (a:α):bg (aY l k a) k=bg l k:=by
 induction l with
 |nil=>rfl
 |cons x r F =>
  show filter _ ((if x.1=k then(k,a)else x)::aY r k a)=filter _ (x::r);by_cases c:x.1=k
  .rw[if_pos c,filter_cons,if_neg (by simp),filter_cons,if_neg (by simp[c])];exact F
  .rw[if_neg c,filter_cons,if_pos (by simpa using c),filter_cons,if_pos (by simpa using c)];congr 1
theorem lM {l:List (Int×α)}{k:Int}(F:(l.map (·.1)).Nodup):((bg l k).map (·.1)).Nodup:=F.sublist (List.Sublist.map _ List.filter_sublist)
theorem CZ {l:List (Int×α)}{k:Int}{a:α}(G:(l.map (·.1)).Nodup):(((k,a)::bg l k).map (·.1)).Nodup:=by
 refine List.nodup_cons.mpr ⟨λh=>?_,lM G⟩;obtain⟨y,F,e⟩:=List.mem_map.mp h;have:=(List.mem_filter.mp F).2;simp at this;exact this e
theorem mM {l:List (Int×α)}{k:Int}{x:Int×α}(h:x∈l) (F:x.1≠k):x∈bg l k:=List.mem_filter.mpr ⟨h,by simpa using F⟩
theorem pz {f:α->V}{l:List (Int×α)}{k:Int}{a b:α}(F:(l.map (·.1)).Nodup) (h:look l k=some b) (e:f a=f b):dk f (aY l k a)=dk f l:=by
 unfold dk aY;rw[map_map];refine map_congr_left λx G=>?_;show((Sum.inl (if x.1=k then(k,a)else x).1:Key),f (if x.1=k then(k,a)else x).2)=(Sum.inl x.1,f x.2);by_cases c:x.1=k
 .have:look l k=some x.2:=bN F (by rw[<-c];exact G);rw[h]at this;rw[if_pos c,c,e,Option.some.inj this]
 .rw[if_neg c]
theorem jN (l:List (Int×α)) (k j:Int) (a:α):look ((k,a)::bg l k) j=if j=k then some a else look l j:=by
 rw[aM,cz];by_cases c:j=k
 .rw[if_pos c.symm,if_pos c]
 .rw[if_neg (Ne.symm c),if_neg c,if_neg c]
end
theorem TabAt.off {B:Addr->Prop}{C:Addr}{H H':Hp}{p fs:Addr}{tb:ja}(T:TabAt C H p fs tb) (o:Off B H H') (J:¬ B p) (G:∀b,eg fs tb b->¬ B b) (S:∀b xs,H b=some (.tup xs)->¬ B b):TabAt C H' p fs tb:=by
 obtain⟨⟨dx,h1⟩,h2,R,I,O,N,L⟩:=T;exact⟨⟨dx,o _ _ h1 J⟩,o _ _ h2 (G _ (.inl rfl)),λx F=>o _ _ (R x F) (G _ (.inr ⟨x,F,rfl⟩)),λx F=>(I x F).keep λb xs e=>o _ _ e (S b xs e),O,N,L⟩
theorem TabAt.dK {C:Addr}{H:Hp}{p fs:Addr}{tb:ja}(T:TabAt C H p fs tb) {b:Addr}(h:eg fs tb b):∃kvs,H b=some (.dK kvs):=by
 rcases h with h|⟨x,F,h⟩
 .exact⟨_,by rw[h];exact T.hf⟩
 .exact⟨_,by rw[h];exact T.hd x F⟩
end Tb
namespace St
open PySem L2
structure TD where
 p:Addr
 fs:Addr
 tb:Tb.ja
 t:List (Int×Pg.Ent)
abbrev dY:=List (Int×TD)
def fR (x:TD):V:=.ref x.p
def xk:Pg.Ent->List V
 |none=>[.str "blank"]
 |some k=>[.str "sheet",.int k]
def TD.eg (x:TD):Addr->Prop:=Tb.eg x.fs x.tb
structure cZ (CT:Addr) (H:Hp) (x:TD):Prop where
 at_:Tb.TabAt CT H x.p x.fs x.tb
 nd:(x.t.map (·.1)).Nodup
 lk:∀q,Tb.cW x.tb q=(Tb.look x.t q).map xk
def sP (t:List (Int×Pg.Ent)):List Pg.Ent:=t.map (·.2)
def ents (W:dY):List Pg.Ent:=W.flatMap λx=>sP x.2.t
theorem km {W:dY}{t:Int}{x:TD}(F:(W.map (·.1)).Nodup) (h:Tb.look W t=some x):(ents W).Perm (sP x.t++ents (Tb.bg W t)):=(Tb.j4 F h).flatMap_right _
theorem gR {W:dY}{t:Int}{x y:TD}(F:(W.map (·.1)).Nodup) (h:Tb.look W t=some x):(ents (Tb.aY W t y)).Perm (sP y.t++ents (Tb.bg W t)):=by
 have:=km (W:=Tb.aY W t y) (t:=t) (x:=y) (by rw[Tb.eU];exact F) (by rw[Tb.bU t h,if_pos rfl])
 rwa [Tb.vy]at this
theorem su {t:List (Int×Pg.Ent)}{q:Int}{e:Pg.Ent}(F:(t.map (·.1)).Nodup) (h:Tb.look t q=some e):(sP t).Perm (e::sP (Tb.bg t q)):=(Tb.j4 F h).map _
def eI (pg:Addr) (t:Int) (rd:Addr):List (Str×V):=bo "rooms" (.ref rd) (bo "total" (.int t) (bo "paging" (.ref pg) []))
section
variable (pg:Addr) (t:Int) (rd:Addr)
theorem fG:(eI pg t rd).lookup ("rooms" : Str)=some (.ref rd):=by
 unfold eI;rw[aD,if_pos rfl]
theorem EA:(eI pg t rd).lookup ("total" : Str)=some (.int t):=by
 unfold eI;rw[aD,if_neg ao,aD,if_pos rfl]
theorem kE:(eI pg t rd).lookup ("paging" : Str)=some (.ref pg):=by
 unfold eI;rw[aD,if_neg ao,aD,if_neg ao,aD,if_pos rfl]
theorem gi {m:Str}(h1:¬ m = "rooms") (h2:¬ m = "total") (F:¬ m = "paging"):(eI pg t rd).lookup m=none:=by
 unfold eI;rw[aD,if_neg h1,aD,if_neg h2,aD,if_neg F]
 all_goals rfl
end
def bP (s:Pg.PS):Int:=((s.ow true).length+(s.ow false).length:Nat)
theorem y7 {s s':Pg.PS}(h:∀b,(s'.ow b).length=(s.ow b).length):bP s'=bP s:=by
 unfold bP;rw[h,h]
structure CA where
 C:Addr
 P:Addr
 S:Addr
 T:Addr
structure RA where
 A:PA
 rp:Addr
 rd:Addr
structure ax (c:CA) (H:Hp) (M:Addr->Prop) (a:RA) (s:Pg.PS) (W:dY):Prop where
 ob:∃dx,H a.rp=some (.ins c.C dx (eI a.A.pg (bP s) a.rd))
 pg:bK c.P c.S H M a.A s
 ok:a.A.Ok M
 mt:∀b,M b->H b≠none
 hd:H a.rd=some (.dK (Tb.dk fR W))
 nd:(W.map (·.1)).Nodup
 tb:∀x∈W,cZ c.T H x.2
 dm:∀x∈W,∀b,x.2.eg b->M b/\¬ a.A.own b/\b≠a.rd
 np:∀x∈W,¬ a.A.own x.2.p
 dj:∀x∈W,∀y∈W,x.1≠y.1->∀b,x.2.eg b->¬ y.2.eg b
 Ej:M a.rd
 Bu:¬ a.A.own a.rd
 zr:¬ a.A.own a.rp
def RA.own (a:RA) (W:dY):Addr->Prop:=λb=>a.A.own b\/b=a.rd\/∃x∈W,x.2.eg b
structure Step (H:Hp) (M O:Addr->Prop) (H':Hp) (M' O':Addr->Prop):Prop where
 off:Off O H H'
 mm:∀b,M b->¬ O b->M' b
 mn:∀b,M' b->M b\/H b=none
 on:∀b,O' b->O b\/H b=none
 mt:∀b,M b->H b≠none
 om:∀b,O b->M b
theorem Step.gone {H H':Hp}{M O M' F:Addr->Prop}(a:Step H M O H' M' F) {b:Addr}(h:H' b=none):O b\/H b=none:=by
 cases e:H b with
 |none=>exact .inr rfl
 |some u =>
  by_cases z:O b
  .exact .inl z
  .rw[a.off b u e z]at h;cases h
theorem Step.trans {H H' I:Hp}{M O M' J G F:Addr->Prop}(a:Step H M O H' M' J) (b:Step H' M' J I G F):Step H M O I G F:=by
 refine⟨λx o e z=>b.off x o (a.off x o e z) λy=>?_,λx h z=>b.mm x (a.mm x h z) λy=>?_,λx h=>?_,λx h=>?_,a.mt,a.om⟩
 .rcases a.on x y with y|y
  .exact z y
  .rw[e]at y;cases y
 .rcases a.on x y with y|y
  .exact z y
  .exact a.mt x h y
 .rcases b.mn x h with h|h
  .exact a.mn x h
  .rcases a.gone h with h|h
   .exact .inl (a.om x h)
   .exact .inr h
 .rcases b.on x h with h|h
  .exact a.on x h
  .exact a.gone h
theorem dJ.grow {M M':Addr->Prop}{H:Hp}(h:∀b,M' b->M b\/H b=none):∀{v:V}{x:Option (List Int)},dJ H M v x->dJ H M' v x
 |.non,none,_=>trivial
 |.ref a,some ns,⟨h1,h2⟩=>⟨λz=>(h a z).elim h1 λe=>(by rw[h2]at e;cases e),h2⟩
theorem aQ.grow {C p ow co:Addr}{M M':Addr->Prop}{os:List Int}{pg:List (Option (List Int))}{H:Hp}(S:aQ C H M p ow co os pg) (h:∀b,M' b->M b\/H b=none):aQ C H M' p ow co os pg:=by
 obtain⟨h1,G,cs,F,I⟩:=S;exact⟨h1,G,cs,F,Paired.zF I λ_ _ z=>z.grow h⟩
section
variable {A:PA}{M M' B:Addr->Prop}{H H':Hp}
theorem bK.pJ {C CS:Addr}{s:Pg.PS}(G:bK C CS H M A s):∀b xs,H b=some (.tup xs)->¬ A.own b:=by
 intro b xs e y;obtain⟨dx,h1⟩:=G.ob;obtain⟨_,L,_⟩:=G.fr.hc;obtain⟨_,J,_⟩:=G.sl.hc;obtain⟨_,F,_⟩:=G.pd;have I:=G.fr.hw;have N:=G.sl.hw;have O:=G.il;unfold PA.own at y;simp only[mem_cons,not_mem_nil,or_false]at y;rcases y with y|y|y|y|y|y|y<;>rw[y]at e
 .rw[h1]at e;cases e
 .rw[I]at e;cases e
 .rw[L]at e;cases e
 .rw[N]at e;cases e
 .rw[J]at e;cases e
 .rw[F]at e;cases e
 .rw[O]at e;cases e
theorem aQ.less {C p ow co:Addr}{M M':Addr->Prop}{os:List Int}{pg:List (Option (List Int))}{H:Hp}(S:aQ C H M p ow co os pg) (h:∀b,M' b->M b):aQ C H M' p ow co os pg:=S.grow λb z=>.inl (h b z)
theorem bK.move {C CS:Addr}{s:Pg.PS}(G:bK C CS H M A s) (o:Off B H H') (J:∀b,B b->M b) (N:∀b,M' b->M b\/H b=none) (F:∀b,A.own b->¬ B b) (R:¬ B A.fp) (n2:¬ B A.sp) (S:∀b xs,H b=some (.tup xs)->¬ B b):bK C CS H' M' A s:=by
 obtain⟨dx,h1⟩:=G.ob;obtain⟨l,hd,Y,I,U,O⟩:=G.pd;exact⟨⟨dx,o _ _ h1 (F _ (PA.fV 0 rfl))⟩,((G.fr.grow (M':=λb=>M b\/M' b) λb z=>z.elim .inl (N b)).off o (λb z=>.inl (J b z)) R (F _ (PA.fV 1 rfl)) (F _ (PA.fV 2 rfl))).less λb z=>.inr z,
  ((G.sl.grow (M':=λb=>M b\/M' b) λb z=>z.elim .inl (N b)).off o (λb z=>.inl (J b z)) n2 (F _ (PA.fV 3 rfl)) (F _ (PA.fV 4 rfl))).less λb z=>.inr z,o _ _ G.il (F _ (PA.fV 6 rfl)),G.le,
  ⟨l,o _ _ hd (F _ (PA.fV 5 rfl)),Y,λx L=>o _ _ (I x L) (S _ _ (I x L)),U,O⟩⟩
end
section
variable {c:CA}{H H':Hp}{M M' B:Addr->Prop}{a:RA}{s s':Pg.PS}{W:dY}{t:Int}{x y:TD}
theorem ax.Gy {es:List Pg.Ent}(R:ax c H M a s W) (F:Pg.RI s es):ET c.P c.S H M a.A s:=⟨R.pg,R.ok,R.mt,F.good,F.ne,F.cb R.pg.le,F.l0⟩
theorem cZ.off (T:cZ c.T H x) (o:Off B H H') (F:¬ B x.p) (I:∀b,x.eg b->¬ B b) (G:∀b xs,H b=some (.tup xs)->¬ B b):cZ c.T H' x:=⟨T.at_.off o F I G,T.nd,T.lk⟩
theorem ax.ky (R:ax c H M a s W) (G:bK c.P c.S H' M a.A s') (o:Off a.A.own H H') (I:∀b,(s'.ow b).length=(s.ow b).length):ax c H' M a s' W:=by
 obtain⟨dx,h1⟩:=R.ob;exact⟨⟨dx,by rw[y7 I];exact o _ _ h1 R.zr⟩,G,R.ok,G.alive o R.mt,o _ _ R.hd R.Bu,R.nd,λx F=>(R.tb x F).off o (R.np x F) (λb z=>(R.dm x F b z).2.1) R.pg.pJ,R.dm,R.np,R.dj,R.Ej,R.Bu,R.zr⟩
theorem ax.dR (R:ax c H M a s W):∀b,a.own W b->M b:=λb h=>by
 rcases h with h|h|⟨x,F,h⟩
 .exact R.ok.own b h
 .rw[h];exact R.Ej
 .exact(R.dm x F b h).1
theorem ax.refl (R:ax c H M a s W):Step H M (a.own W) H M (a.own W):=⟨λ_ _ e _=>e,λ_ h _=>h,λ_ h=>.inl h,λ_ h=>.inl h,R.mt,R.dR⟩
theorem ax.iH (R:ax c H M a s W) (e:a8 H H'):Step H M (a.own W) H' M (a.own W):=⟨λb o h _=>e b o h,λ_ h _=>h,λ_ h=>.inl h,λ_ h=>.inl h,R.mt,R.dR⟩
theorem ax.tW (R:ax c H M a s W) (G:bK c.P c.S H' M a.A s') (o:Off a.A.own H H'):Step H M (a.own W) H' M (a.own W):=
 ⟨o.mono λ_ z=>.inl z,λ_ h _=>h,λ_ h=>.inl h,λ_ h=>.inl h,R.mt,R.dR⟩
theorem ax.same (R:ax c H M a s W) (e:a8 H H'):ax c H' M a s W:=by
 obtain⟨dx,h1⟩:=R.ob;refine⟨⟨dx,e _ _ h1⟩,R.pg.keep (λb o h _=>e b o h),R.ok,λb G z=>?_,e _ _ R.hd,R.nd,λx F=>⟨(R.tb x F).at_.same e,(R.tb x F).nd,(R.tb x F).lk⟩,R.dm,R.np,R.dj,R.Ej,R.Bu,R.zr⟩;cases h:H b with
 |none=>exact R.mt b G h
 |some o=>rw[e b o h]at z;cases z
theorem ax.BM (R:ax c H M a s W) (o:Off B H H') (F:∀b,B b->M b/\¬ a.own W b) (O:∀b,B b->(∃xs,H b=some (.lst xs))\/∃kvs,H b=some (.dK kvs)) (Y:∀b,M' b->M b\/H b=none) (J:∀b,M b->¬ B b->M' b) (mt:∀b,M' b->H' b≠none):ax c H' M' a s W:=by
 obtain⟨dx,h1⟩:=R.ob;have I:∀{b C dx fs},H b=some (.ins C dx fs)->¬ B b:=λe z=>by
  rcases O _ z with⟨_,h⟩|⟨_,h⟩
  .rw[e]at h;cases h
  .rw[e]at h;cases h
 have N:∀b xs,H b=some (.tup xs)->¬ B b:=λb xs e z=>by
  rcases O _ z with⟨_,h⟩|⟨_,h⟩
  .rw[e]at h;cases h
  .rw[e]at h;cases h
 obtain⟨ac,S⟩:=R.pg.fr.ob;obtain⟨ab,L⟩:=R.pg.sl.ob;refine⟨⟨dx,o _ _ h1 (I h1)⟩,R.pg.move o (λb z=>(F b z).1) Y (λb z y=>(F b y).2 (.inl z)) (I S) (I L) N,⟨R.ok.ds,λb z=>J b (R.ok.mm b z) λq=>?_⟩,mt,o _ _ R.hd (λz=>(F _ z).2 (.inr (.inl rfl))),R.nd,λx G=>?_,λx G b z=>⟨J b (R.dm x G b z).1 λq=>(F b q).2 (.inr (.inr ⟨x,G,z⟩)),(R.dm x G b z).2⟩,R.np,R.dj,J _ R.Ej (λz=>(F _ z).2 (.inr (.inl rfl))),R.Bu,R.zr⟩
 .simp only[mem_cons,not_mem_nil,or_false]at z;rcases z with z|z|z|z|z|z|z|z|z<;>rw[z]at q
  .exact(F _ q).2 (.inl (PA.fV 0 rfl))
  .exact I S q
  .exact(F _ q).2 (.inl (PA.fV 1 rfl))
  .exact(F _ q).2 (.inl (PA.fV 2 rfl))
  .exact I L q
  .exact(F _ q).2 (.inl (PA.fV 3 rfl))
  .exact(F _ q).2 (.inl (PA.fV 4 rfl))
  .exact(F _ q).2 (.inl (PA.fV 5 rfl))
  .exact(F _ q).2 (.inl (PA.fV 6 rfl))
 .obtain⟨ad,U⟩:=(R.tb x G).at_.ob;exact(R.tb x G).off o (I U) (λb z y=>(F b y).2 (.inr (.inr ⟨x,G,z⟩))) N
theorem ax.uB (R:ax c H M a s W) (hx:Tb.look W t=some x) (ep:y.p=x.p) (T:cZ c.T H' y) (o:Off x.eg H H') (hn:∀b,y.eg b->x.eg b\/H b=none):ax c H' (λb=>(M b/\¬ x.eg b)\/y.eg b) a s (Tb.aY W t y):=by
 have J:=Tb.aA hx;have X:=R.tb _ J;have dK:∀{b},x.eg b->∃kvs,H b=some (.dK kvs):=λz=>X.at_.dK z;have I:=R.dm _ J;have L:∀{b C dx fs},H b=some (.ins C dx fs)->¬ x.eg b:=λe z=>by
  obtain⟨_,h⟩:=dK z;rw[e]at h;cases h
 have nt:∀b xs,H b=some (.tup xs)->¬ x.eg b:=λb xs e z=>by
  obtain⟨_,h⟩:=dK z;rw[e]at h;cases h
 obtain⟨dx,h1⟩:=R.ob;obtain⟨as,f1⟩:=R.pg.fr.ob;obtain⟨ap,f2⟩:=R.pg.sl.ob;have hM:∀b,(M b/\¬ x.eg b)\/y.eg b->M b\/H b=none:=λb z=>z.elim (λz=>.inl z.1) λz=>(hn b z).elim (λz=>.inl (I b z).1) .inr;refine⟨⟨dx,o _ _ h1 (L h1)⟩,R.pg.move o (λb z=>(I b z).1) hM (λb z y=>(I b y).2.1 z) (L f1) (L f2) nt,⟨R.ok.ds,λb z=>.inl ⟨R.ok.mm b z,λq=>?_⟩⟩,λb z e=>?_,?_,by rw[Tb.eU];exact R.nd,λG F=>?_,λG F b z=>?_,λG F=>?_,λx1 U x2 Y ac b N S=>?_,.inl ⟨R.Ej,λq=>(I _ q).2.2 rfl⟩,R.Bu,R.zr⟩
 .simp only[mem_cons,not_mem_nil,or_false]at z;rcases z with z|z|z|z|z|z|z|z|z<;>rw[z]at q
  .exact(I _ q).2.1 (PA.fV 0 rfl)
  .exact L f1 q
  .exact(I _ q).2.1 (PA.fV 1 rfl)
  .exact(I _ q).2.1 (PA.fV 2 rfl)
  .exact L f2 q
  .exact(I _ q).2.1 (PA.fV 3 rfl)
  .exact(I _ q).2.1 (PA.fV 4 rfl)
  .exact(I _ q).2.1 (PA.fV 5 rfl)
  .exact(I _ q).2.1 (PA.fV 6 rfl)
 .rcases z with z|z
  .cases e2:H b with
   |none=>exact R.mt b z.1 e2
   |some u=>rw[o b u e2 z.2]at e;cases e
  .obtain⟨_,h⟩:=T.at_.dK z;rw[e]at h;cases h
 .rw[Tb.pz R.nd hx (show V.ref y.p=V.ref x.p by rw[ep])];exact o _ _ R.hd λz=>(I _ z).2.2 rfl
 .rcases Tb.mem_set F with rfl|⟨F,O⟩
  .exact T
  .obtain⟨aB,h3⟩:=(R.tb G F).at_.ob;exact(R.tb G F).off o (L h3) (λb z z'=>R.dj G F _ J O b z z') nt
 .rcases Tb.mem_set F with rfl|⟨F,O⟩
  .refine⟨.inr z,?_⟩;rcases hn b z with z|z
   .exact(I b z).2
   .exact⟨λq=>R.mt b (R.ok.own b q) z,λq=>by rw[q,R.hd]at z;cases z⟩
  .exact⟨.inl ⟨(R.dm G F b z).1,λq=>R.dj G F _ J O b z q⟩,(R.dm G F b z).2⟩
 .rcases Tb.mem_set F with rfl|⟨F,O⟩
  .show ¬ a.A.own y.p;rw[ep];exact R.np _ J
  .exact R.np G F
 .have ab:∀G∈W,G.1≠t->∀b,G.2.eg b->¬ y.eg b:=λG F O b N S=>by
   rcases hn b S with z|z
   .exact R.dj G F _ J O b N z
   .obtain⟨_,h⟩:=(R.tb G F).at_.dK N;rw[z]at h;cases h
  rcases Tb.mem_set U with rfl|⟨U,am⟩<;>rcases Tb.mem_set Y with rfl|⟨Y,ad⟩
  .exact ac rfl
  .exact ab x2 Y ad b S N
  .exact ab x1 U am b N S
  .exact R.dj x1 U x2 Y ac b N S
theorem ax.pB (R:ax c H M a s W) (J:Tb.look W t=some x) (o:Off x.eg H H') (I:∀b,y.eg b->x.eg b\/H b=none):Step H M (a.own W) H' (λb=>(M b/\¬ x.eg b)\/y.eg b) (a.own (Tb.aY W t y)):=by
 have F:=Tb.aA J;refine⟨o.mono λb z=>.inr (.inr ⟨_,F,z⟩),λb z q=>.inl ⟨z,λw=>q (.inr (.inr ⟨_,F,w⟩))⟩,λb z=>z.elim (λz=>.inl z.1) λz=>(I b z).elim (λz=>.inl (R.dm _ F b z).1) .inr,λb z=>?_,R.mt,R.dR⟩;rcases z with z|z|⟨L,G,z⟩
 .exact .inl (.inl z)
 .exact .inl (.inr (.inl z))
 .rcases Tb.mem_set G with rfl|⟨G,N⟩
  .exact(I b z).elim (λz=>.inl (.inr (.inr ⟨_,F,z⟩))) .inr
  .exact .inl (.inr (.inr ⟨L,G,z⟩))
theorem ax.Fh (R:ax c H M a s W) {W':dY}(U:(W'.map (·.1)).Nodup) (tb:∀x∈W',cZ c.T H x.2) (J:∀x∈W',∀b,x.2.eg b->M b/\¬ a.A.own b/\b≠a.rd) (np:∀x∈W',¬ a.A.own x.2.p) (S:∀x∈W',∀y∈W',x.1≠y.1->∀b,x.2.eg b->¬ y.2.eg b) :
  ax c (upd H a.rd (.dK (Tb.dk fR W'))) M a s W':=by
 have o:Off (· = a.rd) H (upd H a.rd (.dK (Tb.dk fR W'))):=λb o e z=>(by rw[ah z];exact e);have F:∀{b C dx fs},H b=some (.ins C dx fs)->¬ b=a.rd:=λe z=>(by rw[z,R.hd]at e;cases e);have I:∀b xs,H b=some (.tup xs)->¬ b=a.rd:=λb xs e z=>(by rw[z,R.hd]at e;cases e);have al:∀b,upd H a.rd (.dK (Tb.dk fR W')) b=none->H b=none:=λb e=>by
  by_cases z:b=a.rd
  .rw[z,ae]at e;cases e
  .rw[ah z]at e;exact e
 obtain⟨dx,h1⟩:=R.ob;obtain⟨ac,Y⟩:=R.pg.fr.ob;obtain⟨ab,L⟩:=R.pg.sl.ob;refine⟨⟨dx,o _ _ h1 (F h1)⟩,R.pg.move o (λb z=>by rw[z];exact R.Ej) (λb z=>.inl z) (λb z y=>R.Bu (y▸z)) (F Y) (F L) I,R.ok,λb N e=>R.mt b N (al b e),ae,U,λx G=>?_,J,np,S,R.Ej,R.Bu,R.zr⟩;obtain⟨ad,O⟩:=(tb x G).at_.ob;exact(tb x G).off o (F O) (λb z y=>(J x G b z).2.2 y) I
theorem ax.Ac (R:ax c H M a s W) (S:Tb.look W t=none) (T:cZ c.T H y) (G:∀b,y.eg b->M b/\¬ a.own W b) (np:¬ a.A.own y.p):ax c (upd H a.rd (.dK (Tb.dk fR (W++[(t,y)])))) M a s (W++[(t,y)]):=by
 refine R.Fh ?_ (λx F=>?_) (λx F=>?_) (λx F=>?_) (λL h1 N h2 O b J I=>?_)
 .rw[map_append];exact gv R.nd (Tb.cp S)
 .rcases List.mem_append.mp F with F|F
  .exact R.tb x F
  .rw[List.mem_singleton.mp F];exact T
 .rcases List.mem_append.mp F with F|F
  .exact R.dm x F
  .rw[List.mem_singleton.mp F];exact λb z=>⟨(G b z).1,λq=>(G b z).2 (.inl q),λq=>(G b z).2 (.inr (.inl q))⟩
 .rcases List.mem_append.mp F with F|F
  .exact R.np x F
  .rw[List.mem_singleton.mp F];exact np
 .rcases List.mem_append.mp h1 with h1|h1<;>rcases List.mem_append.mp h2 with h2|h2
  .exact R.dj L h1 N h2 O b J I
  .rw[List.mem_singleton.mp h2]at I;exact(G b I).2 (.inr (.inr ⟨L,h1,J⟩))
  .rw[List.mem_singleton.mp h1]at J;exact(G b J).2 (.inr (.inr ⟨N,h2,I⟩))
  .exact O (by rw[List.mem_singleton.mp h1,List.mem_singleton.mp h2])
theorem ax.DA (R:ax c H M a s W) (t:Int):ax c (upd H a.rd (.dK (Tb.dk fR (Tb.bg W t)))) M a s (Tb.bg W t):=
 R.Fh (Tb.lM R.nd) (λx F=>R.tb x (Tb.cf F).1) (λx F=>R.dm x (Tb.cf F).1) (λx F=>R.np x (Tb.cf F).1) (λx F y G=>R.dj x (Tb.cf F).1 y (Tb.cf G).1)
end
end St
namespace L2
open PySem PySem.Spec PyProof.Rows
def Ik (K:Frag):R2:=λx y H Q=>∃p q xs ys,x=.ref p/\y=.ref q/\bR K H p xs/\bR K H q ys/\xs.all cY=true/\ys.all cY=true/\Q (.bl (!gw xs ys)) H
section
variable {X:Cx}
theorem oP (hu:X.A.units<cLine):kB X (compareOp .NotEq) (Ik X.K):=by
 intro pins s σ H x y v u Q I rx ry h;obtain⟨p,q,xs,ys,rfl,rfl,hx,S,fx,fy,hq⟩:=h;cases rx;cases ry;obtain⟨its,r,pl,hz⟩:=I.tuple hx;obtain⟨J,L,O,ac⟩:=I.tuple S;have hl:=r.length;have U:=L.length;refine PySem.SeqAt.RcNeAt.tuples (e:=λj=>jP (xs.getD j .non) (ys.getD j .non)) pl O hu (λj h1 h2=>?_) _ _ _ _ ⟨.bl (!gw xs ys),H,I,?_,hq⟩
 .rw[size_toArray]at h1 h2;have F:j<xs.length:=af;have G:j<ys.length:=af;obtain⟨a,ea,ra⟩:=r.get (i:=j) (x:=xs[j]) (by simp[F]);obtain⟨b,eb,rb⟩:=L.get (i:=j) (x:=ys[j]) (by simp[G]);obtain⟨_,ab⟩:=List.getElem?_eq_some_iff.mp ea;obtain⟨_,N⟩:=List.getElem?_eq_some_iff.mp eb;have g1:xs.getD j .non=xs[j]:=(by simp[F]);have Y:ys.getD j .non=ys[j]:=(by simp[G]);show SeqAt.EqAt _ _ its.toArray[j] J.toArray[j] (jP (xs.getD j .non) (ys.getD j .non));have R:its.toArray[j]=a:=(by simpa using ab);have a2:J.toArray[j]=b:=(by simpa using N);rw[g1,Y,R,a2];exact iS ra rb (List.all_eq_true.mp fx _ (getElem_mem F)) (List.all_eq_true.mp fy _ (getElem_mem G))
 .show Value.bool _=Value.bool _;rw[size_toArray,size_toArray, <-hl, <-U,nZ]
end
end L2
namespace St
open PySem L2
abbrev pP:Stmt:=top 17
abbrev pf:Stmt:=top 18
abbrev uF:Stmt:=top 19
abbrev qF:Stmt:=inClass (top 33) 1
abbrev oN:Stmt:=inClass (top 33) 2
abbrev Ak:Stmt:=inClass (top 33) 3
abbrev sX:Stmt:=inClass (top 33) 4
abbrev uG:Stmt:=inClass (top 33) 5
abbrev tq:Stmt:=inClass (top 33) 6
abbrev uH:Stmt:=inClass (top 33) 7
abbrev sZ:Stmt:=inClass (top 33) 8
abbrev p7:Stmt:=inClass (top 33) 9
abbrev pA:Stmt:=inClass (top 33) 11
abbrev pG:Stmt:=inClass (top 33) 12
abbrev pQ:Stmt:=inClass (top 33) 13
structure qK (K:Frag) (mg:Str->Option Value) (c:CA):Prop where
 cl:qR K c.C
 nP:cQ K c.C "paging"
 nT:cQ K c.C "total"
 nR:cQ K c.C "rooms"
 bl:∃aB,mg "BLANK" = some (.ref aB)/\bR K (λ_=>none) aB [.str "blank"]
 pc:∃u,mg "PAGE_CELLS" = some u/\RelV (.int 8) u
 len:mg "len" = none
 sum:mg "sum" = none
 zip:mg "zip" = none
def Cv (s:Pg.PS) (W:dY) (cv:Int->Int->List Int):Prop:=∀t x,Tb.look W t=some x->∀q e,Tb.look x.t q=some e->Pg.ya s e (cv t q)
theorem jA {W:dY}{t q:Int}{x:TD}{e:Pg.Ent}(F:Tb.look W t=some x) (G:Tb.look x.t q=some e):e∈ents W :=
 List.mem_flatMap.mpr ⟨(t,x),Tb.aA F,List.mem_map.mpr ⟨(q,e),Tb.aA G,rfl⟩⟩
theorem Cv.next {s s':Pg.PS}{W W':dY}{cv:Int->Int->List Int}(h:Cv s W cv) (hs:Pg.a8 (ents W') s s') (J:∀t F,Tb.look W' t=some F->∃x,Tb.look W t=some x/\∀q e,Tb.look F.t q=some e->Tb.look x.t q=some e):Cv s' W' cv:=by
 intro t F I q e G;obtain⟨x,h1,h2⟩:=J t F I;exact hs e (jA I G) _ (h t x h1 q e (h2 q e G))
theorem Cv.keep {s s':Pg.PS}{W:dY}{cv:Int->Int->List Int}(h:Cv s W cv) (hs:Pg.a8 (ents W) s s'):Cv s' W cv:=h.next hs λt x F=>⟨x,F,λ_ _ e=>e⟩
theorem iA {W:dY}{t:Int}{x y:TD}(h:Tb.look W t=some x):Tb.look (Tb.aY W t y) t=some y:=by rw[Tb.bU t h,if_pos rfl]
theorem set_set {W:dY}{t:Int}{x y:TD}:Tb.aY (Tb.aY W t x) t y=Tb.aY W t y:=by
 unfold Tb.aY;rw[map_map];refine map_congr_left λz _=>?_;show(if (if z.1=t then(t,x)else z).1=t then(t,y)else(if z.1=t then(t,x)else z))=if z.1=t then(t,y)else z
 by_cases c:z.1=t
 .rw[if_pos c,if_pos rfl,if_pos c]
 .simp only[if_neg c]
theorem cF {W:dY}{t:Int}{x:TD}(G:(W.map (·.1)).Nodup) (h:Tb.look W t=some x):Tb.aY W t x=W:=by
 unfold Tb.aY
 conv=>rhs;rw[<-List.map_id W]
 refine map_congr_left λz F=>?_;show(if z.1=t then(t,x)else z)=z;by_cases c:z.1=t
 .have:=Tb.bN G F;rw[c,h]at this;rw[if_pos c,Option.some.inj this, <-c]
 .rw[if_neg c]
theorem xH {W:dY}{t q:Int}{x y:TD}{e:Pg.Ent}(F:(W.map (·.1)).Nodup) (G:Tb.look W t=some x) (nx:(x.t.map (·.1)).Nodup) (I:Tb.look x.t q=some e) (J:y.t=Tb.bg x.t q):(ents W).Perm (e::ents (Tb.aY W t y)):=by
 refine(km F G).trans (((su nx I).append_right _).trans ?_);rw[<-J];exact((gR F G).symm).cons e
theorem As {W:dY}{t q:Int}{x y:TD}{e:Pg.Ent}(F:(W.map (·.1)).Nodup) (I:Tb.look W t=some x) (G:y.t=(q,e)::Tb.bg x.t q):(ents (Tb.aY W t y)).Perm (e::(sP (Tb.bg x.t q)++ents (Tb.bg W t))):=by
 refine(gR F I).trans ?_;rw[G];exact List.Perm.refl _
theorem cZ.mem {c:CA}{H:Hp}{x:TD}(T:cZ c.T H x) {ns:List Int}(p:ns.Perm (Tb.fP x.tb)) (q:Int):q∈ns↔Tb.look x.t q≠none:=by
 rw[p.mem_iff,Tb.rl T.at_,T.lk];cases Tb.look x.t q<;>simp
theorem cZ.pg {c:CA}{H:Hp}{x:TD}(T:cZ c.T H x) {q:Int}(h:Tb.look x.t q≠none):0<=q/\q<64:=T.at_.vL (by
 rw[T.lk];cases e:Tb.look x.t q with
 |none=>exact absurd e h
 |some _=>simp)
inductive dN (vs:List V) (H:Hp) (Q:VK) (e3:XK):Prop
 |mk (a:Addr) (W:dY) (t:Int) (x:TD) (_:vs=[.ref a,.int t]) (_:H a=some (.dK (Tb.dk fR W))) (_:Tb.look W t=some x) (_:Q (.ref x.p) H):dN vs H Q e3
inductive jE (vs:List V) (H:Hp) (Q:VK) (e3:XK):Prop
 |mk (a:Addr) (W:dY) (t:Int) (_:vs=[.ref a,.int t]) (_:H a=some (.dK (Tb.dk fR W))) (_:Tb.look W t=none) (_:Q .non H):jE vs H Q e3
inductive k8 (vs:List V) (H:Hp) (Q:VK) (e3:XK):Prop
 |mk (h t:Int) (_:vs=[.int h,.int t]) (_:¬ t<h) (_:Q .non H):k8 vs H Q e3
inductive eJ (c:CA) (vs:List V) (H:Hp) (Q:VK) (e3:XK):Prop
 |mk (M:Addr->Prop) (a:RA) (s:Pg.PS) (W:dY) (cv:Int->Int->List Int) (t:Int) (x:TD) (lp:Addr) (ps:List Int) (_:vs=[.ref a.rp,.ref x.p,.ref lp]) (_:ax c H M a s W) (_:Pg.RI s (ents W)) (_:Cv s W cv) (_:Tb.look W t=some x) (_:H lp=some (.lst (ps.map V.int))) (_:¬ M lp) (_:ps.Nodup) (_:(∀q∈ps,Tb.look x.t q≠none)) (_:∀(H':Hp) (M':Addr->Prop) (s':Pg.PS) (y:TD),ax c H' M' a s' (Tb.aY W t y)->Pg.RI s' (ents (Tb.aY W t y))->Cv s' (Tb.aY W t y) cv->(∀q,Tb.look y.t q=if q∈ps then none else Tb.look x.t q)->Step H M (a.own W) H' M' (a.own (Tb.aY W t y))->(∀b,(s'.ow b).length=(s.ow b).length)->Q .non H'):eJ c vs H Q e3
inductive u5 (c:CA) (vs:List V) (H:Hp) (Q:VK) (e3:XK):Prop
 |mk (M:Addr->Prop) (a:RA) (s:Pg.PS) (W:dY) (cv:Int->Int->List Int) (t p m:Int) (x:TD) (_:vs=[.ref a.rp,.int t,.int p,.int m]) (_:ax c H M a s W) (_:Pg.RI s (ents W)) (_:Cv s W cv) (_:Tb.look W t=some x) (_:¬ Rm.cu p m) (_:(∀q∈Rm.aR p m,Tb.look x.t q≠none)) (_:∀(H':Hp) (M':Addr->Prop) (s':Pg.PS) (y:TD),ax c H' M' a s' (Tb.aY W t y)->Pg.RI s' (ents (Tb.aY W t y))->Cv s' (Tb.aY W t y) cv->(∀q,Tb.look y.t q=if q∈Rm.aR p m then none else Tb.look x.t q)->Step H M (a.own W) H' M' (a.own (Tb.aY W t y))->(∀b,(s'.ow b).length=(s.ow b).length)->Q .non H'):u5 c vs H Q e3
inductive mE (c:CA) (vs:List V) (H:Hp) (Q:VK) (e3:XK):Prop
 |mk (M:Addr->Prop) (a:RA) (s:Pg.PS) (W:dY) (cv:Int->Int->List Int) (t:Int) (x:TD) (_:vs=[.ref a.rp,.int t]) (_:ax c H M a s W) (_:Pg.RI s (ents W)) (_:Cv s W cv) (_:Tb.look W t=some x) (_:∀(H':Hp) (M':Addr->Prop) (s':Pg.PS),ax c H' M' a s' (Tb.bg W t)->Pg.RI s' (ents (Tb.bg W t))->Cv s' (Tb.bg W t) cv->Step H M (a.own W) H' M' (a.own (Tb.bg W t))->(∀b,(s'.ow b).length=(s.ow b).length)->Q .non H'):mE c vs H Q e3
inductive mN (c:CA) (vs:List V) (H:Hp) (Q:VK) (e3:XK):Prop
 |mk (M:Addr->Prop) (a:RA) (s:Pg.PS) (W:dY) (t:Int) (_:vs=[.ref a.rp,.int t]) (_:ax c H M a s W) (_:Tb.look W t=none) (_:W.length<=1000) (_:∀(H':Hp) (M':Addr->Prop) (y:TD),y.t=[]->ax c H' M' a s (W++[(t,y)])->Step H M (a.own W) H' M' (a.own (W++[(t,y)]))->Q .non H'):mN c vs H Q e3
section
variable {P:Program}{w:World}{K:Frag}{mg:Str->Option Value}{base:Heap}
theorem fL {α:Type}{f:α->V}{H:Hp}{a:Addr}{l:List (Int×α)}{t:Int}(h:H a=some (.dK (Tb.dk f l))):dB H a (.int t) ((Tb.look l t).map f):=by
 have q:=dB.k (k:=Sum.inl t) h;rw[Tb.cK]at q;exact q
theorem Hn:az ["rooms","task"] ["rooms","task"] (aq pP):=L2.bD
theorem xj {f:Addr}{fd:FuncData}(F:cL K "room_of" "room_of" pP f fd):bf P w K mg base aU 1 f fd ["rooms","task"] dN:=by
 refine F.ok Hn (λvs H Q E h=>?_) (λL A outer s H vs Q E G h=>?_)
 .obtain⟨a,W,t,x,rfl,_⟩:=h;rfl
 .obtain⟨a,W,t,x,rfl,I,J,k⟩:=h;refine⟨_,(ag (aS (iU (gf (bj G) (pv 1) (pv 0))) cN aF)
   (aj (aE (bA (bj G) (pv 0) (pv 1) (λ_ _=>rfl))))),?_⟩
  have hg:=fL (t:=t) I;rw[J]at hg;exact⟨_,rfl,_,rfl,a,_,rfl,hg,_,rfl,bw ⟨_,rfl,_,rfl,a,fR x,rfl,hg,k⟩⟩
theorem Iq:az ["rooms","task"] ["rooms","task"] (aq pf):=L2.bD
theorem xY {f:Addr}{fd:FuncData}(F:cL K "refuse_second_room" "refuse_second_room" pf f fd):bf P w K mg base aU 1 f fd ["rooms","task"] jE:=by
 refine F.ok Iq (λvs H Q E h=>?_) (λL A outer s H vs Q E G h=>?_)
 .obtain⟨a,W,t,rfl,_⟩:=h;rfl
 .obtain⟨a,W,t,rfl,I,J,k⟩:=h;refine⟨_,(aj (aS (iU (mF (bj G) (pv 1) (pv 0))) cN aF)),?_⟩;have hg:=fL (t:=t) I;rw[J]at hg;exact⟨_,rfl,_,rfl,a,_,rfl,hg,_,rfl,bw k⟩
theorem HE:az ["held","total"] ["held","total"] (aq uF):=L2.bD
theorem zv {f:Addr}{fd:FuncData}(F:cL K "refuse_above" "refuse_above" uF f fd):bf P w K mg base aU 1 f fd ["held","total"] k8:=by
 refine F.ok HE (λvs H Q E h=>?_) (λJ A outer s H vs Q E I h=>?_)
 .obtain⟨h,t,rfl,_⟩:=h;rfl
 .obtain⟨h,t,rfl,G,k⟩:=h;refine⟨_,(aj (aS (aC iJ (pv 0) (pv 1) (aH _)) cN aF)),?_⟩;refine⟨_,rfl,_,rfl,_,_,rfl,rfl,_,rfl,?_⟩;exact iM (λc=>absurd (of_decide_eq_true c) G) (λc=>k)
theorem C6:az ["self","table","pages","page","entry"] ["self","table","pages"] (aq pA):=L2.bD
theorem m5 {f:Addr}{fd:FuncData}{c:CA}(F:cL K "leave_pages" "Rooms.leave_pages" pA f fd) (T:qK K mg c) (TT:Tb.Txt K mg c.T) (TP:mZ K mg c.P) (GG:Md P w K mg base aU 3 c.T "get" (Tb.mD c.T)) (GK:Md P w K mg base aU 1 c.T "clear" (Tb.pH c.T)) (bc:Md P w K mg base aU 4 c.P "leave" (k6 c.P c.S)):bf P w K mg base aU 5 f fd ["self","table","pages"] (eJ c):=by
 obtain⟨aB,mB,sB⟩:=T.bl;have rB:RelV (.ref aB) (.ref aB):=rfl;refine F.ok C6 (λvs H Q E h=>?_) (λb2 A outer s H vs Q E hr h=>?_)
 .obtain⟨M,a,s',W,cv,t,x,Y,ps,rfl,_⟩:=h;rfl
 .obtain⟨M,a,s',W,cv,t,x,Y,ps,rfl,R,ri,b0,hx,a0,bm,bG,bI,q⟩:=h;refine⟨_,(aj (cO PassesOwn.never rfl (fA (pv 2)) (aX (i:=3) C6.nd rfl (Or.inl rfl)) (ag (aK (i:=4) C6.nd rfl (Or.inl rfl) (pm (pv 1) TT.cl GG hr aw (aa (pv 3) ai)))
   (ag (aL (pm (pv 1) TT.cl GK hr aw (aa (pv 3) ai)))
   (aj (aS (aC (oP hr.gn) (pv 4) (cj (by rfl) mB rB) (aH _)) (aj (aL (pm (aJ (pv 0) rfl) TP.cl bc hr aw (aa (aZ bh (pv 4) ak (λ_ _=>rfl)) ai)))) aF)))))),?_⟩
  have a6:¬ a.own W Y:=λz=>bm (R.dR Y z);refine⟨_,rfl,Y,rfl,⟨_,bq.of a0⟩,?_⟩;refine eT (K:=K) (a:=Y) (xs:=ps.map V.int) (λi σ H2=>AH λ(v3 v4:Option V) (M2:Addr->Prop) (I:Pg.PS) (y:TD)=>Gx (σ=[some (.ref a.rp),some (.ref y.p),some (.ref Y),v3,v4]) (ax c H2 M2 a I (Tb.aY W t y)) (Pg.RI I (ents (Tb.aY W t y))) (Cv I (Tb.aY W t y) cv) ((∀q,Tb.look y.t q=if q∈ps.take i then none else Tb.look x.t q)) (Step H M (a.own W) H2 M2 (a.own (Tb.aY W t y))) (∀b,(I.ow b).length=(s'.ow b).length))
   ⟨_,_,M,s',x,rfl,by rw[cF R.nd hx];exact R,by rw[cF R.nd hx];exact ri,by rw[cF R.nd hx];exact b0,λq=>by simp,by rw[cF R.nd hx];exact R.refl,λ_=>rfl⟩ (λi σ H2 _ z0=>by obtain⟨_,_,_,_,_,_,_,_,_,_,st,_⟩:=z0;exact bq.of (st.off _ _ a0 a6)) ?_ ?_
  .rintro i u σ H2 hu ⟨v3,v4,M2,I,y,rfl,R2,as,ap,ac,aT,am⟩;rw[getElem?_map]at hu;obtain⟨p,hp,rfl⟩:=Option.map_eq_some_iff.mp hu;have bi:=mem_of_getElem? hp;obtain⟨hi,b1⟩:=List.getElem?_eq_some_iff.mp hp;have a7:¬ p∈ps.take i:=λz=>by
    obtain⟨j,hj,e⟩:=getElem_of_mem z;rw[getElem_take]at e;rw[length_take]at hj;exact oi bG j i (getElem?_eq_getElem af) hp af e
   have ad:=iA (y:=y) hx;obtain⟨e,he⟩:∃e,Tb.look y.t p=some e:=by
    rw[ac p,if_neg a7];cases z:Tb.look x.t p with
    |none=>exact absurd z (bI p bi)
    |some e=>exact⟨e,rfl⟩
   have T2:=R2.tb _ (Tb.aA ad);obtain⟨bb,ht⟩:=T2.at_.ob;refine⟨_,rfl,y.p,bb,_,rfl,ht,Tb.aW _ ao,_,rfl,y.p,y.fs,y.tb,p,rfl,T2.at_,λH3 v s3 N=>?_⟩;rw[T2.lk,he]at N;obtain⟨tt,rfl,a3⟩:=N;have R3:=R2.same s3;have T3:=R3.tb _ (Tb.aA ad);obtain⟨bd,bn⟩:=T3.at_.ob;refine⟨_,rfl,y.p,bd,_,rfl,bn,Tb.aW _ ao,_,rfl,y.p,y.fs,y.tb,p,rfl,T3.at_,λH4 U T4 l4 _ o4 n4=>?_⟩;have bY:cZ c.T H4 ⟨y.p,y.fs,U,Tb.bg y.t p⟩:=⟨T4,Tb.lM T3.nd,λj=>by
    rw[l4 j,Tb.cz];by_cases z:j=p
    .rw[if_pos z,if_pos z];rfl
    .rw[if_neg z,if_neg z];exact T3.lk j⟩
   have G:=R3.uB (y:=⟨y.p,y.fs,U,Tb.bg y.t p⟩) ad rfl bY o4 n4;have S4:=aT.trans ((R2.iH s3).trans (R3.pB (y:=⟨y.p,y.fs,U,Tb.bg y.t p⟩) ad o4 n4));have pe:=xH (y:=⟨y.p,y.fs,U,Tb.bg y.t p⟩) R2.nd ad T2.nd he rfl;rw[set_set]at G S4 pe;have ab:=as.perm pe;have a4:∀j,Tb.look (Tb.bg y.t p) j=if j∈ps.take (i+1)then none else Tb.look x.t j:=λj=>by
    rw[Tb.cz,ac j,take_add_one,hp];by_cases z:j=p
    .rw[if_pos z,if_pos (by rw[z];simp)]
    .rw[if_neg z];by_cases J:j∈ps.take i
     .rw[if_pos J,if_pos (mem_append_left _ J)]
     .rw[if_neg J,if_neg (by simp[z,J])]
   have a2:∀t' x',Tb.look (Tb.aY W t ⟨y.p,y.fs,U,Tb.bg y.t p⟩) t'=some x'->∃a5,Tb.look (Tb.aY W t y) t'=some a5/\∀q e,Tb.look x'.t q=some e->Tb.look a5.t q=some e:=by
    intro t' x' h';rw[Tb.bU t' hx]at h' ⊢;by_cases z:t'=t
    .rw[if_pos z]at h' ⊢;cases h';refine⟨y,rfl,λq e O=>?_⟩;have O:Tb.look (Tb.bg y.t p) q=some e:=O;rw[Tb.cz]at O;by_cases J:q=p
     .rw[if_pos J]at O;cases O
     .rw[if_neg J]at O;exact O
    .rw[if_neg z]at h' ⊢;exact⟨x',h',λ_ _ h=>h⟩
   have be:¬ y.eg tt:=λz=>by
    obtain⟨_,h⟩:=T3.at_.dK z;rw[a3]at h;cases h
   have a1:=o4 _ _ a3 be;refine⟨_,rfl,tt,aB,_,_,rfl,rfl,bR.of a1,iE.sq (.inr sB),?_⟩;cases e with
   |none =>
    refine⟨rfl,rfl,_,rfl,bw ?_⟩;exact⟨_,_,_,I,⟨y.p,y.fs,U,Tb.bg y.t p⟩,rfl,G,ab.bare,ap.next Pg.a8.refl a2,a4,S4,am⟩
   |some k =>
    refine⟨rfl,rfl,_,rfl,dG ?_⟩;obtain⟨bv,bx⟩:=G.ob;obtain⟨ba,bz⟩:=G.pg.ob;obtain⟨cs,cc,N⟩:=ab.is k mem_cons_self;refine⟨_,rfl,a.rp,c.C,bv,_,_,rfl,bx,T.cl,T.nP,kE _ _ _,a.A.pg,ba,_,rfl,bz,cD _ _ ao ao ao ao ao,_,rfl,tt,_,1,_,rfl,rfl,bR.of a1,rfl,_,a.A,I,k,cs,cc,rfl,G.pg,G.ok,G.mt,ab.good,N,λH5 s5 le G5 O5=>?_⟩;have L:=Pg.vP ab.good N le;exact⟨_,_,_,s5,⟨y.p,y.fs,U,Tb.bg y.t p⟩,rfl,G.ky G5 O5 L.ln,ab.leave N le,ap.next (ab.tZ N le) a2,a4,S4.trans (G.tW G5 O5),λb=>(L.ln b).trans (am b)⟩
  .rintro σ H2 ⟨v3,v4,M2,I,y,rfl,R2,as,ap,ac,aT,am⟩;rw[length_map,take_length]at ac;exact q H2 M2 I y R2 as ap ac aT am
theorem EB:az ["self","task","page","many","table"] ["self","task","page","many"] (aq sX):=L2.bD
theorem BU {f:Addr}{fd:FuncData}{c:CA}(F:cL K "drop" "Rooms.drop" sX f fd) (T:qK K mg c) (TT:Tb.Txt K mg c.T) (GR:Df P w K mg base aU 1 "room_of" dN) (Y:Df P w K mg base aU 2 "pages_to_drop" Rm.lV) (ap:Md P w K mg base aU 1 c.T "pages" (Tb.eM c.T)) (a4:Md P w K mg base aU 5 c.C "leave_pages" (eJ c)):bf P w K mg base aU 6 f fd ["self","task","page","many"] (u5 c):=by
 refine F.ok EB (λvs H Q E h=>?_) (λa6 A outer s H vs Q E I h=>?_)
 .obtain⟨M,a,s',W,cv,t,p,m,x,rfl,_⟩:=h;rfl
 .obtain⟨M,a,s',W,cv,t,p,m,x,rfl,R,ri,a3,J,G,S,q⟩:=h;obtain⟨dx,N⟩:=R.ob;have L:=R.tb _ (Tb.aA J);obtain⟨ad,ht⟩:=L.at_.ob;have b1:¬ m<1:=λz=>G (.inl z);have b2:¬ p<0:=λz=>G (.inr (.inl z));have b3:¬ 64<p+m:=λz=>G (.inr (.inr z));refine⟨_,(ag (aK (i:=4) EB.nd rfl (Or.inl rfl) (pc GR I aw (aa (aJ (pv 0) rfl) (aa (pv 1) ai))))
   (aj (aL (pm (pv 0) T.cl a4 I aw (aa (pv 4) (aa (pc Y I aw (aa (sF (pv 4) TT.cl ap I aw) (aa (pv 2) (aa (pv 3) ai)))) ai)))))),?_⟩
  refine⟨_,rfl,a.rp,c.C,dx,_,_,rfl,N,T.cl,T.nR,fG _ _ _,_,rfl,a.rd,W,t,x,rfl,R.hd,J,?_⟩;refine⟨_,rfl,a.rp,dx,_,rfl,N,gi _ _ _ ao ao ao,_,rfl,_,rfl,x.p,ad,_,rfl,ht,Tb.aW _ ao,x.p,x.fs,x.tb,rfl,L.at_,λH1 l1 ns O a7 a1 pm a5=>?_⟩;refine⟨_,rfl,_,rfl,l1,ns,p,m,rfl,a1,G,λq hq=>(L.mem pm q).mpr (S q hq),λH2 l2 s2 aB as=>?_⟩
  .have U:=O.trans s2;refine⟨M,a,s',W,cv,t,x,l2,Rm.aR p m,rfl,R.same U,ri,a3,J,as,λz=>R.mt _ z (O.free aB),?_,S,λH3 M3 s3 y R3 ab aT a2 ac a0=>q H3 M3 s3 y R3 ab aT a2 ((R.iH U).trans ac) a0⟩;unfold Rm.aR;refine List.pairwise_map.mpr (List.nodup_range.imp ?_);intro i j am e;exact am af
theorem Gj:az ["self","task","table"] ["self","task"] (aq oN):=L2.bD
theorem xm {f:Addr}{fd:FuncData}{c:CA}(F:cL K "close" "Rooms.close" oN f fd) (T:qK K mg c) (TT:Tb.Txt K mg c.T) (GR:Df P w K mg base aU 1 "room_of" dN) (a4:Md P w K mg base aU 1 c.T "pages" (Tb.eM c.T)) (a5:Md P w K mg base aU 5 c.C "leave_pages" (eJ c)):bf P w K mg base aU 6 f fd ["self","task"] (mE c):=by
 refine F.ok Gj (λvs H Q E h=>?_) (λa6 A outer s H vs Q E U h=>?_)
 .obtain⟨M,a,s',W,cv,t,x,rfl,_⟩:=h;rfl
 .obtain⟨M,a,s',W,cv,t,x,rfl,R,ri,a3,G,q⟩:=h;obtain⟨dx,ho⟩:=R.ob;have J:=R.tb _ (Tb.aA G);obtain⟨a0,ht⟩:=J.at_.ob;refine⟨_,(ag (aK (i:=2) Gj.nd rfl (Or.inl rfl) (pc GR U aw (aa (aJ (pv 0) rfl) (aa (pv 1) ai))))
   (ag (aL (pm (pv 0) T.cl a5 U aw (aa (pv 2) (aa (sF (pv 2) TT.cl a4 U aw) ai))))
   (aj (aL (eE (aJ (pv 0) rfl) (pv 1) ⟨rfl,rfl,rfl,rfl⟩))))),?_⟩
  refine⟨_,rfl,a.rp,c.C,dx,_,_,rfl,ho,T.cl,T.nR,fG _ _ _,_,rfl,a.rd,W,t,x,rfl,R.hd,G,?_⟩;refine⟨_,rfl,a.rp,dx,_,rfl,ho,gi _ _ _ ao ao ao,_,rfl,_,rfl,x.p,a0,_,rfl,ht,Tb.aW _ ao,x.p,x.fs,x.tb,rfl,J.at_,λH1 l1 ns Y a1 aT pm a7=>?_⟩;refine⟨M,a,s',W,cv,t,x,l1,ns,rfl,R.same Y,ri,a3,G,aT,λz=>R.mt _ z a1,pm.nodup_iff.mpr (Tb.jL J.at_),λq hq=>(J.mem pm q).mp hq,λH3 M3 s3 y I ap ad a2 as aB=>?_⟩;have am:=iA (y:=y) G;have ey:y.t=[]:=by
   cases e:y.t with
   |nil=>rfl
   |cons z r =>
    exfalso;have h1:=a2 z.1;rw[e,Tb.aM,if_pos rfl]at h1;by_cases S:z.1∈ns
    .rw[if_pos S]at h1;cases h1
    .rw[if_neg S]at h1;exact S ((J.mem pm z.1).mpr (by rw[<-h1];simp))
  obtain⟨ac,ab⟩:=I.ob;refine⟨_,rfl,a.rp,c.C,ac,_,_,rfl,ab,T.cl,T.nR,fG _ _ _,a.rd,rfl,.inl ⟨_,.inl I.hd⟩,_,rfl,_,Sum.inl t,fR y,I.hd,rfl,by rw[Tb.cK,am];rfl,?_⟩;have R4:=I.DA t;rw[Tb.eu];rw[Tb.vy]at R4 ⊢;have L:=gR (y:=y) R.nd G;rw[ey]at L;have L:(ents (Tb.aY W t y)).Perm (ents (Tb.bg W t)):=L;refine q _ M3 s3 R4 (ap.perm L) (ad.next Pg.a8.refl λt' N h'=>?_) (((R.iH Y).trans as).trans ?_) aB
  .rw[Tb.cz]at h';by_cases z:t'=t
   .rw[if_pos z]at h';cases h'
   .rw[if_neg z]at h';exact⟨N,by rw[Tb.bU t' G,if_neg z];exact h',λ_ _ h=>h⟩
  .refine⟨Off.wr (.inr (.inl rfl)),λ_ h _=>h,λ_ h=>.inl h,λb z=>.inl ?_,I.mt,I.dR⟩;rcases z with z|z|⟨N,O,z⟩
   .exact .inl z
   .exact .inr (.inl z)
   .obtain⟨O,ne⟩:=Tb.cf O;refine .inr (.inr ⟨N,?_,z⟩);unfold Tb.aY;exact List.mem_map.mpr ⟨N,O,by rw[if_neg ne]⟩
theorem Ig:az ["self","task"] ["self","task"] (aq qF):=L2.bD
theorem xB {f Y:Addr}{fd dI:FuncData}{c:CA}(F:cL K "begin" "Rooms.begin" qF f fd) (T:qK K mg c) (MK:Mk K c.T Y) (ad:mg "Table" = some (.ref c.T)) (GS:Df P w K mg base aU 1 "refuse_second_room" jE) (GI:bf P w K mg base aU 1 Y dI ["self"] (Tb.gT c.T)) (bI:Binds K dI ["self"] []):bf P w K mg base aU 3 f fd ["self","task"] (mN c):=by
 refine F.ok Ig (λvs H Q E h=>?_) (λas A outer s H vs Q E O h=>?_)
 .obtain⟨M,a,s',W,t,rfl,_⟩:=h;rfl
 .obtain⟨M,a,s',W,t,rfl,R,N,hl,q⟩:=h;obtain⟨dx,ho⟩:=R.ob;have hs:sizeLine=16777216:=sizeLine_eq;refine⟨_,(ag (aL (pc GS O aw (aa (aJ (pv 0) rfl) (aa (pv 1) ai))))
   (aj (jH (bj O) (aJ (pv 0) rfl) (pv 1) (sg MK GI (O.mono av) (by rfl) ad bI .nil aw) rfl))),?_⟩
  refine⟨_,rfl,a.rp,c.C,dx,_,_,rfl,ho,T.cl,T.nR,fG _ _ _,_,rfl,a.rd,W,t,rfl,R.hd,N,?_⟩;refine λp am np U aB=>⟨p,am,rfl,ae,λfs H1 ab T1 off=>⟨rfl,?_⟩⟩;have J:a8 H H1:=λb u e=>off b u (by rw[ah (ar e np),ah (ar e U)];exact e) (ar e np);have I:H fs=none:=by
   cases e:H fs with
   |none=>rfl
   |some u=>rw[ah (ar e np),ah (ar e U),e]at ab;cases ab
  have S:=R.BM (H':=H1) (B:=λ_=>False) (M':=λb=>M b\/b=fs) (λb o e _=>J b o e) (λb z=>z.elim) (λb z=>z.elim) (λb z=>z.elim .inl λz=>.inr (by rw[z];exact I)) (λb z _=>.inl z) (λb z e=>z.elim (λz=>(R.same J).mt b z e) λz=>by rw[z,T1.hf]at e;cases e)
  .obtain⟨ac,ap⟩:=S.ob;refine⟨_,rfl,a.rp,c.C,ac,_,_,rfl,ap,T.cl,T.nR,fG _ _ _,_,rfl,a.rd,_,rfl,gb.k (k:=Sum.inl t) S.hd (by rw[Tb.cm];omega),?_⟩;rw[show(V.ref p)=fR ⟨p,fs,[],[]⟩from rfl,Tb.cy N];have TI:cZ c.T H1 ⟨p,fs,[],[]⟩:=⟨T1,nodup_nil,λq=>rfl⟩;have L:∀b,(TD.mk p fs [] []).eg b->b=fs:=λb z=>by
    rcases z with z|⟨_,hx,_⟩
    .exact z
    .cases hx
   have R2:=S.Ac N TI (λb z=>⟨.inr (L b z),λy=>?_⟩) (λy=>?_)
   .refine q _ _ ⟨p,fs,[],[]⟩ rfl R2 ⟨?_,λb z _=>.inl z,λb z=>z.elim .inl λz=>.inr (by rw[z];exact I),λb z=>?_,R.mt,R.dR⟩
    .intro b o e z;rw[ah (λy=>z (.inr (.inl y)))];exact J _ _ e
    .rcases z with z|z|⟨x',G,z⟩
     .exact .inl (.inl z)
     .exact .inl (.inr (.inl z))
     .rcases List.mem_append.mp G with G|G
      .exact .inl (.inr (.inr ⟨x',G,z⟩))
      .rw[List.mem_singleton.mp G]at z;rw[L b z];exact .inr I
   .rw[L b z]at y;exact R.mt _ (R.dR _ y) I
   .exact R.mt _ (R.ok.own _ y) np
end
theorem ud:bootBuiltins "sum" = some (.builtin "sum"):=ao
inductive ix (c:CA) (vs:List V) (H:Hp) (Q:VK) (e3:XK):Prop
 |mk (M:Addr->Prop) (a:RA) (s:Pg.PS) (W:dY) (tt:Addr) (e:Pg.Ent) (cs:List Int) (_:vs=[.ref a.rp,.ref tt]) (_:ax c H M a s W) (_:Pg.Good s) (_:H tt=some (.tup (xk e))) (_:Pg.ya s e cs) (_:∀(H':Hp) (l:Addr),a8 H H'->H l=none->H' l=some (.lst (cs.map V.int))->Q (.ref l) H'):ix c vs H Q e3
inductive gO (c:CA) (vs:List V) (H:Hp) (Q:VK) (e3:XK):Prop
 |mk (M:Addr->Prop) (a:RA) (s:Pg.PS) (W:dY) (tt ca:Addr) (e:Pg.Ent) (r:List Pg.Ent) (cs:List Int) (_:vs=[.ref a.rp,.ref tt,.ref ca]) (_:ax c H M a s W) (_:Pg.RI s (e::r)) (_:H tt=some (.tup (xk e))) (_:H ca=some (.lst (cs.map V.int))) (_:¬ M ca) (_:cs.length=8) (_:∀(H':Hp) (s':Pg.PS) (k:Int),ax c H' M a s' W->Pg.RI s' (some k::r)->Pg.a8 r s s'->Pg.ya s' (some k) cs->Step H M (a.own W) H' M (a.own W)->(∀b,(s'.ow b).length=(s.ow b).length)->Q (.int k) H'):gO c vs H Q e3
def heldW (W:dY):Int:=(W.map λx=>(x.2.t.length:Int)).sum
theorem lW:∀W:dY,heldW W=((ents W).length:Int)
 | []=>rfl
 |x::W=>by
  have F:=lW W;unfold heldW at F ⊢;rw[map_cons,sum_cons,F];show _=(((sP x.2.t++ents W).length:Nat):Int);rw[length_append];unfold sP;rw[length_map];omega
inductive jJ (c:CA) (vs:List V) (H:Hp) (Q:VK) (e3:XK):Prop
 |mk (M:Addr->Prop) (a:RA) (s:Pg.PS) (W:dY) (_:vs=[.ref a.rp]) (_:ax c H M a s W) (_:W.length<=1000) (_:∀H',a8 H H'->Q (.int (ents W).length) H'):jJ c vs H Q e3
def IW (s:Pg.PS) (H:Hp) (v:V):Option Pg.Ent->Prop
 |none=>v=.non
 |some none=>∃t,v=.ref t/\H t=some (.tup [.str "blank"])
 |some (some k)=>∃t b n,v=.ref t/\s.pl k=some (b,n)/\H t=some (.tup (jF b n))
inductive mS (c:CA) (vs:List V) (H:Hp) (Q:VK) (e3:XK):Prop
 |mk (M:Addr->Prop) (a:RA) (s:Pg.PS) (W:dY) (t q:Int) (x:TD) (_:vs=[.ref a.rp,.int t,.int q]) (_:ax c H M a s W) (_:Pg.RI s (ents W)) (_:Tb.look W t=some x) (_:∀H' v,a8 H H'->IW s H' v (Tb.look x.t q)->Q v H'):mS c vs H Q e3
def jv (cv:Int->Int->List Int) (t:Int) (ps:List Int):Int->Int->List Int:=λt' q=>if t'=t/\q∈ps then replicate 8 0 else cv t' q
inductive uL (c:CA) (vs:List V) (H:Hp) (Q:VK) (e3:XK):Prop
 |mk (M:Addr->Prop) (a:RA) (s:Pg.PS) (W:dY) (cv:Int->Int->List Int) (t p m:Int) (x:TD) (_:vs=[.ref a.rp,.int t,.int p,.int m]) (_:ax c H M a s W) (_:Pg.RI s (ents W)) (_:Cv s W cv) (_:W.length<=1000) (_:Tb.look W t=some x) (_:¬ Rm.cu p m) (_:(∀q∈Rm.aR p m,Tb.look x.t q=none)) (_:(ents W).length+m<=bP s) (_:∀(H':Hp) (M':Addr->Prop) (y:TD),ax c H' M' a s (Tb.aY W t y)->Pg.RI s (ents (Tb.aY W t y))->Cv s (Tb.aY W t y) (jv cv t (Rm.aR p m))->(∀q,Tb.look y.t q=if q∈Rm.aR p m then some none else Tb.look x.t q)->Step H M (a.own W) H' M' (a.own (Tb.aY W t y))->Q .non H'):uL c vs H Q e3
theorem cZ.len {c:CA}{H:Hp}{x:TD}(T:cZ c.T H x) {ns:List Int}(p:ns.Perm (Tb.fP x.tb)):ns.length=x.t.length:=by
 have h:ns.Perm (x.t.map (·.1)):=by
  rw[List.perm_ext_iff_of_nodup (p.nodup_iff.mpr (Tb.jL T.at_)) T.nd];intro q;rw[T.mem p q];constructor
  .intro h;cases e:Tb.look x.t q with
   |none=>exact absurd e h
   |some v=>exact List.mem_map.mpr ⟨_,Tb.aA e,rfl⟩
  .intro h e;exact Tb.cp e h
 rw[h.length_eq,length_map]
theorem tU {p m:Int}(h:¬ Rm.cu p m):((Rm.aR p m).length:Int)=m:=by
 have:¬ m<1:=λz=>h (.inl z);unfold Rm.aR;rw[length_map,length_range];omega
theorem oa (p m:Int):(Rm.aR p m).Nodup:=by
 unfold Rm.aR;refine List.pairwise_map.mpr (List.nodup_range.imp ?_);intro i j F e;exact F af
theorem wH {cv:Int->Int->List Int}{t:Int}:jv cv t []=cv:=by
 funext t' q;unfold jv;rw[if_neg (by simp)]
theorem si {cv:Int->Int->List Int}{t t' q p:Int}{l:List Int}(h:¬ (t'=t/\q=p)):jv cv t (l++[p]) t' q=jv cv t l t' q:=by
 unfold jv;by_cases z:t'=t/\q∈l
 .rw[if_pos z,if_pos ⟨z.1,mem_append_left _ z.2⟩]
 .rw[if_neg z,if_neg (λy=>by
   rcases List.mem_append.mp y.2 with w|w
   .exact z ⟨y.1,w⟩
   .exact h ⟨y.1,List.mem_singleton.mp w⟩)]
section
variable {P:Program}{w:World}{K:Frag}{mg:Str->Option Value}{base:Heap}
theorem HW:az ["self","entry"] ["self","entry"] (aq pG):=L2.bD
theorem tL {f:Addr}{fd:FuncData}{c:CA}(F:cL K "cells_of" "Rooms.cells_of" pG f fd) (T:qK K mg c) (TP:mZ K mg c.P) (Hb:Md P w K mg base aU 4 c.P "cells" (ma c.P c.S)):bf P w K mg base aU 5 f fd ["self","entry"] (ix c):=by
 obtain⟨I,mB,sB⟩:=T.bl;obtain⟨u8,m8,r8⟩:=T.pc;have rB:RelV (.ref I) (.ref I):=rfl;refine F.ok HW (λvs H Q E h=>?_) (λad A outer s H vs Q E Y h=>?_)
 .obtain⟨M,a,s',W,tt,e,cs,rfl,_⟩:=h;rfl
 .obtain⟨M,a,s',W,tt,e,cs,rfl,R,gd,U,G,q⟩:=h;have hs:sizeLine=16777216:=sizeLine_eq;refine⟨_,(ag (aS (aC (ug Y.gn) (pv 1) (cj (by rfl) mB rB) (aH _)) (aj (aE (ay iQ (bX (aa ak ai)) (cj (by rfl) m8 r8)))) aF)
   (aj (aE (pm (aJ (pv 0) rfl) TP.cl Hb Y aw (aa (aZ bh (pv 1) ak (λ_ _=>rfl)) ai))))),?_⟩
  refine⟨_,rfl,tt,I,_,_,rfl,rfl,bR.of U,iE.sq (.inr sB),?_⟩;cases e with
  |none =>
   refine⟨rfl,rfl,_,rfl,dG ?_⟩;refine⟨av,λl1 ac=>?_⟩;refine⟨l1,8,_,rfl,rfl,ae,af,af,by rw[length_singleton];omega,λl2 L=>?_⟩;have J:=Tb.au (X:=.lst [V.int 0]) ac;have s2:=Tb.au (X:=.lst ((replicate (8:Int).toNat [V.int 0]).flatten)) L;have G:cs=replicate 8 0:=G;refine q _ l2 (J.trans s2) (J.free L) ?_;rw[ae,G];rfl
  |some k =>
   refine⟨rfl,rfl,_,rfl,bw ?_⟩;obtain⟨cc,N⟩:=G;obtain⟨dx,ho⟩:=R.ob;obtain⟨ab,h2⟩:=R.pg.ob;refine⟨_,rfl,a.rp,c.C,dx,_,_,rfl,ho,T.cl,T.nP,kE _ _ _,a.A.pg,ab,_,rfl,h2,cD _ _ ao ao ao ao ao,_,rfl,tt,_,1,_,rfl,rfl,bR.of U,rfl,M,a.A,s',k,cs,cc,rfl,R.pg,N,?_,λl O=>q _ l (Tb.au O) O ae⟩;have:=(gd.vw N).1;omega
theorem Hs:az ["self","entry","cells"] ["self","entry","cells"] (aq pQ):=L2.bD
theorem pR {f:Addr}{fd:FuncData}{c:CA}(F:cL K "sheet_with" "Rooms.sheet_with" pQ f fd) (T:qK K mg c) (TP:mZ K mg c.P) (ap:Md P w K mg base aU 7 c.P "new_sheet" (gA K c.P c.S)) (aT:Md P w K mg base aU 8 c.P "change" (lT c.P c.S)):bf P w K mg base aU 9 f fd ["self","entry","cells"] (gO c):=by
 obtain⟨aB,mB,sB⟩:=T.bl;have rB:RelV (.ref aB) (.ref aB):=rfl;refine F.ok Hs (λvs H Q E h=>?_) (λba A outer s H vs Q E hr h=>?_)
 .obtain⟨M,a,s',W,tt,U,e,r,cs,rfl,_⟩:=h;rfl
 .obtain⟨M,a,s',W,tt,U,e,r,cs,rfl,R,G,ht,ac,a0,L,q⟩:=h;have am:¬ a.A.own U:=λz=>a0 (R.ok.own _ z);obtain⟨dx,ho⟩:=R.ob;obtain⟨ab,h2⟩:=R.pg.ob;refine⟨_,(ag (aS (aC (ug hr.gn) (pv 1) (cj (by rfl) mB rB) (aH _)) (aj (aE (pm (aJ (pv 0) rfl) TP.cl ap hr aw (aa (pv 2) ai)))) aF)
   (aj (aE (pm (aJ (pv 0) rfl) TP.cl aT hr aw (aa (aZ bh (pv 1) ak (λ_ _=>rfl)) (aa (pv 2) ai)))))),?_⟩
  refine⟨_,rfl,tt,aB,_,_,rfl,rfl,bR.of ht,iE.sq (.inr sB),?_⟩;cases e with
  |none =>
   refine⟨rfl,rfl,_,rfl,dG ?_⟩;refine⟨_,rfl,a.rp,c.C,dx,_,_,rfl,ho,T.cl,T.nP,kE _ _ _,a.A.pg,ab,_,rfl,h2,cD _ _ ao ao ao ao ao,_,rfl,M,a.A,s',U,cs,rfl,R.Gy G,G.room,bq.of ac,λe=>am (by rw[e];exact PA.fV 0 rfl),L,λH1 Y N I J=>?_⟩;have B:=Pg.kl G.good G.l0 L N;exact q H1 Y _ (R.ky I J B.kept.ln) (G.fill L N) (G.xy L N) ⟨1,B.vw⟩ (R.tW I J) B.kept.ln
  |some k =>
   refine⟨rfl,rfl,_,rfl,bw ?_⟩;obtain⟨as,c0,O⟩:=G.is k mem_cons_self;refine⟨_,rfl,a.rp,c.C,dx,_,_,rfl,ho,T.cl,T.nP,kE _ _ _,a.A.pg,ab,_,rfl,h2,cD _ _ ao ao ao ao ao,_,rfl,tt,_,1,_,rfl,rfl,bR.of ht,rfl,_,rfl,M,a.A,s',k,U,as,c0,cs,rfl,R.Gy G,O,ac,am,L,λz=>G.Fg O z,λz H1 Y s2 N hl I J=>?_,λz H1 Y m ad hm I J=>?_⟩
   .obtain⟨a1,a2,a3,a4,a5,a6,a7⟩:=G.part O z L N hl;exact q H1 s2 _ (R.ky I J a7) a1 a2 a3 (R.tW I J) a7
   .subst z;obtain⟨a1,a2,a3⟩:=G.write O L ad hm;have FF:=Pg.oM G.good ad;exact q H1 _ k (R.ky I J FF.kept.ln) a1 a2 a3 (R.tW I J) FF.kept.ln
theorem Hz:az ["self"] ["self"] (aq sZ):=L2.bD
theorem y4 {f:Addr}{fd:FuncData}{c:CA}(F:cL K "held" "Rooms.held" sZ f fd) (T:qK K mg c) (TT:Tb.Txt K mg c.T) (aB:Md P w K mg base aU 1 c.T "pages" (Tb.eM c.T)):bf P w K mg base aU 2 f fd ["self"] (jJ c):=by
 refine F.ok Hz (λvs H Q E h=>?_) (λa3 A outer s H vs Q E hr h=>?_)
 .obtain⟨M,a,s',W,rfl,_⟩:=h;rfl
 .obtain⟨M,a,s',W,rfl,R,lw,k⟩:=h;have hs:sizeLine=16777216:=sizeLine_eq;obtain⟨dx,h1⟩:=R.ob;refine⟨_,(aj (aE (aN (lP rfl) (by rfl) T.sum ud (aa (vQ (gp (cl:=[("self",s.heap.objs.size+1)]) (caps:=[("self",0)]) ⟨rfl,ao,ao,rfl,by kernel_rfl,by intro p L;simp only[mem_cons,not_mem_nil,or_false]at L;rcases L with rfl<;>first|rfl|exact⟨rfl,.inl rfl,.inl rfl⟩|exact⟨rfl,.inl rfl,.inr rfl⟩,by kernel_rfl,by intro p L;simp only[mem_cons,not_mem_nil,or_false]at L;rcases L with rfl<;>first|rfl|exact⟨rfl,.inl rfl,.inl rfl⟩|exact⟨rfl,.inl rfl,.inr rfl⟩,ao⟩ rfl (pj (aJ (pv 0) rfl)) (λ_ _ _ _=>fm) (λ_ _ _ _=>(aN (show dr _ _ (vR K)from xp) (by rfl) T.len boot_len (aa (sF (bA (bj hr) (show PE _ _ (BJ K _ "rooms")from aJ (pv 1) rfl) (pv 0) (λ_ _=>rfl)) TT.cl aB hr aw) ai))))) ai)))),?_⟩;have hn:∀(o:Obj) u',H a.rd≠some (.frz o u'):=λo u' z=>(by rw[R.hd]at z;cases z);refine⟨_,rfl,a.rp,c.C,dx,_,_,rfl,h1,T.cl,T.nR,fG _ _ _,a.rd,_,rfl,R.hd,hn,λo=>?_⟩;have am:a.rp≠a.rd:=λz=>(by rw[z,R.hd]at h1;cases h1);have N:Off (· = a.rd) H (upd H a.rd (.frz o (.dK (Tb.dk fR W)))):=Off.wr rfl;have S:(upd H a.rd (.frz o (.dK (Tb.dk fR W)))) a.rd=some (.frz o (.dK (Tb.dk fR W))):=ae;have aT:=N _ _ h1 am;have ap:∀x∈W,cZ c.T (upd H a.rd (.frz o (.dK (Tb.dk fR W)))) x.2:=λx G=>by
   obtain⟨a2,h3⟩:=(R.tb x G).at_.ob;exact(R.tb x G).off N (λz=>by rw[z,R.hd]at h3;cases h3) (λb z=>(R.dm x G b z).2.2) (λb xs e z=>by rw[z,R.hd]at e;cases e)
  refine u4 (a:=a.rd) (o:=o) (kvs:=Tb.dk fR W) (λi ys H2=>ys=((W.take i).map λx=>(x.2.t.length:Int)).map V.int/\a8 (upd H a.rd (.frz o (.dK (Tb.dk fR W)))) H2) ⟨rfl,λ_ _ e=>e⟩ (λi zs H2 _ ⟨_,e⟩=>e _ _ S) ?_ ?_
  .rintro i kk v zs H2 hk ⟨rfl,I⟩;have ac:(W.map λx:Int×TD=>((Sum.inl x.1:Key),fR x.2))[i]?=some (kk,v):=hk;rw[getElem?_map]at ac;obtain⟨x,G,e⟩:=Option.map_eq_some_iff.mp ac;cases e;have U:=mem_of_getElem? G;have hi:i<W.length:=(List.getElem?_eq_some_iff.mp G).1;have a0:Tb.look W x.1=some x.2:=Tb.bN R.nd U;have hg:dB H2 a.rd (.int x.1) (some (fR x.2)):=.inl ⟨Tb.dk fR W,Sum.inl x.1,.inr ⟨o,I _ _ S⟩,rfl,by rw[Tb.cK,a0];rfl⟩;have Y:=ap x U;have T2:=Y.at_.same I;obtain⟨as,ht⟩:=T2.ob;refine⟨_,rfl,a.rp,c.C,dx,_,_,rfl,I _ _ aT,T.cl,T.nR,fG _ _ _,_,rfl,a.rd,fR x.2,rfl,hg,x.2.p,as,_,rfl,ht,Tb.aW _ ao,x.2.p,x.2.fs,x.2.tb,rfl,T2,λH3 l ns s3 fl J pm a1=>?_⟩;refine⟨l,_,rfl,.inl (bq.of J),?_,?_,I.trans s3⟩
   .rw[length_map,length_map,length_take];omega
   .rw[length_map,Y.len pm,take_add_one,G,map_append,map_append];rfl
  .rintro zs H2 ⟨rfl,I⟩ l J;have ab:=I _ _ S;have ad:l≠a.rd:=λz=>(by rw[z,ab]at J;cases J);refine⟨a.rd,o,Tb.dk fR W,by rw[ah (Ne.symm ad)];exact ab,hn,l,(W.map λx=>(x.2.t.length:Int)),rfl,bq.of ?_,?_⟩
   .rw[ah ad,ae,Tb.cm,take_length]
   .have e9:=lW W;unfold heldW at e9;rw[e9];refine k _ λb u e=>?_;by_cases z:b=a.rd
    .rw[z,ae, <-e,z,R.hd]
    .have O:H2 b=some u:=I _ _ (N _ _ e z);rw[ah z,ah (λy=>by rw[y,J]at O;cases O)];exact O
theorem FP:az ["self","task","page","entry"] ["self","task","page"] (aq p7):=L2.bD
theorem xR {f:Addr}{fd:FuncData}{c:CA}(F:cL K "place" "Rooms.place" p7 f fd) (T:qK K mg c) (TT:Tb.Txt K mg c.T) (TP:mZ K mg c.P) (GR:Df P w K mg base aU 1 "room_of" dN) (GG:Md P w K mg base aU 3 c.T "get" (Tb.mD c.T)) (Bk:Md P w K mg base aU 1 c.P "place" (ie c.P c.S)):bf P w K mg base aU 4 f fd ["self","task","page"] (mS c):=by
 obtain⟨Y,mB,sB⟩:=T.bl;have rB:RelV (.ref Y) (.ref Y):=rfl;refine F.ok FP (λvs H Q E h=>?_) (λas A outer s H vs Q E J h=>?_)
 .obtain⟨M,a,s',W,t,q,x,rfl,_⟩:=h;rfl
 .obtain⟨M,a,s',W,t,q,x,rfl,R,ri,O,k⟩:=h;obtain⟨dx,ho⟩:=R.ob;have U:=R.tb _ (Tb.aA O);obtain⟨ap,ht⟩:=U.at_.ob;refine⟨_,(ag (aK (i:=3) FP.nd rfl (Or.inl rfl) (pm (pc GR J aw (aa (aJ (pv 0) rfl) (aa (pv 1) ai))) TT.cl GG J aw (aa (pv 2) ai)))
   (ag (aS (PW.pt (gj (aC DJ (pv 3) pW (aH _)) (eY (aC (ug J.gn) (pv 3) (cj (by rfl) mB rB) (aH _))))) (aj (aE (pv 3))) aF)
   (aj (aE (pm (aJ (pv 0) rfl) TP.cl Bk J aw (aa (aZ bh (pv 3) ak (λ_ _=>rfl)) ai)))))),?_⟩
  refine⟨_,rfl,a.rp,c.C,dx,_,_,rfl,ho,T.cl,T.nR,fG _ _ _,_,rfl,a.rd,W,t,x,rfl,R.hd,O,?_⟩;refine⟨x.p,ap,_,rfl,ht,Tb.aW _ ao,_,rfl,x.p,x.fs,x.tb,q,rfl,U.at_,λH1 v I G=>?_⟩;rw[U.lk]at G;cases N:Tb.look x.t q with
  |none =>
   rw[N]at G k;have G:v=.non:=G;subst G;exact⟨_,rfl,rfl,_,rfl,dG (dG ⟨_,rfl,k H1 _ I rfl⟩)⟩
  |some e =>
   rw[N]at G k;obtain⟨tt,rfl,L⟩:=G;have R1:=R.same I;obtain⟨ac,ad⟩:=R1.ob;obtain⟨ab,h2⟩:=R1.pg.ob;refine⟨_,rfl,rfl,_,rfl,bw ?_⟩;refine⟨_,rfl,tt,Y,_,_,rfl,rfl,bR.of L,iE.sq (.inr sB),?_⟩;cases e with
   |none=>exact⟨rfl,rfl,_,rfl,dG ⟨_,rfl,k H1 _ I ⟨tt,rfl,L⟩⟩⟩
   |some j =>
    refine⟨rfl,rfl,_,rfl,bw ?_⟩;obtain⟨cs,cc,b,n,hj,_,_⟩:=ri.is j (jA O N);exact⟨_,rfl,a.rp,c.C,ac,_,_,rfl,ad,T.cl,T.nP,kE _ _ _,a.A.pg,ab,_,rfl,h2,cD _ _ ao ao ao ao ao,_,rfl,tt,_,1,_,rfl,rfl,bR.of L,rfl,M,a.A,s',j,b,n,rfl,R1.pg,hj,λt' am=>k H1 _ I ⟨t',b,n,rfl,hj,am⟩⟩
theorem Bx:az ["self","task","page","many","table","pages","wanted"] ["self","task","page","many"] (aq Ak):=L2.bD
theorem Bh {f:Addr}{fd:FuncData}{c:CA}(F:cL K "map" "Rooms.map" Ak f fd) (T:qK K mg c) (TT:Tb.Txt K mg c.T) (GR:Df P w K mg base aU 1 "room_of" dN) (GM:Df P w K mg base aU 2 "pages_to_map" Rm.qI) (GA:Df P w K mg base aU 1 "refuse_above" k8) (bi:Md P w K mg base aU 1 c.T "pages" (Tb.eM c.T)) (GH:Md P w K mg base aU 2 c.C "held" (jJ c)) (GL:Md P w K mg base aU 3 c.T "lay" (Tb.rO K c.T)):bf P w K mg base aU 4 f fd ["self","task","page","many"] (uL c):=by
 obtain⟨aB,mB,sB⟩:=T.bl;have rB:RelV (.ref aB) (.ref aB):=rfl;refine F.ok Bx (λvs H Q E h=>?_) (λb7 A outer s H vs Q E U h=>?_)
 .obtain⟨M,a,s',W,cv,t,p,m,x,rfl,_⟩:=h;rfl
 .obtain⟨M,a,s',W,cv,t,p,m,x,rfl,R,ri,b4,lw,I,N,a2,bY,q⟩:=h;obtain⟨dx,ho⟩:=R.ob;have TX:=R.tb _ (Tb.aA I);obtain⟨be,ht⟩:=TX.at_.ob;have b1:¬ m<1:=λz=>N (.inl z);have b2:¬ p<0:=λz=>N (.inr (.inl z));have b3:¬ 64<p+m:=λz=>N (.inr (.inr z));have pl:=tU N;refine⟨_,(ag (aK (i:=4) Bx.nd rfl (Or.inl rfl) (pc GR U aw (aa (aJ (pv 0) rfl) (aa (pv 1) ai))))
   (ag (aK (i:=5) Bx.nd rfl (Or.inl rfl) (pc GM U aw (aa (sF (pv 4) TT.cl bi U aw) (aa (pv 2) (aa (pv 3) ai)))))
   (ag (aL (pc GA U aw (aa (ay bu (sF (pv 0) T.cl GH U aw) (aN bF (by rfl) T.len boot_len (aa (pv 5) ai))) (aa (aJ (pv 0) rfl) ai))))
   (aj (cO PassesOwn.never rfl (fA (pv 5)) (aX (i:=6) Bx.nd rfl (Or.inl rfl)) (aj (aL (pm (pv 4) TT.cl GL U aw (aa (pv 6) (aa (cj (by rfl) mB rB) ai)))))))))),?_⟩
  refine⟨_,rfl,a.rp,c.C,dx,_,_,rfl,ho,T.cl,T.nR,fG _ _ _,_,rfl,a.rd,W,t,x,rfl,R.hd,I,?_⟩;refine⟨_,rfl,x.p,be,_,rfl,ht,Tb.aW _ ao,x.p,x.fs,x.tb,rfl,TX.at_,λH1 l1 ns s1 b8 b0 pm b6=>?_⟩;refine⟨_,rfl,_,rfl,l1,ns,p,m,rfl,b0,N,λz h1 h2=>absurd (a2 z h1) ((TX.mem pm z).mp h2),λH2 l2 s2 bx bv=>?_⟩;have S2:=s1.trans s2;have R2:=R.same S2;obtain⟨bn,a7⟩:=R2.ob;refine⟨_,rfl,a.rp,bn,_,rfl,a7,gi _ _ _ ao ao ao,M,a,s',W,rfl,R2,lw,λH3 s3=>?_⟩;have as:=s3 _ _ bv;have R3:=R2.same s3;obtain⟨a5,a4⟩:=R3.ob;refine⟨_,rfl,l2,_,rfl,.inl (bq.of as),_,_,rfl,rfl,_,rfl,a.rp,c.C,a5,_,_,rfl,a4,T.cl,T.nT,EA _ _ _,_,_,rfl,?_,?_⟩
  .rw[length_map,pl];omega
  have S3:=S2.trans s3;have ba:¬ M l2:=λz=>R.mt _ z (s1.free bx);have a6:¬ a.own W l2:=λz=>ba (R.dR l2 z);refine⟨_,rfl,l2,rfl,⟨_,bq.of as⟩,?_⟩;refine eT (K:=K) (a:=l2) (xs:=(Rm.aR p m).map V.int) (λi σ S=>FR λ(v6:Option V) (M4:Addr->Prop) (y:TD)=>Gx (σ=[some (.ref a.rp),some (.int t),some (.int p),some (.int m),some (.ref y.p),some (.ref l2),v6]) (ax c S M4 a s' (Tb.aY W t y)) (Pg.RI s' (ents (Tb.aY W t y))) ((ents (Tb.aY W t y)).length=(ents W).length+i) (Cv s' (Tb.aY W t y) (jv cv t ((Rm.aR p m).take i))) ((∀q,Tb.look y.t q=if q∈(Rm.aR p m).take i then some none else Tb.look x.t q)) (Step H3 M (a.own W) S M4 (a.own (Tb.aY W t y))))
   ⟨_,M,x,rfl,by rw[cF R.nd I];exact R3,by rw[cF R.nd I];exact ri,by rw[cF R.nd I];rfl,by rw[cF R.nd I,take_zero,wH];exact b4,λq=>by simp,by rw[cF R.nd I];exact R3.refl⟩ (λi σ S _ z0=>by obtain⟨_,_,_,_,_,_,_,_,_,st⟩:=z0;exact bq.of (st.off _ _ as a6)) ?_ ?_
  .rintro i u σ S hu ⟨v6,M4,y,rfl,Y,a0,a1,ad,ac,aT⟩;rw[getElem?_map]at hu;obtain⟨G,hp,rfl⟩:=Option.map_eq_some_iff.mp hu;have a3:=mem_of_getElem? hp;obtain⟨hi,b5⟩:=List.getElem?_eq_some_iff.mp hp;have bb:¬ G∈(Rm.aR p m).take i:=λz=>by
    obtain⟨j,hj,e⟩:=getElem_of_mem z;rw[getElem_take]at e;rw[length_take]at hj;exact oi (oa p m) j i (getElem?_eq_getElem af) hp af e
   have ap:=iA (y:=y) I;have T4:=Y.tb _ (Tb.aA ap);obtain⟨bm,bc⟩:=T4.at_.ob;have bd:Tb.look y.t G=none:=(by rw[ac,if_neg bb];exact a2 G a3);obtain⟨r1,r2,_⟩:=Rm.xO N G a3;refine⟨_,rfl,y.p,bm,_,rfl,bc,Tb.aW _ ao,_,rfl,y.p,y.fs,aB,y.tb,G,[.str "blank"],rfl,T4.at_,r1,r2,.inr sB,rfl,λH5 am T5 l5 o5 n5=>?_⟩;have bI:cZ c.T H5 ⟨y.p,y.fs,am,(G,none)::y.t⟩:=⟨T5,List.nodup_cons.mpr ⟨Tb.cp bd,T4.nd⟩,λj=>by
    rw[l5 j,Tb.aM];by_cases z:j=G
    .rw[if_pos z,if_pos z.symm];rfl
    .rw[if_neg z,if_neg (Ne.symm z)];exact T4.lk j⟩
   have R5:=Y.uB (y:=⟨y.p,y.fs,am,(G,none)::y.t⟩) ap rfl bI o5 n5;have S5:=aT.trans (Y.pB (y:=⟨y.p,y.fs,am,(G,none)::y.t⟩) ap o5 n5);have pe:(ents (Tb.aY W t ⟨y.p,y.fs,am,(G,none)::y.t⟩)).Perm (none::ents (Tb.aY W t y)):=(gR R.nd I).trans ((gR (y:=y) R.nd I).symm.cons none);rw[set_set]at R5 S5;have bG:(ents (Tb.aY W t y)).length<(s'.ow true).length+(s'.ow false).length:=by
    rw[a1];unfold bP at bY;omega
   refine⟨_,_,⟨y.p,y.fs,am,(G,none)::y.t⟩,rfl,R5,(a0.lay bG).perm pe.symm,by rw[pe.length_eq,length_cons,a1];omega,?_,?_,S5⟩
   .intro O bz ab q e L;rw[Tb.bU O I]at ab;rw[take_add_one,hp];by_cases z:O=t
    .rw[if_pos z]at ab;cases ab;have L:Tb.look ((G,none)::y.t) q=some e:=L;rw[Tb.aM]at L;by_cases J:G=q
     .rw[if_pos J]at L;cases L;show jv cv t _ O q=_;unfold jv;rw[if_pos ⟨z,by rw[<-J];simp⟩]
     .rw[if_neg J]at L;rw[show(some G).toList=[G]from rfl,si (λh=>J h.2.symm)];exact ad O y (by rw[z];exact ap) q e L
    .rw[if_neg z]at ab;rw[show(some G).toList=[G]from rfl,si (λh=>z h.1)];exact ad O bz (by rw[Tb.bU O I,if_neg z];exact ab) q e L
   .intro j;show Tb.look ((G,none)::y.t) j=_;rw[Tb.aM,ac j,take_add_one,hp];by_cases z:G=j
    .rw[if_pos z,if_pos (by rw[<-z];simp)]
    .rw[if_neg z];by_cases J:j∈(Rm.aR p m).take i
     .rw[if_pos J,if_pos (mem_append_left _ J)]
     .rw[if_neg J,if_neg (by simp[Ne.symm z,J])]
  .rintro σ S ⟨v6,M4,y,rfl,Y,a0,a1,ad,ac,aT⟩;rw[length_map,take_length]at ad ac;exact q S M4 y Y a0 ad ac ((R.iH S3).trans aT)
end
end St
namespace Rm
theorem jk {ad n:Int}{F:List Int}(h:¬ di ad n F):(aO ad n).length<=64/\∀q∈aO ad n,q∈F:=by
 unfold aO;by_cases e:n=0
 .rw[if_pos e];exact⟨zero_le _,λ_ h=>nomatch h⟩
 .rw[if_neg e];have G:0<n:=by
   have:¬ n<0:=λz=>h (.inl z);omega
  have h1:¬ cu (jq ad) (iG ad n):=λz=>h (.inr ⟨G,.inl z⟩);have h2:∀q∈aR (jq ad) (iG ad n),q∈F:=Classical.byContradiction λz=>h (.inr ⟨G,.inr z⟩);refine⟨?_,h2⟩;unfold aR;rw[length_map,length_range];have I:¬ jq ad<0:=λz=>h1 (.inr (.inl z));have J:¬ 64<jq ad+iG ad n:=λz=>h1 (.inr (.inr z));omega
theorem vC {ad n:Int}{I G:List Int}(h:∀q,q∈I->q∈G) (F:di ad n G):di ad n I:=by
 rcases F with F|⟨h1,h2⟩
 .exact .inl F
 .refine .inr ⟨h1,h2.imp id λz y=>z λq J=>h q (y q J)⟩
end Rm
namespace St
open PySem L2
def dv (f:Int->List Int) (ps:List Int):List Int:=(ps.map f).flatten
theorem eL {f:Int->List Int}{ps:List Int}{i:Nat}{q:Int}(h:ps[i]?=some q):dv f (ps.take (i+1))=dv f (ps.take i)++f q:=by
 unfold dv;rw[take_add_one,h,map_append,List.flatten_append];simp
theorem ya.len {s:Pg.PS}{e:Pg.Ent}{cs:List Int}(G:Pg.Good s) (h:Pg.ya s e cs):cs.length=8:=by
 cases e with
 |none=>rw[show cs=replicate 8 0 from h];simp
 |some k=>obtain⟨c,h⟩:=h;exact(G.vw h).2
inductive qc (c:CA) (vs:List V) (H:Hp) (Q:VK) (e3:XK):Prop
 |mk (M:Addr->Prop) (a:RA) (s:Pg.PS) (W:dY) (cv:Int->Int->List Int) (t ad:Int) (n:Nat) (x:TD) (_:vs=[.ref a.rp,.int t,.int ad,.int n]) (_:ax c H M a s W) (_:Pg.RI s (ents W)) (_:Cv s W cv) (_:Tb.look W t=some x) (_:n<=600) (_:0<=ad) (_:ad<=1000) (_:¬ Rm.di ad n (x.t.map (·.1))) (_:∀(H':Hp) (M':Addr->Prop) (s':Pg.PS) (l:Addr),ax c H' M' a s' W->Pg.RI s' (ents W)->Cv s' W cv->Step H M (a.own W) H' M' (a.own W)->(∀b,(s'.ow b).length=(s.ow b).length)->H l=none->H' l=some (.lst ((((dv (cv t) (Rm.aO ad n)).drop (ad%8).toNat).take n).map V.int))->Q (.ref l) H'):qc c vs H Q e3
section
variable {P:Program}{w:World}{K:Frag}{mg:Str->Option Value}{base:Heap}
variable {c:CA}{H H':Hp}{M M' B:Addr->Prop}{a:RA}{s s':Pg.PS}{W:dY}{t:Int}{x y:TD}
theorem nameQ {i:Nat}{v:V}{σ:L2.St}{H:Hp}{Q:L2.St->Hp->Prop}(h:Q (σ.set i (some v)) H):r9 i v σ H Q:=h
theorem ax.II (R:ax c H M a s W) {l:Addr}{xs ys:List V}(I:H l=some (.lst xs)) (F:M l) (G:¬ a.own W l):ax c (upd H l (.lst ys)) M a s W :=
 R.BM (B:=(· = l)) (Off.wr rfl) (λb z=>by rw[z];exact⟨F,G⟩) (λb z=>.inl ⟨xs,by rw[z];exact I⟩) (λb z=>.inl z) (λb z _=>z) (λb z e=>by
  by_cases q:b=l
  .rw[q,ae]at e;cases e
  .rw[ah q]at e;exact R.mt b z e)
theorem ax.ED (R:ax c H M a s W) {l:Addr}{o:HO}(F:H l=none):ax c (upd H l o) (λb=>M b\/b=l) a s W :=
 R.BM (B:=λ_=>False) (λb u e _=>cJ F b u e id) (λb z=>z.elim) (λb z=>z.elim) (λb z=>z.elim .inl λz=>.inr (by rw[z];exact F)) (λb z _=>.inl z) (λb z e=>by
  by_cases q:b=l
  .rw[q,ae]at e;cases e
  .rw[ah q]at e;exact z.elim (λz=>R.mt b z e) q)
theorem cZ.keys (T:cZ c.T H x) (q:Int):q∈x.t.map (·.1)↔Tb.look x.t q≠none:=by
 constructor
 .intro h e;exact Tb.cp e h
 .intro h;cases e:Tb.look x.t q with
  |none=>exact absurd e h
  |some v=>exact List.mem_map.mpr ⟨_,Tb.aA e,rfl⟩
theorem zH:az ["self","task","address","many","table","whole","page","entry"] ["self","task","address","many"] (aq uG):=L2.bD
theorem yV {f:Addr}{fd:FuncData}{c:CA}(F:cL K "peek" "Rooms.peek" uG f fd) (T:qK K mg c) (TT:Tb.Txt K mg c.T) (TP:mZ K mg c.P) (GR:Df P w K mg base aU 1 "room_of" dN) (GO:Df P w K mg base aU 2 "pages_of_cells" Rm.iu) (b6:Df P w K mg base aU 1 "run_within" Rm.mz) (bY:Md P w K mg base aU 1 c.T "pages" (Tb.eM c.T)) (GG:Md P w K mg base aU 3 c.T "get" (Tb.mD c.T)) (ce:Md P w K mg base aU 7 c.P "fetch" (lg c.P c.S)) (b3:Md P w K mg base aU 5 c.C "cells_of" (ix c)):bf P w K mg base aU 8 f fd ["self","task","address","many"] (qc c):=by
 obtain⟨aB,mB,sB⟩:=T.bl;have rB:RelV (.ref aB) (.ref aB):=rfl;refine F.ok zH (λvs H Q E h=>?_) (λcC A outer s H vs Q E N h=>?_)
 .obtain⟨M,a,s',W,cv,t,ad,n,x,rfl,_⟩:=h;rfl
 .obtain⟨M,a,s',W,cv,t,ad,n,x,rfl,R,ri,ch,hx,n6,cP,cx,hb,q⟩:=h;have hs:sizeLine=16777216:=sizeLine_eq;obtain⟨dx,ho⟩:=R.ob;have TX:=R.tb _ (Tb.aA hx);obtain⟨c1,c2⟩:=Rm.jk hb;refine⟨_,(ag (aK (i:=4) zH.nd rfl (Or.inl rfl) (pc GR N aw (aa (aJ (pv 0) rfl) (aa (pv 1) ai))))
   (ag (aK (i:=5) zH.nd rfl (Or.inl rfl) (bX ai))
   (ag (cO PassesOwn.never rfl (fA (pc GO N aw (aa (sF (pv 4) TT.cl bY N aw) (aa (pv 2) (aa (pv 3) ai))))) (aX (i:=6) zH.nd rfl (Or.inl rfl)) (ag (aK (i:=7) zH.nd rfl (Or.inl rfl) (pm (pv 4) TT.cl GG N aw (aa (pv 6) ai)))
   (ag (aS (aC (oP N.gn) (pv 7) (cj (by rfl) mB rB) (aH _)) (aj (aL (pm (aJ (pv 0) rfl) TP.cl ce N aw (aa (aZ bh (pv 7) ak (λ_ _=>rfl)) ai)))) aF)
   (aj (aL (gI plainAttrs_list slot_list_extend type_list_extend oy (pv 5) (aa (pm (pv 0) T.cl b3 N aw (aa (pv 7) ai)) ai)))))))
   (aj (aE (pc b6 N aw (aa (pv 5) (aa (pv 2) (aa (pv 3) ai))))))))),?_⟩
  refine⟨_,rfl,a.rp,c.C,dx,_,_,rfl,ho,T.cl,T.nR,fG _ _ _,_,rfl,a.rd,W,t,x,rfl,R.hd,hx,?_⟩;refine⟨av,λG ab=>?_⟩;have R1:=R.ED (o:=.lst []) ab;have s1:a8 H (upd H G (.lst [])):=Tb.au ab;have be:upd H G (.lst []) G=some (.lst []):=ae;generalize upd H G (.lst [])=H1 at *;have a6:¬ a.own W G:=λz=>R.mt _ (R.dR _ z) ab;have bb:=R1.tb _ (Tb.aA hx);obtain⟨b9,ht⟩:=bb.at_.ob;refine⟨_,rfl,x.p,b9,_,rfl,ht,Tb.aW _ ao,x.p,x.fs,x.tb,rfl,bb.at_,λH2 l2 ns s2 cT b1 pm cr=>?_⟩;have bi:∀{z},z∈x.t.map (·.1)->z∈ns:=λ{z} h=>(TX.mem pm z).mpr ((TX.keys z).mp h);refine⟨_,rfl,_,rfl,l2,ns,ad,n,rfl,b1,λh=>hb (Rm.vC (λz hz=>bi hz) h),λH3 l3 s3 bv ba=>?_⟩;have S3:=s2.trans s3;have R3:=R1.same S3;have b5:=S3 _ _ be;have aT:H1 l3=none:=s2.free bv;have b2:¬ a.own W l3:=λz=>R1.mt _ (R1.dR _ z) aT;have bG:l3≠G:=λz=>(by rw[z,be]at aT;cases aT);refine⟨l3,rfl,⟨_,bq.of ba⟩,?_⟩;refine eT (K:=K) (a:=l3) (xs:=(Rm.aO ad n).map V.int) (λi σ H4=>FR λ(v6 v7:Option V) (I:Pg.PS)=>GN (σ=[some (.ref a.rp),some (.int t),some (.int ad),some (.int n),some (.ref x.p),some (.ref G),v6,v7]) (ax c H4 (λb=>M b\/b=G) a I W) (Pg.RI I (ents W)) (Cv I W cv) (H4 G=some (.lst ((dv (cv t) ((Rm.aO ad n).take i)).map V.int))) ((dv (cv t) ((Rm.aO ad n).take i)).length=8*i) (Off (λb=>a.own W b\/b=G) H3 H4) (∀b,(I.ow b).length=(s'.ow b).length))
   ⟨_,_,s',rfl,R3,ri,ch,b5,rfl,λ_ _ e _=>e,λ_=>rfl⟩ (λi σ H4 _ z0=>by obtain⟨_,_,_,_,_,_,_,_,_,U,_⟩:=z0;exact bq.of (U _ _ ba λz=>z.elim b2 bG)) ?_ ?_
  .rintro i u σ H4 hu ⟨v6,v7,I,rfl,R4,O,as,am,ci,U,ap⟩;rw[getElem?_map]at hu;obtain⟨p,hp,rfl⟩:=Option.map_eq_some_iff.mp hu;have bn:=mem_of_getElem? hp;obtain⟨hi,cS⟩:=List.getElem?_eq_some_iff.mp hp;have T4:=R4.tb _ (Tb.aA hx);obtain⟨ca,bI⟩:=T4.at_.ob;obtain⟨e,he⟩:∃e,Tb.look x.t p=some e:=by
    cases z:Tb.look x.t p with
    |none=>exact absurd z ((TX.keys p).mp (c2 p bn))
    |some e=>exact⟨e,rfl⟩
   refine⟨_,rfl,x.p,ca,_,rfl,bI,Tb.aW _ ao,_,rfl,x.p,x.fs,x.tb,p,rfl,T4.at_,λH5 v Y hv=>?_⟩;rw[T4.lk,he]at hv;obtain⟨tt,rfl,ac⟩:=hv;have L:=R4.same Y;have a4:=Y _ _ am;refine nameQ ?_;dsimp only;refine share (λσ H6=>∃J:Pg.PS,GN (σ=[some (.ref a.rp),some (.int t),some (.int ad),some (.int n),some (.ref x.p),some (.ref G),some (.int p),some (.ref tt)]) (ax c H6 (λb=>M b\/b=G) a J W) (Pg.RI J (ents W)) (Cv J W cv) (H6 tt=some (.tup (xk e))) (H6 G=some (.lst ((dv (cv t) ((Rm.aO ad n).take i)).map V.int))) (Off (λb=>a.own W b\/b=G) H3 H6) (∀b,(J.ow b).length=(s'.ow b).length)) (λu' a5=>?A) ?B
   case A =>
    refine⟨_,rfl,tt,aB,_,_,rfl,rfl,bR.of ac,iE.sq (.inr sB),?_⟩;cases e with
    |none =>
     refine⟨rfl,rfl,_,rfl,bw ?_⟩;exact a5 _ _ ⟨I,rfl,L,O,as,ac,a4,λb o e z=>Y _ _ (U b o e z),ap⟩
    |some k =>
     refine⟨rfl,rfl,_,rfl,dG ?_⟩;obtain⟨b4,bm⟩:=L.ob;obtain⟨a1,b7⟩:=L.pg.ob;obtain⟨cs,cc,hv⟩:=O.is k (jA hx he);refine⟨_,rfl,a.rp,c.C,b4,_,_,rfl,bm,T.cl,T.nP,kE _ _ _,a.A.pg,a1,_,rfl,b7,cD _ _ ao ao ao ao ao,_,rfl,tt,_,1,_,rfl,rfl,bR.of ac,rfl,_,a.A,I,k,cs,cc,rfl,L.Gy O,hv,λH6 J fe G6 O6=>?_⟩;have FF:=Pg.oM O.good fe;exact a5 _ _ ⟨J,rfl,L.ky G6 O6 FF.kept.ln,O.Ck fe,as.keep (Pg.uq O.good fe),O6 _ _ ac (L.pg.pJ _ _ ac),O6 _ _ a4 (λz=>a6 (.inl z)),λb o e z=>O6 _ _ (Y _ _ (U b o e z)) (λy=>z (.inl (.inl y))),λb=>(FF.kept.ln b).trans (ap b)⟩
   case B =>
    rintro σ H6 ⟨J,rfl,R6,a0,a2,bx,a7,o6,b8⟩;obtain⟨a1,b0⟩:=R6.ob;have bd:=a2 t x hx p e he;have c8:=ya.len a0.good bd;refine⟨_,rfl,.inl ⟨rfl,_,bq.of a7⟩,_,rfl,a.rp,a1,_,rfl,b0,gi _ _ _ ao ao ao,_,rfl,_,a,J,W,tt,e,cv t p,rfl,R6,a0.good,bx,bd,λH7 l7 s7 f7 h7=>?_⟩;have R7:=R6.same s7;have a3:=s7 _ _ a7;refine⟨G,l7,_,_,rfl,rfl,a3,h7,by rw[length_map,length_map];omega,?_⟩;rw[<-map_append, <-eL hp];refine⟨_,_,J,rfl,R7.II a3 (.inr rfl) a6,a0,a2,ae,by rw[eL hp,length_append];omega,λb o e z=>by rw[ah (λy=>z (.inr y))];exact s7 _ _ (o6 b o e z),b8⟩
  .rintro σ H4 ⟨v6,v7,I,rfl,R4,O,as,am,ci,U,ap⟩;rw[length_map,take_length]at am;refine⟨_,rfl,_,rfl,_,rfl,G,_,ad,n,rfl,am,λH5 l5 Y bc bz=>?_⟩;have L:=R4.same Y;have oA:Off (a.own W) H H5:=λb o e z=>Y _ _ (U _ _ (S3 _ _ (s1 _ _ e)) λy=>y.elim z λy=>by rw[y,ab]at e;cases e);refine q H5 _ I l5 L O as ⟨oA,λb z _=>.inl z,λb z=>z.elim .inl λz=>.inr (by rw[z];exact ab),λb z=>.inl z,R.mt,R.dR⟩ ap ?_ bz;cases z:H l5 with
   |none=>rfl
   |some o =>
    exfalso;by_cases w:a.own W l5
    .exact R4.mt _ (R4.dR _ w) bc
    .have:=U _ _ (S3 _ _ (s1 _ _ z)) λy=>y.elim w λy=>(by rw[y,ab]at z;cases z);rw[bc]at this;cases this
end
end St
namespace Rm
theorem vv {ad:Int}{cs ws:List Int}{L:List Int}(h:¬ di ad cs.length L) (F:ws.length=8*(aO ad cs.length).length):(eG ws (ad%8).toNat cs).length=8*(aO ad cs.length).length:=by
 unfold eG;rw[length_append,length_append,length_take,length_drop];by_cases e:((cs.length:Nat):Int)=0
 .have:aO ad cs.length=[]:=(by unfold aO;rw[if_pos e]);rw[this]at F ⊢;have N:ws.length=0:=F;have J:cs.length=0:=af;rw[N,J];simp
 .have G:(aO ad cs.length).length=(iG ad cs.length).toNat:=by
   unfold aO;rw[if_neg e];unfold aR;rw[length_map,length_range]
  have I:0<((cs.length:Nat):Int):=af;have h1:¬ cu (jq ad) (iG ad cs.length):=λz=>h (.inr ⟨I,.inl z⟩);have h2:¬ iG ad cs.length<1:=λz=>h1 (.inl z);rw[G]at F ⊢;unfold iG at *;omega +splitNatSub
theorem D2 {k:Nat}{ws:List Int}(h:ws.length=8*k):∀F∈gM k ws,F.length=8:=by
 intro F G;unfold gM at G;obtain⟨i,hi,rfl⟩:=List.mem_map.mp G;have:=List.mem_range.mp hi;rw[length_take,length_drop,h];lia
end Rm
namespace St
open PySem L2
def gP (cv:Int->Int->List Int) (t:Int) (l:List (Int×List Int)):Int->Int->List Int:=λt' q=>if t'=t then(Tb.look l q).getD (cv t' q)else cv t' q
theorem tV {cv:Int->Int->List Int}{t:Int}:gP cv t []=cv:=by
 funext t' q;unfold gP;by_cases z:t'=t
 .rw[if_pos z];rfl
 .rw[if_neg z]
theorem rD {cv:Int->Int->List Int}{t t' q:Int}{l:List (Int×List Int)}{p:Int}{r:List Int}:gP cv t ((p,r)::l) t' q=if t'=t/\q=p then r else gP cv t l t' q:=by
 unfold gP;by_cases z:t'=t
 .rw[if_pos z,if_pos z,Tb.aM];by_cases F:p=q
  .rw[if_pos F,if_pos ⟨z,F.symm⟩];rfl
  .rw[if_neg F,if_neg (λh=>F h.2.symm)]
 .rw[if_neg z,if_neg z,if_neg (λh=>z h.1)]
def uU (f:Int->List Int) (ad:Int) (cs:List Int):List (List Int):=Rm.gM (Rm.aO ad cs.length).length (Rm.eG (dv f (Rm.aO ad cs.length)) (ad%8).toNat cs)
inductive pV (K:Frag) (c:CA) (vs:List V) (H:Hp) (Q:VK) (e3:XK):Prop
 |mk (M:Addr->Prop) (a:RA) (s:Pg.PS) (W:dY) (cv:Int->Int->List Int) (t ad:Int) (ca:Addr) (cs:List Int) (x:TD) (_:vs=[.ref a.rp,.int t,.int ad,.ref ca]) (_:ax c H M a s W) (_:Pg.RI s (ents W)) (_:Cv s W cv) (_:Tb.look W t=some x) (_:bq K H ca (cs.map V.int)) (_:cs.length<=500) (_:0<=ad) (_:ad<=1000) (_:¬ Rm.di ad cs.length (x.t.map (·.1))) (_:∀(H':Hp) (M':Addr->Prop) (s':Pg.PS) (y:TD),ax c H' M' a s' (Tb.aY W t y)->Pg.RI s' (ents (Tb.aY W t y))->Cv s' (Tb.aY W t y) (gP cv t (((Rm.aO ad cs.length).zip (uU (cv t) ad cs)).reverse))->(∀q,¬ q∈Rm.aO ad cs.length->Tb.look y.t q=Tb.look x.t q)->(∀q∈Rm.aO ad cs.length,∃k,Tb.look y.t q=some (some k))->Step H M (a.own W) H' M' (a.own (Tb.aY W t y))->(∀b,(s'.ow b).length=(s.ow b).length)->Q .non H'):pV K c vs H Q e3
theorem p8 (ad n:Int):(Rm.aO ad n).Nodup:=by
 unfold Rm.aO;by_cases e:n=0
 .rw[if_pos e];exact nodup_nil
 .rw[if_neg e];exact oa _ _
theorem kF {α G:Type}{F:α->G->Prop}:∀{xs:List α}{ys:List G}{i:Nat}{x:α},Paired F xs ys->xs[i]?=some x->∃y,ys[i]?=some y/\F x y
 |_,_,_,_,.nil,e=>by simp at e
 |_,_,0,_,.cons r _,e=>by simp at e;subst e;exact⟨_,rfl,r⟩
 |_,_,i+1,x,.cons _ t,e=>by
  obtain⟨u,h1,h2⟩:=kF (i:=i) (x:=x) t (by simpa using e);exact⟨u,by simpa using h1,h2⟩
section
variable {P:Program}{w:World}{K:Frag}{mg:Str->Option Value}{base:Heap}
theorem tX:az ["self","task","address","cells","table","pages","whole","page","changed"] ["self","task","address","cells"] (aq tq):=L2.bD
theorem yC {f:Addr}{fd:FuncData}{c:CA}(F:cL K "poke" "Rooms.poke" tq f fd) (T:qK K mg c) (TT:Tb.Txt K mg c.T) (GR:Df P w K mg base aU 1 "room_of" dN) (GO:Df P w K mg base aU 2 "pages_of_cells" Rm.iu) (d1:Df P w K mg base aU 1 "pages_with" (Rm.ue K)) (d8:Md P w K mg base aU 1 c.T "pages" (Tb.eM c.T)) (GG:Md P w K mg base aU 3 c.T "get" (Tb.mD c.T)) (GL:Md P w K mg base aU 3 c.T "lay" (Tb.rO K c.T)) (c4:Md P w K mg base aU 5 c.C "cells_of" (ix c)) (dp:Md P w K mg base aU 9 c.C "sheet_with" (gO c)):bf P w K mg base aU 10 f fd ["self","task","address","cells"] (pV K c):=by
 refine F.ok tX (λvs H Q E h=>?_) (λev A outer s H vs Q E N h=>?_)
 .obtain⟨M,a,s',W,cv,t,ad,ca,cs,x,rfl,_⟩:=h;rfl
 .obtain⟨M,a,s',W,cv,t,ad,ca,cs,x,rfl,R,ri,cP,L,bY,n6,ew,er,hb,q⟩:=h;have hs:sizeLine=16777216:=sizeLine_eq;obtain⟨dx,ho⟩:=R.ob;have TX:=R.tb _ (Tb.aA L);obtain⟨d6,ht⟩:=TX.at_.ob;obtain⟨c1,c2⟩:=Rm.jk hb;refine⟨_,(ag (aK (i:=4) tX.nd rfl (Or.inl rfl) (pc GR N aw (aa (aJ (pv 0) rfl) (aa (pv 1) ai))))
   (ag (aK (i:=5) tX.nd rfl (Or.inl rfl) (pc GO N aw (aa (sF (pv 4) TT.cl d8 N aw) (aa (pv 2) (aa (aN bF (by rfl) T.len boot_len (aa (pv 3) ai)) ai)))))
   (ag (aK (i:=6) tX.nd rfl (Or.inl rfl) (bX ai))
   (ag (cO PassesOwn.never rfl (fA (pv 5)) (aX (i:=7) tX.nd rfl (Or.inl rfl)) (aj (aL (gI plainAttrs_list slot_list_extend type_list_extend oy (pv 6) (aa (pm (pv 0) T.cl c4 N aw (aa (pm (pv 4) TT.cl GG N aw (aa (pv 7) ai)) ai)) ai)))))
   (aj (cO PassesOwn.never rfl (D7 (by rfl) T.zip (aa (pv 5) (aa (pc d1 N aw (aa (pv 6) (aa (pv 2) (aa (pv 3) ai)))) ai))) (dw rfl (a9 (aX (i:=7) tX.nd rfl (Or.inl rfl)) (a9 (aX (i:=8) tX.nd rfl (Or.inl rfl)) cI))) (aj (aL (pm (pv 4) TT.cl GL N aw (aa (pv 7) (aa (cM (aa aI (aa (pm (pv 0) T.cl dp N aw (aa (pm (pv 4) TT.cl GG N aw (aa (pv 7) ai)) (aa (pv 8) ai))) ai))) ai))))))))))),?_⟩
  refine⟨_,rfl,a.rp,c.C,dx,_,_,rfl,ho,T.cl,T.nR,fG _ _ _,_,rfl,a.rd,W,t,x,rfl,R.hd,L,?_⟩;refine⟨_,rfl,x.p,d6,_,rfl,ht,Tb.aW _ ao,x.p,x.fs,x.tb,rfl,TX.at_,λH1 l1 ns s1 ey en pm eq=>?_⟩;have bi:∀{z},z∈x.t.map (·.1)->z∈ns:=λ{z} h=>(TX.mem pm z).mpr ((TX.keys z).mp h);refine⟨_,rfl,_,rfl,ca,_,rfl,.inl (Rm.ed bY (s1 _)),l1,ns,ad,cs.length,by rw[length_map];rfl,en,λh=>hb (Rm.vC (λz hz=>bi hz) h),λH2 l2 s2 dd bn=>?_⟩;generalize eP:Rm.aO ad cs.length=ps at *;have em:ps.Nodup:=(by rw[<-eP];exact p8 _ _);have S2:=s1.trans s2;have R2:=R.same S2;refine⟨av,λG a6=>?_⟩;have R3:=R2.ED (o:=.lst []) a6;have s3:a8 H2 (upd H2 G (.lst [])):=Tb.au a6;have da:upd H2 G (.lst []) G=some (.lst []):=ae;generalize upd H2 G (.lst [])=H3 at *;have a5:H G=none:=S2.free a6;have ea:¬ a.own W G:=λz=>R.mt _ (R.dR _ z) a5;have ba:=s3 _ _ bn;have el:H l2=none:=s1.free dd;have dI:¬ a.own W l2:=λz=>R.mt _ (R.dR _ z) el;have b8:l2≠G:=λz=>(by rw[z,a6]at bn;cases bn);have cc:∀p∈ps,∃e,Tb.look x.t p=some e:=λp as=>by
   cases z:Tb.look x.t p with
   |none=>exact absurd z ((TX.keys p).mp (c2 p as))
   |some e=>exact⟨e,rfl⟩
  refine⟨_,rfl,l2,rfl,⟨_,bq.of ba⟩,?_⟩;refine eT (K:=K) (a:=l2) (xs:=ps.map V.int) (λi σ Y=>∃v7:Option V,DV (σ=[some (.ref a.rp),some (.int t),some (.int ad),some (.ref ca),some (.ref x.p),some (.ref l2),some (.ref G),v7,none]) (ax c Y (λb=>M b\/b=G) a s' W) (Y G=some (.lst ((dv (cv t) (ps.take i)).map V.int))) ((dv (cv t) (ps.take i)).length=8*i) (Off (· = G) H3 Y))
   ⟨_,rfl,R3,da,rfl,λ_ _ e _=>e⟩ (λi σ Y _ z0=>by obtain⟨_,_,_,_,_,o4⟩:=z0;exact bq.of (o4 _ _ ba b8)) ?_ ?_
  .rintro i u σ Y hu ⟨v7,rfl,U,aB,a7,o4⟩;rw[getElem?_map]at hu;obtain⟨p,O,rfl⟩:=Option.map_eq_some_iff.mp hu;have as:=mem_of_getElem? O;obtain⟨hi,cT⟩:=List.getElem?_eq_some_iff.mp O;have T4:=U.tb _ (Tb.aA L);obtain⟨d9,d5⟩:=T4.at_.ob;obtain⟨df,ei⟩:=U.ob;obtain⟨e,he⟩:=cc p as;have b9:=cP t x L p e he;have c8:=ya.len ri.good b9;refine⟨_,rfl,.inl ⟨rfl,_,bq.of aB⟩,_,rfl,a.rp,df,_,rfl,ei,gi _ _ _ ao ao ao,_,rfl,x.p,d9,_,rfl,d5,Tb.aW _ ao,_,rfl,x.p,x.fs,x.tb,p,rfl,T4.at_,λH5 v s5 hv=>?_⟩;rw[T4.lk,he]at hv;obtain⟨tt,rfl,bm⟩:=hv;refine⟨_,a,s',W,tt,e,cv t p,rfl,U.same s5,ri.good,bm,b9,λH7 l7 s7 f7 h7=>?_⟩;have S7:=s5.trans s7;have R7:=U.same S7;have b5:=S7 _ _ aB;refine⟨G,l7,_,_,rfl,rfl,b5,h7,by rw[length_map,length_map];lia,?_⟩;rw[<-map_append, <-eL O];exact⟨_,rfl,R7.II b5 (.inr rfl) ea,ae,by rw[eL O,length_append];lia,λb o e z=>by rw[ah z];exact S7 _ _ (o4 b o e z)⟩
  .rintro σ Y ⟨v7,rfl,U,aB,a7,o4⟩;rw[length_map,take_length]at aB a7;have ec:bq K Y ca (cs.map V.int):=Rm.ed bY λo e=>o4 _ _ (s3 _ _ (S2 _ _ e)) (λz=>by rw[z,a5]at e;cases e);have db:=o4 _ _ ba b8;have bb:=Rm.vv hb (ws:=dv (cv t) ps) (by rw[eP];exact a7);rw[eP]at bb;refine⟨_,rfl,_,rfl,_,rfl,_,rfl,G,ca,_,cs,ad,ps.length,rfl,aB,ec,by rw[a7];lia,af,c1,bb,λH5 l5 rs s5 d3 b6 a3 dm et=>?_⟩;have R5:=U.same s5;have cC:=s5 _ _ db;have b3:rs.length=ps.length:=by
    rw[a3.length];unfold Rm.gM;rw[length_map,length_range]
   have h8:=Rm.D2 bb;generalize eC:Rm.gM ps.length (Rm.eG (dv (cv t) ps) (ad%8).toNat cs)=ch at a3 h8;have c5:ch.length=ps.length:=(by rw[<-a3.length,b3]);have d7:uU (cv t) ad cs=ch:=(by unfold uU;rw[eP];exact eC);have c0:Step H M (a.own W) H5 (λb=>M b\/b=G) (a.own W):=⟨λb o e z=>s5 _ _ (o4 _ _ (s3 _ _ (S2 _ _ e)) (λy=>by rw[y,a5]at e;cases e)),λb z _=>.inl z,λb z=>z.elim .inl λz=>.inr (by rw[z];exact a5),λb z=>.inl z,R.mt,R.dR⟩;have bG:∀r∈rs,¬ (M r\/r=G):=λr N z=>U.mt r z (dm r N);have dV:∀{l},Y l=none->¬ a.own W l:=λh z=>U.mt _ (U.dR _ z) h;refine⟨l2,l5,rfl,⟨_,bq.of cC⟩,⟨_,bq.of b6⟩,?_⟩;refine AQ (K:=K) (a:=l2) (b:=l5) (xs:=ps.map V.int) (ys:=rs.map V.ref) (λi σ H6=>AH λ(v7 v8:Option V) (M6:Addr->Prop) (s6:Pg.PS) (y:TD)=>GN (σ=[some (.ref a.rp),some (.int t),some (.int ad),some (.ref ca),some (.ref y.p),some (.ref l2),some (.ref G),v7,v8]) (ax c H6 M6 a s6 (Tb.aY W t y)) (Pg.RI s6 (ents (Tb.aY W t y))) (Cv s6 (Tb.aY W t y) (gP cv t (((ps.zip ch).take i).reverse))) ((∀q,¬ q∈ps.take i->Tb.look y.t q=Tb.look x.t q)) ((∀q∈ps.take i,∃k,Tb.look y.t q=some (some k))) (Step H5 (λb=>M b\/b=G) (a.own W) H6 M6 (a.own (Tb.aY W t y))) (∀b,(s6.ow b).length=(s'.ow b).length))
    ⟨_,_,_,s',x,rfl,by rw[cF R.nd L];exact R5,by rw[cF R.nd L];exact ri,by rw[cF R.nd L,take_zero];show Cv s' W (gP cv t []);rw[tV];exact cP,λ_ _=>rfl,λq hq=>by simp at hq,by rw[cF R.nd L];exact R5.refl,λ_=>rfl⟩ (by rw[length_map,length_map,b3]) (λi σ H6 _ z0=>by
     obtain⟨_,_,_,_,_,_,_,_,_,_,_,st,_⟩:=z0;exact⟨bq.of (st.off _ _ cC dI),bq.of (st.off _ _ b6 (dV d3))⟩) ?_ ?_
   .rintro i u v σ H6 z hu hv hz ⟨v7,v8,M6,s6,y,rfl,R6,be,a0,ap,a4,a2,bd⟩;rw[getElem?_map]at hu hv;obtain⟨p,O,rfl⟩:=Option.map_eq_some_iff.mp hu;obtain⟨r,b7,rfl⟩:=Option.map_eq_some_iff.mp hv;have cx:r∈rs:=mem_of_getElem? b7;have as:=mem_of_getElem? O;obtain⟨hi,cT⟩:=List.getElem?_eq_some_iff.mp O;obtain⟨am,b2,ce⟩:=kF a3 b7;have eb:=h8 am (mem_of_getElem? b2);have c7:¬ p∈ps.take i:=λz=>by
     obtain⟨j,I,e⟩:=getElem_of_mem z;rw[getElem_take]at e;rw[length_take]at I;exact oi em j i (getElem?_eq_getElem af) O af e
    have ep:=a2.off _ _ ce (λw=>bG r cx (R5.dR _ w));have dL:¬ M6 r:=λw=>(a2.mn r w).elim (bG r cx) λw=>(by rw[ce]at w;cases w);have sT:=Tb.au (X:=.tup [.int p,.ref r]) hz;refine⟨z,[.int p,.ref r],rfl,bR.of ae,rfl,.int p,[.ref r],rfl,.ref r,[],rfl,rfl,?_⟩;have R7:=R6.same sT;have S7:=a2.trans (R6.iH sT);have dM:=sT _ _ ep;generalize upd H6 z (.tup [.int p,.ref r])=H7 at *;have ab:=iA (y:=y) L;have T7:=R7.tb _ (Tb.aA ab);obtain⟨b4,bz⟩:=T7.at_.ob;obtain⟨dj,c9⟩:=R7.ob;obtain⟨e,b1⟩:=cc p as;have he:Tb.look y.t p=some e:=(ap p c7).trans b1;refine⟨_,rfl,y.p,b4,_,rfl,bz,Tb.aW _ ao,_,rfl,_,rfl,a.rp,dj,_,rfl,c9,gi _ _ _ ao ao ao,_,rfl,y.p,b4,_,rfl,bz,Tb.aW _ ao,_,rfl,y.p,y.fs,y.tb,p,rfl,T7.at_,λH8 v s8 hv=>?_⟩;rw[T7.lk,he]at hv;obtain⟨tt,rfl,bm⟩:=hv;have R8:=R7.same s8;have S8:=S7.trans (R7.iH s8);have pe:(ents (Tb.aY W t y)).Perm (e::(sP (Tb.bg y.t p)++ents (Tb.bg (Tb.aY W t y) t))):=(km R7.nd ab).trans ((su T7.nd he).append_right _);refine⟨_,rfl,M6,a,s6,Tb.aY W t y,tt,r,e,_,am,rfl,R8,be.perm pe,bm,s8 _ _ dM,dL,eb,λH9 s9 k R9 d4 cr dz ee dT=>?_⟩;refine⟨by show 2<=sizeLine;decide,λu fu=>?_⟩;have sU:=Tb.au (X:=.tup [.str "sheet",.int k]) fu;have bl:=R9.same sU;have ef:=(S8.trans ee).trans (R9.iH sU);have d2:upd H9 u (.tup [.str "sheet",.int k]) u=some (.tup [.str "sheet",.int k]):=ae;have ej:=bl.tb _ (Tb.aA ab);obtain⟨g1,g2⟩:=TX.pg (q:=p) (by rw[b1];simp);refine⟨y.p,y.fs,u,y.tb,p,[.str "sheet",.int k],rfl,ej.at_,g1,g2,.inl d2,rfl,λdO aT ek c3 bI cS=>?_⟩;have TI:cZ c.T dO ⟨y.p,y.fs,aT,(p,some k)::Tb.bg y.t p⟩:=⟨ek,Tb.CZ T7.nd,λj=>by
     rw[c3 j,Tb.jN];by_cases w:j=p
     .rw[if_pos w,if_pos w];rfl
     .rw[if_neg w,if_neg w];exact T7.lk j⟩
    have b0:=bl.uB (y:=⟨y.p,y.fs,aT,(p,some k)::Tb.bg y.t p⟩) ab rfl TI bI cS;have ci:=ef.trans (bl.pB (y:=⟨y.p,y.fs,aT,(p,some k)::Tb.bg y.t p⟩) ab bI cS);have bx:=As (y:=⟨y.p,y.fs,aT,(p,some k)::Tb.bg y.t p⟩) (e:=some k) (q:=p) R7.nd ab rfl;rw[set_set]at b0 ci bx;have eo:(ps.zip ch)[i]?=some (p,am):=by
     rw[List.getElem?_zip_eq_some];exact⟨O,b2⟩
    refine⟨_,_,_,s9,⟨y.p,y.fs,aT,(p,some k)::Tb.bg y.t p⟩,rfl,b0,d4.perm bx.symm,?_,?_,?_,ci,λb=>(dT b).trans (bd b)⟩
    .intro ac bc a1 q J S;rw[take_add_one,eo,show(some (p,am)).toList=[(p,am)]from rfl,reverse_append,show([(p,am)]:List (Int×List Int)).reverse=[(p,am)]from rfl,List.singleton_append,rD];rw[Tb.bU ac L]at a1;have bv:∀{J},J∈sP (Tb.bg y.t p)\/J∈ents (Tb.bg (Tb.aY W t y) t)->J∈sP (Tb.bg y.t p)++ents (Tb.bg (Tb.aY W t y) t):=λh=>List.mem_append.mpr h;by_cases w:ac=t
     .rw[if_pos w]at a1;cases a1;have S:Tb.look ((p,some k)::Tb.bg y.t p) q=some J:=S;rw[Tb.jN]at S;by_cases w2:q=p
      .rw[if_pos w2]at S;cases S;rw[if_pos ⟨w,w2⟩];exact dz
      .rw[if_neg w2]at S;rw[if_neg (λh=>w2 h.2)];refine cr J (bv (.inl ?_)) _ (a0 ac y (by rw[w];exact ab) q J S);exact List.mem_map.mpr ⟨(q,J),Tb.mM (Tb.aA S) w2,rfl⟩
     .rw[if_neg w]at a1;rw[if_neg (λh=>w h.1)];have h2:Tb.look (Tb.aY W t y) ac=some bc:=(by rw[Tb.bU ac L,if_neg w];exact a1);refine cr J (bv (.inr ?_)) _ (a0 ac bc h2 q J S);exact List.mem_flatMap.mpr ⟨(ac,bc),Tb.mM (Tb.aA h2) w,List.mem_map.mpr ⟨(q,J),Tb.aA S,rfl⟩⟩
    .intro j I;rw[take_add_one,O]at I;have w:j≠p:=λw=>I (by rw[w];simp);show Tb.look ((p,some k)::Tb.bg y.t p) j=_;rw[Tb.jN,if_neg w];exact ap j λh=>I (mem_append_left _ h)
    .intro j I;show ∃k',Tb.look ((p,some k)::Tb.bg y.t p) j=some (some k');rw[Tb.jN];by_cases w:j=p
     .rw[if_pos w];exact⟨k,rfl⟩
     .rw[if_neg w];rw[take_add_one,O]at I;rcases List.mem_append.mp I with I|I
      .exact a4 j I
      .exact absurd (by simpa using I) w
   .rintro σ H6 ⟨v7,v8,M6,s6,y,rfl,R6,be,a0,ap,a4,a2,bd⟩;rw[length_map,take_length]at ap a4;rw[length_map,take_of_length_le (by rw[List.length_zip,c5];lia), <-d7]at a0;exact q H6 M6 s6 y R6 be a0 ap a4 (c0.trans a2) bd
end
def yq (cv:Int->Int->List Int) (t o:Int):Int->Int->List Int:=λt' q=>if t'=o then cv t q else cv t' q
inductive pb (c:CA) (vs:List V) (H:Hp) (Q:VK) (e3:XK):Prop
 |mk (M:Addr->Prop) (a:RA) (s:Pg.PS) (W:dY) (cv:Int->Int->List Int) (t o:Int) (x:TD) (_:vs=[.ref a.rp,.int t,.int o]) (_:ax c H M a s W) (_:Pg.RI s (ents W)) (_:Cv s W cv) (_:W.length<=1000) (_:Tb.look W t=some x) (_:Tb.look W o=none) (_:(ents W).length+x.t.length<=bP s) (_:∀(H':Hp) (M':Addr->Prop) (s':Pg.PS) (y:TD),(∀q,Tb.look y.t q=Tb.look x.t q)->ax c H' M' a s' (W++[(o,y)])->Pg.RI s' (ents (W++[(o,y)]))->Cv s' (W++[(o,y)]) (yq cv t o)->Step H M (a.own W) H' M' (a.own (W++[(o,y)]))->(∀b,(s'.ow b).length=(s.ow b).length)->Q .non H'):pb c vs H Q e3
theorem sj (W:dY) (o:Int) (y:TD):ents (W++[(o,y)])=ents W++sP y.t:=by
 unfold ents;rw[flatMap_append];simp
section
variable {P:Program}{w:World}{K:Frag}{mg:Str->Option Value}{base:Heap}
theorem xc:az ["self","task","other","table","pages","copied","page","entry"] ["self","task","other"] (aq uH):=L2.bD
theorem yg {f fI:Addr}{fd dI:FuncData}{c:CA}(F:cL K "copy" "Rooms.copy" uH f fd) (T:qK K mg c) (TT:Tb.Txt K mg c.T) (TP:mZ K mg c.P) (MK:Mk K c.T fI) (b5:mg "Table" = some (.ref c.T)) (GR:Df P w K mg base aU 1 "room_of" dN) (GS:Df P w K mg base aU 1 "refuse_second_room" jE) (GA:Df P w K mg base aU 1 "refuse_above" k8) (GI:bf P w K mg base aU 1 fI dI ["self"] (Tb.gT c.T)) (bI:Binds K dI ["self"] []) (da:Md P w K mg base aU 1 c.T "pages" (Tb.eM c.T)) (GH:Md P w K mg base aU 2 c.C "held" (jJ c)) (GG:Md P w K mg base aU 3 c.T "get" (Tb.mD c.T)) (GL:Md P w K mg base aU 3 c.T "lay" (Tb.rO K c.T)) (c4:Md P w K mg base aU 4 c.P "share" (pL c.P c.S)):bf P w K mg base aU 5 f fd ["self","task","other"] (pb c):=by
 obtain⟨aB,mB,sB⟩:=T.bl;have rB:RelV (.ref aB) (.ref aB):=rfl;refine F.ok xc (λvs H Q E h=>?_) (λdV A outer s H vs Q E L h=>?_)
 .obtain⟨M,a,s',W,cv,t,o,x,rfl,_⟩:=h;rfl
 .obtain⟨M,a,s',W,cv,t,o,x,rfl,R,ri,dL,lw,Y,a1,cx,q⟩:=h;have hs:sizeLine=16777216:=sizeLine_eq;obtain⟨dx,ho⟩:=R.ob;have TX:=R.tb _ (Tb.aA Y);obtain⟨c9,ht⟩:=TX.at_.ob;refine⟨_,(ag (aK (i:=3) xc.nd rfl (Or.inl rfl) (pc GR L aw (aa (aJ (pv 0) rfl) (aa (pv 1) ai))))
   (ag (aL (pc GS L aw (aa (aJ (pv 0) rfl) (aa (pv 2) ai))))
   (ag (aK (i:=4) xc.nd rfl (Or.inl rfl) (sF (pv 3) TT.cl da L aw))
   (ag (aL (pc GA L aw (aa (ay bu (sF (pv 0) T.cl GH L aw) (aN bF (by rfl) T.len boot_len (aa (pv 4) ai))) (aa (aJ (pv 0) rfl) ai))))
   (ag (aK (i:=5) xc.nd rfl (Or.inl rfl) (sg MK GI (L.mono av) (by rfl) b5 bI .nil aw))
   (ag (cO PassesOwn.never rfl (fA (pv 4)) (aX (i:=6) xc.nd rfl (Or.inl rfl)) (ag (aK (i:=7) xc.nd rfl (Or.inl rfl) (pm (pv 3) TT.cl GG L aw (aa (pv 6) ai)))
   (ag (aL (pm (pv 5) TT.cl GL L aw (aa (pv 6) (aa (pv 7) ai))))
   (aj (aS (aC (oP L.gn) (pv 7) (cj (by rfl) mB rB) (aH _)) (aj (aL (pm (aJ (pv 0) rfl) TP.cl c4 L aw (aa (aZ bh (pv 7) ak (λ_ _=>rfl)) ai)))) aF)))))
   (aj (jH (bj L) (aJ (pv 0) rfl) (pv 2) (pv 5) rfl)))))))),?_⟩
  refine⟨_,rfl,a.rp,c.C,dx,_,_,rfl,ho,T.cl,T.nR,fG _ _ _,_,rfl,a.rd,W,t,x,rfl,R.hd,Y,?_⟩;refine⟨_,rfl,a.rp,c.C,dx,_,_,rfl,ho,T.cl,T.nR,fG _ _ _,_,rfl,a.rd,W,o,rfl,R.hd,a1,?_⟩;refine⟨_,rfl,x.p,c9,_,rfl,ht,Tb.aW _ ao,x.p,x.fs,x.tb,rfl,TX.at_,λH1 l1 ns s1 dp dm pm dO=>?_⟩;have R1:=R.same s1;have ci:ns.length=x.t.length:=TX.len pm;obtain⟨cT,ca⟩:=R1.ob;refine⟨_,rfl,a.rp,cT,_,rfl,ca,gi _ _ _ ao ao ao,M,a,s',W,rfl,R1,lw,λH2 s2=>?_⟩;have R2:=R1.same s2;have bd:=s2 _ _ dm;obtain⟨ce,b6⟩:=R2.ob;refine⟨_,rfl,l1,_,rfl,.inl (bq.of bd),_,_,rfl,rfl,_,rfl,a.rp,c.C,ce,_,_,rfl,b6,T.cl,T.nT,EA _ _ _,_,_,rfl,by rw[length_map,ci];omega,?_⟩;have S2:=s1.trans s2;refine λp cS np be dT=>⟨p,cS,rfl,ae,λfs H3 bv T3 off=>⟨rfl,?_⟩⟩;have s3:a8 H2 H3:=λb u e=>off b u (by rw[ah (ar e np),ah (ar e be)];exact e) (ar e np);have a3:H2 fs=none:=by
   cases e:H2 fs with
   |none=>rfl
   |some u=>rw[ah (ar e np),ah (ar e be),e]at bv;cases bv
  have bb:H fs=none:=S2.free a3;have c0:H p=none:=S2.free np;have R3:=R2.BM (H':=H3) (B:=λ_=>False) (M':=λb=>M b\/b=fs) (λb o e _=>s3 b o e) (λb z=>z.elim) (λb z=>z.elim) (λb z=>z.elim .inl λz=>.inr (by rw[z];exact a3)) (λb z _=>.inl z) (λb z e=>z.elim (λz=>(R2.same s3).mt b z e) λz=>by rw[z,T3.hf]at e;cases e);have bn:=s3 _ _ bd;have c1:¬ a.own W l1:=λz=>R.mt _ (R.dR _ z) dp;have c7:Step H M (a.own W) H3 (λb=>M b\/b=fs) (a.own W):=⟨λb o e _=>s3 _ _ (S2 _ _ e),λb z _=>.inl z,λb z=>z.elim .inl λz=>.inr (by rw[z];exact bb),λb z=>.inl z,R.mt,R.dR⟩;have dd:∀b,(TD.mk p fs [] []).eg b->b=fs:=λb z=>by
   rcases z with z|⟨_,Y,_⟩
   .exact z
   .cases Y
  have b7:ns.Nodup:=pm.nodup_iff.mpr (Tb.jL TX.at_);refine⟨_,rfl,l1,rfl,⟨_,bq.of bn⟩,?_⟩;refine eT (K:=K) (a:=l1) (xs:=ns.map V.int) (λi σ H4=>AH λ(v6 v7:Option V) (O:Addr->Prop) (I:Pg.PS) (y:TD)=>Ft (σ=[some (.ref a.rp),some (.int t),some (.int o),some (.ref x.p),some (.ref l1),some (.ref y.p),v6,v7]) (ax c H4 O a I W) (cZ c.T H4 y) ((∀b,y.eg b->O b/\¬ a.own W b/\H b=none/\b≠l1)) (¬ a.A.own y.p) ((∀q,Tb.look y.t q=if q∈ns.take i then Tb.look x.t q else none)) (Pg.RI I (sP y.t++ents W)) (y.t.length=i) (Cv I W cv) ((∀q e,Tb.look y.t q=some e->Pg.ya I e (cv t q))) (Step H M (a.own W) H4 O (a.own W)) (H4 l1=some (.lst (ns.map V.int))) (∀b,(I.ow b).length=(s'.ow b).length))
   ⟨_,_,_,s',⟨p,fs,[],[]⟩,rfl,R3,⟨T3,nodup_nil,λq=>rfl⟩,λb z=>?_,λz=>R.mt _ (R.ok.own _ z) c0,λq=>by simp[Tb.gW],ri,rfl,dL,λq e h=>(by cases h),c7,bn,λ_=>rfl⟩ (λi σ H4 _ z0=>by obtain⟨_,_,_,_,_,_,_,_,_,_,_,_,_,_,_,_,h,_⟩:=z0;exact bq.of h) ?_ ?_
  .rw[dd b z];exact⟨.inr rfl,λw=>R.mt _ (R.dR _ w) bb,bb,λw=>by rw[w,bd]at a3;cases a3⟩
  .rintro i u σ H4 hu ⟨v6,v7,O,I,y,rfl,U,T4,N,aT,ap,ac,a5,a0,a2,am,a7,ad⟩;rw[getElem?_map]at hu;obtain⟨G,hp,rfl⟩:=Option.map_eq_some_iff.mp hu;have cr:=mem_of_getElem? hp;obtain⟨hi,dM⟩:=List.getElem?_eq_some_iff.mp hp;have b8:¬ G∈ns.take i:=λz=>by
    obtain⟨j,hj,e⟩:=getElem_of_mem z;rw[getElem_take]at e;rw[length_take]at hj;exact oi b7 j i (getElem?_eq_getElem af) hp af e
   obtain⟨e,he⟩:∃e,Tb.look x.t G=some e:=by
    cases z:Tb.look x.t G with
    |none=>exact absurd z ((TX.mem pm G).mp cr)
    |some e=>exact⟨e,rfl⟩
   have b9:Tb.look y.t G=none:=(by rw[ap,if_neg b8]);have X4:=U.tb _ (Tb.aA Y);obtain⟨db,c8⟩:=X4.at_.ob;refine⟨_,rfl,x.p,db,_,rfl,c8,Tb.aW _ ao,_,rfl,x.p,x.fs,x.tb,G,rfl,X4.at_,λH5 v s5 hv=>?_⟩;rw[X4.lk,he]at hv;obtain⟨tt,rfl,bc⟩:=hv;have R5:=U.same s5;have T5:cZ c.T H5 y:=⟨T4.at_.same s5,T4.nd,T4.lk⟩;obtain⟨b4,c2⟩:=T5.at_.ob;obtain⟨g1,g2⟩:=TX.pg (q:=G) (by rw[he];simp);have c5:Tb.lN (xk e)=true:=(by cases e<;>rfl);refine⟨_,rfl,y.p,b4,_,rfl,c2,Tb.aW _ ao,_,rfl,_,rfl,y.p,y.fs,tt,y.tb,G,xk e,rfl,T5.at_,g1,g2,.inl bc,c5,λH6 ab T6 l6 o6 n6=>?_⟩;have ch:¬ y.eg tt:=λz=>by
    obtain⟨_,h⟩:=T5.at_.dK z;rw[bc]at h;cases h
   have bz:=o6 _ _ bc ch;have ba:cZ c.T H6 ⟨y.p,y.fs,ab,(G,e)::y.t⟩:=⟨T6,List.nodup_cons.mpr ⟨Tb.cp b9,T4.nd⟩,λj=>by
    rw[l6 j,Tb.aM];by_cases z:j=G
    .rw[if_pos z,if_pos z.symm];rfl
    .rw[if_neg z,if_neg (Ne.symm z)];exact T4.lk j⟩
   have b2:∀{b},H5 b=none->¬ a.own W b/\H b=none:=λ{b} h=>by
    have no:¬ a.own W b:=λz=>R5.mt _ (R5.dR _ z) h;exact⟨no,((am.trans (U.iH s5)).gone h).resolve_left no⟩
   have R6:=R5.BM (H':=H6) (B:=y.eg) (M':=λb=>(O b/\¬ y.eg b)\/(TD.mk y.p y.fs ab ((G,e)::y.t)).eg b) o6 (λb z=>⟨(N b z).1,(N b z).2.1⟩) (λb z=>.inr (T5.at_.dK z)) (λb z=>z.elim (λz=>.inl z.1) λz=>(n6 b z).elim (λz=>.inl (N b z).1) .inr) (λb z w=>.inl ⟨z,w⟩) (λb z w=>by
    rcases z with z|z
    .cases e2:H5 b with
     |none=>exact R5.mt b z.1 e2
     |some u=>rw[o6 b u e2 z.2]at w;cases w
    .obtain⟨_,h⟩:=ba.at_.dK z;rw[w]at h;cases h)
   have a4:∀b,(TD.mk y.p y.fs ab ((G,e)::y.t)).eg b->((O b/\¬ y.eg b)\/(TD.mk y.p y.fs ab ((G,e)::y.t)).eg b)/\¬ a.own W b/\H b=none/\b≠l1:=λb z=>by
    rcases n6 b z with w|w
    .exact⟨.inr z,(N b w).2⟩
    .exact⟨.inr z,(b2 w).1,(b2 w).2,λy=>by rw[y,s5 _ _ a7]at w;cases w⟩
   have a6:=am.trans (U.iH s5);have bY:Step H M (a.own W) H6 (λb=>(O b/\¬ y.eg b)\/(TD.mk y.p y.fs ab ((G,e)::y.t)).eg b) (a.own W):=⟨λb o e z=>o6 _ _ (a6.off b o e z) (λw=>by rw[(N b w).2.2.1]at e;cases e),λb z w=>.inl ⟨a6.mm b z w,λy=>R.mt b z (N b y).2.2.1⟩,λb z=>z.elim (λz=>a6.mn b z.1) λz=>.inr (a4 b z).2.2.1,λb z=>.inl z,R.mt,R.dR⟩;have bx:=o6 _ _ (s5 _ _ a7) λz=>(N _ z).2.2.2 rfl;have bm:∀j,Tb.look ((G,e)::y.t) j=if j∈ns.take (i+1)then Tb.look x.t j else none:=λj=>by
    rw[Tb.aM,ap j,take_add_one,hp];by_cases z:G=j
    .rw[if_pos z, <-z,if_pos (by simp),he]
    .rw[if_neg z];by_cases z2:j∈ns.take i
     .rw[if_pos z2,if_pos (mem_append_left _ z2)]
     .rw[if_neg z2,if_neg (by simp[Ne.symm z,z2])]
   have b1:(sP y.t++ents W).length<(I.ow true).length+(I.ow false).length:=by
    have e1:(sP y.t).length=i:=(by unfold sP;rw[length_map];exact a5);rw[length_append,e1,ad,ad];unfold bP at cx;omega
   have bG:=a0 t x Y G e he;refine⟨_,rfl,tt,aB,_,_,rfl,rfl,bR.of bz,iE.sq (.inr sB),?_⟩;cases e with
   |none =>
    refine⟨rfl,rfl,_,rfl,bw ?_⟩;refine⟨_,_,_,I,⟨y.p,y.fs,ab,(G,none)::y.t⟩,rfl,R6,ba,a4,aT,bm,ac.lay b1,by rw[length_cons,a5],a0,λj J h'=>?_,bY,bx,ad⟩;have h':Tb.look ((G,none)::y.t) j=some J:=h';rw[Tb.aM]at h';by_cases z:G=j
    .rw[if_pos z]at h';cases h';rw[<-z];exact bG
    .rw[if_neg z]at h';exact a2 j J h'
   |some k =>
    refine⟨rfl,rfl,_,rfl,dG ?_⟩;obtain⟨c3,df⟩:=R6.ob;obtain⟨cP,dz⟩:=R6.pg.ob;obtain⟨cs,cc,hv⟩:=ac.is k (mem_append_right _ (jA Y he));obtain⟨b0,n0,hk,_,_⟩:=id hv;refine⟨_,rfl,a.rp,c.C,c3,_,_,rfl,df,T.cl,T.nP,kE _ _ _,a.A.pg,cP,_,rfl,dz,cD _ _ ao ao ao ao ao,_,rfl,tt,_,1,_,rfl,rfl,bR.of bz,rfl,_,a.A,I,k,b0,n0,cs,cc,rfl,R6.Gy ac,hk,hv,λH7 G7 O7=>?_⟩;have sm:=λJ=>Pg.uz (es:=[J]) ac.good hk hv J (List.mem_singleton.mpr rfl);have bi:∀b,((Pg.cq I b0 n0 (cc+1)).ow b).length=(I.ow b).length:=λb=>Pg.du b;refine⟨_,_,_,_,⟨y.p,y.fs,ab,(G,some k)::y.t⟩,rfl,R6.ky G7 O7 bi,ba.off O7 aT (λb z w=>(a4 b z).2.1 (.inl w)) R6.pg.pJ,a4,aT,bm,ac.share hk hv b1,by rw[length_cons,a5],a0.keep λJ _=>sm J,λj J h'=>?_,bY.trans (R6.tW G7 O7),O7 _ _ bx (λz=>c1 (.inl z)),λb=>(bi b).trans (ad b)⟩;have h':Tb.look ((G,some k)::y.t) j=some J:=h';rw[Tb.aM]at h';by_cases z:G=j
    .rw[if_pos z]at h';cases h';rw[<-z];exact sm _ _ bG
    .rw[if_neg z]at h';exact sm _ _ (a2 j J h')
  .rintro σ H4 ⟨v6,v7,O,I,y,rfl,U,T4,N,aT,ap,ac,a5,a0,a2,am,a7,ad⟩;rw[length_map,take_length]at ap;have hy:∀j,Tb.look y.t j=Tb.look x.t j:=λj=>by
    rw[ap j];by_cases z:j∈ns
    .rw[if_pos z]
    .rw[if_neg z];cases w:Tb.look x.t j with
     |none=>rfl
     |some e=>exact absurd ((TX.mem pm j).mpr (by rw[w];simp)) z
   obtain⟨cC,dj⟩:=U.ob;refine⟨_,rfl,_,rfl,a.rp,c.C,cC,_,_,rfl,dj,T.cl,T.nR,fG _ _ _,_,rfl,a.rd,_,rfl,gb.k (k:=Sum.inl o) U.hd (by rw[Tb.cm];omega),?_⟩;rw[show(V.ref y.p)=fR y from rfl,Tb.cy a1];have R5:=U.Ac a1 T4 (λb z=>⟨(N b z).1,(N b z).2.1⟩) aT;refine q _ O I y hy R5 (by rw[sj];exact ac.perm perm_append_comm) ?_ ⟨?_,am.mm,am.mn,λb z=>?_,R.mt,R.dR⟩ ad
   .intro t' x' h' j J b3;rw[Tb.bM t' a1]at h';unfold yq;by_cases z:t'=o
    .rw[if_pos z]at h' ⊢;cases h';exact a2 j J b3
    .rw[if_neg z]at h' ⊢;exact a0 t' x' h' j J b3
   .intro b u e z;rw[ah (λw=>z (.inr (.inl w)))];exact am.off b u e z
   .rcases z with z|z|⟨x',as,z⟩
    .exact .inl (.inl z)
    .exact .inl (.inr (.inl z))
    .rcases List.mem_append.mp as with as|as
     .exact .inl (.inr (.inr ⟨x',as,z⟩))
     .rw[List.mem_singleton.mp as]at z;exact .inr (N b z).2.2.1
end
abbrev t6:Stmt:=inClass (top 14) 0
abbrev sV:Stmt:=inClass (top 33) 0
def s0 (nf ns:Nat):Pg.PS:=⟨λb=>replicate (if b=true then nf else ns) 0,λb=>replicate (if b=true then nf else ns) none,λ_=>none,0,[]⟩
theorem Gk {nf ns:Nat}(h:0<nf):Pg.RI (s0 nf ns) []:=by
 have G:∀(b:Bool) (n:Nat) (c:Int),((s0 nf ns).ow b)[n]?=some c->c=0:=λb n c e=>by
  have e:(replicate (if b=true then nf else ns) (0:Int))[n]?=some c:=e;exact(List.mem_replicate.mp (mem_of_getElem? e)).2
 have F:∀n:Nat,(replicate n (0:Int)).sum=0:=λn=>by
  induction n with
  |zero=>rfl
  |succ n I=>rw[replicate_succ,sum_cons,I];rfl
 refine⟨⟨(λk p e=>by cases e),(λk b n e=>by cases e),(λk j p e=>by cases e),λb n c e=>.inl (G b n c e),λb=>?_,nodup_nil,λk=>⟨(λz=>by cases z),(λ⟨n,e⟩=>by cases e)⟩⟩,Int.le_refl _,λe=>?_,(λk z=>by cases z),λk cs c z=>?_,?_,zero_le _⟩
 .show(replicate _ _).length=(replicate _ _).length;rw[length_replicate,length_replicate]
 .have:(replicate nf (0:Int)).length=0:=(by rw[show replicate nf (0:Int)=[]from e];rfl);rw[length_replicate]at this;omega
 .obtain⟨b,n,e,_⟩:=z;cases e
 .show(replicate nf (0:Int)).sum+(replicate ns (0:Int)).sum=0;rw[F,F];rfl
def PA.nine (A:PA):List Addr:=[A.pg,A.fp,A.fo,A.fc,A.sp,A.so,A.sc,A.pd,A.il]
inductive pN (C CS:Addr) (vs:List V) (H:Hp) (Q:VK) (e3:XK):Prop
 |mk (p dx:Addr) (nf ns:Nat) (_:vs=[.ref p,.int nf,.int ns]) (_:nf<=60) (_:ns<=60) (_:H p=some (.ins C dx [])) (_:∀(H':Hp) (A:PA),A.pg=p->A.nine.Nodup->(∀b∈A.nine,b=p\/H b=none)->(∀M,bK C CS H' M A (s0 nf ns))->Off (· = p) H H'->Q .non H'):pN C CS vs H Q e3
inductive oW (c:CA) (vs:List V) (H:Hp) (Q:VK) (e3:XK):Prop
 |mk (p dx:Addr) (nf ns:Nat) (_:vs=[.ref p,.int nf,.int ns]) (_:nf<=60) (_:ns<=60) (_:0<nf) (_:H p=some (.ins c.C dx [])) (_:∀(H':Hp) (M:Addr->Prop) (a:RA),a.rp=p->ax c H' M a (s0 nf ns) []->(∀b,M b->H b=none)->Off (· = p) H H'->Q .non H'):oW c vs H Q e3
theorem cB {H:Hp}{a b:Addr}{o:HO}(h:upd H a o b=none):b≠a/\H b=none:=by
 by_cases z:b=a
 .rw[z,ae]at h;cases h
 .rw[ah z]at h;exact⟨z,h⟩
theorem gZ {C p ow co:Addr}{B:Addr->Prop}{os:List Int}{pg:List (Option (List Int))}{H H':Hp}(S:∀M,aQ C H M p ow co os pg) (o:Off B H H') (F:¬ B p) (I:¬ B ow) (G:¬ B co):∀M,aQ C H' M p ow co os pg:=λM =>
 ((S λb=>M b\/B b).off o (λb z=>.inr z) F I G).less λb z=>.inl z
theorem gX {C CS p dx q ow co:Addr}{fs:List (Str×V)}{os:List Int}{pg:List (Option (List Int))}{H:Hp}(F:H p=some (.ins C dx fs)) (S:∀M,aQ CS H M q ow co os pg):∀b,b=p\/b=q\/b=ow\/b=co->H b≠none:=by
 intro b z e;have S:=S λ_=>False;obtain⟨I,h2⟩:=S.ob;obtain⟨_,G,_⟩:=S.hc;rcases z with z|z|z|z<;>rw[z]at e
 .rw[F]at e;cases e
 .rw[h2]at e;cases e
 .rw[S.hw]at e;cases e
 .rw[G]at e;cases e
theorem lD {C CS:Addr}{H:Hp}{M:Addr->Prop}{A:PA}{s:Pg.PS}(G:bK C CS H M A s):∀b∈A.nine,H b≠none:=by
 intro b z e;unfold PA.nine at z;simp only[mem_cons,not_mem_nil,or_false]at z;obtain⟨dx,h1⟩:=G.ob;obtain⟨_,N⟩:=G.fr.ob;obtain⟨_,F⟩:=G.sl.ob;obtain⟨_,I,_⟩:=G.fr.hc;obtain⟨_,L,_⟩:=G.sl.hc;obtain⟨l,J,_⟩:=G.pd;rcases z with z|z|z|z|z|z|z|z|z<;>rw[z]at e
 .rw[h1]at e;cases e
 .rw[N]at e;cases e
 .rw[G.fr.hw]at e;cases e
 .rw[I]at e;cases e
 .rw[F]at e;cases e
 .rw[G.sl.hw]at e;cases e
 .rw[L]at e;cases e
 .rw[J]at e;cases e
 .rw[G.il]at e;cases e
section
variable {P:Program}{w:World}{K:Frag}{mg:Str->Option Value}{base:Heap}
theorem Iy:az ["self","frames","slots"] ["self","frames","slots"] (aq t6):=L2.bD
theorem zi {f C CS bc:Addr}{fd bd:FuncData}(F:cL K "__init__" "Paging.__init__" t6 f fd) (T:mZ K mg C) (MS:Mk K CS bc) (bi:mg "Store" = some (.ref CS))
  (bv:bf P w K mg base aU 1 bc bd ["self","many"] (gT CS)) (bm:Binds K bd ["self","many"] []):bf P w K mg base aU 3 f fd ["self","frames","slots"] (pN C CS):=by
 refine F.ok Iy (λvs H Q E h=>?_) (λcr A outer s H vs Q E hr h=>?_)
 .obtain⟨p,dx,nf,ns,rfl,_⟩:=h;rfl
 .obtain⟨p,dx,nf,ns,rfl,n1,n2,hp,k⟩:=h;refine⟨_,(ag (fb (pv 0) (kT MS bv (hr.mono av) (by rfl) bi bm .nil aw (aa (pv 1) ai)) rfl)
   (ag (fb (pv 0) (kT MS bv (hr.mono av) (by rfl) bi bm .nil aw (aa (pv 2) ai)) rfl)
   (ag (fb (pv 0) c6 rfl)
   (ag (fb (pv 0) ak rfl)
   (aj (fb (pv 0) (bX ai) rfl)))))),?_⟩
  refine⟨_,rfl,λfp b8 aT bb b9=>⟨fp,b8,nf,rfl,n1,ae,λO S H1 Y ab cc S1 o1=>⟨rfl,?_⟩⟩⟩;have m1:a8 H H1:=λb u e=>o1 b u (by rw[ah (ar e aT),ah (ar e bb)];exact e) (ar e aT);obtain⟨q1,Y⟩:=cB Y;obtain⟨q2,ab⟩:=cB ab;have Y:=(cB Y).2;have ab:=(cB ab).2;have ca:=m1 _ _ hp;have as:fp≠p:=Ne.symm (ar hp aT);have ap:O≠p:=Ne.symm (ar hp Y);have ad:S≠p:=Ne.symm (ar hp ab);clear o1 bb b9;refine⟨_,rfl,p,C,dx,[],rfl,ca,T.cl,T.nF,av,?_⟩;have o2:Off (· = p) H1 (upd H1 p (.ins C dx (bo "frames" (.ref fp) []))):=Off.wr rfl;have bx:upd H1 p (.ins C dx (bo "frames" (.ref fp) [])) p=some (.ins C dx (bo "frames" (.ref fp) [])):=ae;generalize upd H1 p (.ins C dx (bo "frames" (.ref fp) []))=H2 at *;have S2:=gZ S1 o2 as ap ad;have O2:Off (· = p) H H2:=λb o e z=>o2 b o (m1 b o e) z;refine⟨_,rfl,λsp b7 a6 bl ch=>⟨sp,b7,ns,rfl,n2,ae,λso sc H3 ac am ci S3 o3=>⟨rfl,?_⟩⟩⟩;have m3:a8 H2 H3:=λb u e=>o3 b u (by rw[ah (ar e a6),ah (ar e bl)];exact e) (ar e a6);obtain⟨q3,ac⟩:=cB ac;obtain⟨q4,am⟩:=cB am;have ac:=(cB ac).2;have am:=(cB am).2;clear o3 bl ch;have aB:∀b,b=p\/b=fp\/b=O\/b=S->H2 b≠none:=gX bx S2;have b6:=gZ (B:=λ_=>False) S2 (λb o e _=>m3 b o e) id id id;have b0:=m3 _ _ bx;refine⟨_,rfl,p,C,dx,_,rfl,b0,T.cl,T.nS,by show 1<1000;decide,?_⟩;have a7:∀{b},H2 b=none->b≠p/\b≠fp/\b≠O/\b≠S/\H b=none:=λ{b} h=>⟨λz=>aB b (.inl z) h,λz=>aB b (.inr (.inl z)) h,λz=>aB b (.inr (.inr (.inl z))) h,λz=>aB b (.inr (.inr (.inr z))) h,by
   cases e:H b with
   |none=>rfl
   |some u=>rw[O2 b u e λz=>aB b (.inl z) h]at h;cases h⟩
  obtain⟨a1,a2,a3,a4,a5⟩:=a7 a6;obtain⟨b1,b2,b3,b4,b5⟩:=a7 ac;obtain⟨c1,c2,c3,c4,c5⟩:=a7 am;have o4:Off (· = p) H3 (upd H3 p (.ins C dx (bo "slots" (.ref sp) (bo "frames" (.ref fp) [])))):=Off.wr rfl;have ba:upd H3 p (.ins C dx (bo "slots" (.ref sp) (bo "frames" (.ref fp) []))) p=some (.ins C dx (bo "slots" (.ref sp) (bo "frames" (.ref fp) []))):=ae;generalize upd H3 p (.ins C dx (bo "slots" (.ref sp) (bo "frames" (.ref fp) [])))=R at *;have bI:=gZ b6 o4 as ap ad;have bG:=gZ S3 o4 a1 b1 c1;have O4:Off (· = p) H R:=λb o e z=>o4 b o (m3 b o (O2 b o e z)) z;have ce:∀{b},R b=none->b≠p/\b≠fp/\b≠O/\b≠S/\b≠sp/\b≠so/\b≠sc/\H b=none:=λ{b} h=>by
   have N:=gX ba bI;have U:=gX ba bG;refine⟨λz=>N b (.inl z) h,λz=>N b (.inr (.inl z)) h,λz=>N b (.inr (.inr (.inl z))) h,λz=>N b (.inr (.inr (.inr z))) h,λz=>U b (.inr (.inl z)) h,λz=>U b (.inr (.inr (.inl z))) h,λz=>U b (.inr (.inr (.inr z))) h,?_⟩;cases e:H b with
   |none=>rfl
   |some u=>rw[O4 b u e λz=>N b (.inl z) h]at h;cases h
  intro I be;obtain⟨d1,d2,d3,d4,d5,d6,d7,d8⟩:=ce be;refine⟨_,rfl,p,C,dx,_,rfl,by rw[ah (Ne.symm d1)];exact ba,T.cl,T.nP,by show 2<1000;decide,?_⟩;refine⟨_,rfl,p,C,dx,_,rfl,ae,T.cl,T.nL,by show 3<1000;decide,?_⟩;have o7:Off (· = p) R (upd (upd (upd R I (.dK [])) p (.ins C dx (bo "places" (.ref I) (bo "slots" (.ref sp) (bo "frames" (.ref fp) []))))) p (.ins C dx (bo "last_sheet" (.int 0) (bo "places" (.ref I) (bo "slots" (.ref sp) (bo "frames" (.ref fp) [])))))):=λb o e z=>by
   rw[ah z,ah z,ah (ar e be)];exact e
  have a0:upd (upd (upd R I (.dK [])) p (.ins C dx (bo "places" (.ref I) (bo "slots" (.ref sp) (bo "frames" (.ref fp) []))))) p (.ins C dx (bo "last_sheet" (.int 0) (bo "places" (.ref I) (bo "slots" (.ref sp) (bo "frames" (.ref fp) []))))) p=some (.ins C dx (bo "last_sheet" (.int 0) (bo "places" (.ref I) (bo "slots" (.ref sp) (bo "frames" (.ref fp) []))))):=ae;have bn:upd (upd (upd R I (.dK [])) p (.ins C dx (bo "places" (.ref I) (bo "slots" (.ref sp) (bo "frames" (.ref fp) []))))) p (.ins C dx (bo "last_sheet" (.int 0) (bo "places" (.ref I) (bo "slots" (.ref sp) (bo "frames" (.ref fp) []))))) I=some (.dK []):=(by rw[ah d1,ah d1,ae]);generalize upd (upd (upd R I (.dK [])) p (.ins C dx (bo "places" (.ref I) (bo "slots" (.ref sp) (bo "frames" (.ref fp) []))))) p (.ins C dx (bo "last_sheet" (.int 0) (bo "places" (.ref I) (bo "slots" (.ref sp) (bo "frames" (.ref fp) [])))))=H7 at *;have bz:=gZ bI o7 as ap ad;have bY:=gZ bG o7 a1 b1 c1;have O7:Off (· = p) H H7:=λb o e z=>o7 b o (O4 b o e z) z;refine⟨av,λG L=>?_⟩;have N:=gX a0 bz;have U:=gX a0 bY;have i1:G≠p:=λz=>N G (.inl z) L;have i2:G≠fp:=λz=>N G (.inr (.inl z)) L;have i3:G≠O:=λz=>N G (.inr (.inr (.inl z))) L;have i4:G≠S:=λz=>N G (.inr (.inr (.inr z))) L;have i5:G≠sp:=λz=>U G (.inr (.inl z)) L;have i6:G≠so:=λz=>U G (.inr (.inr (.inl z))) L;have i7:G≠sc:=λz=>U G (.inr (.inr (.inr z))) L;have i8:G≠I:=λz=>(by rw[z,bn]at L;cases L);have i9:H G=none:=by
   cases e:H G with
   |none=>rfl
   |some u=>rw[O7 G u e i1]at L;cases L
  refine⟨_,rfl,p,C,dx,_,rfl,by rw[ah (Ne.symm i1)];exact a0,T.cl,T.nI,by show 4<1000;decide,?_⟩;have o9:Off (· = p) H7 (upd (upd H7 G (.lst [])) p (.ins C dx (cH ⟨p,fp,O,S,sp,so,sc,I,G⟩ 0))):=λb o e z=>by
   rw[ah z,ah (ar e L)];exact e
  refine k _ ⟨p,fp,O,S,sp,so,sc,I,G⟩ rfl ?_ ?_ (λM=>⟨⟨dx,ae⟩,gZ bz o9 as ap ad M,gZ bY o9 a1 b1 c1 M,?_,?_,[],?_,nodup_nil,(λx hx=>by cases hx),λ_=>rfl,zero_le _⟩) (λb o e z=>o9 b o (O7 b o e z) z)
  .unfold PA.nine;simp only[List.nodup_cons,mem_cons,not_mem_nil,or_false,not_or,not_false_eq_true,nodup_nil,and_true];exact⟨⟨λh=>as h.symm,λh=>ap h.symm,λh=>ad h.symm,λh=>a1 h.symm,λh=>b1 h.symm,λh=>c1 h.symm,λh=>d1 h.symm,λh=>i1 h.symm⟩,⟨λh=>q1 h.symm,λh=>q2 h.symm,λh=>a2 h.symm,λh=>b2 h.symm,λh=>c2 h.symm,λh=>d2 h.symm,λh=>i2 h.symm⟩,⟨λh=>(Ne.symm cc) h.symm,λh=>a3 h.symm,λh=>b3 h.symm,λh=>c3 h.symm,λh=>d3 h.symm,λh=>i3 h.symm⟩,⟨λh=>a4 h.symm,λh=>b4 h.symm,λh=>c4 h.symm,λh=>d4 h.symm,λh=>i4 h.symm⟩,⟨λh=>q3 h.symm,λh=>q4 h.symm,λh=>d5 h.symm,λh=>i5 h.symm⟩,⟨λh=>(Ne.symm ci) h.symm,λh=>d6 h.symm,λh=>i6 h.symm⟩,⟨λh=>d7 h.symm,λh=>i7 h.symm⟩,λh=>i8 h.symm⟩
  .intro b J;unfold PA.nine at J;simp only[mem_cons,not_mem_nil,or_false]at J;rcases J with J|J|J|J|J|J|J|J|J<;>rw[J]
   .exact .inl rfl
   .exact .inr aT
   .exact .inr Y
   .exact .inr ab
   .exact .inr a5
   .exact .inr b5
   .exact .inr c5
   .exact .inr d8
   .exact .inr i9
  .show upd (upd H7 G (.lst [])) p _ G=_;rw[ah i1,ae];rfl
  .intro b;show(replicate _ _).length<=60;rw[length_replicate];cases b
   .exact n2
   .exact n1
  .show upd (upd H7 G (.lst [])) p _ I=_;rw[ah d1,ah (Ne.symm i8)];exact bn
theorem Iu:az ["self","frames","slots"] ["self","frames","slots"] (aq sV):=L2.bD
theorem zQ {f ad:Addr}{fd aB:FuncData}{c:CA}(F:cL K "__init__" "Rooms.__init__" sV f fd) (T:qK K mg c) (MP:Mk K c.P ad) (aT:mg "Paging" = some (.ref c.P))
  (a5:bf P w K mg base aU 3 ad aB ["self","frames","slots"] (pN c.P c.S)) (a4:Binds K aB ["self","frames","slots"] []):bf P w K mg base aU 5 f fd ["self","frames","slots"] (oW c):=by
 refine F.ok Iu (λvs H Q E h=>?_) (λbc A outer s H vs Q E hr h=>?_)
 .obtain⟨p,dx,nf,ns,rfl,_⟩:=h;rfl
 .obtain⟨p,dx,nf,ns,rfl,n1,n2,n3,hp,k⟩:=h;refine⟨_,(ag (fb (pv 0) (kT MP a5 (hr.mono av) (by rfl) aT a4 .nil aw (aa (pv 1) (aa (pv 2) ai))) rfl)
   (ag (fb (pv 0) (ay bu (pv 1) (pv 2)) rfl)
   (aj (fb (pv 0) c6 rfl)))),?_⟩
  refine⟨_,rfl,_,rfl,λpg a2 U a1 bb=>⟨pg,a2,nf,ns,rfl,n1,n2,ae,λH1 G eA a6 am GA o1=>⟨rfl,?_⟩⟩⟩;have m1:a8 H H1:=λb u e=>o1 b u (by rw[ah (ar e U),ah (ar e a1)];exact e) (ar e U);have fr:∀b∈G.nine,H b=none:=λb O=>by
   rcases am b O with h|h
   .rw[h];exact U
   .exact(cB (cB h).2).2
  have as:=m1 _ _ hp;clear o1 am;refine⟨_,rfl,p,c.C,dx,[],rfl,as,T.cl,T.nP,av,?_⟩;refine⟨_,rfl,_,rfl,_,_,rfl,rfl,?_⟩;refine⟨_,rfl,p,c.C,dx,_,rfl,ae,T.cl,T.nT,by show 1<1000;decide,?_⟩;rw[<-eA];have R:Off (· = p) H1 (upd (upd H1 p (.ins c.C dx (bo "paging" (.ref G.pg) []))) p (.ins c.C dx (bo "total" (.int ((nf:Int)+ns)) (bo "paging" (.ref G.pg) [])))):=λb o e z=>(by rw[ah z,ah z];exact e);have ac:upd (upd H1 p (.ins c.C dx (bo "paging" (.ref G.pg) []))) p (.ins c.C dx (bo "total" (.int ((nf:Int)+ns)) (bo "paging" (.ref G.pg) []))) p=some (.ins c.C dx (bo "total" (.int ((nf:Int)+ns)) (bo "paging" (.ref G.pg) []))):=ae;generalize upd (upd H1 p (.ins c.C dx (bo "paging" (.ref G.pg) []))) p (.ins c.C dx (bo "total" (.int ((nf:Int)+ns)) (bo "paging" (.ref G.pg) [])))=L at *;intro rd J;have N:rd≠p:=Ne.symm (ar ac J);refine⟨_,rfl,p,c.C,dx,_,rfl,by rw[ah (Ne.symm N)];exact ac,T.cl,T.nR,by show 2<1000;decide,?_⟩;have o5:Off (· = p) H1 (upd (upd L rd (.dK [])) p (.ins c.C dx (eI G.pg ((nf:Int)+ns) rd))):=λb o e z=>(by rw[ah z,ah (ar (R b o e z) J)];exact R b o e z);have Y:∀b∈G.nine,b≠p:=λb O z=>(by rw[z]at O;have:=fr p O;rw[hp]at this;cases this);have ab:∀b,G.own b->b∈G.nine:=λb h=>by
   unfold PA.own at h;unfold PA.nine;simp only[mem_cons,not_mem_nil,or_false]at h ⊢;rcases h with h|h|h|h|h|h|h<;>simp[h]
  have n9:∀i {b},G.nine[i]?=some b->b≠p:=λi b h=>Y b (mem_of_getElem? h);have G5:∀M,bK c.P c.S (upd (upd L rd (.dK [])) p (.ins c.C dx (eI G.pg ((nf:Int)+ns) rd))) M G (s0 nf ns):=λM=>(GA λb=>M b\/b=p).move o5 (λb z=>.inr z) (λb z=>.inl (.inl z)) (λb z=>Y b (ab b z)) (n9 1 rfl) (n9 4 rfl) (λb xs e z=>by rw[z,as]at e;cases e);have a0:upd (upd L rd (.dK [])) p (.ins c.C dx (eI G.pg ((nf:Int)+ns) rd)) p=some (.ins c.C dx (eI G.pg ((nf:Int)+ns) rd)):=ae;have ap:upd (upd L rd (.dK [])) p (.ins c.C dx (eI G.pg ((nf:Int)+ns) rd)) rd=some (.dK []):=(by rw[ah N,ae]);have Bu:¬ rd∈G.nine:=λz=>by
   have a3:=lD (GA λ_=>False) rd z;cases e:H1 rd with
   |none=>exact a3 e
   |some u=>rw[R _ _ e N]at J;cases J
  have ba:H rd=none:=by
   cases e:H rd with
   |none=>rfl
   |some u=>rw[R _ _ (m1 _ _ e) N]at J;cases J
  have a7:Off (· = p) H (upd (upd L rd (.dK [])) p (.ins c.C dx (eI G.pg ((nf:Int)+ns) rd))):=λb o e z=>o5 b o (m1 b o e) z;refine k _ (λb=>b∈G.nine\/b=rd) ⟨G,p,rd⟩ rfl ⟨⟨dx,?_⟩,G5 _,⟨a6,λx I=>.inl I⟩,λb z=>?_,ap,nodup_nil,(λx I=>by cases I),(λx I=>by cases I),(λx I=>by cases I),(λx I=>by cases I),.inr rfl,λz=>Bu (ab _ z),λz=>Y _ (ab _ z) rfl⟩ (λb z=>z.elim (fr b) λz=>by rw[z];exact ba) a7
  .have e:bP (s0 nf ns)=(nf:Int)+ns:=by
    unfold bP;rw[show((s0 nf ns).ow true).length=nf from length_replicate,show((s0 nf ns).ow false).length=ns from length_replicate];omega
   rw[e];exact a0
  .rcases z with z|z
   .exact lD (G5 λ_=>False) b z
   .intro w;rw[z]at w;exact absurd (ap.symm.trans w) (by simp)
end
end St
namespace HT
open PySem PySem.Spec PyProof.Rows
section
variable {prog:Program}{w:World}{A:Around}{E:Value->Shared->Prop}{s:Shared}
theorem jn {t sl:Addr}{items:Array Value}{I J:Value}{lo hi:Option Int}{Q:Value->Shared->Prop}(F:IsTup s.heap t items) (hs:s.heap.IsSliceOf sl I J .none) (pl:IsPart I lo) (O:IsPart J hi)
  (G:cU items.size 0 lo=0/\cU items.size items.size hi=items.size) (h:Q (.ref t) s):wpAny (model prog w) A (getItem (.ref t) (.ref sl)) Q E s:=by
 obtain⟨os,L,R,U⟩:=id hs;have S:s.TypeIs (.ref sl) "slice" := ⟨os,L,R⟩;unfold getItem
 try with_reducible refine wpAny_holding ?_
 first|refine wpAny_bind (wpAny_pure ?_)|skip
 refine wpAny_bind (wpAny_sequenceKey F.typeIs av ?_);refine wpAny_bind (wpAny_callSpecial?_slot (name:=Str.ofString "__getitem__") F.typeIs PyProof.Rows.slot_tuple_getitem
  (wpAny_call_entry PyProof.Rows.slot_tuple_getitem F.typeIs entry_tuple_getitem ?_ (args_tuple_getitem _ _)))
 show wpAny _ _ (Builtin.Tuple.tupleItemsOf (.ref t)>>=_) _ _ s;refine wpAny_bind (tupleItemsOf_ F ?_);refine wpAny_bind (wpAny_typeOf S ?_);rw[if_pos av];refine wpAny_bind (fX hs pl O ?_);have N:(((cU items.size 0 lo:Nat):Int)==0&&(1:Int)==1&&(cU items.size items.size hi-cU items.size 0 lo)==items.size)=true:=by
  rw[G.1,G.2];simp
 show wpAny _ _ (if (((cU items.size 0 lo:Nat):Int)==0&&(1:Int)==1&&(cU items.size items.size hi-cU items.size 0 lo)==items.size)=true then _ else _) _ _ s;rw[if_pos N];unfold Builtin.Tuple.tupleIsExact;refine wpAny_bind (wpAny_bind (wpAny_typeOf F.typeIs (wpAny_pure ?_)));rw[if_pos av];refine wpAny_bind (wpAny_rule ?_);exact wpAny_pure ⟨_,rfl,wpAny_pure h⟩
end
end HT
namespace L2
open PySem PySem.Spec PyProof.Rows
inductive B8 (K:Frag) (x:V) (lo:Option Int) (hi:Option Int) (H:Hp) (Q:VK):Prop
 |mk (a:_) (xs:_) (_:x=.ref a) (_:bR K H a xs) (_:((HT.cU xs.length 0 lo=0/\HT.cU xs.length xs.length hi=xs.length)->Q (.ref a) H)) (_:(¬ (HT.cU xs.length 0 lo=0/\HT.cU xs.length xs.length hi=xs.length)->∀p,H p=none->Q (.ref p) (upd H p (.tup (eV xs lo hi))))):B8 K x lo hi H Q
theorem kS {X:Cx}:E7 X (B8 X.K):=by
 intro pins s σ H x v U O lo hi sl Q I L hs pl G h;obtain⟨a,xs,rfl,J,N,S⟩:=h;by_cases c:HT.cU xs.length 0 lo=0/\HT.cU xs.length xs.length hi=xs.length
 .cases L;obtain⟨its,r,F,Y⟩:=I.tuple J;have R:its.toArray.size=xs.length:=(by rw[size_toArray];exact r.length.symm);refine⟨"tuple",_,PyProof.Rows.slot_tuple_getitem.lookup,F.typeIs,?_⟩;exact HT.jn F hs pl G (by rw[R];exact c) ⟨.ref a,H,I,rfl,N c⟩
 .exact Dm pins s σ H (.ref a) v U O lo hi sl Q I L hs pl G ⟨a,xs,rfl,J,c,S c⟩
theorem nH {a:Addr}{o:Obj}{kvs:List (Key×V)}{g:TG}{tb:TS}{D:Ends}{σ:St}{H:Hp}(Pv:Nat->St->Hp->Prop) (R:Pv 0 σ H) (U:∀i σ H,i<=kvs.length->Pv i σ H->H a=some (.frz o (.dK kvs)))
  (hs:∀i k v σ H T,kvs[i]?=some (k,v)->H T=none->Pv i σ H->g (.ref T) σ (upd H T (.tup [kV k,v])) λF H2=>tb { D with nx:=Pv (i+1),ct:=Pv (i+1),bk:=D.nx } F H2) (hd:∀σ H,Pv kvs.length σ H->D.nx σ H) :
  ∃W:Nat->Nat->St->Hp->Prop,(∃m,W 0 m σ H)/\∀i m σ H,W i m σ H ->
   ((Eu a o kvs).stop i H/\D.nx σ H)\/((Eu a o kvs).go i H/\∃N:St->Hp->Prop,(∀G H',N G H'->∃I,I<m/\W (i+1) I G H')/\∀x H',(Eu a o kvs).AJ i H x H'->g x σ H' λF H2=>tb { D with nx:=N,ct:=N,bk:=D.nx } F H2):=by
 refine⟨λi m σ H=>m=kvs.length-i/\i<=kvs.length/\Pv i σ H,⟨kvs.length,by simp,zero_le _,R⟩,?_⟩;rintro i m σ H ⟨rfl,hi,p⟩;have q:=U i σ H hi p;by_cases J:i<kvs.length
 .refine .inr ⟨⟨q,J⟩,Pv (i+1),λG H' O=>⟨kvs.length-(i+1),af,rfl,J,O⟩,?_⟩;rintro v H' ⟨T,k,x,rfl,S,L,rfl⟩;exact hs i k x σ H T L S p
 .have e:i=kvs.length:=af;subst e;exact .inl ⟨⟨q,le_refl _⟩,hd σ H p⟩
theorem tj {a:Addr}{o:Obj}{kvs:List (Key×V)}{caps:List (Str×Nat)}{te:TE}{σ:St}{H:Hp}{F:List V->Hp->Prop}(Pv:Nat->List V->Hp->Prop) (R:Pv 0 [] H)
  (N:∀i zs H,i<=kvs.length->Pv i zs H->H a=some (.frz o (.dK kvs)))
  (hs:∀i k v zs H,kvs[i]?=some (k,v)->Pv i zs H->te (fM caps σ (some v)) H (λz J=>zs.length<sizeLine/\Pv (i+1) (zs++[z]) J))
  (hd:∀zs H,Pv kvs.length zs H->F zs H):∃W:Nat->Nat->List V->Hp->Prop,(∃m,W 0 m [] H)/\gQ caps m4 te σ (GJ a o kvs) F W:=by
 refine⟨λi m zs H=>m=kvs.length-i/\i<=kvs.length/\Pv i zs H,⟨kvs.length,by simp,zero_le _,R⟩,?_⟩;rintro i m zs H ⟨rfl,hi,p⟩;have G:=N i zs H hi p;by_cases I:i<kvs.length
 .refine .inr ⟨⟨G,I⟩,Pv (i+1),λS H' O=>⟨kvs.length-(i+1),af,rfl,I,O⟩,?_⟩;rintro v H' ⟨rfl,k,L⟩;unfold m4;dsimp only;rw[if_pos rfl];exact hs i k v zs H' L p
 .have e:i=kvs.length:=af;subst e;exact .inl ⟨⟨G,le_refl _⟩,hd zs H p⟩
section
variable {X:Cx}
theorem vp:dr X (.type "dict") (λxs H Q=>∃(d:Addr) (kvs:List (Key×V)),xs=[.ref d]/\H d=some (.dK kvs)/\∀a,H a=none->Q (.ref a) (upd H a (.dK kvs))):=by
 intro pins s σ H xs us Q I r h;obtain⟨d,kvs,rfl,hd,q⟩:=h;obtain⟨u,rfl,R⟩:=vals1 r;obtain rfl:u=Value.ref d:=R;obtain⟨N,O,vs,F,L⟩:=gD I.bG hd;have S:=F.length;refine kt_call_dict (knd:=bt X.prog X.w) O L af λh' G J=>?_;refine⟨.ref s.heap.objs.size,_,I.laid (t':=s.toks) (h':=h') (λb o e=>?_) (le_refl _) (mr N ?_ F G),rfl,q _ I.fresh⟩
 .exact(J.2 b (ne_of_lt (Heap.lt_size e))).trans (Heap.get?_push_of_some _ e)
 .exact beq_false_of_ne (ne_of_gt I.big)
theorem range_any (bs:List Bool):((List.range bs.length).any λi=>(bs[i]?).getD true)=bs.any id:=by
 rw[Bool.eq_iff_iff,List.any_eq_true,List.any_eq_true];constructor
 .rintro⟨i,hi,e⟩;have F:=List.mem_range.mp hi;rw[getElem?_eq_getElem F,getD_some]at e;exact⟨_,getElem_mem F,e⟩
 .rintro⟨b,I,e⟩;obtain⟨i,hi,G⟩:=getElem_of_mem I;refine⟨i,List.mem_range.mpr hi,?_⟩;rw[getElem?_eq_getElem hi,getD_some,G];exact e
theorem CD:bootBuiltins "any" = some (.builtin "any"):=ao
theorem wN (hc:X.calm=true):dr X (.builtin "any") (λxs H Q=>∃(l:Addr) (bs:List Bool),xs=[.ref l]/\bq X.K H l (bs.map V.bl)/\Q (.bl (bs.any id)) H):=by
 intro pins s σ H xs us Q I r h;obtain⟨l,bs,rfl,O,q⟩:=h;obtain⟨u,rfl,R⟩:=vals1 r;obtain rfl:u=Value.ref l:=R;obtain⟨its,rv,p,_⟩:=I.list O;have ei:=qG rv;subst ei;have J:=p.isList;have ab:l<s.heap.objs.size:=let ⟨_,e,_⟩:=J;Heap.lt_size e;refine call_any_walk (wpAny_pyIter_list J ?_);refine⟨s.heap.objs.size,[s.heap.objs.size,l],[s.heap.objs.size],(bs.map Value.bool).toArray.size,_,_,λi=>(bs[i]?).getD true,rfl,Walks.list (A:=X.A.in1) (I.ok.hd hc) _ l (ne_of_lt ab) (bs.map Value.bool).toArray,
  ⟨⟨_,Heap.get?_push_size _ rfl,rfl,rfl⟩,J.push _⟩,λi v s' Q' E' N L=>?_,λh' tk Y=>?_⟩
 .have U:(bs.map Value.bool).toArray[i]?=some v:=N;have F:(bs.map Value.bool)[i]?=some v:=(by simpa using U);rw[getElem?_map]at F;cases G:bs[i]? with
  |none=>rw[G]at F;cases F
  |some b =>
   rw[G]at F;have S:Value.bool b=v:=Option.some.inj F;subst S;simp only[G,getD_some]at L;exact wpAny_truthy_bool L
 .have e:((List.range (bs.map Value.bool).toArray.size).any λi=>(bs[i]?).getD true)=bs.any id:=by
   rw[size_toArray,length_map];exact range_any bs
  rw[e];exact⟨.bl _,H,I.kept (LSm.kept_iter Y),rfl,q⟩
def FH:wK:=λo i v H Q=>∃a H',o=.ref a/\gb H a i v H'/\Q H'
theorem set_dict (J:X.A.units+1<cLine):AR X FH:=by
 intro pins s σ H o i v ov O u Q I L G N h;obtain⟨a,H',rfl,g,q⟩:=h;obtain rfl:ov=Value.ref a:=L;exact nD J I g G N λs' F=>⟨H',F,q⟩
end
end L2
namespace Lw
open PySem L2 St
abbrev uO:Stmt:=top 35
abbrev qE:Stmt:=top 36
abbrev uZ:Stmt:=top 37
abbrev lE:Stmt:=top 38
abbrev uV:Stmt:=top 39
abbrev t7:Stmt:=top 40
abbrev lL:Stmt:=top 41
abbrev CL:Stmt:=top 42
abbrev zp:Stmt:=top 43
abbrev pE:Stmt:=top 44
abbrev uI:Stmt:=top 46
abbrev y6:Stmt:=top 47
abbrev tE:Stmt:=top 48
structure kN (mg:Str->Option Value):Prop where
 range:mg "range" = none
 enumerate:mg "enumerate" = none
 sum:mg "sum" = none
 int:mg "int" = none
 yH:mg "isinstance" = none
 min:mg "min" = none
 max:mg "max" = none
 list:mg "list" = none
 len:mg "len" = none
 dict:mg "dict" = none
 bool:mg "bool" = none
 tuple:mg "tuple" = none
 sorted:mg "sorted" = none
 all:mg "all" = none
 any:mg "any" = none
inductive oZ (vs:List V) (H:Hp) (Q:VK) (e3:XK):Prop
 |mk (c k:Int) (_:vs=[.int c,.int k]) (_:∀v:Int,Q (.int v) H):oZ vs H Q e3
inductive mH (K:Frag) (vs:List V) (H:Hp) (Q:VK) (e3:XK):Prop
 |mk (a:Addr) (ns:List Int) (k:Nat) (_:vs=[.ref a,.int k]) (_:bq K H a (ns.map V.int)) (_:ns.length<=100) (_:k<=100) (_:∀(v:Int) (H':Hp),a8 H H'->Q (.int v) H'):mH K vs H Q e3
inductive qd (vs:List V) (H:Hp) (Q:VK) (e3:XK):Prop
 |mk (i:Int) (_:vs=[.int i]) (_:Q (.bl true) H):qd vs H Q e3
inductive jY (vs:List V) (H:Hp) (Q:VK) (e3:XK):Prop
 |mk (m:Int) (n:Nat) (_:vs=[.int m,.int n]) (_:n<=100) (_:∀(cs:List Int) (H':Hp) (l:Addr),cs.length=n->a8 H H'->H l=none->H' l=some (.lst (cs.map V.int))->Q (.ref l) H'):jY vs H Q e3
def m9 (m:Int):List Int:=[2,3,2+m/4%5,2+m/4%39]
def rM (m:Int):List Int:=[m/200%8,m/200%61,60]
def kO (m:Int):Nat:=((m9 m).getD (m%4).toNat 0).toNat
def mP (m:Int):Nat:=((rM m).getD (m/9%3).toNat 0).toNat
theorem at_of {xs:List Int}{i n:Int}(I:0<=i) (h1:i<n) (G:n=xs.length):x9 (xs.map V.int) i=some (.int (xs.getD i.toNat 0))/\xs.getD i.toNat 0∈xs:=by
 obtain⟨j,rfl⟩:∃j:Nat,i=j:=⟨i.toNat,af⟩;have F:j<xs.length:=af;have e:xs.getD (toNat (j:Int)) 0=xs[j]:=(by simp[F]);rw[e];exact⟨ij (by rw[getElem?_map,getElem?_eq_getElem F];rfl),getElem_mem F⟩
theorem yZ (m:Int):x9 ((m9 m).map V.int) (m%4)=some (.int (kO m))/\2<=kO m/\kO m<=40:=by
 obtain⟨h1,h2⟩:=at_of (xs:=m9 m) (i:=m%4) (n:=4) af af rfl;have F:2<=(m9 m).getD (m%4).toNat 0/\(m9 m).getD (m%4).toNat 0<=40:=by
  unfold m9 at h2 ⊢;simp only[mem_cons,not_mem_nil,or_false]at h2;rcases h2 with h|h|h|h<;>rw[h]<;>omega
 have e:((kO m:Nat):Int)=(m9 m).getD (m%4).toNat 0:=(by unfold kO;omega);rw[e];exact⟨h1,by unfold kO;omega,by unfold kO;omega⟩
theorem Ad (m:Int):x9 ((rM m).map V.int) (m/9%3)=some (.int (mP m))/\mP m<=60:=by
 obtain⟨h1,h2⟩:=at_of (xs:=rM m) (i:=m/9%3) (n:=3) af af rfl;have F:0<=(rM m).getD (m/9%3).toNat 0/\(rM m).getD (m/9%3).toNat 0<=60:=by
  unfold rM at h2 ⊢;simp only[mem_cons,not_mem_nil,or_false]at h2;rcases h2 with h|h|h<;>rw[h]<;>omega
 have e:((mP m:Nat):Int)=(rM m).getD (m/9%3).toNat 0:=(by unfold mP;omega);rw[e];exact⟨h1,by unfold mP;omega⟩
inductive kR (vs:List V) (H:Hp) (Q:VK) (e3:XK):Prop
 |mk (m:Int) (_:vs=[.int m]) (_:∀(H':Hp) (t:Addr),a8 H H'->H t=none->H' t=some (.tup [.int (kO m),.int (mP m)])->Q (.ref t) H'):kR vs H Q e3
theorem Ij (x y:Int):Ah (x%2305843009213693951) y:=by
 have:=emod_nonneg x (show(2305843009213693951:Int)≠0 by decide);have:=emod_lt_of_pos x (show(0:Int)<2305843009213693951 by decide);exact .inl ⟨af,af⟩
theorem Gf (x y:Int):Ah (x%2305843009213693907) y:=by
 have:=emod_nonneg x (show(2305843009213693907:Int)≠0 by decide);have:=emod_lt_of_pos x (show(0:Int)<2305843009213693907 by decide);exact .inl ⟨af,af⟩
section
variable {P:Program}{w:World}{K:Frag}{mg:Str->Option Value}{base:Heap}
theorem GV:az ["_law_cell","_law_k","_law_once","_law_twice"] ["_law_cell","_law_k"] (aq uO):=L2.bD
theorem zX {f:Addr}{fd:FuncData}(F:cL K "_law_mixed" "_law_mixed" uO f fd):bf P w K mg base aU 1 f fd ["_law_cell","_law_k"] oZ:=by
 refine F.ok GV (λvs H Q E h=>?_) (λI A outer s H vs Q E G h=>?_)
 .obtain⟨c,j,rfl,_⟩:=h;rfl
 .obtain⟨c,j,rfl,k⟩:=h;refine⟨_,(ag (aK (i:=2) GV.nd rfl (Or.inl rfl) (ay bH (ay eX (ay bu (ay bu (ay bH (pv 0) ak) (ay eX ak (pv 1))) ak) ak) ak))
   (ag (aK (i:=2) GV.nd rfl (Or.inl rfl) (ay bH (ay eX (pv 2) (pv 2)) ak))
   (ag (aK (i:=3) GV.nd rfl (Or.inl rfl) (ay bH (ay eX (ay bu (ay bu (pv 2) (ay eX ak (pv 1))) ak) ak) ak))
   (aj (aE (ay bu (ay eX (ay bH (ay eX (pv 3) (pv 3)) ak) ak) (pv 2))))))),?_⟩
  refine⟨_,rfl,_,_,rfl,rfl,(by show(0:Int)<2305843009213693951;decide),_,rfl,_,_,rfl,rfl,.inl ⟨av,av⟩,_,_,rfl,rfl,_,_,rfl,rfl,_,_,rfl,rfl,.inr ⟨av,av⟩,_,_,rfl,rfl,(by show(0:Int)<2305843009213693951;decide),?_⟩;refine⟨_,rfl,_,rfl,_,_,rfl,rfl,Ij _ _,_,_,rfl,rfl,(by show(0:Int)<2305843009213693921;decide),?_⟩;refine⟨_,rfl,_,rfl,_,_,rfl,rfl,.inl ⟨av,av⟩,_,_,rfl,rfl,_,_,rfl,rfl,_,_,rfl,rfl,.inr ⟨av,av⟩,_,_,rfl,rfl,(by show(0:Int)<2305843009213693907;decide),?_⟩;exact⟨_,rfl,_,rfl,_,_,rfl,rfl,Gf _ _,_,_,rfl,rfl,(by show(0:Int)<2305843009213693951;decide),_,_,rfl,rfl,.inr ⟨av,av⟩,_,rfl,_,_,rfl,rfl,k _⟩
theorem Ga:az ["_law_script","_law_k","_law_cell"] ["_law_script","_law_k"] (aq qE):=L2.bD
theorem xX {f:Addr}{fd:FuncData}(F:cL K "_law_number" "_law_number" qE f fd) (T:kN mg) (GM:Df P w K mg base aU 1 "_law_mixed" oZ):bf P w K mg base aU 2 f fd ["_law_script","_law_k"] (mH K):=by
 refine F.ok Ga (λvs H Q E h=>?_) (λam A outer s H vs Q E hr h=>?_)
 .obtain⟨a,ns,j,rfl,_⟩:=h;rfl
 .obtain⟨a,ns,j,rfl,O,hn,hj,k⟩:=h;have hs:sizeLine=16777216:=sizeLine_eq;refine⟨_,(ag (aK (i:=2) Ga.nd rfl (Or.inl rfl) (aZ ck (ay vj (dg gq (pv 0) (cV (pv 1)) (cV (ay bu (pv 1) ak))) (bX (aa (ay bu (ay eX (pv 1) (pv 1)) ak) ai))) ak (λ_ _=>rfl)))
   (ag (aS (aC bW (ay bH (aN (lP rfl) (by rfl) T.sum ud (aa (dg gq (pv 0) fq (cV ak)) ai)) ak) ak (aH _)) (aj (aE (ay bH (pv 2) (ay uE ak ak)))) aF)
   (aj (aE (pc GM hr aw (aa (pv 2) (aa (pv 1) ai))))))),?_⟩
  refine fN λ_ jt=>?_;have ec:eV (ns.map V.int) (some (j:Int)) (some ((j:Int)+1))=((ns.drop j).take 1).map V.int:=Rm.oS (n:=1);refine⟨_,rfl,_,rfl,_,rfl,_,rfl,_,_,rfl,rfl,_,rfl,a,_,rfl,O,λp U=>?_⟩;show FD _ _ (upd H p (.lst (eV (ns.map V.int) (some (j:Int)) (some ((j:Int)+1))))) _;rw[ec];have S:=Tb.au (X:=.lst (((ns.drop j).take 1).map V.int)) U;have h1:upd H p (.lst (((ns.drop j).take 1).map V.int)) p=some (.lst (((ns.drop j).take 1).map V.int)):=ae;generalize upd H p (.lst (((ns.drop j).take 1).map V.int))=H1 at *;refine⟨_,rfl,_,rfl,_,_,rfl,rfl,.inl ⟨af,af⟩,_,_,rfl,rfl,(by show 1<=sizeLine;decide),λp2 ac=>?_⟩;have R:=Tb.au (X:=.lst [V.int ((j:Int)*j+3)]) ac;refine⟨p,p2,_,_,rfl,rfl,R _ _ h1,ae,?_,λI Y=>?_⟩
  .rw[length_map,length_take];show min 1 _+1<=sizeLine;omega
  have s3:=Tb.au (X:=.lst (((ns.drop j).take 1).map V.int++[V.int ((j:Int)*j+3)])) Y;have e3:((ns.drop j).take 1).map V.int++[V.int ((j:Int)*j+3)]=((ns.drop j).take 1++[(j:Int)*j+3]).map V.int:=(by rw[map_append];rfl);have G:=S.trans (R.trans s3);obtain⟨L,_⟩:=at_of (xs:=(ns.drop j).take 1++[(j:Int)*j+3]) (i:=0) (n:=((ns.drop j).take 1++[(j:Int)*j+3]).length) (Int.le_refl _) (by rw[length_append,length_singleton];omega) rfl;rw[<-e3]at L;refine⟨I,_,0,_,rfl,rfl,bq.of ae,L,jt _ _ ?_⟩;generalize ((ns.drop j).take 1++[(j:Int)*j+3]).getD (toNat 0) 0=cl;have ad:=Rm.ed O (G _);show ml _ _ _ _ (upd (upd H1 p2 (.lst [V.int ((j:Int)*j+3)])) I (.lst (((ns.drop j).take 1).map V.int++[V.int ((j:Int)*j+3)])));generalize upd (upd H1 p2 (.lst [V.int ((j:Int)*j+3)])) I (.lst (((ns.drop j).take 1).map V.int++[V.int ((j:Int)*j+3)]))=H3 at *;have J:eV (ns.map V.int) none (some (1:Int))=(ns.take 1).map V.int:=Rm.tK (s:=1);refine⟨_,rfl,_,rfl,a,_,rfl,ad,λp4 ab=>?_⟩;have N:=Tb.au (X:=.lst ((ns.take 1).map V.int)) ab;refine⟨p4,ns.take 1,rfl,bq.of (by rw[<-J];exact ae),_,_,rfl,rfl,(by show(0:Int)<2;decide),rfl,_,rfl,?_⟩;rw[show eV (ns.map V.int) none (some (1:Int))=(ns.take 1).map V.int from J];refine iM (λ_=>?_) (λ_=>?_)
  .exact⟨_,rfl,_,_,rfl,rfl,⟨av,av,av⟩,_,_,rfl,rfl,(by show(0:Int)<10^40;decide),k _ _ (G.trans N)⟩
  .exact⟨_,rfl,_,rfl,cl,j,rfl,λv=>k v _ (G.trans N)⟩
theorem Hy:az ["_law_found"] ["_law_found"] (aq uZ):=L2.bD
theorem zq {f:Addr}{fd:FuncData}(F:cL K "_law_whole" "_law_whole" uZ f fd) (T:kN mg):bf P w K mg base aU 1 f fd ["_law_found"] qd:=by
 refine F.ok Hy (λvs H Q E h=>?_) (λI A outer s H vs Q E G h=>?_)
 .obtain⟨i,rfl,_⟩:=h;rfl
 .obtain⟨i,rfl,k⟩:=h;refine⟨_,(aj (aE (Cz (aN dn (by rfl) T.yH bO (aa (pv 0) (aa (d0 (v:=.ty "int") (by rfl) T.int gS rfl) ai))) (yh (DM (aN dn (by rfl) T.yH bO (aa (pv 0) (aa (d0 (v:=.ty "bool") (by rfl) T.bool AL rfl) ai)))))))),?_⟩;exact⟨_,rfl,.int i,"int",_,true,rfl,.int i,D9 _,true,rfl,dG ⟨_,rfl,.int i,"bool",_,false,rfl,.int i,Di _,false,rfl,k⟩⟩
theorem Bs:az ["_law_m","_law_many","_law_cells_here","_law_k"] ["_law_m","_law_many"] (aq lE):=L2.bD
theorem u6 {f:Addr}{fd:FuncData}(F:cL K "_law_cells" "_law_cells" lE f fd) (T:kN mg):bf P w K mg base aU 1 f fd ["_law_m","_law_many"] jY:=by
 refine F.ok Bs (λvs H Q E h=>?_) (λY A outer s H vs Q E hr h=>?_)
 .obtain⟨m,n,rfl,_⟩:=h;rfl
 .obtain⟨m,n,rfl,hn,k⟩:=h;have hs:sizeLine=16777216:=sizeLine_eq;refine⟨_,(ag (aK (i:=2) Bs.nd rfl (Or.inl rfl) (bX ai))
   (ag (cO PassesOwn.never rfl (xw (by rfl) T.range (aa (pv 1) ai)) (aX (i:=3) Bs.nd rfl (Or.inl rfl)) (ag (aL (gI plainAttrs_list PySem.F.slot_list_append PySem.F.type_list_append iC (pv 2) (aa (ay bH (ay bu (pv 0) (ay eX (ay eX ak (pv 3)) (ay bH (ay bJ (pv 0) ak) ak))) ak) ai)))
   (aj (aS (aC bW (ay bH (pv 3) ak) ak (aH _)) (aj (aK (i:=0) Bs.nd rfl (Or.inl rfl) (ay bJ (pv 0) ak))) aF))))
   (aj (aE (pv 2))))),?_⟩
  refine⟨av,λl L=>?_⟩;have s0:=Tb.au (X:=.lst []) L;refine⟨_,rfl,_,rfl,af,af,?_⟩;refine ig (lo:=0) (n:=(n:Int).toNat) (λi σ H2=>FR λ(G:Int) (I:Option V) (cs:List Int)=>C1 (σ=[some (.int G),some (.int n),some (.ref l),I]) (cs.length=i) (H2 l=some (.lst (cs.map V.int))) (a8 H H2)) ⟨m,_,[],rfl,rfl,ae,s0⟩ ?_ ?_
  .rintro i σ H2 hi ⟨G,I,cs,rfl,U,h2,N⟩;refine⟨_,rfl,.inl ⟨rfl,_,bq.of h2⟩,_,rfl,_,rfl,_,_,rfl,rfl,.inl ⟨av,av⟩,_,rfl,_,_,rfl,rfl,⟨av,av⟩,_,_,rfl,rfl,(by show(0:Int)<7;decide),_,_,rfl,rfl,.inr ⟨?_,?_⟩,_,_,rfl,rfl,_,_,rfl,rfl,(by show(0:Int)<256;decide),l,_,_,rfl,rfl,h2,by rw[length_map];omega,?_⟩
   .have:=emod_nonneg (G/256) (show(7:Int)≠0 by decide);omega
   .have:=emod_lt_of_pos (G/256) (show(0:Int)<7 by decide);omega
   have J:=Rm.Bz N L (X:=.lst ((cs++[(G+37*(0+(i:Int))*(G/256%7))%256]).map V.int));have R:cs.map V.int++[V.int ((G+37*(0+(i:Int))*(G/256%7))%256)]=(cs++[(G+37*(0+(i:Int))*(G/256%7))%256]).map V.int:=(by rw[map_append];rfl);refine⟨_,rfl,_,_,rfl,rfl,(by show(0:Int)<8;decide),rfl,_,rfl,?_⟩;have O:(cs++[(G+37*(0+(i:Int))*(G/256%7))%256]).length=i+1:=(by rw[length_append,U];rfl);rw[<-R]at J;have S:upd H2 l (.lst (cs.map V.int++[V.int ((G+37*(0+(i:Int))*(G/256%7))%256)])) l=some (.lst ((cs++[(G+37*(0+(i:Int))*(G/256%7))%256]).map V.int)):=(by rw[<-R];exact ae);exact iM (λ_=>⟨_,rfl,_,_,rfl,rfl,⟨av,av⟩,_,_,_,rfl,O,S,J⟩) (λ_=>⟨_,_,_,rfl,O,S,J⟩)
  .rintro σ H2 ⟨G,I,cs,rfl,U,h2,N⟩;exact⟨_,rfl,k cs H2 l af N L h2⟩
theorem Gi:az ["_law_m","_law_frames"] ["_law_m"] (aq uI):=L2.bD
theorem AA {f:Addr}{fd:FuncData}(F:cL K "_law_sizes" "_law_sizes" uI f fd):bf P w K mg base aU 1 f fd ["_law_m"] kR:=by
 refine F.ok Gi (λvs H Q E h=>?_) (λab A outer s H vs Q E Y h=>?_)
 .obtain⟨m,rfl,_⟩:=h;rfl
 .obtain⟨m,rfl,k⟩:=h;refine⟨_,(ag (aK (i:=1) Gi.nd rfl (Or.inl rfl) (aZ ck (bX (aa ak (aa ak (aa (ay bu ak (ay bH (ay bJ (pv 0) ak) ak)) (aa (ay bu ak (ay bH (ay bJ (pv 0) ak) ak)) ai))))) (ay bH (pv 0) ak) (λ_ _=>rfl)))
   (aj (aE (cM (aa (pv 1) (aa (aZ ck (bX (aa (ay bH (ay bJ (pv 0) ak) ak) (aa (ay bH (ay bJ (pv 0) ak) ak) (aa ak ai)))) (ay bH (ay bJ (pv 0) ak) ak) (λ_ _=>rfl)) ai)))))),?_⟩
  obtain⟨S,_⟩:=yZ m;obtain⟨L,_⟩:=Ad m;refine fN λ_ O=>?_;refine⟨_,rfl,_,_,rfl,rfl,⟨av,av⟩,_,_,rfl,rfl,(by show(0:Int)<5;decide),_,_,rfl,rfl,_,rfl,_,_,rfl,rfl,⟨av,av⟩,_,_,rfl,rfl,(by show(0:Int)<39;decide),_,_,rfl,rfl,(by show 4<=sizeLine;decide),λG R=>⟨_,rfl,_,_,rfl,rfl,(by show(0:Int)<4;decide),G,_,_,.int (kO m),rfl,rfl,bq.of ae,S,O _ _ ?_⟩⟩;have s0:=Tb.au (X:=.lst ((m9 m).map V.int)) R;show DU _ _ _ (upd H G (.lst ((m9 m).map V.int)));generalize upd H G (.lst ((m9 m).map V.int))=H1 at *;refine⟨_,rfl,_,rfl,_,_,rfl,rfl,⟨av,av⟩,_,_,rfl,rfl,(by show(0:Int)<8;decide),_,rfl,_,_,rfl,rfl,⟨av,av⟩,_,_,rfl,rfl,(by show(0:Int)<61;decide),(by show 3<=sizeLine;decide),λl1 N=>⟨_,rfl,_,_,rfl,rfl,⟨av,av⟩,_,_,rfl,rfl,(by show(0:Int)<3;decide),l1,_,_,.int (mP m),rfl,rfl,bq.of ae,L,(by show 2<=sizeLine;decide),λt J=>?_⟩⟩;have I:=Tb.au (X:=.lst ((rM m).map V.int)) N;have U:=Tb.au (X:=.tup [.int (kO m),.int (mP m)]) J;exact k _ t (s0.trans (I.trans U)) (s0.free (I.free J)) ae
end
structure MT where
 ra:Addr
 sa:Addr
 pl:List (Int×Addr×Int)
abbrev Zs:=List (Int×MT)
def fE (z:MT):V:=.ref z.ra
def qS (z:MT):V:=.ref z.sa
def eF (x:Addr×Int):V:=.ref x.1
def nc (x:Addr×Int):V:=.int x.2
def nu (F ls:Addr) (bP pk:Int):List (Key×V):=[(Sum.inr "rooms",.ref F),(Sum.inr "stands",.ref ls),(Sum.inr "total",.int bP),(Sum.inr "pokes",.int pk)]
structure MA where
 md:Addr
 lr:Addr
 ls:Addr
structure cw (H:Hp) (m:MA) (bP pk:Int) (Z:Zs):Prop where
 hm:H m.md=some (.dK (nu m.lr m.ls bP pk))
 hr:H m.lr=some (.dK (Tb.dk fE Z))
 hs:H m.ls=some (.dK (Tb.dk qS Z))
 rm:∀x∈Z,H x.2.ra=some (.dK (Tb.dk eF x.2.pl))
 st:∀x∈Z,H x.2.sa=some (.dK (Tb.dk nc x.2.pl))
 cl:∀x∈Z,∀y∈x.2.pl,∃ns:List Int,H y.2.1=some (.lst (ns.map V.int))/\ns.length=8
 nd:(Z.map (·.1)).Nodup
 np:∀x∈Z,(x.2.pl.map (·.1)).Nodup
 rg:∀x∈Z,∀y∈x.2.pl,0<=y.1/\y.1<64
 da:∀x∈Z,∀y∈Z,x.1≠y.1->x.2.ra≠y.2.ra/\x.2.sa≠y.2.sa
 rs:∀x∈Z,∀y∈Z,x.2.ra≠y.2.sa
 d3:∀x∈Z,x.2.ra≠m.md/\x.2.ra≠m.lr/\x.2.ra≠m.ls/\x.2.sa≠m.md/\x.2.sa≠m.lr/\x.2.sa≠m.ls
 n3:m.md≠m.lr/\m.md≠m.ls/\m.lr≠m.ls
def cR (m:MA) (Z:Zs):Addr->Prop:=λb=>b=m.md\/b=m.lr\/b=m.ls\/∃x∈Z,b=x.2.ra\/b=x.2.sa\/∃y∈x.2.pl,b=y.2.1
theorem ks_ne {a b:Str}(h:a≠b):¬ V.str a=V.str b:=λe=>h (by injection e)
theorem Aw (F ls:Addr) (bP pk:Int):dF (nu F ls bP pk) (Sum.inr "rooms")=some (.ref F):=eD rfl
theorem IL:¬ ((Sum.inr ("rooms" : Str):Key)=Sum.inr ("stands" : Str)):=ao
theorem IM:¬ ((Sum.inr ("rooms" : Str):Key)=Sum.inr ("total" : Str)):=ao
theorem HM:¬ ((Sum.inr ("rooms" : Str):Key)=Sum.inr ("pokes" : Str)):=ao
theorem IK:¬ ((Sum.inr ("stands" : Str):Key)=Sum.inr ("total" : Str)):=ao
theorem Hk:¬ ((Sum.inr ("stands" : Str):Key)=Sum.inr ("pokes" : Str)):=ao
theorem HX:¬ ((Sum.inr ("total" : Str):Key)=Sum.inr ("pokes" : Str)):=ao
theorem Ih (F ls:Addr) (bP pk:Int):dF (nu F ls bP pk) (Sum.inr "stands")=some (.ref ls):=by
 unfold nu;rw[cg IL,eD rfl]
theorem CO (F ls:Addr) (bP pk:Int):dF (nu F ls bP pk) (Sum.inr "total")=some (.int bP):=by
 unfold nu;rw[cg IM,cg IK,eD rfl]
theorem Ge (F ls:Addr) (bP pk:Int):dF (nu F ls bP pk) (Sum.inr "pokes")=some (.int pk):=by
 unfold nu;rw[cg HM,cg Hk,cg HX,eD rfl]
theorem xA (F ls:Addr) (bP pk:Int):j7 [] (nu F ls bP pk)=nu F ls bP pk:=by
 have J:putK ([(Sum.inr "rooms",V.ref F)]:List (Key×V)) (Sum.inr "stands") (V.ref ls)=([(Sum.inr "rooms",V.ref F),(Sum.inr "stands",V.ref ls)]:List (Key×V)):=jg _ (cg IL);have G:putK ([(Sum.inr "rooms",V.ref F),(Sum.inr "stands",V.ref ls)]:List (Key×V)) (Sum.inr "total") (V.int bP)=([(Sum.inr "rooms",V.ref F),(Sum.inr "stands",V.ref ls),(Sum.inr "total",V.int bP)]:List (Key×V)):=jg _ ((cg IM).trans (cg IK));have I:putK ([(Sum.inr "rooms",V.ref F),(Sum.inr "stands",V.ref ls),(Sum.inr "total",V.int bP)]:List (Key×V)) (Sum.inr "pokes") (V.int pk)=([(Sum.inr "rooms",V.ref F),(Sum.inr "stands",V.ref ls),(Sum.inr "total",V.int bP),(Sum.inr "pokes",V.int pk)]:List (Key×V)):=jg _ ((cg HM).trans ((cg Hk).trans (cg HX)));show putK (putK (putK ([(Sum.inr "rooms",V.ref F)]:List (Key×V)) (Sum.inr "stands") (V.ref ls)) (Sum.inr "total") (V.int bP)) (Sum.inr "pokes") (V.int pk)=_;rw[J,G,I];rfl
theorem z9 (G ls:Addr) (bP pk:Int):(nu G ls bP pk).map (λF=>(kV F.1,F.2))=[(.str "rooms",.ref G),(.str "stands",.ref ls),(.str "total",.int bP),(.str "pokes",.int pk)]:=rfl
section
variable {H H':Hp}{m:MA}{bP pk:Int}{Z:Zs}
theorem cw.g {k:Str}{v:V}(M:cw H m bP pk Z) (h:dF (nu m.lr m.ls bP pk) (Sum.inr k)=some v):dB H m.md (.str k) (some v):=by
 have q:=dB.k (k:=Sum.inr k) M.hm;rw[h]at q;exact q
theorem cw.off {B:Addr->Prop}(M:cw H m bP pk Z) (o:Off B H H') (h:∀b,cR m Z b->¬ B b):cw H' m bP pk Z:=by
 refine⟨o _ _ M.hm (h _ (.inl rfl)),o _ _ M.hr (h _ (.inr (.inl rfl))),o _ _ M.hs (h _ (.inr (.inr (.inl rfl)))),λx F=>o _ _ (M.rm x F) (h _ (.inr (.inr (.inr ⟨x,F,.inl rfl⟩)))),λx F=>o _ _ (M.st x F) (h _ (.inr (.inr (.inr ⟨x,F,.inr (.inl rfl)⟩)))),λx F y G=>?_,M.nd,M.np,M.rg,M.da,M.rs,M.d3,M.n3⟩;obtain⟨ns,h1,h2⟩:=M.cl x F y G;exact⟨ns,o _ _ h1 (h _ (.inr (.inr (.inr ⟨x,F,.inr (.inr ⟨y,G,rfl⟩)⟩)))),h2⟩
theorem cw.same (M:cw H m bP pk Z) (s:a8 H H'):cw H' m bP pk Z:=M.off (B:=λ_=>False) (λb o e _=>s b o e) λ_ _=>id
end
def sR (Z:Zs):Int:=(Z.map λx=>(x.2.pl.length:Int)).sum
inductive oO (vs:List V) (H:Hp) (Q:VK) (e3:XK):Prop
 |mk (bP:Int) (_:vs=[.int bP]) (_:∀(H':Hp) (m:MA),a8 H H'->H m.md=none->H m.lr=none->H m.ls=none->cw H' m bP 0 []->Q (.ref m.md) H'):oO vs H Q e3
inductive jy (vs:List V) (H:Hp) (Q:VK) (e3:XK):Prop
 |mk (m:MA) (bP pk:Int) (Z:Zs) (_:vs=[.ref m.md]) (_:cw H m bP pk Z) (_:Z.length<=1000) (_:∀H',a8 H H'->Q (.int (sR Z)) H'):jy vs H Q e3
def vx (pl:List (Int×Addr×Int)) (ad:Int) (n:Nat):Prop:=ad+n<=512/\∀i:Nat,i<n->Tb.look pl ((ad+i)/8)≠none
inductive jU (vs:List V) (H:Hp) (Q:VK) (e3:XK):Prop
 |mk (ra:Addr) (pl:List (Int×Addr×Int)) (ad:Int) (n:Nat) (_:vs=[.ref ra,.int ad,.int n]) (_:H ra=some (.dK (Tb.dk eF pl))) (_:0<=ad) (_:ad<=1000) (_:1<=n) (_:n<=100) (_:∀(b:Bool) (H':Hp),a8 H H'->(b=true->vx pl ad n)->Q (.bl b) H'):jU vs H Q e3
section
variable {P:Program}{w:World}{K:Frag}{mg:Str->Option Value}{base:Heap}
theorem HD:az ["_law_total"] ["_law_total"] (aq uV):=L2.bD
theorem zC {f:Addr}{fd:FuncData}(F:cL K "_law_model" "_law_model" uV f fd):bf P w K mg base aU 1 f fd ["_law_total"] oO:=by
 refine F.ok HD (λvs H Q E h=>?_) (λac A outer s H vs Q E hr h=>?_)
 .obtain⟨bP,rfl,_⟩:=h;rfl
 .obtain⟨bP,rfl,k⟩:=h;refine⟨_,(aj (aE (AO (keys:=[some _,some _,some _,some _]) (values:=[_,_,_,_]) (jc aI c6 (jc aI c6 (jc aI (pv 0) (jc aI ak BN)))) rfl rfl (List.cons_ne_nil _ _) (Nat.le_of_ble_eq_true rfl)))),?_⟩;refine λL ab I N ls J=>⟨_,rfl,?_⟩;have O:I≠L:=λe=>(by rw[e,ae]at N;cases N);have U:H I=none:=(by rw[ah O]at N;exact N);have S:ls≠I:=λe=>(by rw[e,ae]at J;cases J);rw[ah S]at J;have R:ls≠L:=λe=>(by rw[e,ae]at J;cases J);have Y:H ls=none:=(by rw[ah R]at J;exact J);refine⟨by rw[ah (Ne.symm R),ah (Ne.symm O),ae],nu I ls bP 0,(z9 I ls bP 0).symm,by show 4<=15;decide,?_⟩;rw[xA];refine k _ ⟨L,I,ls⟩ (λb o e=>?_) ab U Y ⟨ae,?_,?_,(λx G=>by cases G),(λx G=>by cases G),(λx G=>by cases G),nodup_nil,(λx G=>by cases G),(λx G=>by cases G),(λx G=>by cases G),(λx G=>by cases G),(λx G=>by cases G),⟨Ne.symm O,Ne.symm R,Ne.symm S⟩⟩
  .have a1:b≠L:=ar e ab;rw[ah a1,ah (ar e Y),ah (ar e U),ah a1];exact e
  .show upd _ L _ I=_;rw[ah O,ah (Ne.symm S),ae];rfl
  .show upd _ L _ ls=_;rw[ah R,ae];rfl
theorem HV:az ["_law_model_here"] ["_law_model_here"] (aq t7):=L2.bD
theorem Ai {f:Addr}{fd:FuncData}(F:cL K "_law_held" "_law_held" t7 f fd) (T:kN mg):bf P w K mg base aU 1 f fd ["_law_model_here"] jy:=by
 refine F.ok HV (λvs H Q E h=>?_) (λab A outer s H vs Q E hr h=>?_)
 .obtain⟨m,bP,pk,Z,rfl,_⟩:=h;rfl
 .obtain⟨m,bP,pk,Z,rfl,M,lz,k⟩:=h;have hs:sizeLine=16777216:=sizeLine_eq;refine⟨_,(aj (aE (aN (lP rfl) (by rfl) T.sum ud (aa (vQ (gp (cl:=[]) (caps:=[]) ⟨rfl,ao,ao,rfl,by kernel_rfl,by intro p I;simp at I,by kernel_rfl,by intro p I;simp at I,ao⟩ rfl (AY (bA (bj hr) (pv 0) aI (λ_ _=>rfl))) (λ_ _ _ _=>fm) (λ_ _ _ _=>(aN j5 (by rfl) T.len boot_len (aa (pv 0) ai))))) ai)))),?_⟩;have R:∀(o:Obj) U,H m.lr≠some (.frz o U):=λo U z=>(by rw[M.hr]at z;cases z);refine⟨_,rfl,m.md,.ref m.lr,rfl,M.g (Aw _ _ _ _),m.lr,_,rfl,M.hr,R,λo=>?_⟩;have oF:Off (· = m.lr) H (upd H m.lr (.frz o (.dK (Tb.dk fE Z)))):=Off.wr rfl;have N:(upd H m.lr (.frz o (.dK (Tb.dk fE Z)))) m.lr=some (.frz o (.dK (Tb.dk fE Z))):=ae;refine tj (a:=m.lr) (o:=o) (kvs:=Tb.dk fE Z) (λi ys H2=>ys=((Z.take i).map λx=>(x.2.pl.length:Int)).map V.int/\H2=upd H m.lr (.frz o (.dK (Tb.dk fE Z)))) ⟨rfl,rfl⟩ (λi zs H2 _ ⟨_,e⟩=>by rw[e];exact N) ?_ ?_
  .rintro i kk v zs H2 Y ⟨rfl,rfl⟩;have S:(Z.map λx:Int×MT=>((Sum.inl x.1:Key),fE x.2))[i]?=some (kk,v):=Y;rw[getElem?_map]at S;obtain⟨x,L,e⟩:=Option.map_eq_some_iff.mp S;cases e;have O:=mem_of_getElem? L;have hi:i<Z.length:=(List.getElem?_eq_some_iff.mp L).1;refine⟨_,rfl,x.2.ra,_,rfl,oF _ _ (M.rm x O) (M.d3 x O).2.1,?_,?_,rfl⟩
   .rw[length_map,length_map,length_take];omega
   .rw[Tb.cm,take_add_one,L,map_append,map_append];rfl
  .rintro zs H2 ⟨rfl,rfl⟩ l G;have J:l≠m.lr:=λz=>(by rw[z,N]at G;cases G);refine⟨m.lr,o,Tb.dk fE Z,by rw[ah (Ne.symm J)];exact N,R,l,(Z.map λx=>(x.2.pl.length:Int)),rfl,bq.of ?_,?_⟩
   .rw[ah J,ae,Tb.cm,take_length]
   .refine k _ λb u e=>?_;by_cases z:b=m.lr
    .rw[z,ae, <-e,z,M.hr]
    .rw[ah z,ah (λy=>by rw[y]at e;rw[ah J,e]at G;cases G),ah z];exact e
theorem Bg:az ["_law_room","_law_address","_law_many"] ["_law_room","_law_address","_law_many"] (aq lL):=L2.bD
theorem uP {f:Addr}{fd:FuncData}(F:cL K "_law_stretch" "_law_stretch" lL f fd) (T:kN mg):bf P w K mg base aU 1 f fd ["_law_room","_law_address","_law_many"] jU:=by
 refine F.ok Bg (λvs H Q E h=>?_) (λS A outer s H vs Q E N h=>?_)
 .obtain⟨I,pl,ad,n,rfl,_⟩:=h;rfl
 .obtain⟨I,pl,ad,n,rfl,J,Y,R,O,U,k⟩:=h;have hs:sizeLine=16777216:=sizeLine_eq;refine⟨_,(ag (aS (aC gG (pv 2) ak (aH _)) (aj (aE lJ)) aF)
   (ag (aS (PW.pt (uv (aC iJ (pv 2) ak (aH _)) (pZ (PW.pt (gj (aC gG (pv 1) ak (aH _)) (eY (aC iJ (ay bu (pv 1) (pv 2)) ak (aH _)))))))) (aj (aE lJ)) aF)
   (aj (aE (EN (kW bW (pv 2) ak (aH _)) (yh (aN (ke rfl) (by rfl) T.all u0 (aa (gp (cl:=[("_law_room",s.heap.objs.size+1)]) (caps:=[("_law_room",0)]) ⟨rfl,ao,ao,rfl,by kernel_rfl,by intro p G;simp only[mem_cons,not_mem_nil,or_false]at G;rcases G with rfl<;>first|rfl|exact⟨rfl,.inl rfl,.inl rfl⟩|exact⟨rfl,.inl rfl,.inr rfl⟩,by kernel_rfl,by intro p G;simp only[mem_cons,not_mem_nil,or_false]at G;rcases G with rfl<;>first|rfl|exact⟨rfl,.inl rfl,.inl rfl⟩|exact⟨rfl,.inl rfl,.inr rfl⟩,ao⟩ rfl (eR (by rfl) T.range (aa (pv 1) (aa (ay bu (pv 1) (pv 2)) ai))) (λ_ _ _ _=>fm) (λ_ _ _ _=>(uf (mF (bj N) (ay bJ (pv 0) ak) (pv 1))))) ai)))))))),?_⟩
  refine⟨_,rfl,_,_,rfl,rfl,_,rfl,?_⟩;rw[decide_eq_false af];refine bw (vY ?_);dsimp only;refine⟨_,rfl,_,_,rfl,rfl,_,rfl,?_⟩;rw[decide_eq_true af];refine dG ?_;refine⟨_,rfl,_,_,rfl,rfl,_,rfl,?_⟩;rw[decide_eq_false af];refine bw ?_;refine⟨_,rfl,_,rfl,_,_,rfl,rfl,_,_,rfl,rfl,_,rfl,?_⟩;by_cases c:(512:Int)<ad+n
  .rw[decide_eq_true c];exact dG (k false H (a8.refl H) (λz=>by cases z))
  .rw[decide_eq_false c];refine bw (vY ?_);dsimp only;refine⟨_,rfl,rfl,_,rfl,?_⟩;refine iM (λz=>?_) (λ_=>?_)
   .exfalso;have:((n:Nat):Int)=0:=(by simpa using z);omega
   refine⟨_,rfl,_,rfl,_,rfl,_,_,rfl,rfl,_,_,rfl,⟨af,af,af,af⟩,?_⟩;refine fw (lo:=ad) (n:=(ad+(n:Int)-ad).toNat) (λi ys H2=>ys=((List.range i).map λj:Nat=>(Tb.look pl ((ad+j)/8)).isSome).map V.bl/\H2=H) ⟨rfl,rfl⟩ ?_ ?_
   .rintro i ys H2 hi ⟨rfl,rfl⟩;refine⟨_,rfl,_,_,rfl,rfl,⟨av,av⟩,_,rfl,I,_,rfl,fL J,?_,?_,rfl⟩
    .rw[length_map,length_map,length_range];omega
    .rw[range_succ,map_append,map_append];show _++[V.bl ((Tb.look pl ((ad+(i:Int))/8)).map eF).isSome]=_;rw[isSome_map];rfl
   .rintro ys H2 ⟨rfl,rfl⟩ l L;refine⟨l,_,rfl,bq.of ae,k _ _ (Tb.au L) λz=>⟨af,λi hi=>?_⟩⟩;have e:=List.all_eq_true.mp z ((Tb.look pl ((ad+(i:Int))/8)).isSome) (List.mem_map.mpr ⟨i,List.mem_range.mpr af,rfl⟩);intro w;rw[w]at e;cases e
end
inductive Dd where
 |begin (t:Int)
 |close (t:Int)
 |map (t p m:Int)
 |drop (t p m:Int)
 |peek (t ad:Int) (n:Nat)
 |poke (t ad:Int) (c:Addr) (cs:List Int)
 |copy (t o:Int)
def xU:Dd->List V
 |.begin t=>[.str "begin",.int t]
 |.close t=>[.str "close",.int t]
 |.map t p m=>[.str "map",.int t,.int p,.int m]
 |.drop t p m=>[.str "drop",.int t,.int p,.int m]
 |.peek t ad n=>[.str "peek",.int t,.int ad,.int n]
 |.poke t ad c _=>[.str "poke",.int t,.int ad,.ref c]
 |.copy t o=>[.str "copy",.int t,.int o]
def DK:Dd->Str
 |.begin _ => "begin" |.close _ => "close" |.map .. => "map" |.drop .. => "drop" |.peek .. => "peek" |.poke .. => "poke" |.copy .. => "copy"
def Cp:Dd->Int
 |.begin t=>t|.close t=>t|.map t _ _=>t|.drop t _ _=>t|.peek t _ _=>t|.poke t _ _ _=>t|.copy t _=>t
def u7 (H:Hp) (d:Addr) (D:Dd):Prop:=H d=some (.tup (xU D))/\∀t ad c cs,D=.poke t ad c cs->H c=some (.lst (cs.map V.int))
def Bj:Dd->Prop
 |.begin _=>False
 |.map _ p m=>0<=p/\p<64/\1<=m/\m<=64
 |.drop _ p m=>0<=p/\p<64/\1<=m/\m<=64
 |.peek _ ad n=>0<=ad/\ad<=1000/\1<=n/\n<=100
 |.poke _ ad _ cs=>0<=ad/\ad<=1000/\1<=cs.length/\cs.length<=100
 |_=>True
def CG (Z:Zs) (bP:Int):Dd->Prop
 |.begin t=>Tb.look Z t=none
 |.close t=>∃z,Tb.look Z t=some z
 |.map t p m=>∃z,Tb.look Z t=some z/\¬ Rm.cu p m/\(∀q∈Rm.aR p m,Tb.look z.pl q=none)/\sR Z+m<=bP
 |.drop t p m=>∃z,Tb.look Z t=some z/\¬ Rm.cu p m/\∀q∈Rm.aR p m,Tb.look z.pl q≠none
 |.peek t ad n=>∃z,Tb.look Z t=some z/\vx z.pl ad n
 |.poke t ad _ cs=>∃z,Tb.look Z t=some z/\vx z.pl ad cs.length
 |.copy t o=>∃z,Tb.look Z t=some z/\Tb.look Z o=none/\sR Z+z.pl.length<=bP
inductive zg (vs:List V) (H:Hp) (Q:VK) (e3:XK):Prop
 |mk (m:MA) (bP pk:Int) (Z:Zs) (d:Addr) (D:Dd) (_:vs=[.ref m.md,.ref d]) (_:cw H m bP pk Z) (_:Z.length<=1000) (_:u7 H d D) (_:Bj D) (_:∀(r:Str) (H':Hp),a8 H H'->(r = "" -> CG Z bP D)->Q (.str r) H'):zg vs H Q e3
theorem at2 {a b:V}(k:Bool):x9 [a,b] (if k=true then 1 else 0)=some (if k=true then b else a):=by cases k<;>rfl
theorem C8 (D:Dd):eV (xU D) none (some 2)=[.str (DK D),.int (Cp D)]:=by cases D<;>rfl
theorem AD {D:Dd}(h:HT.cU (xU D).length 0 none=0/\HT.cU (xU D).length (xU D).length (some 2)=(xU D).length):xU D=[.str (DK D),.int (Cp D)]:=by
 obtain⟨_,h⟩:=h;cases D<;>first|rfl|(exact absurd (show HT.cU 4 4 (some 2)=4 from h) av)|(exact absurd (show HT.cU 3 3 (some 2)=3 from h) av)
section
variable {P:Program}{w:World}{K:Frag}{mg:Str->Option Value}{base:Heap}
theorem qW:az ["_law_model_here","_law_deed","_law_rooms","_law_name","_law_task","_law_room","_law_page","_law_many","_law_there"] ["_law_model_here","_law_deed"] (aq CL):=L2.bD
theorem bS {a b:Str}(h:a≠b:=by dsimp only[DK];decide +kernel):¬ V.str a=V.str b:=ks_ne h
theorem C2 {f:Addr}{fd:FuncData}(F:cL K "_law_due" "_law_due" CL f fd) (T:kN mg) (a3:Df P w K mg base aU 1 "_law_held" jy) (a5:Df P w K mg base aU 1 "_law_stretch" jU) :
  bf P w K mg base aU 2 f fd ["_law_model_here","_law_deed"] zg:=by
 refine F.ok qW (λvs H Q E h=>?_) (λba A outer s H vs Q E S h=>?_)
 .obtain⟨m,bP,pk,Z,d,D,rfl,_⟩:=h;rfl
 .obtain⟨m,bP,pk,Z,d,D,rfl,M,lz,hd,ab,k⟩:=h;have hs:sizeLine=16777216:=sizeLine_eq;refine⟨_,(ag (aK (i:=2) qW.nd rfl (Or.inl rfl) (bA (bj S) (pv 0) aI (λ_ _=>rfl)))
   (ag (cG (dg kS (pv 1) fq (cV ak)) (dw rfl (a9 (aX (i:=3) qW.nd rfl (Or.inl rfl)) (a9 (aX (i:=4) qW.nd rfl (Or.inl rfl)) cI))))
   (ag (aS (aC bW (pv 3) aI (aH _)) (aj (aE (aZ ck (bX (aa aI (aa aI ai))) (bE dW (by rfl) T.int gS (aa (uf (mF (bj S) (pv 4) (pv 2))) ai)) (λ_ _=>rfl)))) aF)
   (ag (aS (iU (gf (bj S) (pv 4) (pv 2))) (aj (aE aI)) aF)
   (ag (aK (i:=5) qW.nd rfl (Or.inr rfl) (bA (bj S) (pv 2) (pv 4) (λ_ _=>rfl)))
   (ag (aS (PW.pt (gj (aC bW (pv 3) aI (aH _)) (eY (aC bW (pv 3) aI (aH _))))) (ag (cG (dg kS (pv 1) (cV ak) fq) (dw rfl (a9 (aX (i:=6) qW.nd rfl (Or.inl rfl)) (a9 (aX (i:=7) qW.nd rfl (Or.inl rfl)) cI))))
   (ag (aS (PW.pt (gj (aC gG (pv 7) ak (aH _)) (gj (aC gG (pv 6) ak (aH _)) (eY (aC iJ (ay bu (pv 6) (pv 7)) ak (aH _)))))) (aj (aE aI)) aF)
   (ag (BL (i:=8) (cl:=[("_law_room",s.heap.objs.size+1)]) (caps:=[("_law_room",5)]) qW.nd rfl (Or.inl rfl) ⟨rfl,ao,ao,rfl,by kernel_rfl,by intro p hp;simp only[mem_cons,not_mem_nil,or_false]at hp;rcases hp with rfl<;>first|rfl|exact⟨rfl,.inl rfl,.inl rfl⟩|exact⟨rfl,.inl rfl,.inr rfl⟩,by kernel_rfl,by intro p hp;simp only[mem_cons,not_mem_nil,or_false]at hp;rcases hp with rfl<;>first|rfl|exact⟨rfl,.inl rfl,.inl rfl⟩|exact⟨rfl,.inl rfl,.inr rfl⟩,ao⟩ rfl (eR (by rfl) T.range (aa (pv 6) (aa (ay bu (pv 6) (pv 7)) ai))) (λ_ _ _ _=>fm) (λ_ _ _ _=>(uf (mF (bj S) (pv 0) (pv 1)))))
   (ag (aS (aC bW (pv 3) aI (aH _)) (aj (aE (aZ ck (bX (aa aI (aa aI ai))) (bE dW (by rfl) T.int gS (aa (aN (ke rfl) (by rfl) T.all u0 (aa (pv 8) ai)) ai)) (λ_ _=>rfl)))) aF)
   (ag (aS (fQ (aN (wN rfl) (by rfl) T.any CD (aa (pv 8) ai))) (aj (aE aI)) aF)
   (aj (aE (aZ ck (bX (aa aI (aa aI ai))) (bE dW (by rfl) T.int gS (aa (kW iJ (ay bu (pc a3 S aw (aa (pv 0) ai)) (pv 7)) (bA (bj S) (pv 0) aI (λ_ _=>rfl)) (aH _)) ai)) (λ_ _=>rfl))))))))) aF)
   (ag (aS (aC bW (pv 3) aI (aH _)) (aj (aE (aZ ck (bX (aa aI (aa aI ai))) (bE dW (by rfl) T.int gS (aa (pc a5 S aw (aa (pv 5) (aa (aZ bh (pv 1) ak (λ_ _=>rfl)) (aa (aZ bh (pv 1) ak (λ_ _=>rfl)) ai)))) ai)) (λ_ _=>rfl)))) aF)
   (ag (aS (aC bW (pv 3) aI (aH _)) (aj (aE (aZ ck (bX (aa aI (aa aI ai))) (bE dW (by rfl) T.int gS (aa (pc a5 S aw (aa (pv 5) (aa (aZ bh (pv 1) ak (λ_ _=>rfl)) (aa (aN bF (by rfl) T.len boot_len (aa (aZ bh (pv 1) ak (λ_ _=>rfl)) ai)) ai)))) ai)) (λ_ _=>rfl)))) aF)
   (ag (aS (aC bW (pv 3) aI (aH _)) (ag (aS (iU (mF (bj S) (aZ bh (pv 1) ak (λ_ _=>rfl)) (pv 2))) (aj (aE aI)) aF)
   (aj (aE (aZ ck (bX (aa aI (aa aI ai))) (bE dW (by rfl) T.int gS (aa (kW iJ (ay bu (pc a3 S aw (aa (pv 0) ai)) (aN j5 (by rfl) T.len boot_len (aa (pv 5) ai))) (bA (bj S) (pv 0) aI (λ_ _=>rfl)) (aH _)) ai)) (λ_ _=>rfl))))) aF)
   (aj (aE aI))))))))))),?_⟩
  refine fN λ_ jt=>?_;refine⟨_,rfl,m.md,.ref m.lr,rfl,M.g (Aw _ _ _ _),jt _ _ ?_⟩;refine share (λσ H1=>a8 H H1/\σ=[some (.ref m.md),some (.ref d),some (.ref m.lr),some (.str (DK D)),some (.int (Cp D)),none,none,none,none]) (λu' a4=>?A) ?B
  case A =>
   refine⟨_,rfl,_,rfl,d,_,rfl,bR.of hd.1,λc=>?_,λ_ p hp=>?_⟩
   .exact⟨d,_,rfl,bR.of hd.1,by rw[AD c];rfl,by rw[AD c];exact⟨_,_,rfl,_,_,rfl,rfl,a4 _ _ ⟨a8.refl H,rfl⟩⟩⟩
   .rw[C8];exact⟨p,_,rfl,bR.of ae,rfl,_,_,rfl,_,_,rfl,rfl,a4 _ _ ⟨Tb.au hp,rfl⟩⟩
  case B =>
  rintro σ H1 ⟨R,rfl⟩;have M1:=M.same R;have Y:H1 d=some (.tup (xU D)):=R _ _ hd.1;have a6:∀t ad c cs,D=.poke t ad c cs->H1 c=some (.lst (cs.map V.int)):=λt ad c cs e=>R _ _ (hd.2 t ad c cs e);have nb:DK D ≠ "begin" := by
   cases D with
   |begin t=>exact absurd ab id
   |close t=>exact(show ¬ (("close" : Str) = "begin")by decide +kernel)
   |map t p m=>exact(show ¬ (("map" : Str) = "begin")by decide +kernel)
   |drop t p m=>exact(show ¬ (("drop" : Str) = "begin")by decide +kernel)
   |peek t p m=>exact(show ¬ (("peek" : Str) = "begin")by decide +kernel)
   |poke t p m q=>exact(show ¬ (("poke" : Str) = "begin")by decide +kernel)
   |copy t p=>exact(show ¬ (("copy" : Str) = "begin")by decide +kernel)
  refine bZ λ_ J G=>?_;refine dQ (bB rfl) bC rfl (ks_ne nb) (G _ ?_);clear J G;refine bZ λ_ J G=>?_;refine⟨_,rfl,_,rfl,m.lr,_,rfl,fL (t:=Cp D) M1.hr,?_⟩;cases ez:Tb.look Z (Cp D)with
  |none=>exact⟨true,rfl,J _ (k "NoTask" H1 R (λz=>absurd z ao))⟩
  |some z =>
  refine⟨false,rfl,G _ ?_⟩;clear J G;have hg:=fL (t:=Cp D) M1.hr;rw[ez]at hg;have ap:=Tb.aA ez;refine fN λ_ jt=>?_;refine⟨_,rfl,_,rfl,m.lr,fE z,rfl,hg,jt _ _ ?_⟩;clear jt;cases D with
  |begin t=>exact absurd ab id
  |close t =>
   refine bZ λ_ J G=>?_;refine dQ (bB rfl) bC rfl bS (bw (dQ (bB rfl) bC rfl bS (G _ ?_)));refine bZ λ_ J G=>?_;refine dQ (bB rfl) bC rfl bS (G _ ?_);refine bZ λ_ J G=>?_;refine dQ (bB rfl) bC rfl bS (G _ ?_);refine bZ λ_ J G=>?_;refine dQ (bB rfl) bC rfl bS (G _ ?_);exact k "" H1 R λ_=>⟨z,ez⟩
  |peek t ad n =>
   refine bZ λ_ J G=>?_;refine dQ (bB rfl) bC rfl bS (bw (dQ (bB rfl) bC rfl bS (G _ ?_)));refine bZ λ_ J G=>?_;refine eqT (bB rfl) bC rfl (J _ ?_);obtain⟨a0,a1,n0,n1⟩:=ab;refine⟨by show 2<=sizeLine;decide,λl U=>?_⟩;have L:=Tb.au (X:=.lst [.str "NoPage",.str ""]) U;have h2:upd H1 l (.lst [.str "NoPage",.str ""]) l=some (.lst [.str "NoPage",.str ""]):=ae;refine⟨_,rfl,_,rfl,d,_,_,.int ad,rfl,rfl,bR.of (L _ _ Y),rfl,_,rfl,d,_,_,.int n,rfl,rfl,bR.of (L _ _ Y),rfl,z.ra,z.pl,ad,n,rfl,L _ _ (M1.rm _ ap),a0,a1,n0,n1,λb N O hb=>?_⟩;refine .inr ⟨b,rfl,l,_,_,_,rfl,rfl,bq.of (O _ _ h2),at2 b,?_⟩;cases b
   .exact k "NoPage" N (R.trans (L.trans O)) (λw=>absurd w ao)
   .exact k "" N (R.trans (L.trans O)) (λ_=>⟨z,ez,hb rfl⟩)
  |poke t ad c cs =>
   refine bZ λ_ J G=>?_;refine dQ (bB rfl) bC rfl bS (bw (dQ (bB rfl) bC rfl bS (G _ ?_)));refine bZ λ_ J G=>?_;refine dQ (bB rfl) bC rfl bS (G _ ?_);refine bZ λ_ J G=>?_;refine eqT (bB rfl) bC rfl (J _ ?_);obtain⟨a0,a1,n0,n1⟩:=ab;refine⟨by show 2<=sizeLine;decide,λl U=>?_⟩;have L:=Tb.au (X:=.lst [.str "NoPage",.str ""]) U;have h2:upd H1 l (.lst [.str "NoPage",.str ""]) l=some (.lst [.str "NoPage",.str ""]):=ae;refine⟨_,rfl,_,rfl,d,_,_,.int ad,rfl,rfl,bR.of (L _ _ Y),rfl,_,rfl,d,_,_,.ref c,rfl,rfl,bR.of (L _ _ Y),rfl,c,_,rfl,.inl (bq.of (L _ _ (a6 _ _ _ _ rfl))),z.ra,z.pl,ad,cs.length,by rw[length_map];rfl,L _ _ (M1.rm _ ap),a0,a1,n0,n1,λb N O hb=>?_⟩;refine .inr ⟨b,rfl,l,_,_,_,rfl,rfl,bq.of (O _ _ h2),at2 b,?_⟩;cases b
   .exact k "NoPage" N (R.trans (L.trans O)) (λw=>absurd w ao)
   .exact k "" N (R.trans (L.trans O)) (λ_=>⟨z,ez,hb rfl⟩)
  |copy t o =>
   refine bZ λ_ J G=>?_;refine dQ (bB rfl) bC rfl bS (bw (dQ (bB rfl) bC rfl bS (G _ ?_)));refine bZ λ_ J G=>?_;refine dQ (bB rfl) bC rfl bS (G _ ?_);refine bZ λ_ J G=>?_;refine dQ (bB rfl) bC rfl bS (G _ ?_);refine bZ λ_ J G=>?_;refine eqT (bB rfl) bC rfl (J _ ?_);refine bZ λ_ J G=>?_;refine⟨_,rfl,d,_,_,.int o,rfl,rfl,bR.of Y,rfl,_,rfl,m.lr,_,rfl,fL (t:=o) M1.hr,?_⟩;cases eo:Tb.look Z o with
   |some _=>exact⟨true,rfl,J _ (k "Taken" H1 R (λw=>absurd w ao))⟩
   |none =>
   refine⟨false,rfl,G _ ?_⟩;refine⟨by show 2<=sizeLine;decide,λl U=>?_⟩;have L:=Tb.au (X:=.lst [.str "",.str "NoRoom"]) U;have h2:upd H1 l (.lst [.str "",.str "NoRoom"]) l=some (.lst [.str "",.str "NoRoom"]):=ae;refine⟨_,rfl,m,bP,pk,Z,rfl,M1.same L,lz,λN O=>?_⟩;have M3:=(M1.same L).same O;refine⟨_,rfl,z.ra,_,rfl,M3.rm _ ap,_,_,rfl,rfl,_,rfl,m.md,.int bP,rfl,M3.g (CO _ _ _ _),_,_,rfl,rfl,?_⟩;refine .inr ⟨_,rfl,l,_,_,_,rfl,rfl,bq.of (O _ _ h2),at2 _,?_⟩;rw[Tb.cm];by_cases c:bP<sR Z+z.pl.length
   .rw[decide_eq_true c];exact k "NoRoom" N (R.trans (L.trans O)) (λw=>absurd w ao)
   .rw[decide_eq_false c];exact k "" N (R.trans (L.trans O)) (λ_=>⟨z,ez,eo,af⟩)
  |map t p I =>
   refine bZ λ_ J G=>?_;refine eqT (bB rfl) bC rfl (dG (J _ ?_));obtain⟨p0,p1,m0,m1⟩:=ab;refine⟨_,rfl,_,rfl,d,_,rfl,bR.of Y,λc=>absurd c (by rintro⟨c,_⟩;exact absurd (show HT.cU 4 0 (some 2)=0 from c) av),λ_ p' a2=>?_⟩;have L:=Tb.au (X:=.tup [.int p,.int I]) a2;have ec:∀x:Str,eV [V.str x,V.int t,V.int p,V.int I] (some 2) none=[V.int p,V.int I]:=λ_=>rfl;dsimp only[xU];rw[ec];refine⟨p',[.int p,.int I],rfl,bR.of ae,rfl,_,_,rfl,_,_,rfl,rfl,?_⟩;have a7:=L _ _ Y;have M2:=M1.same L;generalize upd H1 p' (.tup [.int p,.int I])=H2 at *;refine bZ λ_ am ac=>?_;refine⟨_,rfl,_,_,rfl,rfl,_,rfl,?_⟩;rw[decide_eq_false af];refine bw ?_;refine⟨_,rfl,_,_,rfl,rfl,_,rfl,?_⟩;rw[decide_eq_false af];refine bw ?_;refine⟨_,rfl,_,rfl,_,_,rfl,rfl,_,_,rfl,rfl,_,rfl,?_⟩;by_cases c:(64:Int)<p+I
   .rw[decide_eq_true c];exact am _ (k "NoPage" H2 (R.trans L) (λw=>absurd w ao))
   rw[decide_eq_false c];refine ac _ ?_;clear am ac;have as:¬ Rm.cu p I:=λh=>by
    rcases h with h|h|h<;>omega
   refine⟨_,rfl,_,rfl,_,rfl,_,_,rfl,rfl,_,_,rfl,⟨af,af,af,af⟩,?_⟩;refine fw (lo:=p) (n:=(p+I-p).toNat) (λi ys N=>ys=((List.range i).map λj:Nat=>(Tb.look z.pl (p+j)).isSome).map V.bl/\N=H2) ⟨rfl,rfl⟩ ?_ ?_
   .rintro i ys N hi ⟨rfl,rfl⟩;refine⟨_,rfl,_,rfl,z.ra,_,rfl,fL (M2.rm _ ap),?_,?_,rfl⟩
    .rw[length_map,length_map,length_range];omega
    .rw[range_succ,map_append,map_append];show _++[V.bl ((Tb.look z.pl (p+(i:Int))).map eF).isSome]=_;rw[isSome_map];rfl
   rintro ys N ⟨rfl,rfl⟩ l U;have O:=Tb.au (X:=.lst (((List.range (p+I-p).toNat).map λj:Nat=>(Tb.look z.pl (p+j)).isSome).map V.bl)) U;have h3:upd N l (.lst (((List.range (p+I-p).toNat).map λj:Nat=>(Tb.look z.pl (p+j)).isSome).map V.bl)) l=some (.lst (((List.range (p+I-p).toNat).map λj:Nat=>(Tb.look z.pl (p+j)).isSome).map V.bl)):=ae;have aT:Rm.aR p I=(List.range (p+I-p).toNat).map λj:Nat=>p+j:=(by unfold Rm.aR;rw[show p+I-p=I by omega]);generalize upd N l (.lst (((List.range (p+I-p).toNat).map λj:Nat=>(Tb.look z.pl (p+j)).isSome).map V.bl))=H4 at *;have M4:=M2.same O;have S4:=R.trans (L.trans O);refine nameQ ?_;dsimp only;refine bZ λ_ J G=>?_;refine dQ (bB rfl) bC rfl bS (G _ ?_);refine bZ λ_ J G=>?_;refine⟨_,rfl,l,_,rfl,bq.of h3,_,rfl,?_⟩;cases ea:(((List.range (p+I-p).toNat).map λj:Nat=>(Tb.look z.pl (p+j)).isSome)).any id with
   |true=>exact J _ (k "Taken" H4 S4 (λw=>absurd w ao))
   |false =>
   refine G _ ?_;refine⟨by show 2<=sizeLine;decide,λl2 aB=>?_⟩;have s5:=Tb.au (X:=.lst [.str "",.str "NoRoom"]) aB;have h5:upd H4 l2 (.lst [.str "",.str "NoRoom"]) l2=some (.lst [.str "",.str "NoRoom"]):=ae;refine⟨_,rfl,m,bP,pk,Z,rfl,M4.same s5,lz,λH6 s6=>?_⟩;have M6:=(M4.same s5).same s6;refine⟨_,rfl,_,_,rfl,rfl,_,rfl,m.md,.int bP,rfl,M6.g (CO _ _ _ _),_,_,rfl,rfl,?_⟩;refine .inr ⟨_,rfl,l2,_,_,_,rfl,rfl,bq.of (s6 _ _ h5),at2 _,?_⟩;by_cases c2:bP<sR Z+I
   .rw[decide_eq_true c2];exact k "NoRoom" H6 (S4.trans (s5.trans s6)) (λw=>absurd w ao)
   .rw[decide_eq_false c2];refine k "" H6 (S4.trans (s5.trans s6)) (λ_=>⟨z,ez,as,λq hq=>?_,af⟩);rw[aT]at hq;obtain⟨j,hj,rfl⟩:=List.mem_map.mp hq;have e:=List.any_eq_false.mp ea ((Tb.look z.pl (p+(j:Int))).isSome) (List.mem_map.mpr ⟨j,hj,rfl⟩);cases w:Tb.look z.pl (p+(j:Int))with
    |none=>rfl
    |some _=>rw[w]at e;exact absurd rfl e
  |drop t p I =>
   refine bZ λ_ J G=>?_;refine dQ (bB rfl) bC rfl bS (bw (eqT (bB rfl) bC rfl (J _ ?_)));obtain⟨p0,p1,m0,m1⟩:=ab;refine⟨_,rfl,_,rfl,d,_,rfl,bR.of Y,λc=>absurd c (by rintro⟨c,_⟩;exact absurd (show HT.cU 4 0 (some 2)=0 from c) av),λ_ p' a2=>?_⟩;have L:=Tb.au (X:=.tup [.int p,.int I]) a2;have ec:∀x:Str,eV [V.str x,V.int t,V.int p,V.int I] (some 2) none=[V.int p,V.int I]:=λ_=>rfl;dsimp only[xU];rw[ec];refine⟨p',[.int p,.int I],rfl,bR.of ae,rfl,_,_,rfl,_,_,rfl,rfl,?_⟩;have a7:=L _ _ Y;have M2:=M1.same L;generalize upd H1 p' (.tup [.int p,.int I])=H2 at *;refine bZ λ_ am ac=>?_;refine⟨_,rfl,_,_,rfl,rfl,_,rfl,?_⟩;rw[decide_eq_false af];refine bw ?_;refine⟨_,rfl,_,_,rfl,rfl,_,rfl,?_⟩;rw[decide_eq_false af];refine bw ?_;refine⟨_,rfl,_,rfl,_,_,rfl,rfl,_,_,rfl,rfl,_,rfl,?_⟩;by_cases c:(64:Int)<p+I
   .rw[decide_eq_true c];exact am _ (k "NoPage" H2 (R.trans L) (λw=>absurd w ao))
   rw[decide_eq_false c];refine ac _ ?_;clear am ac;have as:¬ Rm.cu p I:=λh=>by
    rcases h with h|h|h<;>omega
   refine⟨_,rfl,_,rfl,_,rfl,_,_,rfl,rfl,_,_,rfl,⟨af,af,af,af⟩,?_⟩;refine fw (lo:=p) (n:=(p+I-p).toNat) (λi ys N=>ys=((List.range i).map λj:Nat=>(Tb.look z.pl (p+j)).isSome).map V.bl/\N=H2) ⟨rfl,rfl⟩ ?_ ?_
   .rintro i ys N hi ⟨rfl,rfl⟩;refine⟨_,rfl,_,rfl,z.ra,_,rfl,fL (M2.rm _ ap),?_,?_,rfl⟩
    .rw[length_map,length_map,length_range];omega
    .rw[range_succ,map_append,map_append];show _++[V.bl ((Tb.look z.pl (p+(i:Int))).map eF).isSome]=_;rw[isSome_map];rfl
   rintro ys N ⟨rfl,rfl⟩ l U;have O:=Tb.au (X:=.lst (((List.range (p+I-p).toNat).map λj:Nat=>(Tb.look z.pl (p+j)).isSome).map V.bl)) U;have h3:upd N l (.lst (((List.range (p+I-p).toNat).map λj:Nat=>(Tb.look z.pl (p+j)).isSome).map V.bl)) l=some (.lst (((List.range (p+I-p).toNat).map λj:Nat=>(Tb.look z.pl (p+j)).isSome).map V.bl)):=ae;have aT:Rm.aR p I=(List.range (p+I-p).toNat).map λj:Nat=>p+j:=(by unfold Rm.aR;rw[show p+I-p=I by omega]);generalize upd N l (.lst (((List.range (p+I-p).toNat).map λj:Nat=>(Tb.look z.pl (p+j)).isSome).map V.bl))=H4 at *;have M4:=M2.same O;have S4:=R.trans (L.trans O);refine nameQ ?_;dsimp only;refine bZ λ_ J G=>?_;refine eqT (bB rfl) bC rfl (J _ ?_);refine⟨by show 2<=sizeLine;decide,λl2 aB=>?_⟩;have s5:=Tb.au (X:=.lst [.str "NoPage",.str ""]) aB;have h5:upd H4 l2 (.lst [.str "NoPage",.str ""]) l2=some (.lst [.str "NoPage",.str ""]):=ae;refine⟨_,rfl,l,_,rfl,bq.of (s5 _ _ h3),?_⟩;refine .inr ⟨_,rfl,l2,_,_,_,rfl,rfl,bq.of h5,at2 _,?_⟩;cases ea:(((List.range (p+I-p).toNat).map λj:Nat=>(Tb.look z.pl (p+j)).isSome)).all id with
   |false=>exact k "NoPage" _ (S4.trans s5) (λw=>absurd w ao)
   |true =>
    refine k "" _ (S4.trans s5) (λ_=>⟨z,ez,as,λq hq=>?_⟩);rw[aT]at hq;obtain⟨j,hj,rfl⟩:=List.mem_map.mp hq;have e:=List.all_eq_true.mp ea ((Tb.look z.pl (p+(j:Int))).isSome) (List.mem_map.mpr ⟨j,hj,rfl⟩);intro w;rw[w]at e;cases e
end
def Aq (D:Dd) (h h':Int->Bool):Prop:=match D with
 |.begin t=>∀t',h' t'=(decide (t'=t)||h t')
 |.close t=>∀t',h' t'=(decide (t'≠t)&&h t')
 |.copy _ o=>∀t',h' t'=(decide (t'=o)||h t')
 |_=>∀t',h' t'=h t'
def zk {α:Type}(G:α) (ok:α->Prop) (D:Dd) (e F:Int->Int->Option α):Prop:=match D with
 |.begin t=>∀t' q,F t' q=if t'=t then none else e t' q
 |.close t=>∀t' q,F t' q=if t'=t then none else e t' q
 |.map t p m=>∀t' q,F t' q=if t'=t/\q∈Rm.aR p m then some G else e t' q
 |.drop t p m=>∀t' q,F t' q=if t'=t/\q∈Rm.aR p m then none else e t' q
 |.peek _ _ _=>∀t' q,F t' q=e t' q
 |.poke t ad _ cs=>∀t' q,if t'=t/\q∈Rm.aO ad cs.length then ∃k,F t' q=some k/\ok k else F t' q=e t' q
 |.copy t o=>∀t' q,F t' q=if t'=o then e t q else e t' q
def hW (W:dY) (t:Int):Bool:=(Tb.look W t).isSome
def eW (W:dY) (t q:Int):Option Pg.Ent:=(Tb.look W t).bind λx=>Tb.look x.t q
def hZ (Z:Zs) (t:Int):Bool:=(Tb.look Z t).isSome
def eZ (Z:Zs) (t q:Int):Option Int:=(Tb.look Z t).bind λz=>(Tb.look z.pl q).map (·.2)
structure Tw (W:dY) (Z:Zs):Prop where
 h:∀t,hW W t=hZ Z t
 e:∀t q,(eW W t q).map isNone=(eZ Z t q).map λv=>decide (v=0)
theorem map_if {α F:Type}{c:Prop} [Decidable c] {f:α->F}{a b:Option α}:(if c then a else b).map f=if c then a.map f else b.map f:=by split<;>rfl
theorem Tw.next {W W':dY}{Z Z':Zs}{D:Dd}(T:Tw W Z) (h1:Aq D (hW W) (hW W')) (h2:Aq D (hZ Z) (hZ Z')) (F:zk none (λx=>∃k,x=some k) D (eW W) (eW W')) (G:zk 0 (λv=>v≠0) D (eZ Z) (eZ Z')):Tw W' Z':=by
 refine⟨λt'=>?_,λt' q=>?_⟩
 .cases D with
  |begin t=>exact(h1 t').trans (by rw[T.h t'];exact(h2 t').symm)
  |close t=>exact(h1 t').trans (by rw[T.h t'];exact(h2 t').symm)
  |copy t o=>exact(h1 t').trans (by rw[T.h t'];exact(h2 t').symm)
  |map t p m=>exact(h1 t').trans ((T.h t').trans (h2 t').symm)
  |drop t p m=>exact(h1 t').trans ((T.h t').trans (h2 t').symm)
  |peek t ad n=>exact(h1 t').trans ((T.h t').trans (h2 t').symm)
  |poke t ad c cs=>exact(h1 t').trans ((T.h t').trans (h2 t').symm)
 .cases D with
  |begin t=>rw[F t' q,G t' q,map_if,map_if,T.e];rfl
  |close t=>rw[F t' q,G t' q,map_if,map_if,T.e];rfl
  |copy t o=>rw[F t' q,G t' q,map_if,map_if,T.e,T.e]
  |map t p m=>rw[F t' q,G t' q,map_if,map_if,T.e];rfl
  |drop t p m=>rw[F t' q,G t' q,map_if,map_if,T.e];rfl
  |peek t ad n=>rw[F t' q,G t' q,T.e]
  |poke t ad c cs =>
   have I:=F t' q;have J:=G t' q;by_cases z:t'=t/\q∈Rm.aO ad cs.length
   .rw[if_pos z]at I J;obtain⟨k,O,j,rfl⟩:=I;obtain⟨v,L,N⟩:=J;rw[O,L];show some (isNone (some j))=some (decide (v=0));rw[decide_eq_false N];rfl
   .rw[if_neg z]at I J;rw[I,J];exact T.e t' q
theorem uN {W:dY}{t:Int}{x y:TD}(h:Tb.look W t=some x) (t':Int):hW (Tb.aY W t y) t'=hW W t':=by
 unfold hW;rw[Tb.bU t' h];by_cases z:t'=t
 .rw[if_pos z,z,h];rfl
 .rw[if_neg z]
theorem vd {W:dY}{t:Int}{x y:TD}(h:Tb.look W t=some x) (t' q:Int):eW (Tb.aY W t y) t' q=if t'=t then Tb.look y.t q else eW W t' q:=by
 unfold eW;rw[Tb.bU t' h];by_cases z:t'=t
 .rw[if_pos z,if_pos z];rfl
 .rw[if_neg z,if_neg z]
theorem vK {W:dY}{t:Int}{x:TD}(h:Tb.look W t=some x) (q:Int):eW W t q=Tb.look x.t q:=by unfold eW;rw[h];rfl
def Ca (W:dY) (tt:Int):Dd->Prop
 |.begin _=>False
 |.close t=>∃x,Tb.look W t=some x
 |.map t p m=>∃x,Tb.look W t=some x/\¬ Rm.cu p m/\(∀q∈Rm.aR p m,Tb.look x.t q=none)/\(ents W).length+m<=tt
 |.drop t p m=>∃x,Tb.look W t=some x/\¬ Rm.cu p m/\∀q∈Rm.aR p m,Tb.look x.t q≠none
 |.peek t ad n=>∃x,Tb.look W t=some x/\¬ Rm.di ad n (x.t.map (·.1))/\0<=ad/\ad<=1000/\n<=100
 |.poke t ad _ cs=>∃x,Tb.look W t=some x/\¬ Rm.di ad cs.length (x.t.map (·.1))/\0<=ad/\ad<=1000/\cs.length<=100
 |.copy t o=>∃x,Tb.look W t=some x/\Tb.look W o=none/\(ents W).length+x.t.length<=tt
structure GB (P:Program) (w:World) (K:Frag) (mg:Str->Option Value) (base:Heap) (c:CA):Prop where
 IE:Md P w K mg base aU 3 c.C "begin" (mN c)
 Jn:Md P w K mg base aU 6 c.C "close" (mE c)
 IU:Md P w K mg base aU 4 c.C "map" (uL c)
 Ji:Md P w K mg base aU 6 c.C "drop" (u5 c)
 Jd:Md P w K mg base aU 5 c.C "copy" (pb c)
 Hb:Md P w K mg base aU 8 c.C "peek" (qc c)
 IX:Md P w K mg base aU 10 c.C "poke" (pV K c)
 Bk:Md P w K mg base aU 4 c.C "place" (mS c)
inductive lY (c:CA) (vs:List V) (H:Hp) (Q:VK) (e3:XK):Prop
 |mk (M:Addr->Prop) (a:RA) (s:Pg.PS) (W:dY) (cv:Int->Int->List Int) (d:Addr) (D:Dd) (_:vs=[.ref a.rp,.ref d]) (_:ax c H M a s W) (_:Pg.RI s (ents W)) (_:Cv s W cv) (_:W.length<=1000) (_:u7 H d D) (_:Ca W (bP s) D) (_:∀(H':Hp) (M':Addr->Prop) (s':Pg.PS) (W':dY) (cv':Int->Int->List Int) (v:V),ax c H' M' a s' W'->Pg.RI s' (ents W')->Cv s' W' cv'->Step H M (a.own W) H' M' (a.own W')->(∀b,(s'.ow b).length=(s.ow b).length)->W'.length<=W.length+1->Aq D (hW W) (hW W')->zk none (λx=>∃k,x=some k) D (eW W) (eW W')->Q v H'):lY c vs H Q e3
section
variable {P:Program}{w:World}{K:Frag}{mg:Str->Option Value}{base:Heap}
theorem CH:az ["_law_kept","_law_deed","_law_name","_law_task"] ["_law_kept","_law_deed"] (aq pE):=L2.bD
theorem wG {f:Addr}{fd:FuncData}{c:CA}(F:cL K "_law_called" "_law_called" pE f fd) (T:qK K mg c) (M:GB P w K mg base c):bf P w K mg base aU 11 f fd ["_law_kept","_law_deed"] (lY c):=by
 refine F.ok CH (λvs H Q E h=>?_) (λaB A outer s H vs Q E hr h=>?_)
 .obtain⟨MM,a,s',W,cv,d,D,rfl,_⟩:=h;rfl
 .obtain⟨MM,a,s',W,cv,d,D,rfl,R,ri,ac,lw,hd,fi,q⟩:=h;refine⟨_,(ag (cG (dg kS (pv 1) fq (cV ak)) (dw rfl (a9 (aX (i:=2) CH.nd rfl (Or.inl rfl)) (a9 (aX (i:=3) CH.nd rfl (Or.inl rfl)) cI))))
   (ag (aS (aC bW (pv 2) aI (aH _)) (aj (aE (pm (pv 0) T.cl M.IE hr aw (aa (pv 3) ai)))) aF)
   (ag (aS (aC bW (pv 2) aI (aH _)) (aj (aE (pm (pv 0) T.cl M.Jn hr aw (aa (pv 3) ai)))) aF)
   (ag (aS (aC bW (pv 2) aI (aH _)) (aj (aE (pm (pv 0) T.cl M.IU hr aw (aa (pv 3) (aa (aZ bh (pv 1) ak (λ_ _=>rfl)) (aa (aZ bh (pv 1) ak (λ_ _=>rfl)) ai)))))) aF)
   (ag (aS (aC bW (pv 2) aI (aH _)) (aj (aE (pm (pv 0) T.cl M.Ji hr aw (aa (pv 3) (aa (aZ bh (pv 1) ak (λ_ _=>rfl)) (aa (aZ bh (pv 1) ak (λ_ _=>rfl)) ai)))))) aF)
   (ag (aS (aC bW (pv 2) aI (aH _)) (aj (aE (pm (pv 0) T.cl M.Jd hr aw (aa (pv 3) (aa (aZ bh (pv 1) ak (λ_ _=>rfl)) ai))))) aF)
   (ag (aS (aC bW (pv 2) aI (aH _)) (aj (aE (pm (pv 0) T.cl M.Hb hr aw (aa (pv 3) (aa (aZ bh (pv 1) ak (λ_ _=>rfl)) (aa (aZ bh (pv 1) ak (λ_ _=>rfl)) ai)))))) aF)
   (aj (aE (pm (pv 0) T.cl M.IX hr aw (aa (pv 3) (aa (aZ bh (pv 1) ak (λ_ _=>rfl)) (aa (aZ bh (pv 1) ak (λ_ _=>rfl)) ai))))))))))))),?_⟩
  refine share (λσ H1=>a8 H H1/\σ=[some (.ref a.rp),some (.ref d),some (.str (DK D)),some (.int (Cp D))]) (λu' am=>?A) ?B
  case A =>
   refine⟨_,rfl,_,rfl,d,_,rfl,bR.of hd.1,λc=>?_,λ_ p hp=>?_⟩
   .exact⟨d,_,rfl,bR.of hd.1,by rw[AD c];rfl,by rw[AD c];exact⟨_,_,rfl,_,_,rfl,rfl,am _ _ ⟨a8.refl H,rfl⟩⟩⟩
   .rw[C8];exact⟨p,_,rfl,bR.of ae,rfl,_,_,rfl,_,_,rfl,rfl,am _ _ ⟨Tb.au hp,rfl⟩⟩
  case B =>
  rintro σ H1 ⟨s1,rfl⟩;have R1:=R.same s1;have S1:=R.iH s1;have ab:H1 d=some (.tup (xU D)):=s1 _ _ hd.1;obtain⟨dx,ho⟩:=R1.ob;have no:∀mm:Str,¬ mm = "rooms" -> ¬ mm = "total" -> ¬ mm = "paging" -> (eI a.A.pg (bP s') a.rd).lookup mm=none:=λmm=>gi _ _ _;have l0:∀{t y},(Tb.aY W t y).length<=W.length+1:=λ{t y}=>(by rw[Tb.gz];omega);cases D with
  |begin t=>exact absurd fi id
  |close t =>
   obtain⟨x,J⟩:=fi;refine bZ λ_ I G=>?_;refine dQ (bB rfl) bC rfl bS (G _ ?_);refine bZ λ_ I G=>?_;refine eqT (bB rfl) bC rfl (I _ ?_);refine⟨_,rfl,a.rp,dx,_,rfl,ho,no "close" ao ao ao,_,rfl,MM,a,s',W,cv,t,x,rfl,R1,ri,ac,J,λH2 M2 s2 R2 S N U Y=>q H2 M2 s2 _ cv _ R2 S N (S1.trans U) Y (le_trans (List.length_filter_le _ _) (le_succ _)) ?_ ?_⟩
   .intro t';unfold hW;rw[Tb.cz];by_cases z:t'=t
    .rw[if_pos z,decide_eq_false (λy=>y z)];rfl
    .rw[if_neg z,decide_eq_true z];rfl
   .intro t' q;unfold eW;rw[Tb.cz];by_cases z:t'=t
    .rw[if_pos z,if_pos z];rfl
    .rw[if_neg z,if_neg z]
  |map t p m =>
   obtain⟨x,J,O,f2,f3⟩:=fi;refine bZ λ_ I G=>?_;refine dQ (bB rfl) bC rfl bS (G _ ?_);refine bZ λ_ I G=>?_;refine dQ (bB rfl) bC rfl bS (G _ ?_);refine bZ λ_ I G=>?_;refine eqT (bB rfl) bC rfl (I _ ?_);refine⟨_,rfl,a.rp,dx,_,rfl,ho,no "map" ao ao ao,_,rfl,_,rfl,d,_,_,.int p,rfl,rfl,bR.of ab,rfl,_,rfl,d,_,_,.int m,rfl,rfl,bR.of ab,rfl,MM,a,s',W,cv,t,p,m,x,rfl,R1,ri,ac,lw,J,O,f2,f3,λH2 M2 y R2 S N hy U=>q H2 M2 s' _ _ _ R2 S N (S1.trans U) (λ_=>rfl) l0 (uN J) λt' j=>?_⟩;rw[vd J];by_cases z:t'=t
   .rw[if_pos z,hy j];by_cases L:j∈Rm.aR p m
    .rw[if_pos L,if_pos ⟨z,L⟩]
    .rw[if_neg L,if_neg (λh=>L h.2),z,vK J]
   .rw[if_neg z,if_neg (λh=>z h.1)]
  |drop t p m =>
   obtain⟨x,J,O,f2⟩:=fi;refine bZ λ_ I G=>?_;refine dQ (bB rfl) bC rfl bS (G _ ?_);refine bZ λ_ I G=>?_;refine dQ (bB rfl) bC rfl bS (G _ ?_);refine bZ λ_ I G=>?_;refine dQ (bB rfl) bC rfl bS (G _ ?_);refine bZ λ_ I G=>?_;refine eqT (bB rfl) bC rfl (I _ ?_);refine⟨_,rfl,a.rp,dx,_,rfl,ho,no "drop" ao ao ao,_,rfl,_,rfl,d,_,_,.int p,rfl,rfl,bR.of ab,rfl,_,rfl,d,_,_,.int m,rfl,rfl,bR.of ab,rfl,MM,a,s',W,cv,t,p,m,x,rfl,R1,ri,ac,J,O,f2,λH2 M2 s2 y R2 S N hy U Y=>q H2 M2 s2 _ _ _ R2 S N (S1.trans U) Y l0 (uN J) λt' j=>?_⟩;rw[vd J];by_cases z:t'=t
   .rw[if_pos z,hy j];by_cases L:j∈Rm.aR p m
    .rw[if_pos L,if_pos ⟨z,L⟩]
    .rw[if_neg L,if_neg (λh=>L h.2),z,vK J]
   .rw[if_neg z,if_neg (λh=>z h.1)]
  |copy t o =>
   obtain⟨x,J,O,f2⟩:=fi;refine bZ λ_ I G=>?_;refine dQ (bB rfl) bC rfl bS (G _ ?_);refine bZ λ_ I G=>?_;refine dQ (bB rfl) bC rfl bS (G _ ?_);refine bZ λ_ I G=>?_;refine dQ (bB rfl) bC rfl bS (G _ ?_);refine bZ λ_ I G=>?_;refine dQ (bB rfl) bC rfl bS (G _ ?_);refine bZ λ_ I G=>?_;refine eqT (bB rfl) bC rfl (I _ ?_);refine⟨_,rfl,a.rp,dx,_,rfl,ho,no "copy" ao ao ao,_,rfl,_,rfl,d,_,_,.int o,rfl,rfl,bR.of ab,rfl,MM,a,s',W,cv,t,o,x,rfl,R1,ri,ac,lw,J,O,f2,λH2 M2 s2 y hy R2 S N U Y=>q H2 M2 s2 _ _ _ R2 S N (S1.trans U) Y (by rw[length_append];exact le_refl _) ?_ ?_⟩
   .intro t';unfold hW;rw[Tb.bM t' O];by_cases z:t'=o
    .rw[if_pos z,decide_eq_true z];rfl
    .rw[if_neg z,decide_eq_false z];rfl
   .intro t' j;unfold eW;rw[Tb.bM t' O];by_cases z:t'=o
    .rw[if_pos z,if_pos z,J];exact hy j
    .rw[if_neg z,if_neg z]
  |peek t ad n =>
   obtain⟨x,J,O,f2,f3,f4⟩:=fi;refine bZ λ_ I G=>?_;refine dQ (bB rfl) bC rfl bS (G _ ?_);refine bZ λ_ I G=>?_;refine dQ (bB rfl) bC rfl bS (G _ ?_);refine bZ λ_ I G=>?_;refine dQ (bB rfl) bC rfl bS (G _ ?_);refine bZ λ_ I G=>?_;refine dQ (bB rfl) bC rfl bS (G _ ?_);refine bZ λ_ I G=>?_;refine dQ (bB rfl) bC rfl bS (G _ ?_);refine bZ λ_ I G=>?_;refine eqT (bB rfl) bC rfl (I _ ?_);refine⟨_,rfl,a.rp,dx,_,rfl,ho,no "peek" ao ao ao,_,rfl,_,rfl,d,_,_,.int ad,rfl,rfl,bR.of ab,rfl,_,rfl,d,_,_,.int n,rfl,rfl,bR.of ab,rfl,MM,a,s',W,cv,t,ad,n,x,rfl,R1,ri,ac,J,af,f2,f3,O,λH2 M2 s2 l R2 S N U Y _ _=>q H2 M2 s2 _ _ _ R2 S N (S1.trans U) Y (le_succ _) (λ_=>rfl) λ_ _=>rfl⟩
  |poke t ad cc cs =>
   obtain⟨x,J,O,f2,f3,f4⟩:=fi;refine bZ λ_ I G=>?_;refine dQ (bB rfl) bC rfl bS (G _ ?_);refine bZ λ_ I G=>?_;refine dQ (bB rfl) bC rfl bS (G _ ?_);refine bZ λ_ I G=>?_;refine dQ (bB rfl) bC rfl bS (G _ ?_);refine bZ λ_ I G=>?_;refine dQ (bB rfl) bC rfl bS (G _ ?_);refine bZ λ_ I G=>?_;refine dQ (bB rfl) bC rfl bS (G _ ?_);refine bZ λ_ I G=>?_;refine dQ (bB rfl) bC rfl bS (G _ ?_);refine⟨_,rfl,a.rp,dx,_,rfl,ho,no "poke" ao ao ao,_,rfl,_,rfl,d,_,_,.int ad,rfl,rfl,bR.of ab,rfl,_,rfl,d,_,_,.ref cc,rfl,rfl,bR.of ab,rfl,MM,a,s',W,cv,t,ad,cc,cs,x,rfl,R1,ri,ac,J,bq.of (s1 _ _ (hd.2 _ _ _ _ rfl)),af,f2,f3,O,λH2 M2 s2 y R2 S N as ap U Y=>q H2 M2 s2 _ _ _ R2 S N (S1.trans U) Y l0 (uN J) λt' j=>?_⟩;rw[vd J];by_cases z:t'=t
   .by_cases L:j∈Rm.aO ad cs.length
    .rw[if_pos ⟨z,L⟩,if_pos z];obtain⟨k,hk⟩:=ap j L;exact⟨some k,hk,k,rfl⟩
    .rw[if_neg (λh=>L h.2),if_pos z,as j L,z,vK J]
   .rw[if_neg (λh=>z h.1),if_neg z]
end
theorem dU {α:Type}{f:α->V}{H:Hp}{a:Addr}{l:List (Int×α)}{t:Int}{x:α}(h:H a=some (.dK (Tb.dk f l))) (F:Tb.look l t=some x):dB H a (.int t) (some (f x)):=by
 have q:=fL (t:=t) h;rw[F]at q;exact q
section
variable {H H':Hp}{m:MA}{bP pk:Int}{Z:Zs}{t:Int}{z:MT}
theorem cw.alive (M:cw H m bP pk Z):∀b,cR m Z b->(∃xs,H b=some (.lst xs))\/∃kvs,H b=some (.dK kvs):=by
 intro b h;rcases h with h|h|h|⟨x,F,h|h|⟨y,G,h⟩⟩<;>rw[h]
 .exact .inr ⟨_,M.hm⟩
 .exact .inr ⟨_,M.hr⟩
 .exact .inr ⟨_,M.hs⟩
 .exact .inr ⟨_,M.rm x F⟩
 .exact .inr ⟨_,M.st x F⟩
 .obtain⟨ns,h1,_⟩:=M.cl x F y G;exact .inl ⟨_,h1⟩
theorem cw.add (M:cw H m bP pk Z) (hn:Tb.look Z t=none) (o:Off (λb=>b=m.lr\/b=m.ls) H H') (U:H' m.lr=some (.dK (Tb.dk fE (Z++[(t,z)])))) (hs:H' m.ls=some (.dK (Tb.dk qS (Z++[(t,z)])))) (h1:H' z.ra=some (.dK (Tb.dk eF z.pl))) (h2:H' z.sa=some (.dK (Tb.dk nc z.pl)))
  (S:∀y∈z.pl,∃ns:List Int,H' y.2.1=some (.lst (ns.map V.int))/\ns.length=8) (np:(z.pl.map (·.1)).Nodup) (hg:∀y∈z.pl,0<=y.1/\y.1<64) (J:H z.ra=none) (I:H z.sa=none) (R:z.ra≠z.sa):cw H' m bP pk (Z++[(t,z)]):=by
 have nl:∀{b xs},H b=some (.lst xs)->¬ (b=m.lr\/b=m.ls):=λe w=>by
  rcases w with w|w
  .rw[w,M.hr]at e;cases e
  .rw[w,M.hs]at e;cases e
 have L:∀x∈Z,z.ra≠x.2.ra/\z.sa≠x.2.sa/\z.ra≠x.2.sa/\z.sa≠x.2.ra:=λx F=>⟨(λe=>by rw[e,M.rm x F]at J;cases J),(λe=>by rw[e,M.st x F]at I;cases I),(λe=>by rw[e,M.st x F]at J;cases J),(λe=>by rw[e,M.rm x F]at I;cases I)⟩;refine⟨o _ _ M.hm (gg M.n3.1 M.n3.2.1),U,hs,λx F=>?_,λx F=>?_,λx F y G=>?_,?_,λx F=>?_,λx F=>?_,λx F y G O=>?_,λx F y G=>?_,λx F=>?_,M.n3⟩
 .rcases List.mem_append.mp F with F|F
  .exact o _ _ (M.rm x F) (gg (M.d3 x F).2.1 (M.d3 x F).2.2.1)
  .rw[List.mem_singleton.mp F];exact h1
 .rcases List.mem_append.mp F with F|F
  .exact o _ _ (M.st x F) (gg (M.d3 x F).2.2.2.2.1 (M.d3 x F).2.2.2.2.2)
  .rw[List.mem_singleton.mp F];exact h2
 .rcases List.mem_append.mp F with F|F
  .obtain⟨ns,N,Y⟩:=M.cl x F y G;exact⟨ns,o _ _ N (nl N),Y⟩
  .rw[List.mem_singleton.mp F]at G;exact S y G
 .rw[map_append];exact gv M.nd (Tb.cp hn)
 .rcases List.mem_append.mp F with F|F
  .exact M.np x F
  .rw[List.mem_singleton.mp F];exact np
 .rcases List.mem_append.mp F with F|F
  .exact M.rg x F
  .rw[List.mem_singleton.mp F];exact hg
 .rcases List.mem_append.mp F with F|F<;>rcases List.mem_append.mp G with G|G
  .exact M.da x F y G O
  .rw[List.mem_singleton.mp G];exact⟨Ne.symm (L x F).1,Ne.symm (L x F).2.1⟩
  .rw[List.mem_singleton.mp F];exact⟨(L y G).1,(L y G).2.1⟩
  .exact absurd (by rw[List.mem_singleton.mp F,List.mem_singleton.mp G]) O
 .rcases List.mem_append.mp F with F|F<;>rcases List.mem_append.mp G with G|G
  .exact M.rs x F y G
  .rw[List.mem_singleton.mp G];exact Ne.symm (L x F).2.2.2
  .rw[List.mem_singleton.mp F];exact(L y G).2.2.1
  .rw[List.mem_singleton.mp F,List.mem_singleton.mp G];exact R
 .rcases List.mem_append.mp F with F|F
  .exact M.d3 x F
  .rw[List.mem_singleton.mp F];exact⟨(λe=>by rw[e,M.hm]at J;cases J),(λe=>by rw[e,M.hr]at J;cases J),(λe=>by rw[e,M.hs]at J;cases J),(λe=>by rw[e,M.hm]at I;cases I),(λe=>by rw[e,M.hr]at I;cases I),(λe=>by rw[e,M.hs]at I;cases I)⟩
theorem cw.del (M:cw H m bP pk Z) (o:Off (λb=>b=m.lr\/b=m.ls) H H') (J:H' m.lr=some (.dK (Tb.dk fE (Tb.bg Z t)))) (hs:H' m.ls=some (.dK (Tb.dk qS (Tb.bg Z t)))):cw H' m bP pk (Tb.bg Z t):=by
 have N:∀{b xs},H b=some (.lst xs)->¬ (b=m.lr\/b=m.ls):=λe w=>by
  rcases w with w|w
  .rw[w,M.hr]at e;cases e
  .rw[w,M.hs]at e;cases e
 have sub:∀{x},x∈Tb.bg Z t->x∈Z:=λh=>(Tb.cf h).1;refine⟨o _ _ M.hm (gg M.n3.1 M.n3.2.1),J,hs,λx F=>?_,λx F=>?_,λx F y G=>?_,Tb.lM M.nd,λx F=>M.np x (sub F),λx F=>M.rg x (sub F),λx F y G=>M.da x (sub F) y (sub G),λx F y G=>M.rs x (sub F) y (sub G),λx F=>M.d3 x (sub F),M.n3⟩
 .have F:=sub F;exact o _ _ (M.rm x F) (gg (M.d3 x F).2.1 (M.d3 x F).2.2.1)
 .have F:=sub F;exact o _ _ (M.st x F) (gg (M.d3 x F).2.2.2.2.1 (M.d3 x F).2.2.2.2.2)
 .obtain⟨ns,I,L⟩:=M.cl x (sub F) y G;exact⟨ns,o _ _ I (N I),L⟩
theorem cw.El (M:cw H m bP pk Z) (O:Tb.look Z t=some z) {pk':Int}{pl:List (Int×Addr×Int)}(o:Off (λb=>b=m.md\/b=z.ra\/b=z.sa) H H') (Y:H' m.md=some (.dK (nu m.lr m.ls bP pk'))) (h1:H' z.ra=some (.dK (Tb.dk eF pl))) (h2:H' z.sa=some (.dK (Tb.dk nc pl)))
  (h3:∀y∈pl,∃ns:List Int,H' y.2.1=some (.lst (ns.map V.int))/\ns.length=8) (np:(pl.map (·.1)).Nodup) (hg:∀y∈pl,0<=y.1/\y.1<64):cw H' m bP pk' (Tb.aY Z t ⟨z.ra,z.sa,pl⟩):=by
 have G:=Tb.aA O;have nl:∀{b xs},H b=some (.lst xs)->¬ (b=m.md\/b=z.ra\/b=z.sa):=λe w=>by
  rcases w with w|w|w
  .rw[w,M.hm]at e;cases e
  .rw[w,M.rm _ G]at e;cases e
  .rw[w,M.st _ G]at e;cases e
 have N:∀{b},b≠m.md->b≠z.ra->b≠z.sa->¬ (b=m.md\/b=z.ra\/b=z.sa):=λa b c w=>w.elim a λw=>w.elim b c;have L:=M.d3 _ G;refine⟨Y,?_,?_,λx F=>?_,λx F=>?_,λx F y I=>?_,by rw[Tb.eU];exact M.nd,λx F=>?_,λx F=>?_,λx F y I J=>?_,λx F y I=>?_,λx F=>?_,M.n3⟩
 .rw[Tb.pz (f:=fE) (a:=(⟨z.ra,z.sa,pl⟩:MT)) (b:=z) M.nd O rfl];exact o _ _ M.hr (N (Ne.symm M.n3.1) (Ne.symm L.2.1) (Ne.symm L.2.2.2.2.1))
 .rw[Tb.pz (f:=qS) (a:=(⟨z.ra,z.sa,pl⟩:MT)) (b:=z) M.nd O rfl];exact o _ _ M.hs (N (Ne.symm M.n3.2.1) (Ne.symm L.2.2.1) (Ne.symm L.2.2.2.2.2))
 .rcases Tb.mem_set F with rfl|⟨F,J⟩
  .exact h1
  .exact o _ _ (M.rm x F) (N (M.d3 x F).1 (M.da x F _ G J).1 (M.rs x F _ G))
 .rcases Tb.mem_set F with rfl|⟨F,J⟩
  .exact h2
  .exact o _ _ (M.st x F) (N (M.d3 x F).2.2.2.1 (Ne.symm (M.rs _ G x F)) (M.da x F _ G J).2)
 .rcases Tb.mem_set F with rfl|⟨F,J⟩
  .exact h3 y I
  .obtain⟨ns,S,e2⟩:=M.cl x F y I;exact⟨ns,o _ _ S (nl S),e2⟩
 .rcases Tb.mem_set F with rfl|⟨F,J⟩
  .exact np
  .exact M.np x F
 .rcases Tb.mem_set F with rfl|⟨F,J⟩
  .exact hg
  .exact M.rg x F
 .rcases Tb.mem_set F with rfl|⟨F,R⟩<;>rcases Tb.mem_set I with rfl|⟨I,U⟩
  .exact absurd rfl J
  .exact M.da (t,z) G y I (Ne.symm U)
  .exact M.da x F (t,z) G R
  .exact M.da x F y I J
 .rcases Tb.mem_set F with rfl|⟨F,R⟩<;>rcases Tb.mem_set I with rfl|⟨I,U⟩
  .exact M.rs (t,z) G (t,z) G
  .exact M.rs (t,z) G y I
  .exact M.rs x F (t,z) G
  .exact M.rs x F y I
 .rcases Tb.mem_set F with rfl|⟨F,R⟩
  .exact L
  .exact M.d3 x F
theorem cw.Ee (M:cw H m bP pk Z) {l:Addr}{xs:List V}(O:H l=some (.lst xs)) {ns':List Int}(I:ns'.length=8):cw (upd H l (.lst (ns'.map V.int))) m bP pk Z:=by
 have o:Off (· = l) H (upd H l (.lst (ns'.map V.int))):=Off.wr rfl;have G:∀{b kvs},H b=some (.dK kvs)->¬ b=l:=λe w=>(by rw[w,O]at e;cases e);refine⟨o _ _ M.hm (G M.hm),o _ _ M.hr (G M.hr),o _ _ M.hs (G M.hs),λx F=>o _ _ (M.rm x F) (G (M.rm x F)),λx F=>o _ _ (M.st x F) (G (M.st x F)),λx F y L=>?_,M.nd,M.np,M.rg,M.da,M.rs,M.d3,M.n3⟩;by_cases w:y.2.1=l
 .exact⟨ns',by rw[w,ae],I⟩
 .obtain⟨ns,N,J⟩:=M.cl x F y L;exact⟨ns,o _ _ N w,J⟩
end
section
variable {Z:Zs}{t:Int}{z y:MT}
theorem uw (h:Tb.look Z t=some z) (t':Int):hZ (Tb.aY Z t y) t'=hZ Z t':=by
 unfold hZ;rw[Tb.bU t' h];by_cases c:t'=t
 .rw[if_pos c,c,h];rfl
 .rw[if_neg c]
theorem vo (h:Tb.look Z t=some z) (t' q:Int):eZ (Tb.aY Z t y) t' q=if t'=t then(Tb.look y.pl q).map (·.2)else eZ Z t' q:=by
 unfold eZ;rw[Tb.bU t' h];by_cases c:t'=t
 .rw[if_pos c,if_pos c];rfl
 .rw[if_neg c,if_neg c]
theorem vS (h:Tb.look Z t=some z) (q:Int):eZ Z t q=(Tb.look z.pl q).map (·.2):=by unfold eZ;rw[h];rfl
end
theorem Bc {t u:TS}{D:Ends}{σ:L2.St}{H:Hp}(h:t { D with nx:=u D } σ H):ml t u D σ H:=h
theorem zO {α:Type}{W:List (Int×α)}{t:Int}{x y:α}:Tb.aY (Tb.aY W t x) t y=Tb.aY W t y:=by
 unfold Tb.aY;rw[map_map];refine map_congr_left λz _=>?_;show(if (if z.1=t then(t,x)else z).1=t then(t,y)else(if z.1=t then(t,x)else z))=if z.1=t then(t,y)else z
 by_cases c:z.1=t
 .rw[if_pos c,if_pos rfl,if_pos c]
 .simp only[if_neg c]
theorem y8 {α:Type}{W:List (Int×α)}{t:Int}{x y:α}(h:Tb.look W t=some x):Tb.look (Tb.aY W t y) t=some y:=by rw[Tb.bU t h,if_pos rfl]
theorem Du {Z:Zs}{t:Int}{z:MT}(G:(Z.map (·.1)).Nodup) (h:Tb.look Z t=some z):Tb.aY Z t ⟨z.ra,z.sa,z.pl⟩=Z:=by
 unfold Tb.aY
 conv=>rhs;rw[<-List.map_id Z]
 refine map_congr_left λy F=>?_;show(if y.1=t then(t,(⟨z.ra,z.sa,z.pl⟩:MT))else y)=y;by_cases c:y.1=t
 .have:=Tb.bN G F;rw[c,h]at this;rw[if_pos c,Option.some.inj this, <-c]
 .rw[if_neg c]
theorem cw.len {H:Hp}{m:MA}{bP pk:Int}{Z:Zs}(M:cw H m bP pk Z) {x:Int×MT}(F:x∈Z):x.2.pl.length<=64:=by
 have:=Tb.AE 64 0 (x.2.pl.map (·.1)) (M.np x F) λq I=>by
  obtain⟨y,G,rfl⟩:=List.mem_map.mp I;have:=M.rg x F y G;omega
 rwa [length_map]at this
theorem lI {m:MA}{Z:Zs}{t:Int}{z:MT}{pl:List (Int×Addr×Int)}{H:Hp}(L:Tb.look Z t=some z) (h:∀y∈pl,(∃I∈z.pl,y.2.1=I.2.1)\/H y.2.1=none):∀b,cR m (Tb.aY Z t ⟨z.ra,z.sa,pl⟩) b->cR m Z b\/H b=none:=by
 intro b w;have F:=Tb.aA L;rcases w with w|w|w|⟨x,G,w⟩
 .exact .inl (.inl w)
 .exact .inl (.inr (.inl w))
 .exact .inl (.inr (.inr (.inl w)))
 .rcases Tb.mem_set G with rfl|⟨G,_⟩
  .rcases w with w|w|⟨y,J,w⟩
   .exact .inl (.inr (.inr (.inr ⟨_,F,.inl w⟩)))
   .exact .inl (.inr (.inr (.inr ⟨_,F,.inr (.inl w)⟩)))
   .rcases h y J with⟨I,h1,h2⟩|h
    .exact .inl (.inr (.inr (.inr ⟨_,F,.inr (.inr ⟨I,h1,w.trans h2⟩)⟩)))
    .rw[w];exact .inr h
  .exact .inl (.inr (.inr (.inr ⟨x,G,w⟩)))
theorem fO {ad q:Int}{n:Nat}:q∈Rm.aO ad n↔∃j:Nat,j<n/\(ad+j)/8=q:=by
 unfold Rm.aO;by_cases e:((n:Nat):Int)=0
 .rw[if_pos e];exact⟨(λh=>nomatch h),(λ⟨j,h,_⟩=>by omega)⟩
 .rw[if_neg e];unfold Rm.aR Rm.jq Rm.iG;rw[mem_map];constructor
  .rintro⟨k,F,rfl⟩;have F:=List.mem_range.mp F;exact⟨(8*(ad/8+k)-ad).toNat,af,af⟩
  .rintro⟨j,G,rfl⟩;exact⟨((ad+j)/8-ad/8).toNat,List.mem_range.mpr af,af⟩
theorem BZ (F ls:Addr) (bP pk pk':Int):putK (nu F ls bP pk) (Sum.inr "pokes") (.int pk')=nu F ls bP pk':=by
 unfold putK nu;rw[if_pos (by simp)];simp only[map_cons,map_nil,if_neg HM,if_neg Hk,if_neg HX,if_true,decide_eq_true_eq]
theorem wX {pl F:List (Int×Addr×Int)}(h:(F.map λy=>(y.1,y.2.1))=pl.map λy=>(y.1,y.2.1)) (q:Int):Tb.look F q=none↔Tb.look pl q=none:=by
 have I:F.map (·.1)=pl.map (·.1):=by
  have:=congrArg (List.map (·.1)) h;rw[map_map,map_map]at this;exact this
 have G:∀{l:List (Int×Addr×Int)},Tb.look l q=none↔¬ q∈l.map (·.1):=λ{l}=>⟨Tb.cp,λh=>by
  cases e:Tb.look l q with
  |none=>rfl
  |some a=>exact absurd (List.mem_map.mpr ⟨_,Tb.aA e,rfl⟩) h⟩
 rw[G,G,I]
theorem jV {α F:Type}(g:α->F) (k:Int):∀l:List (Int×α),Tb.look (l.map λx=>(x.1,g x.2)) k=(Tb.look l k).map g
 | []=>rfl
 |x::l=>by
  rw[map_cons,Tb.aM,Tb.aM,jV g k l];by_cases e:x.1=k
  .rw[if_pos e,if_pos e];rfl
  .rw[if_neg e,if_neg e]
theorem lj {α:Type}(f:α->V) (l:List (Int×α)) (o:Int) (a:α):Tb.dk f (l++[(o,a)])=Tb.dk f l++[(Sum.inl o,f a)]:=by
 unfold Tb.dk;rw[map_append];rfl
theorem Fj {pl F:List (Int×Addr×Int)}(h:(F.map λy=>(y.1,y.2.2))=pl.map λy=>(y.1,y.2.2)):Tb.dk nc F=Tb.dk nc pl:=by
 have e:∀l:List (Int×Addr×Int),Tb.dk nc l=(l.map λy=>(y.1,y.2.2)).map λp=>((Sum.inl p.1:Key),V.int p.2):=λl=>by
  unfold Tb.dk;rw[map_map];rfl
 rw[e,e,h]
def Ax (m:MA) (H:Hp) (Z:Zs) (H':Hp) (Z':Zs):Prop:=Off (cR m Z) H H'/\∀b,cR m Z' b->cR m Z b\/H b=none
inductive qB (vs:List V) (H:Hp) (Q:VK) (e3:XK):Prop
 |mk (m:MA) (bP pk:Int) (Z:Zs) (d:Addr) (D:Dd) (_:vs=[.ref m.md,.ref d]) (_:cw H m bP pk Z) (_:0<=pk) (_:Z.length<=1000) (_:u7 H d D) (_:CG Z bP D) (_:(∀t ad c cs,D=.poke t ad c cs->¬ cR m Z c/\0<=ad/\ad<=1000/\cs.length<=100)) (_:(∀t ad n,D=.peek t ad n->0<=ad/\ad<=1000/\n<=100)) (_:∀(H':Hp) (pk':Int) (Z':Zs) (v:V),cw H' m bP pk' Z'->0<=pk'->Ax m H Z H' Z'->Z'.length<=Z.length+1->Aq D (hZ Z) (hZ Z')->zk 0 (λv=>v≠0) D (eZ Z) (eZ Z')->Q v H'):qB vs H Q e3
section
variable {P:Program}{w:World}{K:Frag}{mg:Str->Option Value}{base:Heap}
theorem kL:az ["_law_model_here","_law_deed","_law_rooms","_law_stands","_law_name","_law_task","_law_page","_law_cells_here","_law_k","_law_cell","_law_at"] ["_law_model_here","_law_deed"] (aq zp):=L2.bD
theorem BC {f:Addr}{fd:FuncData}(F:cL K "_law_done" "_law_done" zp f fd) (T:kN mg):bf P w K mg base aU 1 f fd ["_law_model_here","_law_deed"] qB:=by
 refine F.ok kL (λvs H Q E h=>?_) (λeN A outer s H vs Q E hr h=>?_)
 .obtain⟨m,bP,pk,Z,d,D,rfl,_⟩:=h;rfl
 .obtain⟨m,bP,pk,Z,d,D,rfl,M,p0,lz,hd,fi,ev,dm,k⟩:=h;have hs:sizeLine=16777216:=sizeLine_eq;refine⟨_,(ag (cG (cM (aa (bA (bj hr) (pv 0) aI (λ_ _=>rfl)) (aa (bA (bj hr) (pv 0) aI (λ_ _=>rfl)) ai))) (dw rfl (a9 (aX (i:=2) kL.nd rfl (Or.inr rfl)) (a9 (aX (i:=3) kL.nd rfl (Or.inl rfl)) cI))))
   (ag (cG (dg kS (pv 1) fq (cV ak)) (dw rfl (a9 (aX (i:=4) kL.nd rfl (Or.inl rfl)) (a9 (aX (i:=5) kL.nd rfl (Or.inr rfl)) cI))))
   (ag (aS (aC bW (pv 4) aI (aH _)) (aj (cG (cM (aa c6 (aa c6 ai))) (dw rfl (a9 (dS (pv 2) (pv 5) (set_dict (bj hr))) (a9 (dS (pv 3) (pv 5) (set_dict (bj hr))) cI))))) (aj (aS (aC bW (pv 4) aI (aH _)) (ag (aL (eE (pv 2) (pv 5) ⟨rfl,rfl,rfl,rfl⟩))
   (aj (aL (eE (pv 3) (pv 5) ⟨rfl,rfl,rfl,rfl⟩)))) (aj (aS (aC bW (pv 4) aI (aH _)) (aj (cO PassesOwn.never rfl (eR (by rfl) T.range (aa (aZ bh (pv 1) ak (λ_ _=>rfl)) (aa (ay bu (aZ bh (pv 1) ak (λ_ _=>rfl)) (aZ bh (pv 1) ak (λ_ _=>rfl))) ai))) (aX (i:=6) kL.nd rfl (Or.inl rfl)) (aj (cG (cM (aa (ay iQ (bX (aa ak ai)) ak) (aa ak ai))) (dw rfl (a9 (dS (bA (bj hr) (pv 2) (pv 5) (λ_ _=>rfl)) (pv 6) (set_dict (bj hr))) (a9 (dS (bA (bj hr) (pv 3) (pv 5) (λ_ _=>rfl)) (pv 6) (set_dict (bj hr))) cI))))))) (aj (aS (aC bW (pv 4) aI (aH _)) (aj (cO PassesOwn.never rfl (eR (by rfl) T.range (aa (aZ bh (pv 1) ak (λ_ _=>rfl)) (aa (ay bu (aZ bh (pv 1) ak (λ_ _=>rfl)) (aZ bh (pv 1) ak (λ_ _=>rfl))) ai))) (aX (i:=6) kL.nd rfl (Or.inl rfl)) (ag (aL (eE (bA (bj hr) (pv 2) (pv 5) (λ_ _=>rfl)) (pv 6) ⟨rfl,rfl,rfl,rfl⟩))
   (aj (aL (eE (bA (bj hr) (pv 3) (pv 5) (λ_ _=>rfl)) (pv 6) ⟨rfl,rfl,rfl,rfl⟩)))))) (aj (aS (aC bW (pv 4) aI (aH _)) (ag (cG (bE vp (by rfl) T.dict qg (aa (bA (bj hr) (pv 3) (pv 5) (λ_ _=>rfl)) ai)) (dS (pv 3) (aZ bh (pv 1) ak (λ_ _=>rfl)) (set_dict (bj hr))))
   (ag (cG c6 (dS (pv 2) (aZ bh (pv 1) ak (λ_ _=>rfl)) (set_dict (bj hr))))
   (aj (k9 (cO PassesOwn.never rfl (qT (bA (bj hr) (pv 2) (pv 5) (λ_ _=>rfl))) (dw rfl (a9 (aX (i:=6) kL.nd rfl (Or.inl rfl)) (a9 (aX (i:=7) kL.nd rfl (Or.inl rfl)) cI))) (aj (cG (bE cA (by rfl) T.list dt (aa (pv 7) ai)) (dS (bA (bj hr) (pv 2) (aZ bh (pv 1) ak (λ_ _=>rfl)) (λ_ _=>rfl)) (pv 6) (set_dict (bj hr)))))))))) (aj (aS (aC bW (pv 4) aI (aH _)) (aj (aE (gp (cl:=[("_law_task",s.heap.objs.size+2),("_law_rooms",s.heap.objs.size+1)]) (caps:=[("_law_rooms",2),("_law_task",5)]) ⟨rfl,ao,ao,rfl,by kernel_rfl,by intro p hp;simp only[mem_cons,not_mem_nil,or_false]at hp;rcases hp with rfl|rfl<;>first|rfl|exact⟨rfl,.inl rfl,.inl rfl⟩|exact⟨rfl,.inl rfl,.inr rfl⟩,by kernel_rfl,by intro p hp;simp only[mem_cons,not_mem_nil,or_false]at hp;rcases hp with rfl|rfl<;>first|rfl|exact⟨rfl,.inl rfl,.inl rfl⟩|exact⟨rfl,.inl rfl,.inr rfl⟩,ao⟩ rfl (eR (by rfl) T.range (aa (aZ bh (pv 1) ak (λ_ _=>rfl)) (aa (ay bu (aZ bh (pv 1) ak (λ_ _=>rfl)) (aZ bh (pv 1) ak (λ_ _=>rfl))) ai))) (λ_ _ _ _=>fm) (λ_ _ _ _=>(aZ (show GW _ (Bw K)from ck) (bA (bj hr) (bA (bj hr) (pv 1) (pv 2) (λ_ _=>rfl)) (ay bJ (pv 0) ak) (λ_ _=>rfl)) (ay bH (pv 0) ak) (λ_ _=>rfl)))))) (aj (cO PassesOwn.never rfl (BF (by rfl) T.enumerate (aa (aZ bh (pv 1) ak (λ_ _=>rfl)) ai)) (dw rfl (a9 (aX (i:=8) kL.nd rfl (Or.inl rfl)) (a9 (aX (i:=9) kL.nd rfl (Or.inl rfl)) cI))) (ag (aK (i:=10) kL.nd rfl (Or.inl rfl) (ay bu (aZ bh (pv 1) ak (λ_ _=>rfl)) (pv 8)))
   (ag (cG (pv 9) (dS (bA (bj hr) (bA (bj hr) (pv 2) (pv 5) (λ_ _=>rfl)) (ay bJ (pv 10) ak) (λ_ _=>rfl)) (ay bH (pv 10) ak) set_list))
   (aj (aS (PW.pt (gj (aC bW (pv 8) ak (aH _)) (eY (aC bW (ay bH (pv 10) ak) ak (aH _))))) (ag (cG (ay bu (bA (bj hr) (pv 0) aI (λ_ _=>rfl)) ak) (dS (pv 0) aI (set_dict (bj hr))))
   (aj (cG (bA (bj hr) (pv 0) aI (λ_ _=>rfl)) (dS (bA (bj hr) (pv 3) (pv 5) (λ_ _=>rfl)) (ay bJ (pv 10) ak) (set_dict (bj hr)))))) aF)))))))))))))))))
   (aj (aE pW))))),?_⟩
  refine share (λσ H1=>a8 H H1/\σ=[some (.ref m.md),some (.ref d),some (.ref m.lr),some (.ref m.ls),none,none,none,none,none,none,none]) (λu' as=>?A) ?B
  case A =>
   refine⟨_,rfl,m.md,.ref m.lr,rfl,M.g (Aw _ _ _ _),_,rfl,m.md,.ref m.ls,rfl,M.g (Ih _ _ _ _),by show 2<=sizeLine;decide,λtp bm=>?_⟩;exact⟨tp,_,rfl,bR.of ae,rfl,_,_,rfl,_,_,rfl,rfl,as _ _ ⟨Tb.au bm,rfl⟩⟩
  case B =>
  rintro σ H0 ⟨s0,rfl⟩;have da:H0 d=some (.tup (xU D)):=s0 _ _ hd.1;refine share (λσ H1=>a8 H H1/\σ=[some (.ref m.md),some (.ref d),some (.ref m.lr),some (.ref m.ls),some (.str (DK D)),some (.int (Cp D)),none,none,none,none,none]) (λu' as=>?A2) ?B2
  case A2 =>
   refine⟨_,rfl,_,rfl,d,_,rfl,bR.of da,λc=>?_,λ_ p hp=>?_⟩
   .exact⟨d,_,rfl,bR.of da,by rw[AD c];rfl,by rw[AD c];exact⟨_,_,rfl,_,_,rfl,rfl,as _ _ ⟨s0,rfl⟩⟩⟩
   .rw[C8];exact⟨p,_,rfl,bR.of ae,rfl,_,_,rfl,_,_,rfl,rfl,as _ _ ⟨s0.trans (Tb.au hp),rfl⟩⟩
  case B2 =>
  rintro σ H1 ⟨s1,rfl⟩;have M1:=M.same s1;have am:H1 d=some (.tup (xU D)):=s1 _ _ hd.1;refine share (λσ H2=>x8 λ(pk':Int) (Z':Zs)=>xa (cw H2 m bP pk' Z') (0<=pk') (Ax m H Z H2 Z') (Z'.length<=Z.length+1) (Aq D (hZ Z) (hZ Z')) (zk 0 (λv=>v≠0) D (eZ Z) (eZ Z'))) (λu' as=>?A3) ?B3
  case B3 =>
   rintro σ H2 ⟨pk',Z',a1,a2,a3,a4,a5,a6⟩;exact k H2 pk' Z' .non a1 a2 a3 a4 a5 a6
  case A3 =>
  refine Bc ?_;dsimp only;have zo:∀{b},H b=none->H1 b=none->True:=λ_ _=>trivial;cases D with
  |begin t =>
   refine dX λ_ _ L G=>?_;refine eqT (bB rfl) bC rfl (dG (L _ _ _ ?_));clear L G;have fi:Tb.look Z t=none:=fi;intro J h1 N h2;have ba:N≠J:=λe=>(by rw[e,ae]at h2;cases h2);have ei:H1 N=none:=(by rw[ah ba]at h2;exact h2);have sA:=(Tb.au (X:=.dK []) h1).trans (Tb.au (X:=.dK []) h2);have e1:upd (upd H1 J (.dK [])) N (.dK []) J=some (.dK []):=(by rw[ah (Ne.symm ba),ae]);have e2:upd (upd H1 J (.dK [])) N (.dK []) N=some (.dK []):=ae;generalize upd (upd H1 J (.dK [])) N (.dK [])=H2 at *;refine⟨by show 2<=sizeLine;decide,λtp bm=>?_⟩;have sB:=Tb.au (X:=.tup [.ref J,.ref N]) bm;refine⟨tp,_,rfl,bR.of ae,rfl,_,_,rfl,?_⟩;have M3:=(M1.same sA).same sB;have e1:=sB _ _ e1;have e2:=sB _ _ e2;have S3:=s1.trans (sA.trans sB);generalize upd H2 tp (.tup [.ref J,.ref N])=H3 at *;refine⟨_,rfl,_,rfl,m.lr,_,rfl,gb.k (k:=Sum.inl t) M3.hr (by rw[Tb.cm];omega),?_⟩;rw[show(V.ref J)=fE ⟨J,N,[]⟩from rfl,Tb.cy (f:=fE) fi];refine⟨_,_,rfl,_,rfl,_,rfl,m.ls,_,rfl,gb.k (k:=Sum.inl t) (by rw[ah (Ne.symm M3.n3.2.2)];exact M3.hs) (by rw[Tb.cm];omega),rfl,?_⟩;rw[show(V.ref N)=qS ⟨J,N,[]⟩from rfl,Tb.cy (f:=qS) fi];have oC:Off (λb=>b=m.lr\/b=m.ls) H3 (upd (upd H3 m.lr (.dK (Tb.dk fE (Z++[(t,⟨J,N,[]⟩)])))) m.ls (.dK (Tb.dk qS (Z++[(t,⟨J,N,[]⟩)])))):=λb o e w=>(by rw[ah (λy=>w (.inr y)),ah (λy=>w (.inl y))];exact e);have bv:∀{b},H b=none->b≠m.lr/\b≠m.ls:=λh=>⟨(λe=>by rw[e,M.hr]at h;cases h),(λe=>by rw[e,M.hs]at h;cases h)⟩;have f1:H J=none:=s1.free h1;have f2:H N=none:=s1.free ei;have M4:cw (upd (upd H3 m.lr (.dK (Tb.dk fE (Z++[(t,⟨J,N,[]⟩)])))) m.ls (.dK (Tb.dk qS (Z++[(t,⟨J,N,[]⟩)])))) m bP pk (Z++[(t,⟨J,N,[]⟩)]):=
    M.add fi (λb o e w=>oC b o (S3 b o e) w) (by rw[ah M.n3.2.2,ae]) ae (oC _ _ e1 λw=>w.elim (bv f1).1 (bv f1).2) (oC _ _ e2 λw=>w.elim (bv f2).1 (bv f2).2) (λy I=>by cases I) nodup_nil (λy I=>by cases I) f1 f2 (Ne.symm ba)
   refine as _ _ ⟨pk,_,M4,p0,⟨λb o e w=>oC b o (S3 b o e) λy=>w (y.elim (λy=>.inr (.inl y)) λy=>.inr (.inr (.inl y))),λb w=>?_⟩,by rw[length_append];exact le_refl _,λt'=>?_,λt' q=>?_⟩
   .rcases w with w|w|w|⟨x,hx,w⟩
    .exact .inl (.inl w)
    .exact .inl (.inr (.inl w))
    .exact .inl (.inr (.inr (.inl w)))
    .rcases List.mem_append.mp hx with hx|hx
     .exact .inl (.inr (.inr (.inr ⟨x,hx,w⟩)))
     .rw[List.mem_singleton.mp hx]at w;rcases w with w|w|⟨y,I,_⟩
      .rw[w];exact .inr f1
      .rw[w];exact .inr f2
      .cases I
   .unfold hZ;rw[Tb.bM t' fi];by_cases c:t'=t
    .rw[if_pos c,decide_eq_true c];rfl
    .rw[if_neg c,decide_eq_false c];rfl
   .unfold eZ;rw[Tb.bM t' fi];by_cases c:t'=t
    .rw[if_pos c,if_pos c];rfl
    .rw[if_neg c,if_neg c]
  |close t =>
   refine dX λ_ _ L G=>?_;refine dQ (bB rfl) bC rfl bS (bw (G _ _ _ ?_));clear L G;refine dX λ_ _ L G=>?_;refine eqT (bB rfl) bC rfl (dG (L _ _ _ ?_));clear L G;obtain⟨z,R⟩:=fi;refine⟨_,rfl,m.lr,rfl,.inl ⟨_,.inl M1.hr⟩,_,rfl,_,Sum.inl t,fE z,M1.hr,rfl,by rw[Tb.cK,R];rfl,?_⟩;rw[Tb.eu];refine⟨_,rfl,m.ls,rfl,.inl ⟨_,.inl (by rw[ah (Ne.symm M1.n3.2.2)];exact M1.hs)⟩,_,rfl,_,Sum.inl t,qS z,by rw[ah (Ne.symm M1.n3.2.2)];exact M1.hs,rfl,by rw[Tb.cK,R];rfl,?_⟩;rw[Tb.eu];have oC:Off (λb=>b=m.lr\/b=m.ls) H1 (upd (upd H1 m.lr (.dK (Tb.dk fE (Tb.bg Z t)))) m.ls (.dK (Tb.dk qS (Tb.bg Z t)))):=λb o e w=>(by rw[ah (λy=>w (.inr y)),ah (λy=>w (.inl y))];exact e);have M4:=M1.del (t:=t) oC (by rw[ah M.n3.2.2,ae]) ae;refine as _ _ ⟨pk,_,M4,p0,⟨λb o e w=>oC b o (s1 b o e) λy=>w (y.elim (λy=>.inr (.inl y)) λy=>.inr (.inr (.inl y))),λb w=>.inl ?_⟩,le_trans (List.length_filter_le _ _) (le_succ _),λt'=>?_,λt' q=>?_⟩
   .rcases w with w|w|w|⟨x,hx,w⟩
    .exact .inl w
    .exact .inr (.inl w)
    .exact .inr (.inr (.inl w))
    .exact .inr (.inr (.inr ⟨x,(Tb.cf hx).1,w⟩))
   .unfold hZ;rw[Tb.cz];by_cases c:t'=t
    .rw[if_pos c,decide_eq_false (λy=>y c)];rfl
    .rw[if_neg c,decide_eq_true c];rfl
   .unfold eZ;rw[Tb.cz];by_cases c:t'=t
    .rw[if_pos c,if_pos c];rfl
    .rw[if_neg c,if_neg c]
  |map t p mm =>
   refine dX λ_ _ L G=>?_;refine dQ (bB rfl) bC rfl bS (bw (G _ _ _ ?_));clear L G;refine dX λ_ _ L G=>?_;refine dQ (bB rfl) bC rfl bS (bw (G _ _ _ ?_));clear L G;refine dX λ_ _ L G=>?_;refine eqT (bB rfl) bC rfl (dG (L _ _ _ ?_));clear L G;obtain⟨z,R,bb,dT,_⟩:=fi;have O:=Tb.aA R;have b1:¬ mm<1:=λw=>bb (.inl w);have b2:¬ p<0:=λw=>bb (.inr (.inl w));have b3:¬ 64<p+mm:=λw=>bb (.inr (.inr w));refine⟨_,rfl,d,_,_,.int p,rfl,rfl,bR.of am,rfl,_,rfl,d,_,_,.int p,rfl,rfl,bR.of am,rfl,_,rfl,d,_,_,.int mm,rfl,rfl,bR.of am,rfl,_,_,rfl,rfl,_,_,rfl,⟨af,af,af,af⟩,?_⟩;refine ig (lo:=p) (n:=(p+mm-p).toNat) (λi σ H2=>x8 λ(v6:Option V) (pl:List (Int×Addr×Int))=>xa (σ=[some (.ref m.md),some (.ref d),some (.ref m.lr),some (.ref m.ls),some (.str "map"),some (.int t),v6,none,none,none,none]) (cw H2 m bP pk (Tb.aY Z t ⟨z.ra,z.sa,pl⟩)) ((∀q,(Tb.look pl q).map (·.2)=if p<=q/\q<p+(i:Int)then some 0 else(Tb.look z.pl q).map (·.2))) ((∀y∈pl,y∈z.pl\/H y.2.1=none)) (Off (cR m Z) H H2) (∀b,H2 b=none->H b=none)) ⟨_,z.pl,rfl,by rw[Du M.nd R];exact M1,λq=>by rw[if_neg af],λy I=>.inl I,λb o e _=>s1 b o e,λb e=>s1.free e⟩ ?_ ?_
   .rintro i σ H2 hi ⟨v6,pl,rfl,M2,ac,a7,o2,bx⟩;have ap:=y8 (y:=(⟨z.ra,z.sa,pl⟩:MT)) R;have U:=Tb.aA ap;have cr:p+(i:Int)∈Rm.aR p mm:=by
     unfold Rm.aR;exact List.mem_map.mpr ⟨i,List.mem_range.mpr af,rfl⟩
    have bY:Tb.look pl (p+(i:Int))=none:=by
     have:=ac (p+(i:Int));rw[if_neg af,dT _ cr]at this;exact Option.map_eq_none_iff.mp this
    have ch:=M2.len U;refine⟨av,λl1 dd=>?_⟩;refine⟨l1,8,_,rfl,rfl,ae,af,af,by rw[length_singleton];omega,λl2 b5=>?_⟩;have sA:=(Tb.au (X:=.lst [V.int 0]) dd).trans (Tb.au (X:=.lst ((replicate (8:Int).toNat [V.int 0]).flatten)) b5);have f2:H2 l2=none:=(Tb.au (X:=.lst [V.int 0]) dd).free b5;have e2:upd (upd H2 l1 (.lst [V.int 0])) l2 (.lst ((replicate (8:Int).toNat [V.int 0]).flatten)) l2=some (.lst ((replicate 8 (0:Int)).map V.int)):=ae;generalize upd (upd H2 l1 (.lst [V.int 0])) l2 (.lst ((replicate (8:Int).toNat [V.int 0]).flatten))=H3 at *;refine⟨by show 2<=sizeLine;decide,λtp bm=>?_⟩;have sB:=Tb.au (X:=.tup [.ref l2,.int 0]) bm;refine⟨tp,_,rfl,bR.of ae,rfl,_,_,rfl,?_⟩;have M4:=(M2.same sA).same sB;have S4:=sA.trans sB;have e4:=sB _ _ e2;generalize upd H3 tp (.tup [.ref l2,.int 0])=H4 at *;refine⟨_,rfl,_,rfl,m.lr,_,rfl,dU M4.hr ap,_,rfl,z.ra,_,rfl,gb.k (k:=Sum.inl (p+(i:Int))) (M4.rm _ U) (by rw[Tb.cm];have:pl.length<=64:=ch;show pl.length<_;omega),?_⟩;have e5:putK (Tb.dk eF pl) (Sum.inl (p+(i:Int))) (.ref l2)=Tb.dk eF (pl++[(p+(i:Int),(l2,0))]):=Tb.cy (f:=eF) (a:=(l2,0)) bY;have e6:putK (Tb.dk nc pl) (Sum.inl (p+(i:Int))) (.int 0)=Tb.dk nc (pl++[(p+(i:Int),(l2,0))]):=Tb.cy (f:=nc) (a:=(l2,0)) bY;have dz:=M.d3 _ O;have aB:=M.rs _ O _ O;show Aj _ _ _ _ (upd H4 z.ra (.dK (putK (Tb.dk eF pl) (Sum.inl (p+(i:Int))) (.ref l2)))) _;rw[e5];have o5:Off (· = z.ra) H4 (upd H4 z.ra (.dK (Tb.dk eF (pl++[(p+(i:Int),(l2,0))])))):=Off.wr rfl;refine⟨_,_,rfl,_,rfl,_,rfl,m.ls,_,rfl,dU (o5 _ _ M4.hs (Ne.symm dz.2.2.1)) ap,_,rfl,z.sa,_,rfl,gb.k (k:=Sum.inl (p+(i:Int))) (o5 _ _ (M4.st _ U) (Ne.symm aB)) (by rw[Tb.cm];have:pl.length<=64:=ch;show pl.length<_;omega),rfl,?_⟩;have o6:Off (λb=>b=m.md\/b=z.ra\/b=z.sa) H4 (upd (upd H4 z.ra (.dK (Tb.dk eF (pl++[(p+(i:Int),(l2,0))])))) z.sa (.dK (putK (Tb.dk nc pl) (Sum.inl (p+(i:Int))) (.int 0)))):=λb o e w=>(by rw[ah (λy=>w (.inr (.inr y))),ah (λy=>w (.inr (.inl y)))];exact e);have M7:=M4.El (pk':=pk) (pl:=pl++[(p+(i:Int),(l2,0))]) ap o6 (by rw[ah (Ne.symm dz.2.2.2.1),ah (Ne.symm dz.1)];exact M4.hm) (by show upd _ z.sa _ z.ra=_;rw[ah aB,ae]) (by show upd _ z.sa _ z.sa=_;rw[ae,e6]) (λy I=>by
      rcases List.mem_append.mp I with I|I
      .obtain⟨ns,S,Y⟩:=M4.cl _ U y I;exact⟨ns,o6 _ _ S (λw=>by
        rcases w with w|w|w
        .rw[w,M4.hm]at S;cases S
        .rw[w,M4.rm _ U]at S;cases S
        .rw[w,M4.st _ U]at S;cases S),Y⟩
      .rw[List.mem_singleton.mp I];exact⟨replicate 8 0,o6 _ _ e4 (λw=>by
        have w:l2=m.md\/l2=z.ra\/l2=z.sa:=w;rcases w with w|w|w
        .rw[w,M4.hm]at e4;cases e4
        .rw[w,M4.rm _ U]at e4;cases e4
        .rw[w,M4.st _ U]at e4;cases e4),by simp⟩) (by rw[map_append];exact gv (M2.np _ U) (Tb.cp bY)) (λy I=>by
      rcases List.mem_append.mp I with I|I
      .exact M2.rg _ U y I
      .rw[List.mem_singleton.mp I];show 0<=p+(i:Int)/\p+(i:Int)<64;omega)
    rw[zO]at M7;refine⟨_,pl++[(p+(i:Int),(l2,0))],rfl,M7,λq=>?_,λy I=>?_,λb o e w=>o6 b o (S4 b o (o2 b o e w)) λy=>w ?_,λb e=>bx b (S4.free (cB (cB e).2).2)⟩
    .rw[Tb.bM q bY];by_cases c:q=p+(i:Int)
     .rw[if_pos c,if_pos (by rw[c];omega)];rfl
     .rw[if_neg c,ac q];by_cases Y:p<=q/\q<p+(i:Int)
      .rw[if_pos Y,if_pos af]
      .rw[if_neg Y,if_neg af]
    .rcases List.mem_append.mp I with I|I
     .exact a7 y I
     .rw[List.mem_singleton.mp I];exact .inr (bx l2 f2)
    .rcases y with y|y|y
     .exact .inl y
     .exact .inr (.inr (.inr ⟨_,O,.inl y⟩))
     .exact .inr (.inr (.inr ⟨_,O,.inr (.inl y)⟩))
   .rintro σ H2 ⟨v6,pl,rfl,M2,ac,a7,o2,bx⟩;refine as _ _ ⟨pk,_,M2,p0,⟨o2,lI R λy I=>(a7 y I).imp (λh=>⟨y,h,rfl⟩) id⟩,by rw[Tb.gz];omega,uw R,λt' q=>?_⟩;rw[vo R];have bn:q∈Rm.aR p mm↔(p<=q/\q<p+((p+mm-p).toNat:Int)):=by
     unfold Rm.aR;rw[mem_map];constructor
     .rintro⟨j,hj,rfl⟩;have:=List.mem_range.mp hj;omega
     .intro h;exact⟨(q-p).toNat,List.mem_range.mpr af,af⟩
    by_cases c:t'=t
    .rw[if_pos c,ac q];by_cases Y:q∈Rm.aR p mm
     .rw[if_pos (bn.mp Y),if_pos ⟨c,Y⟩]
     .rw[if_neg (λh=>Y (bn.mpr h)),if_neg (λh=>Y h.2),c,vS R]
    .rw[if_neg c,if_neg (λh=>c h.1)]
  |drop t p mm =>
   refine dX λ_ _ L G=>?_;refine dQ (bB rfl) bC rfl bS (bw (G _ _ _ ?_));clear L G;refine dX λ_ _ L G=>?_;refine dQ (bB rfl) bC rfl bS (bw (G _ _ _ ?_));clear L G;refine dX λ_ _ L G=>?_;refine dQ (bB rfl) bC rfl bS (bw (G _ _ _ ?_));clear L G;refine dX λ_ _ L G=>?_;refine eqT (bB rfl) bC rfl (dG (L _ _ _ ?_));clear L G;obtain⟨z,R,bb,ee⟩:=fi;have O:=Tb.aA R;have b1:¬ mm<1:=λw=>bb (.inl w);have b2:¬ p<0:=λw=>bb (.inr (.inl w));have b3:¬ 64<p+mm:=λw=>bb (.inr (.inr w));refine⟨_,rfl,d,_,_,.int p,rfl,rfl,bR.of am,rfl,_,rfl,d,_,_,.int p,rfl,rfl,bR.of am,rfl,_,rfl,d,_,_,.int mm,rfl,rfl,bR.of am,rfl,_,_,rfl,rfl,_,_,rfl,⟨af,af,af,af⟩,?_⟩;refine ig (lo:=p) (n:=(p+mm-p).toNat) (λi σ H2=>x8 λ(v6:Option V) (pl:List (Int×Addr×Int))=>xa (σ=[some (.ref m.md),some (.ref d),some (.ref m.lr),some (.ref m.ls),some (.str "drop"),some (.int t),v6,none,none,none,none]) (cw H2 m bP pk (Tb.aY Z t ⟨z.ra,z.sa,pl⟩)) ((∀q,(Tb.look pl q).map (·.2)=if p<=q/\q<p+(i:Int)then none else(Tb.look z.pl q).map (·.2))) ((∀y∈pl,y∈z.pl\/H y.2.1=none)) (Off (cR m Z) H H2) True) ⟨_,z.pl,rfl,by rw[Du M.nd R];exact M1,λq=>by rw[if_neg af],λy I=>.inl I,λb o e _=>s1 b o e,trivial⟩ ?_ ?_
   .rintro i σ H2 hi ⟨v6,pl,rfl,M2,ac,a7,o2,_⟩;have ap:=y8 (y:=(⟨z.ra,z.sa,pl⟩:MT)) R;have U:=Tb.aA ap;have cr:p+(i:Int)∈Rm.aR p mm:=by
     unfold Rm.aR;exact List.mem_map.mpr ⟨i,List.mem_range.mpr af,rfl⟩
    obtain⟨y,I⟩:∃y,Tb.look pl (p+(i:Int))=some y:=by
     have h1:=ac (p+(i:Int));rw[if_neg af]at h1;cases e:Tb.look pl (p+(i:Int))with
     |some y=>exact⟨y,rfl⟩
     |none =>
      rw[e]at h1;exact absurd (Option.map_eq_none_iff.mp h1.symm) (ee _ cr)
    have dz:=M.d3 _ O;have aB:=M.rs _ O _ O;refine⟨_,rfl,_,rfl,m.lr,_,rfl,dU M2.hr ap,z.ra,rfl,.inl ⟨_,.inl (M2.rm _ U)⟩,_,rfl,_,Sum.inl (p+(i:Int)),eF y,M2.rm _ U,rfl,by rw[Tb.cK,I];rfl,?_⟩;rw[Tb.eu];have o5:Off (· = z.ra) H2 (upd H2 z.ra (.dK (Tb.dk eF (Tb.bg pl (p+(i:Int)))))):=Off.wr rfl;have h5:=o5 _ _ (M2.st _ U) (Ne.symm aB);refine⟨_,rfl,_,rfl,m.ls,_,rfl,dU (o5 _ _ M2.hs (Ne.symm dz.2.2.1)) ap,z.sa,rfl,.inl ⟨_,.inl h5⟩,_,rfl,_,Sum.inl (p+(i:Int)),nc y,h5,rfl,by rw[Tb.cK,I];rfl,?_⟩;rw[Tb.eu];have o6:Off (λb=>b=m.md\/b=z.ra\/b=z.sa) H2 (upd (upd H2 z.ra (.dK (Tb.dk eF (Tb.bg pl (p+(i:Int)))))) z.sa (.dK (Tb.dk nc (Tb.bg pl (p+(i:Int)))))):=λb o e w=>(by rw[ah (λy=>w (.inr (.inr y))),ah (λy=>w (.inr (.inl y)))];exact e);have M7:=M2.El (pk':=pk) (pl:=Tb.bg pl (p+(i:Int))) ap o6 (by rw[ah (Ne.symm dz.2.2.2.1),ah (Ne.symm dz.1)];exact M2.hm) (by show upd _ z.sa _ z.ra=_;rw[ah aB,ae]) (by show upd _ z.sa _ z.sa=_;rw[ae]) (λy I=>by
      obtain⟨ns,S,Y⟩:=M2.cl _ U y (Tb.cf I).1;exact⟨ns,o6 _ _ S (λw=>by
        rcases w with w|w|w
        .rw[w,M2.hm]at S;cases S
        .rw[w,M2.rm _ U]at S;cases S
        .rw[w,M2.st _ U]at S;cases S),Y⟩) (Tb.lM (M2.np _ U)) (λy I=>M2.rg _ U y (Tb.cf I).1)
    rw[zO]at M7;refine⟨_,Tb.bg pl (p+(i:Int)),rfl,M7,λq=>?_,λy I=>a7 y (Tb.cf I).1,λb o e w=>o6 b o (o2 b o e w) λy=>w ?_,trivial⟩
    .rw[Tb.cz];by_cases c:q=p+(i:Int)
     .rw[if_pos c,if_pos (by rw[c];omega)];rfl
     .rw[if_neg c,ac q];by_cases Y:p<=q/\q<p+(i:Int)
      .rw[if_pos Y,if_pos af]
      .rw[if_neg Y,if_neg af]
    .rcases y with y|y|y
     .exact .inl y
     .exact .inr (.inr (.inr ⟨_,O,.inl y⟩))
     .exact .inr (.inr (.inr ⟨_,O,.inr (.inl y)⟩))
   .rintro σ H2 ⟨v6,pl,rfl,M2,ac,a7,o2,bx⟩;refine as _ _ ⟨pk,_,M2,p0,⟨o2,lI R λy I=>(a7 y I).imp (λh=>⟨y,h,rfl⟩) id⟩,by rw[Tb.gz];omega,uw R,λt' q=>?_⟩;rw[vo R];have bn:q∈Rm.aR p mm↔(p<=q/\q<p+((p+mm-p).toNat:Int)):=by
     unfold Rm.aR;rw[mem_map];constructor
     .rintro⟨j,hj,rfl⟩;have:=List.mem_range.mp hj;omega
     .intro h;exact⟨(q-p).toNat,List.mem_range.mpr af,af⟩
    by_cases c:t'=t
    .rw[if_pos c,ac q];by_cases Y:q∈Rm.aR p mm
     .rw[if_pos (bn.mp Y),if_pos ⟨c,Y⟩]
     .rw[if_neg (λh=>Y (bn.mpr h)),if_neg (λh=>Y h.2),c,vS R]
    .rw[if_neg c,if_neg (λh=>c h.1)]
  |copy t o =>
   refine dX λ_ _ L G=>?_;refine dQ (bB rfl) bC rfl bS (bw (G _ _ _ ?_));clear L G;refine dX λ_ _ L G=>?_;refine dQ (bB rfl) bC rfl bS (bw (G _ _ _ ?_));clear L G;refine dX λ_ _ L G=>?_;refine dQ (bB rfl) bC rfl bS (bw (G _ _ _ ?_));clear L G;refine dX λ_ _ L G=>?_;refine dQ (bB rfl) bC rfl bS (bw (G _ _ _ ?_));clear L G;refine dX λ_ _ L G=>?_;refine eqT (bB rfl) bC rfl (dG (L _ _ _ ?_));clear L G;obtain⟨z,R,eo,_⟩:=fi;have O:=Tb.aA R;have dz:=M.d3 _ O;have aB:=M.rs _ O _ O;have dL:t≠o:=λe=>(by rw[e,eo]at R;cases R);refine⟨_,rfl,_,rfl,m.ls,_,rfl,dU M1.hs R,z.sa,_,rfl,M1.st _ O,λN h2=>?_⟩;have f2:H N=none:=s1.free h2;have sA:=Tb.au (X:=.dK (Tb.dk nc z.pl)) h2;have e2:upd H1 N (.dK (Tb.dk nc z.pl)) N=some (.dK (Tb.dk nc z.pl)):=ae;have M2:=M1.same sA;have S2:=s1.trans sA;have en:=sA _ _ am;generalize upd H1 N (.dK (Tb.dk nc z.pl))=H2 at *;refine⟨_,rfl,_,rfl,d,_,_,.int o,rfl,rfl,bR.of en,rfl,m.ls,_,rfl,gb.k (k:=Sum.inl o) M2.hs (by rw[Tb.cm];omega),?_⟩;rw[show(V.ref N)=qS ⟨N,N,[]⟩from rfl,Tb.cy (f:=qS) eo,lj];show ml _ _ _ _ (upd H2 m.ls (.dK (Tb.dk qS Z++[(Sum.inl o,V.ref N)])));have o3:Off (· = m.ls) H2 (upd H2 m.ls (.dK (Tb.dk qS Z++[(Sum.inl o,V.ref N)]))):=Off.wr rfl;have cT:upd H2 m.ls (.dK (Tb.dk qS Z++[(Sum.inl o,V.ref N)])) m.ls=some (.dK (Tb.dk qS Z++[(Sum.inl o,V.ref N)])):=ae;generalize upd H2 m.ls (.dK (Tb.dk qS Z++[(Sum.inl o,V.ref N)]))=H3 at *;have df:N≠m.ls:=λe=>(by rw[e,M.hs]at f2;cases f2);have d7:N≠m.lr:=λe=>(by rw[e,M.hr]at f2;cases f2);have ek:∀{b kvs},H b=some (.dK kvs)->b≠m.ls->H3 b=some (.dK kvs):=λe n=>o3 _ _ (S2 _ _ e) n;have el:∀{b xs},H b=some (.tup xs)->H3 b=some (.tup xs):=λe=>o3 _ _ (S2 _ _ e) (λw=>by rw[w,M.hs]at e;cases e);have eH:∀{b xs},H b=some (.lst xs)->H3 b=some (.lst xs):=λe=>o3 _ _ (S2 _ _ e) (λw=>by rw[w,M.hs]at e;cases e);intro J h1;have f1:H J=none:=by
    cases e:H J with
    |none=>rfl
    |some u =>
     by_cases w:J=m.ls
     .rw[w,cT]at h1;cases h1
     .rw[o3 _ _ (S2 _ _ e) w]at h1;cases h1
   have ba:J≠N:=λe=>(by rw[e,o3 _ _ e2 df]at h1;cases h1);have bI:J≠m.lr:=λe=>(by rw[e,M.hr]at f1;cases f1);have cP:J≠m.ls:=λe=>(by rw[e,M.hs]at f1;cases f1);have ea:upd H3 J (.dK []) m.lr=some (.dK (Tb.dk fE Z)):=(by rw[ah (Ne.symm bI)];exact ek M.hr M.n3.2.2);refine⟨_,rfl,_,rfl,d,_,_,.int o,rfl,rfl,bR.of (Tb.au h1 _ _ (el hd.1)),rfl,m.lr,_,rfl,gb.k (k:=Sum.inl o) ea (by rw[Tb.cm];omega),?_⟩;rw[show(V.ref J)=fE ⟨J,N,[]⟩from rfl,Tb.cy (f:=fE) eo];have o5:Off (λb=>b=m.lr\/b=m.ls) H (upd (upd H3 J (.dK [])) m.lr (.dK (Tb.dk fE (Z++[(o,⟨J,N,[]⟩)])))):=λb u e w=>by
    rw[ah (λy=>w (.inl y)),ah (ar e f1)];exact o3 _ _ (S2 _ _ e) λy=>w (.inr y)
   have c3:upd (upd H3 J (.dK [])) m.lr (.dK (Tb.dk fE (Z++[(o,⟨J,N,[]⟩)]))) m.lr=some (.dK (Tb.dk fE (Z++[(o,⟨J,N,[]⟩)]))):=ae;have ey:upd (upd H3 J (.dK [])) m.lr (.dK (Tb.dk fE (Z++[(o,⟨J,N,[]⟩)]))) m.ls=some (.dK (Tb.dk qS Z++[(Sum.inl o,V.ref N)])):=(by rw[ah (Ne.symm M.n3.2.2),ah (Ne.symm cP)];exact cT);have dj:upd (upd H3 J (.dK [])) m.lr (.dK (Tb.dk fE (Z++[(o,⟨J,N,[]⟩)]))) J=some (.dK []):=(by rw[ah bI,ae]);have ep:upd (upd H3 J (.dK [])) m.lr (.dK (Tb.dk fE (Z++[(o,⟨J,N,[]⟩)]))) N=some (.dK (Tb.dk nc z.pl)):=(by rw[ah d7,ah (Ne.symm ba)];exact o3 _ _ e2 df);generalize upd (upd H3 J (.dK [])) m.lr (.dK (Tb.dk fE (Z++[(o,⟨J,N,[]⟩)])))=H5 at *;have bi:∀{b},b≠m.lr->b≠m.ls->¬ (b=m.lr\/b=m.ls):=λa b w=>w.elim a b;have hn:∀(ob:Obj) u',H z.ra≠some (.frz ob u'):=λob u' w=>(by rw[M.rm _ O]at w;cases w);have ej:Tb.look (Z++[(o,(⟨J,N,[]⟩:MT))]) t=some z:=(by rw[Tb.bM t eo,if_neg dL];exact R);have dI:Tb.look (Z++[(o,(⟨J,N,[]⟩:MT))]) o=some ⟨J,N,[]⟩:=(by rw[Tb.bM o eo,if_pos rfl]);have em:=o5 _ _ (M.rm _ O) (bi dz.2.1 dz.2.2.1);refine⟨_,rfl,_,rfl,m.lr,_,rfl,dU c3 ej,z.ra,_,rfl,em,hn,λob=>?_⟩;have bG:J≠z.ra:=λe=>(by rw[e,M.rm _ O]at f1;cases f1);have cS:N≠z.ra:=λe=>(by rw[e,M.rm _ O]at f2;cases f2);have oF:Off (· = z.ra) H5 (upd H5 z.ra (.frz ob (.dK (Tb.dk eF z.pl)))):=Off.wr rfl;have hF:upd H5 z.ra (.frz ob (.dK (Tb.dk eF z.pl))) z.ra=some (.frz ob (.dK (Tb.dk eF z.pl))):=ae;have b4:=oF _ _ dj bG;have d8:=oF _ _ ep cS;have bz:=oF _ _ c3 (Ne.symm dz.2.1);have cC:=oF _ _ ey (Ne.symm dz.2.2.1);have b9:=oF _ _ (o5 _ _ hd.1 (bi (λw=>by have:=hd.1;rw[w,M.hr]at this;cases this) (λw=>by have:=hd.1;rw[w,M.hs]at this;cases this))) (λw=>by have:=hd.1;rw[w,M.rm _ O]at this;cases this);have ew:∀{b},upd H5 z.ra (.frz ob (.dK (Tb.dk eF z.pl))) b=none->H b=none:=λ{b} e=>by
    cases e2:H b with
    |none=>rfl
    |some u =>
     exfalso;by_cases w1:b=z.ra
     .rw[w1,hF]at e;cases e
     .by_cases w2:b=m.lr
      .rw[w2,bz]at e;cases e
      .by_cases w3:b=m.ls
       .rw[w3,cC]at e;cases e
       .rw[oF _ _ (o5 _ _ e2 (bi w2 w3)) w1]at e;cases e
   have eq:∀y∈z.pl,∃ns:List Int,upd H5 z.ra (.frz ob (.dK (Tb.dk eF z.pl))) y.2.1=some (.lst (ns.map V.int))/\ns.length=8:=λy I=>by
    obtain⟨ns,S,Y⟩:=M.cl _ O y I;exact⟨ns,oF _ _ (o5 _ _ S (bi (λw=>by rw[w,M.hr]at S;cases S) (λw=>by rw[w,M.hs]at S;cases S))) (λw=>by rw[w,M.rm _ O]at S;cases S),Y⟩
   have OF:∀b u,H b=some u->b≠m.lr->b≠m.ls->b≠z.ra->upd H5 z.ra (.frz ob (.dK (Tb.dk eF z.pl))) b=some u:=λb u e a1 a2 a3=>oF _ _ (o5 _ _ e (bi a1 a2)) a3;generalize upd H5 z.ra (.frz ob (.dK (Tb.dk eF z.pl)))=HF at *;have b0:(z.pl.map (·.1)).Nodup:=M.np _ O;refine nH (a:=z.ra) (o:=ob) (kvs:=Tb.dk eF z.pl) (λi σ H6=>FR λ(v6 v7:Option V) (pl:List (Int×Addr×Int))=>DV (σ=[some (.ref m.md),some (.ref d),some (.ref m.lr),some (.ref m.ls),some (.str "copy"),some (.int t),v6,v7,none,none,none]) (H6 J=some (.dK (Tb.dk eF pl))) ((pl.map λy=>(y.1,y.2.2))=((z.pl.take i).map λy=>(y.1,y.2.2))) ((∀y∈pl,(∃ns:List Int,H6 y.2.1=some (.lst (ns.map V.int))/\ns.length=8)/\HF y.2.1=none)) (Off (· = J) HF H6))
    ⟨_,_,[],rfl,b4,rfl,(λy I=>by cases I),λ_ _ e _=>e⟩ (λi σ H6 _ z0=>by obtain⟨_,_,_,_,_,_,_,o6⟩:=z0;exact o6 _ _ hF (Ne.symm bG)) ?_ ?_
   .rintro i kk v σ H6 T' hk hT ⟨v6,v7,pl,rfl,cx,aT,b6,o6⟩;have db:(z.pl.map λx:Int×Addr×Int=>((Sum.inl x.1:Key),eF x.2))[i]?=some (kk,v):=hk;rw[getElem?_map]at db;obtain⟨y,I,e⟩:=Option.map_eq_some_iff.mp db;cases e;have et:=mem_of_getElem? I;obtain⟨hi,eC⟩:=List.getElem?_eq_some_iff.mp I;have ch:z.pl.length<=64:=M.len O;have eA:pl.length=i:=by
     have:=congrArg List.length aT;rw[length_map,length_map,length_take]at this;omega
    have dO:Tb.look pl y.1=none:=by
     cases e:Tb.look pl y.1 with
     |none=>rfl
     |some u =>
      exfalso;have h1:(y.1,u.2)∈pl.map λy=>(y.1,y.2.2):=List.mem_map.mpr ⟨_,Tb.aA e,rfl⟩;rw[aT]at h1;obtain⟨y',h2,h3⟩:=List.mem_map.mp h1;obtain⟨j,hj,e3⟩:=getElem_of_mem h2;rw[getElem_take]at e3;rw[length_take]at hj;refine oi b0 j i (a:=y'.1) (b:=y.1) ?_ ?_ af (Prod.mk.inj h3).1
      .rw[getElem?_map,getElem?_eq_getElem af,e3];rfl
      .rw[getElem?_map,I];rfl
    obtain⟨ns,S,Y⟩:=eq y et;have d6:y.2.1≠J:=λw=>(by rw[w,b4]at S;cases S);have sT:=Tb.au (X:=.tup [kV (Sum.inl y.1),eF y.2]) hT;refine⟨T',[.int y.1,.ref y.2.1],rfl,bR.of ae,rfl,_,_,rfl,_,_,rfl,rfl,?_⟩;have c7:=sT _ _ (o6 _ _ S d6);have ca:=sT _ _ cx;have ec:=sT _ _ (o6 _ _ bz (Ne.symm bI));have er:=sT _ _ (o6 _ _ b9 (λw=>by rw[w,b4]at b9;cases b9));have O7:Off (· = J) HF (upd H6 T' (.tup [kV (Sum.inl y.1),eF y.2])):=λb u e w=>sT _ _ (o6 _ _ e w);have C7:∀u∈pl,(∃ns:List Int,upd H6 T' (.tup [kV (Sum.inl y.1),eF y.2]) u.2.1=some (.lst (ns.map V.int))/\ns.length=8)/\HF u.2.1=none:=λu hu=>by
     obtain⟨⟨bd,a1,a2⟩,a3⟩:=b6 u hu;exact⟨⟨bd,sT _ _ a1,a2⟩,a3⟩
    generalize upd H6 T' (.tup [kV (Sum.inl y.1),eF y.2])=H7 at *;refine⟨_,rfl,y.2.1,_,rfl,.inl (bq.of c7),λl hl=>?_⟩;have sL:=Tb.au (X:=.lst (ns.map V.int)) hl;have ci:HF l=none:=by
     cases e:HF l with
     |none=>rfl
     |some u =>
      by_cases w:l=J
      .rw[w,ca]at hl;cases hl
      .rw[O7 _ _ e w]at hl;cases hl
    have d9:l≠J:=λw=>(by rw[w,b4]at ci;cases ci);refine⟨_,rfl,_,rfl,d,_,_,.int o,rfl,rfl,bR.of (sL _ _ er),rfl,m.lr,_,rfl,dU (sL _ _ ec) dI,_,rfl,J,_,rfl,gb.k (k:=Sum.inl y.1) (sL _ _ ca) (by rw[Tb.cm];omega),?_⟩;have e8:putK (Tb.dk eF pl) (Sum.inl y.1) (.ref l)=Tb.dk eF (pl++[(y.1,(l,y.2.2))]):=Tb.cy (f:=eF) (a:=(l,y.2.2)) dO;refine⟨_,_,pl++[(y.1,(l,y.2.2))],rfl,by rw[<-e8];exact ae,?_,λu hu=>?_,λb u e w=>by rw[ah w];exact sL _ _ (O7 _ _ e w)⟩
    .rw[map_append,aT,take_add_one,I,map_append];rfl
    .rcases List.mem_append.mp hu with hu|hu
     .obtain⟨⟨bd,a1,a2⟩,a3⟩:=C7 u hu;exact⟨⟨bd,by rw[ah (λw=>by rw[w,ca]at a1;cases a1)];exact sL _ _ a1,a2⟩,a3⟩
     .rw[List.mem_singleton.mp hu];exact⟨⟨ns,by show upd _ J _ l=_;rw[ah d9,ae],Y⟩,ci⟩
   .rintro σ H6 ⟨v6,v7,pl,rfl,cx,aT,b6,o6⟩;rw[Tb.cm,take_length]at aT;refine⟨z.ra,ob,_,o6 _ _ hF (Ne.symm bG),hn,?_⟩;have o7:Off (λb=>b=m.lr\/b=m.ls) H (upd H6 z.ra (.dK (Tb.dk eF z.pl))):=λb u e w=>by
     by_cases w1:b=z.ra
     .rw[w1,ae, <-e,w1,M.rm _ O]
     .rw[ah w1];exact o6 _ _ (OF b u e (λy=>w (.inl y)) (λy=>w (.inr y)) w1) (ar e f1)
    have c4:(pl.map (·.1))=z.pl.map (·.1):=by
     have:=congrArg (List.map (·.1)) aT;rw[map_map,map_map]at this;exact this
    have M8:cw (upd H6 z.ra (.dK (Tb.dk eF z.pl))) m bP pk (Z++[(o,⟨J,N,pl⟩)]):=M.add (z:=⟨J,N,pl⟩) eo o7
     (by rw[ah (Ne.symm dz.2.1),lj];rw[lj]at bz;exact o6 _ _ bz (Ne.symm bI))
     (by rw[ah (Ne.symm dz.2.2.1),lj];exact o6 _ _ cC (Ne.symm cP))
     (by show upd H6 z.ra _ J=_;rw[ah bG];exact cx)
     (by show upd H6 z.ra _ N=_;rw[ah cS,o6 _ _ d8 (Ne.symm ba),Fj aT])
     (λy I=>by
      obtain⟨⟨bd,a1,a2⟩,a3⟩:=b6 y I;exact⟨bd,by rw[ah (λw=>by rw[w,hF]at a3;cases a3)];exact a1,a2⟩)
     (by rw[c4];exact b0)
     (λy I=>by
      have h1:y.1∈pl.map (·.1):=List.mem_map.mpr ⟨y,I,rfl⟩;rw[c4]at h1;obtain⟨y',h2,h3⟩:=List.mem_map.mp h1;rw[<-h3];exact M.rg _ O y' h2) f1 f2 ba
    refine as _ _ ⟨pk,_,M8,p0,⟨λb u e w=>o7 b u e λy=>w (y.elim (λy=>.inr (.inl y)) λy=>.inr (.inr (.inl y))),λb w=>?_⟩,by rw[length_append];exact le_refl _,λt'=>?_,λt' q=>?_⟩
    .rcases w with w|w|w|⟨x,hx,w⟩
     .exact .inl (.inl w)
     .exact .inl (.inr (.inl w))
     .exact .inl (.inr (.inr (.inl w)))
     .rcases List.mem_append.mp hx with hx|hx
      .exact .inl (.inr (.inr (.inr ⟨x,hx,w⟩)))
      .rw[List.mem_singleton.mp hx]at w;rcases w with w|w|⟨y,I,w⟩
       .rw[w];exact .inr f1
       .rw[w];exact .inr f2
       .rw[w];exact .inr (ew (b6 y I).2)
    .unfold hZ;rw[Tb.bM t' eo];by_cases c:t'=o
     .rw[if_pos c,decide_eq_true c];rfl
     .rw[if_neg c,decide_eq_false c];rfl
    .unfold eZ;rw[Tb.bM t' eo];by_cases c:t'=o
     .rw[if_pos c,if_pos c,R];show(Tb.look pl q).map (·.2)=(Tb.look z.pl q).map (·.2);have h1:=jV (λx:Addr×Int=>x.2) q pl;have h2:=jV (λx:Addr×Int=>x.2) q z.pl;rw[<-h1, <-h2];show Tb.look (pl.map λy=>(y.1,y.2.2)) q=Tb.look (z.pl.map λy=>(y.1,y.2.2)) q;rw[aT]
     .rw[if_neg c,if_neg c]
  |peek t ad n =>
   refine dX λ_ _ L G=>?_;refine dQ (bB rfl) bC rfl bS (bw (G _ _ _ ?_));clear L G;refine dX λ_ _ L G=>?_;refine dQ (bB rfl) bC rfl bS (bw (G _ _ _ ?_));clear L G;refine dX λ_ _ L G=>?_;refine dQ (bB rfl) bC rfl bS (bw (G _ _ _ ?_));clear L G;refine dX λ_ _ L G=>?_;refine dQ (bB rfl) bC rfl bS (bw (G _ _ _ ?_));clear L G;refine dX λ_ _ L G=>?_;refine dQ (bB rfl) bC rfl bS (bw (G _ _ _ ?_));clear L G;refine dX λ_ _ L G=>?_;refine eqT (bB rfl) bC rfl (dG (L _ _ _ ?_));clear L G;obtain⟨z,R,eb,b7⟩:=fi;obtain⟨a0,a1,n1⟩:=dm _ _ _ rfl;have O:=Tb.aA R;refine⟨_,rfl,d,_,_,.int ad,rfl,rfl,bR.of am,rfl,_,rfl,d,_,_,.int ad,rfl,rfl,bR.of am,rfl,_,rfl,d,_,_,.int n,rfl,rfl,bR.of am,rfl,_,_,rfl,rfl,_,_,rfl,⟨af,af,af,af⟩,?_⟩;refine fw (lo:=ad) (n:=(ad+(n:Int)-ad).toNat) (λi ys H2=>ys.length=i/\H2=H1) ⟨rfl,rfl⟩ ?_ ?_
   .rintro i ys H2 hi ⟨hl,rfl⟩;obtain⟨y,I⟩:∃y,Tb.look z.pl ((ad+(i:Int))/8)=some y:=by
     cases e:Tb.look z.pl ((ad+(i:Int))/8)with
     |some y=>exact⟨y,rfl⟩
     |none=>exact absurd e (b7 i af)
    obtain⟨ns,S,Y⟩:=M1.cl _ O _ (Tb.aA I);obtain⟨b1,_⟩:=at_of (xs:=ns) (i:=(ad+(i:Int))%8) (n:=8) af af af;exact⟨_,rfl,_,rfl,m.lr,fE z,rfl,dU M1.hr R,_,rfl,_,_,rfl,rfl,⟨av,av⟩,z.ra,eF y,rfl,dU (M1.rm _ O) I,_,rfl,_,_,rfl,rfl,(by show(0:Int)<8;decide),y.1,_,_,_,rfl,rfl,bq.of S,b1,af,by rw[length_append,hl];rfl,rfl⟩
   .rintro ys H2 ⟨hl,rfl⟩ l b5;have s2:=Tb.au (X:=.lst ys) b5;exact k _ pk Z (.ref l) (M1.same s2) p0 ⟨λb o e _=>s2 _ _ (s1 _ _ e),λb w=>.inl w⟩ (le_succ _) (λ_=>rfl) λ_ _=>rfl
  |poke t ad c cs =>
   refine dX λ_ _ L G=>?_;refine dQ (bB rfl) bC rfl bS (bw (G _ _ _ ?_));clear L G;refine dX λ_ _ L G=>?_;refine dQ (bB rfl) bC rfl bS (bw (G _ _ _ ?_));clear L G;refine dX λ_ _ L G=>?_;refine dQ (bB rfl) bC rfl bS (bw (G _ _ _ ?_));clear L G;refine dX λ_ _ L G=>?_;refine dQ (bB rfl) bC rfl bS (bw (G _ _ _ ?_));clear L G;refine dX λ_ _ L G=>?_;refine dQ (bB rfl) bC rfl bS (bw (G _ _ _ ?_));clear L G;refine dX λ_ _ L G=>?_;refine dQ (bB rfl) bC rfl bS (bw (G _ _ _ ?_));clear L G;obtain⟨z,R,eb,b7⟩:=fi;obtain⟨dV,a0,a1,n1⟩:=ev _ _ _ _ rfl;have O:=Tb.aA R;have c9:=s1 _ _ (hd.2 _ _ _ _ rfl);have dz:=M.d3 _ O;have aB:=M.rs _ O _ O;have b0:¬ cR m Z d:=λw=>by
    rcases M1.alive d w with⟨_,e⟩|⟨_,e⟩
    .rw[am]at e;cases e
    .rw[am]at e;cases e
   refine⟨_,rfl,d,_,_,.ref c,rfl,rfl,bR.of am,rfl,c,rfl,⟨_,bq.of c9⟩,?_⟩;refine yx (K:=K) (a:=c) (xs:=cs.map V.int) (λi σ H2=>AH λ(v8 v9 ce:Option V) (ab:Int) (pl:List (Int×Addr×Int))=>Gx (σ=[some (.ref m.md),some (.ref d),some (.ref m.lr),some (.ref m.ls),some (.str "poke"),some (.int t),none,none,v8,v9,ce]) (cw H2 m bP ab (Tb.aY Z t ⟨z.ra,z.sa,pl⟩)) (0<=ab) ((pl.map λy=>(y.1,y.2.1))=(z.pl.map λy=>(y.1,y.2.1))) ((∀q,(∃j:Nat,j<i/\(ad+j)/8=q)->∃v,(Tb.look pl q).map (·.2)=some v/\v≠0)) ((∀q,(¬ ∃j:Nat,j<i/\(ad+j)/8=q)->(Tb.look pl q).map (·.2)=(Tb.look z.pl q).map (·.2))) (Off (cR m Z) H1 H2))
    ⟨_,_,_,pk,z.pl,rfl,by rw[Du M.nd R];exact M1,p0,rfl,λq ⟨j,h,_⟩=>af,λ_ _=>rfl,λ_ _ e _=>e⟩ (λi σ H2 _ z0=>by obtain⟨_,_,_,_,_,_,_,_,_,_,_,o2⟩:=z0;exact bq.of (o2 _ _ c9 dV)) ?_ ?_
   .rintro i x σ H2 T' hx hT ⟨v8,v9,ce,ab,pl,rfl,M2,p2,be,ac,bl,o2⟩;have hi:i<cs.length:=(by simpa using(List.getElem?_eq_some_iff.mp hx).1);rw[getElem?_map]at hx;obtain⟨bc,_,rfl⟩:=Option.map_eq_some_iff.mp hx;have ap:=y8 (y:=(⟨z.ra,z.sa,pl⟩:MT)) R;have U:=Tb.aA ap;have sT:=Tb.au (X:=.tup [.int i,.int bc]) hT;have M3:=M2.same sT;refine⟨T',[.int i,.int bc],rfl,bR.of ae,rfl,_,_,rfl,_,_,rfl,rfl,?_⟩;have ef:=sT _ _ (o2 _ _ am b0);have O3:Off (cR m Z) H1 (upd H2 T' (.tup [.int i,.int bc])):=λb o e w=>sT _ _ (o2 _ _ e w);generalize upd H2 T' (.tup [.int i,.int bc])=H3 at *;refine⟨_,rfl,d,_,_,.int ad,rfl,rfl,bR.of ef,rfl,_,rfl,_,_,rfl,rfl,?_⟩;obtain⟨y,I⟩:∃y,Tb.look pl ((ad+(i:Int))/8)=some y:=by
     cases e:Tb.look pl ((ad+(i:Int))/8)with
     |some y=>exact⟨y,rfl⟩
     |none=>exact absurd ((wX be _).mp e) (b7 i hi)
    obtain⟨ns,S,Y⟩:=M3.cl _ U _ (Tb.aA I);have S:H3 y.1=some (.lst (ns.map V.int)):=S;have hj:rT (ns.map V.int).length ((ad+(i:Int))%8)=some ((ad+(i:Int))%8).toNat:=by
     unfold rT;rw[length_map,if_pos af,if_pos af]
    refine⟨_,rfl,_,rfl,_,rfl,m.lr,_,rfl,dU M3.hr ap,_,rfl,_,_,rfl,rfl,⟨av,av⟩,z.ra,_,rfl,dU (M3.rm _ U) I,_,rfl,_,_,rfl,rfl,(by show(0:Int)<8;decide),y.1,_,_,_,rfl,rfl,S,hj,?_⟩;rw[<-map_set];have M4:=M3.Ee S (ns':=ns.set ((ad+(i:Int))%8).toNat bc) (by rw[length_set];exact Y);obtain⟨y',d4,dp⟩:∃y'∈z.pl,y'.2.1=y.1:=by
     have h1:((ad+(i:Int))/8,y.1)∈pl.map λy=>(y.1,y.2.1):=List.mem_map.mpr ⟨_,Tb.aA I,rfl⟩;rw[be]at h1;obtain⟨y',h2,h3⟩:=List.mem_map.mp h1;exact⟨y',h2,(Prod.mk.inj h3).2⟩
    have O4:Off (cR m Z) H1 (upd H3 y.1 (.lst ((ns.set ((ad+(i:Int))%8).toNat bc).map V.int))):=λb o e w=>by
     rw[ah (λh=>w (.inr (.inr (.inr ⟨_,O,.inr (.inr ⟨y',d4,h.trans dp.symm⟩)⟩))))];exact O3 b o e w
    generalize upd H3 y.1 (.lst ((ns.set ((ad+(i:Int))%8).toNat bc).map V.int))=H4 at *;dsimp only;refine Ci λQ L G=>?_;refine⟨_,rfl,rfl,_,rfl,?_⟩;have c5:∀Hx,Hx=H4->Q true Hx:=λHx ex=>by
     subst ex;refine L _ ?_;refine⟨_,rfl,m.md,.int ab,rfl,M4.g (Ge _ _ _ _),_,_,rfl,rfl,_,rfl,m.md,_,rfl,gb.k (k:=Sum.inr "pokes") M4.hm (by show 4<sizeLine;omega),?_⟩;dsimp only;rw[BZ];have o5:Off (· = m.md) Hx (upd Hx m.md (.dK (nu m.lr m.ls bP (ab+1)))):=Off.wr rfl;have g5:dB (upd Hx m.md (.dK (nu m.lr m.ls bP (ab+1)))) m.md (.str "pokes") (some (.int (ab+1))):=by
      have q:=dB.k (k:=Sum.inr "pokes") (H:=upd Hx m.md (.dK (nu m.lr m.ls bP (ab+1)))) ae;rw[Ge]at q;exact q
     refine⟨_,rfl,m.md,.int (ab+1),rfl,g5,_,rfl,_,rfl,m.ls,_,rfl,dU (o5 _ _ M4.hs (Ne.symm M.n3.2.1)) ap,_,rfl,_,_,rfl,rfl,⟨av,av⟩,z.sa,_,rfl,gb.k (k:=Sum.inl ((ad+(i:Int))/8)) (o5 _ _ (M4.st _ U) dz.2.2.2.1) (by rw[Tb.cm];have:pl.length<=64:=M2.len U;show pl.length<_;omega),?_⟩;have e6:putK (Tb.dk nc pl) (Sum.inl ((ad+(i:Int))/8)) (.int (ab+1))=Tb.dk nc (Tb.aY pl ((ad+(i:Int))/8) (y.1,ab+1)):=Tb.gU (f:=nc) (a:=(y.1,ab+1)) I;have e7:Tb.dk eF (Tb.aY pl ((ad+(i:Int))/8) (y.1,ab+1))=Tb.dk eF pl:=Tb.pz (f:=eF) (a:=(y.1,ab+1)) (b:=y) (M2.np _ U) I rfl;have o6:Off (λb=>b=m.md\/b=z.ra\/b=z.sa) Hx (upd (upd Hx m.md (.dK (nu m.lr m.ls bP (ab+1)))) z.sa (.dK (putK (Tb.dk nc pl) (Sum.inl ((ad+(i:Int))/8)) (.int (ab+1))))):=λb o e w=>(by rw[ah (λy=>w (.inr (.inr y))),ah (λy=>w (.inl y))];exact e);have M7:=M4.El (pk':=ab+1) (pl:=Tb.aY pl ((ad+(i:Int))/8) (y.1,ab+1)) ap o6 (by rw[ah (Ne.symm dz.2.2.2.1),ae]) (by show upd _ z.sa _ z.ra=_;rw[ah aB,ah dz.1,e7];exact M4.rm _ U) (by show upd _ z.sa _ z.sa=_;rw[ae,e6]) (λu hu=>by
       have d5:∃u'∈pl,u'.2.1=u.2.1:=by
        rcases Tb.mem_set hu with rfl|⟨hu,_⟩
        .exact⟨_,Tb.aA I,rfl⟩
        .exact⟨u,hu,rfl⟩
       obtain⟨u',h1,h2⟩:=d5;obtain⟨bd,J,N⟩:=M4.cl _ U u' h1;rw[<-h2];exact⟨bd,o6 _ _ J (λw=>by
        rcases w with w|w|w
        .rw[w,M4.hm]at J;cases J
        .rw[w,M4.rm _ U]at J;cases J
        .rw[w,M4.st _ U]at J;cases J),N⟩) (by rw[Tb.eU];exact M2.np _ U) (λu hu=>by
       rcases Tb.mem_set hu with rfl|⟨hu,_⟩
       .have h9:=M2.rg _ U ((ad+(i:Int))/8,y) (Tb.aA I);exact h9
       .exact M2.rg _ U u hu)
     rw[zO]at M7;refine⟨_,_,_,ab+1,Tb.aY pl ((ad+(i:Int))/8) (y.1,ab+1),rfl,M7,af,?_,λq hq=>?_,λq hq=>?_,λb o e w=>o6 b o (O4 b o e w) λu=>w ?_⟩
     .rw[<-be];unfold Tb.aY;rw[map_map];refine map_congr_left λu hu=>?_;show((if u.1=(ad+(i:Int))/8 then((ad+(i:Int))/8,(y.1,ab+1))else u).1,(if u.1=(ad+(i:Int))/8 then((ad+(i:Int))/8,(y.1,ab+1))else u).2.1)=(u.1,u.2.1);by_cases cc:u.1=(ad+(i:Int))/8
      .have h1:=Tb.bN (M2.np _ U) hu;rw[cc,I]at h1;rw[if_pos cc, <-cc,Option.some.inj h1]
      .rw[if_neg cc]
     .rw[Tb.bU q I];by_cases cc:q=(ad+(i:Int))/8
      .rw[if_pos cc];exact⟨ab+1,rfl,af⟩
      .rw[if_neg cc];obtain⟨j,h1,h2⟩:=hq;refine ac q ⟨j,?_,h2⟩;by_cases b8:j=i
       .subst b8;exact absurd h2.symm cc
       .omega
     .rw[Tb.bU q I,if_neg (λcc=>hq ⟨i,Nat.lt_succ_self _,cc.symm⟩)];exact bl q λ⟨j,h1,h2⟩=>hq ⟨j,lt_succ_of_lt h1,h2⟩
     .rcases u with u|u|u
      .exact .inl u
      .exact .inr (.inr (.inr ⟨_,O,.inl u⟩))
      .exact .inr (.inr (.inr ⟨_,O,.inr (.inl u)⟩))
    refine iM (λ_=>c5 _ rfl) (λc0=>?_);refine⟨_,rfl,_,_,rfl,rfl,(by show(0:Int)<8;decide),rfl,_,rfl,?_⟩;refine Ap (λ_=>c5 _ rfl) (λc8=>G _ ?_);have c0:¬ ((i:Nat):Int)=0:=λh=>c0 (by rw[h];simp);have c8:¬ (ad+(i:Int))%8=0:=λh=>c8 (decide_eq_true (show V.int ((ad+(i:Int))%8)=V.int 0 by rw[h]));refine⟨_,_,_,ab,pl,rfl,M4,p2,be,λq ⟨j,h1,h2⟩=>?_,λq hq=>bl q λ⟨j,h1,h2⟩=>hq ⟨j,lt_succ_of_lt h1,h2⟩,O4⟩;by_cases b8:j=i
    .subst b8;exact ac q ⟨j-1,af,af⟩
    .exact ac q ⟨j,af,h2⟩
   .rintro σ H2 ⟨v8,v9,ce,ab,pl,rfl,M2,p2,be,ac,bl,o2⟩;rw[length_map]at ac bl;have dM:∀y∈pl,(∃y'∈z.pl,y.2.1=y'.2.1)\/H y.2.1=none:=λy I=>by
     have h1:(y.1,y.2.1)∈pl.map λy=>(y.1,y.2.1):=List.mem_map.mpr ⟨y,I,rfl⟩;rw[be]at h1;obtain⟨y',h2,h3⟩:=List.mem_map.mp h1;exact .inl ⟨y',h2,(Prod.mk.inj h3).2.symm⟩
    refine as _ _ ⟨ab,_,M2,p2,⟨λb o e w=>o2 b o (s1 b o e) w,lI R dM⟩,by rw[Tb.gz];omega,uw R,λt' q=>?_⟩;rw[vo R];by_cases cc:t'=t
    .by_cases Y:q∈Rm.aO ad cs.length
     .rw[if_pos ⟨cc,Y⟩,if_pos cc];exact ac q (fO.mp Y)
     .rw[if_neg (λh=>Y h.2),if_pos cc,bl q (λh=>Y (fO.mpr h)),cc,vS R]
    .rw[if_neg (λh=>cc h.1),if_neg cc]
end
inductive tu (vs:List V) (H:Hp) (Q:VK) (e3:XK):Prop
 |mk (n:Int) (m:MA) (bP pk:Int) (Z:Zs) (tl:Addr) (ts:List Int) (_:vs=[.int n,.ref m.md,.ref tl]) (_:cw H m bP pk Z) (_:Z≠[]) (_:Z.length<=1000) (_:H tl=some (.lst (ts.map V.int))) (_:ts.length=5) (_:∀(H':Hp) (d:Addr) (D:Dd),a8 H H'->u7 H' d D->Bj D->(∀t ad c cs,D=.poke t ad c cs->H c=none)->(∀o,D=.close o->∃t,t≠o/\∃z,Tb.look Z t=some z)->Q (.ref d) H'):tu vs H Q e3
section
variable {P:Program}{w:World}{K:Frag}{mg:Str->Option Value}{base:Heap}
theorem m6:az ["_law_m","_law_model_here","_law_tasks","_law_rooms","_law_there","_law_kind","_law_rest","_law_task","_law_pages","_law_other","_law_left","_law_at","_law_address"] ["_law_m","_law_model_here","_law_tasks"] (aq y6):=L2.bD
theorem BA {f:Addr}{fd:FuncData}(F:cL K "_law_busy" "_law_busy" y6 f fd) (T:kN mg) (bd:Df P w K mg base aU 1 "_law_held" jy) (a7:Df P w K mg base aU 1 "_law_cells" jY):bf P w K mg base aU 2 f fd ["_law_m","_law_model_here","_law_tasks"] tu:=by
 refine F.ok m6 (λvs H Q E h=>?_) (λbv A outer s H vs Q E hr h=>?_)
 .obtain⟨n,m,bP,pk,Z,tl,ts,rfl,_⟩:=h;rfl
 .obtain⟨n,m,bP,pk,Z,tl,ts,rfl,M,zn,lz,bi,l5,k⟩:=h;have hs:sizeLine=16777216:=sizeLine_eq;refine⟨_,(ag (aK (i:=3) m6.nd rfl (Or.inl rfl) (bA (bj hr) (pv 1) aI (λ_ _=>rfl)))
   (ag (aK (i:=4) m6.nd rfl (Or.inl rfl) (aN (jw rfl) (by rfl) T.sorted kC (aa (pv 3) ai)))
   (ag (CW (i:=5) (j:=6) rfl m6.nd rfl rfl av rfl rfl (aa (ay bH (pv 0) ak) (aa (ay bJ (pv 0) ak) ai)) rfl)
   (ag (aK (i:=7) m6.nd rfl (Or.inl rfl) (aZ ck (pv 4) (ay bH (ay bJ (pv 0) ak) (aN bF (by rfl) T.len boot_len (aa (pv 4) ai))) (λ_ _=>rfl)))
   (ag (aK (i:=8) m6.nd rfl (Or.inl rfl) (aN (jw rfl) (by rfl) T.sorted kC (aa (bA (bj hr) (pv 3) (pv 7) (λ_ _=>rfl)) ai)))
   (ag (aK (i:=9) m6.nd rfl (Or.inl rfl) (aZ ck (pv 2) (ay bH (pv 6) (aN bF (by rfl) T.len boot_len (aa (pv 2) ai))) (λ_ _=>rfl)))
   (ag (aS (PW.pt (gj (aC gG (pv 5) ak (aH _)) (eY (aC (Dh hr.gn) (pv 8) (bX ai) (aH _))))) (ag (aK (i:=10) m6.nd rfl (Or.inl rfl) (ay pI (bA (bj hr) (pv 1) aI (λ_ _=>rfl)) (pc bd hr aw (aa (pv 1) ai))))
   (aj (aE (cM (aa aI (aa (pv 7) (aa (ay bH (pv 6) ak) (aa (ay bu ak (ay bH (ay bJ (pv 6) ak) (aN (nG rfl) (by rfl) T.max yI (aa ak (aa (aN (wA rfl) (by rfl) T.min Ep (aa ak (aa (pv 10) ai))) ai))))) ai)))))))) aF)
   (ag (aS (PW.pt (uv (aC gG (pv 5) ak (aH _)) (pZ (iU (gf (bj hr) (pv 9) (pv 3)))))) (aj (aE (cM (aa aI (aa (pv 7) (aa (pv 9) ai)))))) aF)
   (ag (aS (PW.pt (uv (aC bW (pv 5) ak (aH _)) (pZ (aC yW (pv 9) (pv 7) (aH _))))) (aj (aE (cM (aa aI (aa (pv 9) ai))))) aF)
   (ag (aK (i:=11) m6.nd rfl (Or.inl rfl) (ay bH (pv 6) (aN bF (by rfl) T.len boot_len (aa (pv 8) ai))))
   (ag (aS (aC bW (pv 5) ak (aH _)) (aj (aE (cM (aa aI (aa (pv 7) (aa (aZ ck (pv 8) (pv 11) (λ_ _=>rfl)) (aa ak ai))))))) aF)
   (ag (aK (i:=12) m6.nd rfl (Or.inl rfl) (ay bu (ay eX ak (aZ ck (pv 8) (pv 11) (λ_ _=>rfl))) (ay bH (ay bJ (pv 6) ak) ak)))
   (ag (aS (aC gG (pv 5) ak (aH _)) (aj (aE (cM (aa aI (aa (pv 7) (aa (pv 12) (aa (ay bu ak (ay bH (ay bJ (pv 6) ak) ak)) ai))))))) aF)
   (aj (aE (cM (aa aI (aa (pv 7) (aa (pv 12) (aa (pc a7 hr aw (aa (ay bJ (pv 6) ak) (aa (ay bu ak (ay bH (ay bJ (pv 6) ak) ak)) ai))) ai)))))))))))))))))))),?_⟩
  have bl:(Tb.dk fE Z).map (·.1)=(Z.map (·.1)).map Sum.inl:=(by unfold Tb.dk;rw[map_map,map_map];rfl);refine fN λ_ I=>?_;refine⟨_,rfl,m.md,.ref m.lr,rfl,M.g (Aw _ _ _ _),I _ _ ?_⟩;clear I;refine fN λ_ I=>?_;refine⟨_,rfl,m.lr,_,Z.map (·.1),rfl,M.hr,bl,M.nd,by rw[length_map];exact lz,λl1 ks bm ap _=>I _ _ ?_⟩;clear I;have s1:=Tb.au (X:=.lst (ks.map V.int)) bm;have h1:upd H l1 (.lst (ks.map V.int)) l1=some (.lst (ks.map V.int)):=ae;have M1:=M.same s1;generalize upd H l1 (.lst (ks.map V.int))=H1 at *;have bI:0<ks.length:=by
   rw[ap.length_eq,length_map];exact List.length_pos_iff.mpr zn
  refine⟨_,rfl,_,_,rfl,rfl,(by show(0:Int)<16;decide),_,rfl,_,_,rfl,rfl,⟨av,av⟩,_,_,rfl,?_⟩;have bn:=emod_nonneg n (show(16:Int)≠0 by decide);have bG:=emod_lt_of_pos n (show(0:Int)<16 by decide);dsimp only;generalize n%16=kd at *;generalize n/96=G;refine fN λ_ I=>?_;obtain⟨b1,b2⟩:=at_of (xs:=ks) (i:=n/16%(ks.length:Int)) (n:=ks.length) (emod_nonneg _ af) (emod_lt_of_pos _ af) rfl;generalize ks.getD (n/16%(ks.length:Int)).toNat 0=tk at b1 b2;refine⟨_,rfl,_,rfl,_,_,rfl,rfl,⟨av,av⟩,_,rfl,l1,_,rfl,.inl (bq.of h1),_,_,rfl,rfl,by show(0:Int)<((ks.map V.int).length:Nat);rw[length_map];lia,l1,_,_,.int tk,rfl,rfl,bq.of h1,by rw[length_map];exact b1,I _ _ ?_⟩;clear I;obtain⟨z,ez⟩:∃z,Tb.look Z tk=some z:=by
   have h2:=ap.mem_iff.mp b2;cases e:Tb.look Z tk with
   |some z=>exact⟨z,rfl⟩
   |none=>exact absurd h2 (Tb.cp e)
  have ac:=Tb.aA ez;have a6:(Tb.dk eF z.pl).map (·.1)=(z.pl.map (·.1)).map Sum.inl:=(by unfold Tb.dk;rw[map_map,map_map];rfl);refine fN λ_ I=>?_;refine⟨_,rfl,_,rfl,m.lr,_,rfl,dU M1.hr ez,z.ra,_,z.pl.map (·.1),rfl,M1.rm _ ac,a6,M1.np _ ac,by rw[length_map];have:z.pl.length<=64:=M1.len ac;lia,λl2 ps be ba _=>I _ _ ?_⟩;clear I;have s2:=Tb.au (X:=.lst (ps.map V.int)) be;have h2:upd H1 l2 (.lst (ps.map V.int)) l2=some (.lst (ps.map V.int)):=ae;have M2:=M1.same s2;have S2:=s1.trans s2;generalize upd H1 l2 (.lst (ps.map V.int))=H2 at *;have aT:=S2 _ _ bi;refine fN λ_ I=>?_;obtain⟨b3,_⟩:=at_of (xs:=ts) (i:=G%5) (n:=5) af af af;generalize ts.getD (G%5).toNat 0=N at b3;refine⟨_,rfl,_,rfl,_,rfl,tl,_,rfl,.inl (bq.of aT),_,_,rfl,rfl,by show(0:Int)<((ts.map V.int).length:Nat);rw[length_map,l5];decide,tl,_,_,.int N,rfl,rfl,bq.of aT,by rw[length_map,l5];exact b3,I _ _ ?_⟩;clear I;have bz:∀q∈ps,0<=q/\q<64:=λq hq=>by
   obtain⟨y,hy,e⟩:=List.mem_map.mp (ba.mem_iff.mp hq);rw[<-e];exact M.rg _ ac y hy
  have ab:∀{O d} (D:Dd),a8 H2 O->u7 O d D->Bj D->(∀t ad c cs,D=.poke t ad c cs->H c=none)->(∀o,D=.close o->∃t,t≠o/\∃z,Tb.look Z t=some z)->Q (.ref d) O:=λ{O d} D sx a1 a2 a3 a4=>k O d D (S2.trans sx) a1 a2 a3 a4;refine mG (λσ Y=>a8 H2 Y/\ps≠[]/\σ=[some (.int n),some (.ref m.md),some (.ref tl),some (.ref m.lr),some (.ref l1),some (.int kd),some (.int G),some (.int tk),some (.ref l2),some (.int N),none,none,none]) (λ_ QQ S L=>?A) ?B
  case A =>
   have mp:∀O,a8 H2 O->QQ true O:=λO sx=>by
    have Mx:=M2.same sx;refine S _ ?_;refine⟨_,rfl,m.md,.int bP,rfl,Mx.g (CO _ _ _ _),_,rfl,m,bP,pk,Z,rfl,Mx,lz,λH4 s4=>?_⟩;refine⟨_,_,rfl,rfl,?_⟩;have mx:∀R:Int,0<(if (if R<9 then R else 9)>1 then(if R<9 then R else 9)else 1)/\(if (if R<9 then R else 9)>1 then(if R<9 then R else 9)else 1)<=(9:Int):=λR=>(by split<;>split<;>lia);obtain⟨x1,x2⟩:=mx (bP-sR Z);have r0:=emod_nonneg G (show(64:Int)≠0 by decide);have r1:=emod_lt_of_pos G (show(0:Int)<64 by decide);have q0:=emod_nonneg (G/64) (show(if (if bP-sR Z<9 then bP-sR Z else 9)>1 then(if bP-sR Z<9 then bP-sR Z else 9)else 1)≠0 by omega +splitNatSub);have q1:=emod_lt_of_pos (G/64) x1;refine⟨_,rfl,_,rfl,_,_,rfl,rfl,(by show(0:Int)<64;decide),_,rfl,_,_,rfl,rfl,⟨av,av⟩,_,rfl,_,_,rfl,_,_,rfl,_,_,rfl,rfl,x1,_,_,rfl,rfl,by show 4<=sizeLine;decide,λd hd=>?_⟩;refine ab (.map tk (G%64) (1+G/64%(if (if bP-sR Z<9 then bP-sR Z else 9)>1 then(if bP-sR Z<9 then bP-sR Z else 9)else 1))) (sx.trans (s4.trans (Tb.au hd))) ⟨ae,λ_ _ _ _ e=>by cases e⟩ ⟨r0,r1,by omega +splitNatSub,by omega +splitNatSub⟩ (λ_ _ _ _ e=>by cases e) (λ_ e=>by cases e)
   refine⟨_,rfl,_,_,rfl,rfl,_,rfl,?_⟩;by_cases c2:kd<2
   .rw[decide_eq_true c2];exact dG (mp _ (a8.refl H2))
   .rw[decide_eq_false c2];refine bw ?_;refine⟨_,rfl,av,λl3 bb=>?_⟩;have J:=Tb.au (X:=.lst []) bb;refine⟨l2,l3,_,_,rfl,rfl,bq.of (J _ _ h2),bq.of ae,eO _,rfl,_,rfl,?_⟩;cases ps with
    |nil=>exact mp _ J
    |cons q r=>exact L _ ⟨J,(λe=>by cases e),rfl⟩
  case B =>
  rintro σ H3 ⟨J,pn,rfl⟩;have M3:=M2.same J;have bx:0<ps.length:=List.length_pos_iff.mpr pn;refine mG (λσ Y=>Y=H3/\σ=[some (.int n),some (.ref m.md),some (.ref tl),some (.ref m.lr),some (.ref l1),some (.int kd),some (.int G),some (.int tk),some (.ref l2),some (.int N),none,none,none]) (λ_ QQ S L=>?A2) ?B2
  case A2 =>
   refine⟨_,rfl,_,_,rfl,rfl,_,rfl,?_⟩;by_cases c2:kd<5
   .rw[decide_eq_true c2];refine dG ?_;refine⟨_,rfl,_,rfl,m.lr,_,rfl,fL (t:=N) M3.hr,?_⟩;cases eo:Tb.look Z N with
    |some _=>exact⟨false,rfl,L _ ⟨rfl,rfl⟩⟩
    |none =>
     refine⟨true,rfl,S _ ?_⟩;exact⟨_,rfl,_,rfl,by show 3<=sizeLine;decide,λd hd=>ab (.copy tk N) (J.trans (Tb.au hd)) ⟨ae,λ_ _ _ _ e=>by cases e⟩ trivial (λ_ _ _ _ e=>by cases e) (λ_ e=>by cases e)⟩
   .rw[decide_eq_false c2];exact bw (L _ ⟨rfl,rfl⟩)
  case B2 =>
  rintro σ bc ⟨e3,rfl⟩;subst e3;refine mG (λσ Y=>Y=bc/\σ=[some (.int n),some (.ref m.md),some (.ref tl),some (.ref m.lr),some (.ref l1),some (.int kd),some (.int G),some (.int tk),some (.ref l2),some (.int N),none,none,none]) (λ_ QQ S L=>?A3) ?B3
  case A3 =>
   refine⟨_,rfl,rfl,_,rfl,?_⟩;refine iM (λ_=>?_) (λ_=>L _ ⟨rfl,rfl⟩);refine⟨_,rfl,_,rfl,rfl,_,rfl,?_⟩;refine Ap (λc3=>S _ ?_) (λ_=>L _ ⟨rfl,rfl⟩);have c3:N≠tk:=λe=>(by rw[e]at c3;simp at c3);exact⟨_,rfl,by show 2<=sizeLine;decide,λd hd=>ab (.close N) (J.trans (Tb.au hd)) ⟨ae,λ_ _ _ _ e=>by cases e⟩ trivial (λ_ _ _ _ e=>by cases e) (λo e=>by cases e;exact⟨tk,Ne.symm c3,z,ez⟩)⟩
  case B3 =>
  rintro σ H4 ⟨e4,rfl⟩;subst e4;have am:=J _ _ h2;have p0:0<=G%(ps.length:Int):=emod_nonneg _ af;have p1:G%(ps.length:Int)<ps.length:=emod_lt_of_pos _ af;obtain⟨b5,b6⟩:=at_of (xs:=ps) (i:=G%(ps.length:Int)) (n:=ps.length) p0 p1 rfl;generalize ps.getD (G%(ps.length:Int)).toNat 0=U at b5 b6;obtain⟨z0,z1⟩:=bz U b6;refine fN λ_ I=>?_;refine⟨_,rfl,_,rfl,l2,_,rfl,.inl (bq.of am),_,_,rfl,rfl,by show(0:Int)<((ps.map V.int).length:Nat);rw[length_map];lia,I _ _ ?_⟩;clear I;rw[length_map];refine mG (λσ Y=>Y=H4/\σ=[some (.int n),some (.ref m.md),some (.ref tl),some (.ref m.lr),some (.ref l1),some (.int kd),some (.int G),some (.int tk),some (.ref l2),some (.int N),none,some (.int (G%(ps.length:Int))),none]) (λ_ QQ S L=>?A4) ?B4
  case A4 =>
   refine⟨_,rfl,rfl,_,rfl,?_⟩;refine Ap (λ_=>S _ ?_) (λ_=>L _ ⟨rfl,rfl⟩);exact⟨_,rfl,_,rfl,_,rfl,l2,_,_,.int U,rfl,rfl,bq.of am,b5,by show 4<=sizeLine;decide,λd hd=>ab (.drop tk U 1) (J.trans (Tb.au hd)) ⟨ae,λ_ _ _ _ e=>by cases e⟩ ⟨z0,z1,av,av⟩ (λ_ _ _ _ e=>by cases e) (λ_ e=>by cases e)⟩
  case B4 =>
  rintro σ H5 ⟨e5,rfl⟩;subst e5;have a0:=emod_nonneg (G/64) (show(8:Int)≠0 by decide);have a1:=emod_lt_of_pos (G/64) (show(0:Int)<8 by decide);have m0:=emod_nonneg (G/512) (show(11:Int)≠0 by decide);have m1:=emod_lt_of_pos (G/512) (show(0:Int)<11 by decide);obtain⟨nn,aB⟩:∃nn:Nat,(nn:Int)=1+G/512%11:=⟨(1+G/512%11).toNat,af⟩;refine fN λ_ I=>?_;refine⟨_,rfl,_,rfl,l2,_,_,.int U,rfl,rfl,bq.of am,b5,_,_,rfl,rfl,.inl ⟨av,av⟩,_,rfl,_,_,rfl,rfl,⟨av,av⟩,_,_,rfl,rfl,(by show(0:Int)<8;decide),_,_,rfl,rfl,I _ _ ?_⟩;clear I
  try dsimp only
  refine bZ λQQ S L=>?_;refine⟨_,rfl,_,_,rfl,rfl,_,rfl,?_⟩;by_cases as:kd<10
  .rw[decide_eq_true as];refine S _ ?_;refine⟨_,rfl,_,rfl,_,rfl,_,_,rfl,rfl,⟨av,av⟩,_,_,rfl,rfl,(by show(0:Int)<11;decide),_,_,rfl,rfl,by show 4<=sizeLine;decide,λd hd=>?_⟩;dsimp only at *;refine ab (.peek tk (8*U+G/64%8) nn) (J.trans (Tb.au hd)) ⟨?_,λ_ _ _ _ e=>by cases e⟩ ⟨af,af,af,af⟩ (λ_ _ _ _ e=>by cases e) (λ_ e=>by cases e);show upd H5 d _ d=some (.tup [.str "peek",.int tk,.int (8*U+G/64%8),.int nn]);rw[ae,aB]
  .rw[decide_eq_false as];refine L _ ?_;refine⟨_,rfl,_,rfl,_,rfl,_,_,rfl,rfl,⟨av,av⟩,_,rfl,_,_,rfl,rfl,⟨av,av⟩,_,_,rfl,rfl,(by show(0:Int)<11;decide),_,_,rfl,rfl,G/4096,nn,by rw[aB];rfl,af,λcs H6 cl lc s6 a5 h6=>?_⟩;refine⟨by show 4<=sizeLine;decide,λd hd=>?_⟩;have s7:=Tb.au (X:=.tup [V.str "poke",V.int tk,V.int (8*U+G/64%8),V.ref cl]) hd;refine ab (.poke tk (8*U+G/64%8) cl cs) (J.trans (s6.trans s7)) ⟨ae,λ_ _ _ _ e=>by cases e;exact s7 _ _ h6⟩ ⟨af,af,af,af⟩ (λ_ _ _ _ e=>by cases e;exact S2.free (J.free a5)) (λ_ e=>by cases e)
end
structure AB (c:CA) (H:Hp) (M:Addr->Prop) (a:RA) (m:MA) (nf ns k:Nat) (s:Pg.PS) (cv:Int->Int->List Int) (pk:Int) (W:dY) (Z:Zs):Prop where
 R:ax c H M a s W
 ri:Pg.RI s (ents W)
 cv:Cv s W cv
 D:cw H m (bP s) pk Z
 p0:0<=pk
 sp:∀b,cR m Z b->M b/\¬ a.own W b
 tw:Tw W Z
 lf:(s.ow true).length=nf
 ls:(s.ow false).length=ns
 zn:Z≠[]
 lw:W.length<=k
 lz:Z.length<=k
section
variable {c:CA}{H H' H2:Hp}{M M':Addr->Prop}{a:RA}{m:MA}{nf ns k:Nat}{s s':Pg.PS}{cv:Int->Int->List Int}{pk tt:Int}{W W':dY}{Z Z':Zs}
theorem AB.same (S:AB c H M a m nf ns k s cv pk W Z) (e:a8 H H'):AB c H' M a m nf ns k s cv pk W Z:=⟨S.R.same e,S.ri,S.cv,S.D.same e,S.p0,S.sp,S.tw,S.lf,S.ls,S.zn,S.lw,S.lz⟩
theorem yy (R:ax c H M a s W) (D:cw H m tt pk Z) (sp:∀b,cR m Z b->M b/\¬ a.own W b) {pk':Int}(G:cw H' m tt pk' Z') (st:Ax m H Z H' Z') :
  ax c H' (λb=>(M b/\¬ cR m Z b)\/cR m Z' b) a s W/\∀b,cR m Z' b->((M b/\¬ cR m Z b)\/cR m Z' b)/\¬ a.own W b:=by
 refine⟨R.BM (B:=cR m Z) st.1 sp D.alive (λb z=>z.elim (λz=>.inl z.1) λz=>(st.2 b z).elim (λz=>.inl (sp b z).1) .inr) (λb z w=>.inl ⟨z,w⟩) (λb z e=>?_),λb z=>⟨.inr z,?_⟩⟩
 .rcases z with z|z
  .cases F:H b with
   |none=>exact R.mt b z.1 F
   |some u=>rw[st.1 b u F z.2]at e;cases e
  .rcases G.alive b z with⟨_,h⟩|⟨_,h⟩
   .rw[e]at h;cases h
   .rw[e]at h;cases h
 .rcases st.2 b z with z|z
  .exact(sp b z).2
  .exact λw=>R.mt b (R.dR b w) z
theorem rP (D:cw H m tt pk Z) (sp:∀b,cR m Z b->M b/\¬ a.own W b) (st:Step H M (a.own W) H' M' (a.own W')):cw H' m tt pk Z/\∀b,cR m Z b->M' b/\¬ a.own W' b:=by
 refine⟨D.off st.off λb z=>(sp b z).2,λb z=>⟨st.mm b (sp b z).1 (sp b z).2,λw=>?_⟩⟩;rcases st.on b w with w|w
 .exact(sp b z).2 w
 .rcases D.alive b z with⟨_,h⟩|⟨_,h⟩
  .rw[w]at h;cases h
  .rw[w]at h;cases h
theorem jj {α N:Type}{l:List (Int×α)}{F:List (Int×N)}(J:(l.map (·.1)).Nodup) (L:(F.map (·.1)).Nodup) (h:∀q,Tb.look l q=none↔Tb.look F q=none):(l.map (·.1)).Perm (F.map (·.1)):=by
 have G:∀{I:Type}{l:List (Int×I)}{q:Int},q∈l.map (·.1)↔¬ Tb.look l q=none:=λ{I l q}=>⟨λh e=>Tb.cp e h,λh=>by
  cases e:Tb.look l q with
  |none=>exact absurd e h
  |some a=>exact List.mem_map.mpr ⟨_,Tb.aA e,rfl⟩⟩
 rw[List.perm_ext_iff_of_nodup J L];intro q;rw[G,G,h q]
theorem Tw.look (T:Tw W Z) (t:Int):Tb.look W t=none↔Tb.look Z t=none:=by
 have h:=T.h t;unfold hW hZ at h;cases G:Tb.look W t with
 |none=>cases F:Tb.look Z t with
  |none=>exact⟨λ_=>rfl,λ_=>rfl⟩
  |some z=>rw[G,F]at h;cases h
 |some x=>cases F:Tb.look Z t with
  |none=>rw[G,F]at h;cases h
  |some z=>exact⟨nofun,nofun⟩
theorem Tw.vt (T:Tw W Z) {t:Int}{x:TD}{z:MT}(I:Tb.look W t=some x) (J:Tb.look Z t=some z) (q:Int):Tb.look x.t q=none↔Tb.look z.pl q=none:=by
 have h:=T.e t q;rw[vK I,vS J]at h;cases G:Tb.look x.t q with
 |none=>cases F:Tb.look z.pl q with
  |none=>exact⟨λ_=>rfl,λ_=>rfl⟩
  |some z=>rw[G,F]at h;cases h
 |some x=>cases F:Tb.look z.pl q with
  |none=>rw[G,F]at h;cases h
  |some z=>exact⟨nofun,nofun⟩
theorem Tw.get (T:Tw W Z) {t:Int}{z:MT}(F:Tb.look Z t=some z):∃x,Tb.look W t=some x:=by
 cases e:Tb.look W t with
 |some x=>exact⟨x,rfl⟩
 |none=>rw[(T.look t).mp e]at F;cases F
theorem zY {l F:List Int}(p:l.Perm F):l.sum=F.sum:=by
 induction p with
 |nil=>rfl
 |cons x _ I=>rw[sum_cons,sum_cons,I]
 |swap x y l=>rw[sum_cons,sum_cons,sum_cons,sum_cons];lia
 |trans _ _ G J=>exact G.trans J
theorem Tw.len (T:Tw W Z) (R:ax c H M a s W) (D:cw H m tt pk Z) {t:Int}{x:TD}{z:MT}(F:Tb.look W t=some x) (G:Tb.look Z t=some z):x.t.length=z.pl.length:=by
 have:=(jj (R.tb _ (Tb.aA F)).nd (D.np _ (Tb.aA G)) (T.vt F G)).length_eq;rw[length_map,length_map]at this;exact this
theorem Tw.held (T:Tw W Z) (R:ax c H M a s W) (D:cw H m tt pk Z):sR Z=((ents W).length:Int):=by
 rw[<-lW];have p:=(jj R.nd D.nd T.look).symm;have q:=zY (p.map λt:Int=>(((Tb.look W t).map λx=>(x.t.length:Int)).getD 0));rw[map_map,map_map]at q;unfold sR heldW;rw[show(Z.map λx=>(x.2.pl.length:Int))=Z.map ((λt:Int=>(((Tb.look W t).map λx=>(x.t.length:Int)).getD 0))∘(·.1))from map_congr_left λx F=>by
  have I:=Tb.bN D.nd F;obtain⟨y,G⟩:=T.get I;show((x.2.pl.length:Nat):Int)=(((Tb.look W x.1).map λx=>(x.t.length:Int)).getD 0);rw[G, <-T.len R D G I];rfl]
 rw[q];refine congrArg List.sum (map_congr_left λx F=>?_);show(((Tb.look W x.1).map λx=>(x.t.length:Int)).getD 0)=(x.2.t.length:Int);rw[Tb.bN R.nd F];rfl
theorem vz {x:TD}{z:MT}{ad:Int}{n:Nat}(J:∀q,Tb.look x.t q=none↔Tb.look z.pl q=none) (R:0<=ad) (h:vx z.pl ad n):¬ Rm.di ad n (x.t.map (·.1)):=by
 obtain⟨h1,h2⟩:=h;rintro(w|⟨w,F⟩)
 .lia
 .rcases F with F|F
  .unfold Rm.cu Rm.jq Rm.iG at F;lia
  .refine F λq N=>?_;have O:q∈Rm.aO ad n:=by
    unfold Rm.aO;rw[if_neg af];exact N
   obtain⟨j,L,e⟩:=fO.mp O;have I:=h2 j L;rw[e]at I;cases G:Tb.look x.t q with
   |none=>exact absurd ((J q).mp G) I
   |some v=>exact List.mem_map.mpr ⟨_,Tb.aA G,rfl⟩
theorem EJ (T:Tw W Z) (R:ax c H M a s W) (D:cw H m tt pk Z) {Dd:Dd}(ok:Bj Dd) (f:CG Z (bP s) Dd):Ca W (bP s) Dd:=by
 have N:=T.held R D;cases Dd with
 |begin t=>exact ok
 |close t=>obtain⟨z,F⟩:=f;exact T.get F
 |map t p O =>
  obtain⟨z,F,I,J,S⟩:=f;obtain⟨x,G⟩:=T.get F;exact⟨x,G,I,λq L=>(T.vt G F q).mpr (J q L),by rw[<-N];exact S⟩
 |drop t p O =>
  obtain⟨z,F,I,J⟩:=f;obtain⟨x,G⟩:=T.get F;exact⟨x,G,I,λq L w=>J q L ((T.vt G F q).mp w)⟩
 |peek t ad n =>
  obtain⟨z,F,I⟩:=f;obtain⟨x,G⟩:=T.get F;exact⟨x,G,vz (T.vt G F) ok.1 I,ok.1,ok.2.1,ok.2.2.2⟩
 |poke t ad U cs =>
  obtain⟨z,F,I⟩:=f;obtain⟨x,G⟩:=T.get F;exact⟨x,G,vz (T.vt G F) ok.1 I,ok.1,ok.2.1,ok.2.2.2⟩
 |copy t o =>
  obtain⟨z,F,I,J⟩:=f;obtain⟨x,G⟩:=T.get F;exact⟨x,G,(T.look o).mpr I,by rw[<-N,T.len R D G F];exact J⟩
end
inductive qe (c:CA) (vs:List V) (H:Hp) (Q:VK) (e3:XK):Prop
 |mk (n:Int) (_:vs=[.int n]) (_:∀(H':Hp) (t:Addr) (M:Addr->Prop) (a:RA) (m:MA) (s:Pg.PS) (cv:Int->Int->List Int) (pk:Int) (W:dY) (Z:Zs),a8 H H'->AB c H' M a m (kO n) (mP n) 1 s cv pk W Z->(∀b,M b->H b=none)->H' t=some (.tup [.ref a.rp,.ref m.md])->Q (.ref t) H'):qe c vs H Q e3
section
variable {P:Program}{w:World}{K:Frag}{mg:Str->Option Value}{base:Heap}
theorem yF:az ["_law_m","_law_frames","_law_slots","_law_kept","_law_model_here"] ["_law_m"] (aq tE):=L2.bD
theorem zK {f am:Addr}{fd ad:FuncData}{c:CA}(F:cL K "_law_begun" "_law_begun" tE f fd) (TR:qK K mg c) (MK:GB P w K mg base c) (MR:Mk K c.C am) (a2:mg "Rooms" = some (.ref c.C)) (be:Df P w K mg base aU 1 "_law_sizes" kR) (bc:bf P w K mg base aU 5 am ad ["self","frames","slots"] (oW c)) (a5:Binds K ad ["self","frames","slots"] []) (a6:Df P w K mg base aU 1 "_law_model" oO) (aT:Df P w K mg base aU 1 "_law_done" qB):bf P w K mg base aU 7 f fd ["_law_m"] (qe c):=by
 refine F.ok yF (λvs H Q E h=>?_) (λbx A outer s H vs Q E I h=>?_)
 .obtain⟨n,rfl,_⟩:=h;rfl
 .obtain⟨n,rfl,k⟩:=h;have hs:sizeLine=16777216:=sizeLine_eq;obtain⟨_,f2,bn⟩:=yZ n;obtain⟨_,bm⟩:=Ad n;refine⟨_,(ag (cG (pc be I aw (aa (pv 0) ai)) (dw rfl (a9 (aX (i:=1) yF.nd rfl (Or.inl rfl)) (a9 (aX (i:=2) yF.nd rfl (Or.inl rfl)) cI))))
   (ag (aK (i:=3) yF.nd rfl (Or.inl rfl) (kT MR bc (I.mono av) (by rfl) a2 a5 .nil aw (aa (pv 1) (aa (pv 2) ai))))
   (ag (aK (i:=4) yF.nd rfl (Or.inl rfl) (pc a6 I aw (aa (ay bu (pv 1) (pv 2)) ai)))
   (ag (aL (pm (pv 3) TR.cl MK.IE I aw (aa ak ai)))
   (ag (aL (pc aT I aw (aa (pv 4) (aa (cM (aa aI (aa ak ai))) ai))))
   (aj (aE (cM (aa (pv 3) (aa (pv 4) ai)))))))))),?_⟩
  refine⟨_,rfl,n,rfl,λH1 t1 s1 bl bi=>⟨t1,_,rfl,bR.of bi,rfl,_,_,rfl,_,_,rfl,rfl,?_⟩⟩;refine⟨_,rfl,_,rfl,λrp dx np as bv=>⟨rp,dx,kO n,mP n,rfl,af,by omega +splitNatSub,af,ae,λH2 M a ea R fr o2=>⟨rfl,?_⟩⟩⟩;have s2:a8 H1 H2:=λb u e=>o2 b u (by rw[ah (ar e np),ah (ar e as)];exact e) (ar e np);have ap:∀b,M b->H b=none:=λb z=>s1.free (cB (cB (fr b z)).2).2;clear o2 fr;rw[<-ea];have et:bP (s0 (kO n) (mP n))=((kO n:Nat):Int)+((mP n:Nat):Int):=by
   unfold bP;rw[show((s0 (kO n) (mP n)).ow true).length=kO n from length_replicate,show((s0 (kO n) (mP n)).ow false).length=mP n from length_replicate];lia
  refine⟨_,rfl,_,rfl,_,_,rfl,rfl,_,rfl,λH3 m O g1 g2 g3 D3=>?_⟩;rw[<-et]at D3;have S:=s1.trans s2;have bd:∀b,cR m [] b->H3 b≠none:=λb z e=>by
   rcases D3.alive b z with⟨_,h⟩|⟨_,h⟩
   .rw[e]at h;cases h
   .rw[e]at h;cases h
  have L:∀b,cR m [] b->H2 b=none:=λb z=>by
   rcases z with z|z|z|⟨x,G,_⟩
   .rw[z];exact g1
   .rw[z];exact g2
   .rw[z];exact g3
   .cases G
  have R3:=R.BM (H':=H3) (B:=λ_=>False) (M':=λb=>M b\/cR m [] b) (λb o e _=>O b o e) (λb z=>z.elim) (λb z=>z.elim) (λb z=>z.elim .inl λz=>.inr (L b z)) (λb z _=>.inl z) (λb z e=>z.elim (λz=>(R.same O).mt b z e) λz=>bd b z e);have ba:∀b,cR m [] b->(M b\/cR m [] b)/\¬ a.own [] b:=λb z=>⟨.inr z,λw=>R.mt b (R.dR b w) (L b z)⟩;obtain⟨a0,ho⟩:=R3.ob;refine⟨_,rfl,a.rp,a0,_,rfl,ho,gi _ _ _ ao ao ao,_,a,_,[],1,rfl,R3,rfl,zero_le _,λH4 M4 y Y R4 U=>?_⟩;obtain⟨D4,ac⟩:=rP D3 ba U;have ab:∀b,M4 b->H b=none:=λb z=>by
   rcases U.mn b z with z|z
   .exact z.elim (ap b) λz=>S.free (L b z)
   .exact S.free (O.free z)
  have S4:a8 H H4:=λb u e=>U.off b u (O _ _ (S _ _ e)) λw=>by
   have:=R3.dR b w;rcases this with h|h
   .rw[ap b h]at e;cases e
   .rw[S.free (L b h)]at e;cases e
  refine⟨_,rfl,by show 2<=sizeLine;decide,λd hd=>?_⟩;have J:=Tb.au (X:=.tup [V.str "begin",V.int 1]) hd;refine⟨m,_,0,[],d,.begin 1,rfl,D4.same J,Int.le_refl _,zero_le _,⟨ae,λ_ _ _ _ e=>by cases e⟩,rfl,(λ_ _ _ _ e=>by cases e),(λ_ _ _ e=>by cases e),λH6 aB N v D6 p6 z6 l6 h6 e6=>?_⟩;have R5:=R4.same J;obtain⟨R6,a7⟩:=yy R5 (D4.same J) ac D6 z6;have a4:∀b,((M4 b/\¬ cR m [] b)\/cR m N b)->H b=none:=λb z=>by
   rcases z with z|z
   .exact ab b z.1
   .rcases z6.2 b z with z|z
    .exact ab b (ac b z).1
    .exact S4.free (J.free z)
  have S6:a8 H H6:=λb u e=>z6.1 b u (J _ _ (S4 _ _ e)) λw=>(by rw[ab b (ac b w).1]at e;cases e);refine⟨_,rfl,_,rfl,by show 2<=sizeLine;decide,λtp a1=>?_⟩;have st:=Tb.au (X:=.tup [.ref a.rp,.ref m.md]) a1;have a3:Pg.RI (s0 (kO n) (mP n)) (ents ([]++[(1,y)])):=by
   rw[sj,Y];exact Gk af
  have T0:Tw [] []:=⟨λ_=>rfl,λ_ _=>rfl⟩;have T6:Tw ([]++[(1,y)]) N:=T0.next (D:=.begin 1) (λt'=>by
    unfold hW;rw[Tb.bM t' rfl];by_cases z:t'=1
    .rw[if_pos z,decide_eq_true z];rfl
    .rw[if_neg z,decide_eq_false z];rfl) h6 (λt' q=>by
    unfold eW;rw[Tb.bM t' rfl];by_cases z:t'=1
    .rw[if_pos z,if_pos z,bind_some,Y];rfl
    .rw[if_neg z,if_neg z]) e6
  have bb:N≠[]:=λe=>by
   have:=T6.h 1;rw[e]at this;unfold hW hZ at this;rw[Tb.bM 1 rfl,if_pos rfl]at this;cases this
  refine k _ tp _ a m _ (λ_ _=>[]) aB _ N (S6.trans st) (AB.same ⟨R6,a3,λt x G q e he=>?_,D6,p6,a7,T6,length_replicate,length_replicate,bb,le_refl _,l6⟩ st) a4 ae;rw[Tb.bM t rfl]at G;by_cases z:t=1
  .rw[if_pos z]at G;cases G;rw[Y]at he;cases he
  .rw[if_neg z]at G;cases G
end
def AF (s:Pg.PS) (e:Pg.Ent):Option (Bool×Nat):=e.bind s.pl
def jz (s:Pg.PS) (es:List Pg.Ent) (b:Bool) (n:Nat):Nat:=es.countP λe=>decide (AF s e=some (b,n))
def gJ (s:Pg.PS) (es:List Pg.Ent) (b:Bool):List Int:=(List.range (s.ow b).length).map λn=>((jz s es b n:Nat):Int)
section
variable {s:Pg.PS}{es es':List Pg.Ent}{e:Pg.Ent}{b b':Bool}{n:Nat}
theorem vW:(gJ s es b).length=(s.ow b).length:=by unfold gJ;rw[length_map,length_range]
theorem cX:(gJ s es b)[n]?=if n<(s.ow b).length then some ((jz s es b n:Nat):Int)else none:=by
 unfold gJ;rw[getElem?_map];by_cases h:n<(s.ow b).length
 .rw[if_pos h,List.getElem?_range h];rfl
 .rw[if_neg h,List.getElem?_eq_none (by rw[length_range];exact Nat.not_lt.mp h)];rfl
theorem qU:jz s (es++[e]) b n=jz s es b n+if AF s e=some (b,n)then 1 else 0:=by
 unfold jz;rw[List.countP_append,List.countP_singleton];by_cases h:AF s e=some (b,n)
 .rw[if_pos h,if_pos (decide_eq_true h)]
 .rw[if_neg h,if_neg (by rw[decide_eq_false h];exact Bool.false_ne_true)]
theorem cnt_nil:gJ s [] b=replicate (s.ow b).length 0:=by
 unfold gJ;exact List.ext_getElem (by simp) λi h1 h2=>by simp[jz]
theorem nY (h:∀n,AF s e≠some (b,n)):gJ s (es++[e]) b=gJ s es b:=by
 refine map_congr_left λn _=>?_;rw[qU,if_neg (h n)];rfl
theorem CJ (h:AF s e=some (b,n)):gJ s (es++[e]) b=(gJ s es b).set n ((jz s es b n:Nat)+1:Int):=by
 refine ext_getElem? λi=>?_;rw[List.getElem?_set,vW,cX,cX];by_cases hi:i<(s.ow b).length
 .rw[if_pos hi,if_pos hi,qU,h];by_cases c:n=i
  .subst c;simp[hi]
  .simp[c]
 .rw[if_neg hi,if_neg hi];by_cases c:n=i
  .rw[if_pos c,if_neg (c▸hi)]
  .rw[if_neg c]
theorem qX (p:es.Perm es'):gJ s es b=gJ s es' b:=by
 refine map_congr_left λn _=>?_;unfold jz;rw[p.countP_eq]
theorem ym (R:Pg.RI s es):gJ s es b=s.ow b:=by
 refine ext_getElem? λn=>?_;rw[cX];by_cases h:n<(s.ow b).length
 .rw[if_pos h,getElem?_eq_getElem h];congr 1;have G:=getElem?_eq_getElem h;by_cases F:∃k,s.pl k=some (b,n)
  .obtain⟨k,F⟩:=F;obtain⟨cs,c,h1,h2,J,I⟩:=R.good.va _ _ _ F;rw[G]at h2;cases h2;rw[R.ct k cs _ ⟨b,n,F,h1,G⟩];unfold jz List.count;congr 1;refine List.countP_congr λe _=>?_;cases e with
   |none=>simp[AF]
   |some j =>
    rw[decide_eq_true_iff,beq_iff_eq];constructor
    .intro q;exact congrArg some (R.good.inj j k (b,n) q F)
    .intro q;cases q;exact F
  .rcases R.good.on b n _ G with z|z
   .rw[z];have:jz s es b n=0:=by
     unfold jz;rw[List.countP_eq_zero];intro e _ q;cases e with
     |none=>exact absurd (of_decide_eq_true q) (by simp[AF])
     |some j=>exact F ⟨j,of_decide_eq_true q⟩
    rw[this];rfl
   .exact absurd z F
 .rw[if_neg h,List.getElem?_eq_none (Nat.not_lt.mp h)]
variable {W:dY}{Z:Zs}
def kK (W:dY) (t q:Int):Pg.Ent:=((Tb.look W t).bind λx=>Tb.look x.t q).getD none
def tW (W:dY) (x:Int×MT):List Pg.Ent:=x.2.pl.map λy=>kK W x.1 y.1
def lZ (W:dY) (Z:Zs):List Pg.Ent:=Z.flatMap (tW W)
theorem mi {α F:Type}{f g:α->List F}:∀{l:List α},(∀x∈l,f x=g x)->l.flatMap f=l.flatMap g
 | [],_=>rfl
 |x::l,h=>by rw[flatMap_cons,flatMap_cons,h x mem_cons_self,mi λy G=>h y (mem_cons_of_mem _ G)]
theorem vH {α F:Type}{f g:α->List F}:∀{l:List α},(∀x∈l,(f x).Perm (g x))->(l.flatMap f).Perm (l.flatMap g)
 | [],_=>.refl _
 |x::l,h=>by rw[flatMap_cons,flatMap_cons];exact(h x mem_cons_self).append (vH λy G=>h y (mem_cons_of_mem _ G))
theorem w9 (J:(W.map (·.1)).Nodup) (I:∀x∈W,(x.2.t.map (·.1)).Nodup):ents W=(W.map (·.1)).flatMap λt=>(((Tb.look W t).map λx=>x.t.map (·.1)).getD []).map (kK W t):=by
 unfold ents;rw[List.flatMap_map];refine mi λx F=>?_;have e:=Tb.bN J F;rw[e];show x.2.t.map (·.2)=(x.2.t.map (·.1)).map _;rw[map_map];refine map_congr_left λy G=>?_;show y.2=kK W x.1 y.1;unfold kK;rw[e];show y.2=(Tb.look x.2.t y.1).getD none;rw[Tb.bN (I x F) G];rfl
theorem x6 (G:(Z.map (·.1)).Nodup):lZ W Z=(Z.map (·.1)).flatMap λt=>(((Tb.look Z t).map λx=>x.pl.map (·.1)).getD []).map (kK W t):=by
 unfold lZ;rw[List.flatMap_map];refine mi λx F=>?_;rw[Tb.bN G F];show x.2.pl.map _=(x.2.pl.map (·.1)).map _;rw[map_map];rfl
theorem oq {c:CA}{H H':Hp}{M:Addr->Prop}{a:RA}{m:MA}{tt pk:Int}(T:Tw W Z) (R:ax c H M a s W) (D:cw H' m tt pk Z):(lZ W Z).Perm (ents W):=by
 rw[w9 R.nd λx F=>(R.tb x F).nd,x6 D.nd];have I:(Z.map (·.1)).Perm (W.map (·.1)):=jj D.nd R.nd λq=>(T.look q).symm;refine(I.flatMap_right _).trans (vH λt _=>List.Perm.map _ ?_);cases G:Tb.look Z t with
 |none=>rw[(T.look t).mpr G];exact .refl _
 |some z =>
  obtain⟨x,F⟩:=T.get G;rw[F];exact jj (D.np _ (Tb.aA G)) (R.tb _ (Tb.aA F)).nd λq=>(T.vt F G q).symm
end
abbrev mT:Stmt:=inClass (top 14) 13
abbrev mV:Stmt:=inClass (top 33) 10
abbrev vF:Stmt:=top 49
abbrev mO:Stmt:=top 45
structure Dz (H H':Hp) (s:Pg.PS) (p l1 l2:Addr):Prop where
 sm:a8 H H'
 f1:H l1=none
 f2:H l2=none
 fp:H p=none
 n:l1≠l2
 h1:H' l1=some (.lst ((s.ow true).map V.int))
 h2:H' l2=some (.lst ((s.ow false).map V.int))
 hp:H' p=some (.tup [.ref l1,.ref l2])
inductive jW (C CS:Addr) (vs:List V) (H:Hp) (Q:VK) (e3:XK):Prop
 |mk (M:Addr->Prop) (A:PA) (s:Pg.PS) (_:vs=[.ref A.pg]) (_:bK C CS H M A s) (_:∀H' p l1 l2,Dz H H' s p l1 l2->Q (.ref p) H'):jW C CS vs H Q e3
inductive jZ (c:CA) (vs:List V) (H:Hp) (Q:VK) (e3:XK):Prop
 |mk (M:Addr->Prop) (a:RA) (s:Pg.PS) (W:dY) (_:vs=[.ref a.rp]) (_:ax c H M a s W) (_:∀H' p l1 l2,Dz H H' s p l1 l2->Q (.ref p) H'):jZ c vs H Q e3
inductive ku (vs:List V) (H:Hp) (Q:VK) (e3:XK):Prop
 |mk (p q:Addr) (xs:List Int) (_:vs=[.ref p,.ref q]) (_:H p=some (.lst (xs.map V.int))) (_:H q=some (.lst (xs.map V.int))) (_:xs.length<=100) (_:∀H',a8 H H'->Q (.bl true) H'):ku vs H Q e3
structure ER (H H':Hp) (s:Pg.PS) (d l1 l2:Addr):Prop where
 sm:a8 H H'
 f1:H l1=none
 f2:H l2=none
 fd:H d=none
 n:l1≠l2
 h1:H' l1=some (.lst ((s.ow true).map V.int))
 h2:H' l2=some (.lst ((s.ow false).map V.int))
 hd:H' d=some (.lst [.ref l1,.ref l2])
def two (l1 l2:Addr) (b:Bool):Addr:=if b=true then l1 else l2
structure fg (HB H:Hp) (s:Pg.PS) (d l1 l2:Addr) (es:List Pg.Ent):Prop where
 sm:a8 HB H
 hd:H d=some (.lst [.ref l1,.ref l2])
 hl:∀b,H (two l1 l2 b)=some (.lst ((gJ s es b).map V.int))
section
variable {HB HC H H':Hp}{s:Pg.PS}{d l1 l2:Addr}{es:List Pg.Ent}{e:Pg.Ent}{b:Bool}{n:Nat}
theorem fg.same (I:fg HB H s d l1 l2 es) (h:a8 H H'):fg HB H' s d l1 l2 es:=⟨I.sm.trans h,h _ _ I.hd,λb=>h _ _ (I.hl b)⟩
theorem fg.skip (I:fg HB H s d l1 l2 es) (h:AF s e=none):fg HB H s d l1 l2 (es++[e]):=⟨I.sm,I.hd,λb=>by rw[nY (λn=>by rw[h];exact λq=>by cases q)];exact I.hl b⟩
theorem fg.wr (I:fg HB H s d l1 l2 es) {r:Addr}{o:HO}(F:d≠r) (G:∀b,two l1 l2 b≠r):fg (upd HB r o) (upd H r o) s d l1 l2 es:=by
 refine⟨λb u e=>?_,by rw[ah F];exact I.hd,λb=>by rw[ah (G b)];exact I.hl b⟩;by_cases z:b=r
 .rw[z,ae]at e ⊢;exact e
 .rw[ah z]at e ⊢;exact I.sm b u e
theorem fg.back {r:Addr}{o u:HO}(I:fg (upd HB r o) H s d l1 l2 es) (G:HB r=some u) (F:d≠r) (J:∀b,two l1 l2 b≠r):fg HB (upd H r u) s d l1 l2 es:=by
 refine⟨λb w e=>?_,by rw[ah F];exact I.hd,λb=>by rw[ah (J b)];exact I.hl b⟩;by_cases z:b=r
 .rw[z,ae, <-G, <-z];exact e
 .rw[ah z];exact I.sm b w (by rw[ah z];exact e)
theorem Dn (n:l1≠l2) {b b':Bool}(h:b≠b'):two l1 l2 b≠two l1 l2 b':=by
 cases b<;>cases b'<;>first|exact absurd rfl h|exact n|exact Ne.symm n
theorem fg.bump (I:fg HB H s d l1 l2 es) (h:AF s e=some (b,n)) (f:∀b,HB (two l1 l2 b)=none) (J:l1≠l2):fg HB (upd H (two l1 l2 b) (.lst (((gJ s es b).map V.int).set n (.int (((jz s es b n:Nat):Int)+1))))) s d l1 l2 (es++[e]):=by
 have L:d≠two l1 l2 b:=λz=>by
  have h1:=I.hd;have h2:=I.hl b;rw[z,h2]at h1;have F:(gJ s es b).map V.int=[.ref l1,.ref l2]:=HO.lst.inj (Option.some.inj h1);cases G:gJ s es b with
  |nil=>rw[G]at F;cases F
  |cons x y=>rw[G]at F;cases F
 refine⟨λc u q=>?_,by rw[ah L];exact I.hd,λb'=>?_⟩
 .rw[ah (λz=>by rw[z,f b]at q;cases q)];exact I.sm c u q
 .by_cases c:b'=b
  .rw[c,ae,CJ h,map_set]
  .rw[ah (Dn J c),nY (λN q=>c (by rw[h]at q;cases q;rfl))];exact I.hl b'
end
inductive uk (c:CA) (vs:List V) (H:Hp) (Q:VK) (e3:XK):Prop
 |mk (M:Addr->Prop) (a:RA) (m:MA) (nf ns kk:Nat) (s:Pg.PS) (cv:Int->Int->List Int) (pk:Int) (W:dY) (Z:Zs) (_:vs=[.ref a.rp,.ref m.md,.int nf,.int ns]) (_:AB c H M a m nf ns kk s cv pk W Z) (_:∀H' d l1 l2,ER H H' s d l1 l2->Q (.ref d) H'):uk c vs H Q e3
section
variable {P:Program}{w:World}{K:Frag}{mg:Str->Option Value}{base:Heap}
theorem Dl:az ["self"] ["self"] (aq mT):=L2.bD
theorem tM {f C CS:Addr}{fd:FuncData}(F:cL K "counts" "Paging.counts" mT f fd) (T:mZ K mg C) (TS:Txt K mg CS):bf P w K mg base aU 1 f fd ["self"] (jW C CS):=by
 refine F.ok Dl (λvs H Q E h=>?_) (λab A outer s H vs Q E hr h=>?_)
 .obtain⟨M,A,s',rfl,_⟩:=h;rfl
 .obtain⟨M,J,s',rfl,G,k⟩:=h;obtain⟨dx,R⟩:=G.ob;obtain⟨Y,hf⟩:=G.fr.ob;refine⟨_,(aj (aE (cM (aa (bE cA (by rfl) T.list dt (aa (aJ (aJ (pv 0) rfl) rfl) ai)) (aa (bE cA (by rfl) T.list dt (aa (aJ (aJ (pv 0) rfl) rfl) ai)) ai))))),?_⟩;refine⟨_,rfl,J.pg,C,dx,_,_,rfl,R,T.cl,T.nF,lH _ _,J.fp,CS,Y,_,_,rfl,hf,TS.cl,TS.nO,dZ _ _,J.fo,_,rfl,.inl (bq.of G.fr.hw),λl1 U=>?_⟩;have I:=Tb.au (X:=.lst ((s'.ow true).map V.int)) U;obtain⟨d2,hg⟩:=G.sl.ob;refine⟨_,rfl,J.pg,C,dx,_,_,rfl,I _ _ R,T.cl,T.nS,sh _ _,J.sp,CS,d2,_,_,rfl,I _ _ hg,TS.cl,TS.nO,dZ _ _,J.so,_,rfl,.inl (bq.of (I _ _ G.sl.hw)),λl2 L=>?_⟩;have N:=Tb.au (X:=.lst ((s'.ow false).map V.int)) L;refine⟨by show 2<=sizeLine;decide,λp S=>?_⟩;have O:=Tb.au (X:=.tup [.ref l1,.ref l2]) S;exact k _ p l1 l2 ⟨I.trans (N.trans O),U,I.free L,I.free (N.free S),(λz=>by rw[z,ae]at L;cases L),O _ _ (N _ _ ae),O _ _ ae,ae⟩
theorem Ir:az ["self"] ["self"] (aq mV):=L2.bD
theorem uT {f:Addr}{fd:FuncData}{c:CA}(F:cL K "counts" "Rooms.counts" mV f fd) (T:qK K mg c) (TP:mZ K mg c.P) (I:Md P w K mg base aU 1 c.P "counts" (jW c.P c.S)) :
  bf P w K mg base aU 2 f fd ["self"] (jZ c):=by
 refine F.ok Ir (λvs H Q E h=>?_) (λN A outer s H vs Q E J h=>?_)
 .obtain⟨M,a,s',W,rfl,_⟩:=h;rfl
 .obtain⟨M,a,s',W,rfl,R,k⟩:=h;obtain⟨dx,L⟩:=R.ob;obtain⟨G,h2⟩:=R.pg.ob;refine⟨_,(aj (aE (sF (aJ (pv 0) rfl) TP.cl I J aw))),?_⟩;exact⟨_,rfl,a.rp,c.C,dx,_,_,rfl,L,T.cl,T.nP,kE _ _ _,a.A.pg,G,_,rfl,h2,cD _ _ ao ao ao ao ao,M,a.A,s',rfl,R.pg,k⟩
theorem Hh:az ["_law_found","_law_due_here"] ["_law_found","_law_due_here"] (aq mO):=L2.bD
theorem uj {f:Addr}{fd:FuncData}(F:cL K "_law_numbers" "_law_numbers" mO f fd) (T:kN mg) (N:Df P w K mg base aU 1 "_law_whole" qd) :
  bf P w K mg base aU 2 f fd ["_law_found","_law_due_here"] ku:=by
 refine F.ok Hh (λvs H Q E h=>?_) (λU A outer s H vs Q E L h=>?_)
 .obtain⟨p,q,xs,rfl,_⟩:=h;rfl
 .obtain⟨p,q,xs,rfl,G,R,J,k⟩:=h;have hs:sizeLine=16777216:=sizeLine_eq;refine⟨_,(ag (aS (PW.pt (gj (ve (fQ (aN dn (by rfl) T.yH bO (aa (pv 0) (aa (d0 (v:=.ty "list") (by rfl) T.list dt rfl) ai))))) (eY (aC (Eo L.gn) (pv 0) (pv 1) (aH _))))) (aj (aE lJ)) aF)
   (aj (aE (aN (ke rfl) (by rfl) T.all u0 (aa (gp (cl:=[]) (caps:=[]) ⟨rfl,ao,ao,rfl,by kernel_rfl,by intro p G;simp at G,by kernel_rfl,by intro p G;simp at G,ao⟩ rfl (fA (pv 0)) (λ_ _ _ _=>fm) (λ_ _ _ _=>(pc N L aw (aa (pv 0) ai)))) ai))))),?_⟩
  refine⟨_,rfl,.ref p,"list",_,true,rfl,.lst G,Ef _,true,rfl,bw ?_⟩;refine⟨_,rfl,_,rfl,p,q,_,_,rfl,rfl,bq.of G,bq.of R,eO _,eO _,_,rfl,?_⟩;rw[oo,decide_eq_true rfl];refine bw ?_;refine⟨_,rfl,p,rfl,⟨_,bq.of G⟩,?_⟩;refine tF (K:=K) (a:=p) (xs:=xs.map V.int) (λi ys H2=>i<=xs.length/\ys=(replicate i true).map V.bl/\H2=H) ⟨zero_le _,rfl,rfl⟩ (λi ys H2 _ z=>by rw[z.2.2];exact bq.of G) ?_ ?_
  .rintro i x ys H2 I ⟨hi,rfl,rfl⟩;rw[getElem?_map]at I;obtain⟨n,O,rfl⟩:=Option.map_eq_some_iff.mp I;refine⟨_,rfl,n,rfl,?_,(List.getElem?_eq_some_iff.mp O).1,?_,rfl⟩
   .rw[length_map,length_replicate];omega
   .rw[List.replicate_succ',map_append];rfl
  .rintro ys H2 ⟨_,rfl,rfl⟩ l J;refine⟨l,_,rfl,bq.of ae,?_⟩;rw[show(replicate (List.map V.int xs).length true).all id=true from List.all_eq_true.mpr λb S=>(List.mem_replicate.mp S).2];exact k _ (Tb.au J)
theorem xJ:az ["_law_kept","_law_model_here","_law_frames","_law_slots","_law_due_here","_law_task","_law_room","_law_page","_law_found"] ["_law_kept","_law_model_here","_law_frames","_law_slots"] (aq vF):=L2.bD
theorem BK {f:Addr}{fd:FuncData}{c:CA}(F:cL K "_law_due_counts" "_law_due_counts" vF f fd) (T:kN mg) (TR:qK K mg c) (MK:GB P w K mg base c) :
  bf P w K mg base aU 5 f fd ["_law_kept","_law_model_here","_law_frames","_law_slots"] (uk c):=by
 refine F.ok xJ (λvs H Q E h=>?_) (λb4 A outer s H vs Q E hr h=>?_)
 .obtain⟨M,a,m,nf,ns,kk,s',cv,pk,W,Z,rfl,_⟩:=h;rfl
 .obtain⟨M,a,m,nf,ns,kk,s',cv,pk,W,Z,rfl,S,k⟩:=h;have hs:sizeLine=16777216:=sizeLine_eq;have b2:=S.R.pg.le true;have bI:=S.R.pg.le false;rw[S.lf]at b2;rw[S.ls]at bI;have b0:(aq vF).names.lookup ("int" : Str)=some NameKind.globalImplicit:=ao;refine⟨_,(ag (aK (i:=4) xJ.nd rfl (Or.inl rfl) (bX (aa (ay iQ (bX (aa ak ai)) (pv 2)) (aa (ay iQ (bX (aa ak ai)) (pv 3)) ai))))
   (ag (k9 (cO PassesOwn.never rfl (qT (bA (bj hr) (pv 1) aI (λ_ _=>rfl))) (dw rfl (a9 (aX (i:=5) xJ.nd rfl (Or.inl rfl)) (a9 (aX (i:=6) xJ.nd rfl (Or.inl rfl)) cI))) (aj (k9 (cO PassesOwn.never rfl (pj (pv 6)) (aX (i:=7) xJ.nd rfl (Or.inl rfl)) (ag (aK (i:=8) xJ.nd rfl (Or.inl rfl) (pm (pv 0) TR.cl MK.Bk hr aw (aa (pv 5) (aa (pv 7) ai))))
   (aj (aS (aC (oP hr.gn) (pv 8) (cM (aa aI ai)) (aH _)) (aj (pY (aZ ck (pv 4) (bE dW b0 T.int gS (aa (kW bW (aZ bh (pv 8) ak (λ_ _=>rfl)) aI (aH _)) ai)) (λ_ _=>rfl)) (aZ bh (pv 8) ak (λ_ _=>rfl)) my ak Ae set_list)) aF))))))))
   (aj (aE (pv 4))))),?_⟩
  have bi:M m.lr/\¬ a.own W m.lr:=S.sp _ (.inr (.inl rfl));have hn:∀(G:Obj) u',H m.lr≠some (.frz G u'):=λG u' w=>(by rw[S.D.hr]at w;cases w);refine fN λ_ jt=>?_;refine⟨av,λa1 bd=>⟨_,rfl,a1,_,_,rfl,rfl,ae,af,af,by rw[length_singleton];omega,λl1 a5=>⟨av,λa2 a0=>⟨_,rfl,a2,_,_,rfl,rfl,ae,af,af,by rw[length_singleton];omega,λl2 ab=>⟨by show 2<=sizeLine;decide,λd hd=>jt _ _ ?_⟩⟩⟩⟩⟩;clear jt;have er:∀n:Nat,(replicate ((n:Nat):Int).toNat [V.int 0]).flatten=(replicate n (0:Int)).map V.int:=λn=>(by rw[toNat_natCast,rep1,List.map_replicate]);rw[er nf]at ab hd a0 ⊢;rw[er ns]at hd ⊢;have q1:=Tb.au (X:=.lst [V.int 0]) bd;have q2:=Tb.au (X:=.lst ((replicate nf (0:Int)).map V.int)) a5;have q3:=Tb.au (X:=.lst [V.int 0]) a0;have q4:=Tb.au (X:=.lst ((replicate ns (0:Int)).map V.int)) ab;have q5:=Tb.au (X:=.lst [.ref l1,.ref l2]) hd;have f1:H l1=none:=q1.free a5;have f2:H l2=none:=q1.free (q2.free (q3.free ab));have as:H d=none:=q1.free (q2.free (q3.free (q4.free hd)));have bc:l1≠l2:=λz=>by
   have:=q3 _ _ (ae (H:=upd H a1 (.lst [V.int 0])) (a:=l1) (o:=.lst ((replicate nf (0:Int)).map V.int)));rw[<-z,this]at ab;cases ab
  have sm:a8 H _:=q1.trans (q2.trans (q3.trans (q4.trans q5)));have g1:=q5 _ _ (q4 _ _ (q3 _ _ (ae (H:=upd H a1 (.lst [V.int 0])) (a:=l1) (o:=.lst ((replicate nf (0:Int)).map V.int)))));have g2:=q5 _ _ (ae (H:=upd (upd (upd H a1 (.lst [V.int 0])) l1 (.lst ((replicate nf (0:Int)).map V.int))) a2 (.lst [V.int 0])) (a:=l2) (o:=.lst ((replicate ns (0:Int)).map V.int)));have g3:upd (upd (upd (upd (upd H a1 (.lst [V.int 0])) l1 (.lst ((replicate nf (0:Int)).map V.int))) a2 (.lst [V.int 0])) l2 (.lst ((replicate ns (0:Int)).map V.int))) d (.lst [.ref l1,.ref l2]) d=some (.lst [.ref l1,.ref l2]):=ae;clear q1 q2 q3 q4 q5 a5 ab hd bd a0;generalize upd (upd (upd (upd (upd H a1 (.lst [V.int 0])) l1 (.lst ((replicate nf (0:Int)).map V.int))) a2 (.lst [V.int 0])) l2 (.lst ((replicate ns (0:Int)).map V.int))) d (.lst [.ref l1,.ref l2])=H5 at *;have ft:∀b,H (two l1 l2 b)=none:=λb=>(by cases b;exact f2;exact f1);have I5:fg H H5 s' d l1 l2 []:=⟨sm,g3,λb=>by
   rw[cnt_nil];cases b
   .rw[S.ls];exact g2
   .rw[S.lf];exact g1⟩
  clear g1 g2 g3;have D5:=S.D.same sm;refine⟨_,rfl,m.md,.ref m.lr,rfl,D5.g (Aw _ _ _ _),m.lr,_,rfl,D5.hr,hn,λG=>?_⟩;have oF:Off (· = m.lr) H (upd H m.lr (.frz G (.dK (Tb.dk fE Z)))):=Off.wr rfl;have hF:upd H m.lr (.frz G (.dK (Tb.dk fE Z))) m.lr=some (.frz G (.dK (Tb.dk fE Z))):=ae;have RF:ax c (upd H m.lr (.frz G (.dK (Tb.dk fE Z)))) M a s' W:=S.R.BM (B:=(· = m.lr)) oF (λb z=>by rw[z];exact bi) (λb z=>.inr ⟨_,(congrArg H z).trans S.D.hr⟩) (λb z=>.inl z) (λb z _=>z) (λb z e=>by
   by_cases q:b=m.lr
   .rw[q,hF]at e;cases e
   .rw[ah q]at e;exact S.R.mt b z e)
  have ad:∀x∈Z,upd H m.lr (.frz G (.dK (Tb.dk fE Z))) x.2.ra=some (.dK (Tb.dk eF x.2.pl)):=λx hx=>oF _ _ (S.D.rm x hx) (S.D.d3 x hx).2.1;have be:∀b,upd H m.lr (.frz G (.dK (Tb.dk fE Z))) (two l1 l2 b)=none:=λb=>by
   rw[ah (λz=>by have:=ft b;rw[z,S.D.hr]at this;cases this)];exact ft b
  have aT:d≠m.lr:=λz=>(by rw[z,S.D.hr]at as;cases as);have a6:∀b,two l1 l2 b≠m.lr:=λb z=>(by have:=ft b;rw[z,S.D.hr]at this;cases this);have IF:=I5.wr (r:=m.lr) (o:=.frz G (.dK (Tb.dk fE Z))) aT a6;have back:∀{H9 es},fg (upd H m.lr (.frz G (.dK (Tb.dk fE Z)))) H9 s' d l1 l2 es->fg H (upd H9 m.lr (.dK (Tb.dk fE Z))) s' d l1 l2 es:=λI=>I.back S.D.hr aT a6;generalize bl:upd H m.lr (.frz G (.dK (Tb.dk fE Z)))=J at *;refine nH (a:=m.lr) (o:=G) (kvs:=Tb.dk fE Z) (λj σ H2=>∃(v5 v6 v7 v8:Option V),σ=[some (.ref a.rp),some (.ref m.md),some (.int nf),some (.int ns),some (.ref d),v5,v6,v7,v8]/\fg J H2 s' d l1 l2 (lZ W (Z.take j))) ⟨_,_,_,_,rfl,IF⟩ (λj σ H2 _ z0=>by obtain⟨_,_,_,_,_,Y⟩:=z0;exact Y.sm _ _ hF) ?_ ?_
  .rintro j b1 v σ H2 T' hk bz ⟨v5,v6,v7,v8,rfl,Y⟩;have am:(Z.map λx:Int×MT=>((Sum.inl x.1:Key),fE x.2))[j]?=some (b1,v):=hk;rw[getElem?_map]at am;obtain⟨x,hx,e⟩:=Option.map_eq_some_iff.mp am;cases e;have N:=mem_of_getElem? hx;have ez:Tb.look Z x.1=some x.2:=Tb.bN S.D.nd N;obtain⟨xx,a3⟩:=S.tw.get ez;have bn:=S.tw.vt a3 ez;refine⟨T',[.int x.1,.ref x.2.ra],rfl,bR.of ae,rfl,_,_,rfl,_,_,rfl,rfl,?_⟩;have I3:=Y.same (Tb.au (X:=.tup [kV (Sum.inl x.1),fE x.2]) bz);generalize upd H2 T' (.tup [kV (Sum.inl x.1),fE x.2])=H3 at *;have et:lZ W (Z.take (j+1))=lZ W (Z.take j)++tW W x:=by
    unfold lZ;rw[take_succ,hx];show List.flatMap _ (_++[x])=_;rw[flatMap_append,List.flatMap_singleton]
   have ba:∀(G:Obj) u',H x.2.ra≠some (.frz G u'):=λG u' w=>(by rw[S.D.rm x N]at w;cases w);have bY:M x.2.ra/\¬ a.own W x.2.ra:=S.sp _ (.inr (.inr (.inr ⟨x,N,.inl rfl⟩)));refine⟨_,rfl,x.2.ra,_,rfl,I3.sm _ _ (ad x N),ba,λL=>?_⟩;have bb:J d=none:=(by rw[<-bl,ah aT];exact as);have a7:d≠x.2.ra:=λz=>(by rw[z,ad x N]at bb;cases bb);have a4:∀b,two l1 l2 b≠x.2.ra:=λb z=>(by have:=be b;rw[z,ad x N]at this;cases this);have oG:Off (· = x.2.ra) J (upd J x.2.ra (.frz L (.dK (Tb.dk eF x.2.pl)))):=Off.wr rfl;have hG:upd J x.2.ra (.frz L (.dK (Tb.dk eF x.2.pl))) x.2.ra=some (.frz L (.dK (Tb.dk eF x.2.pl))):=ae;have RG:ax c (upd J x.2.ra (.frz L (.dK (Tb.dk eF x.2.pl)))) M a s' W:=RF.BM (B:=(· = x.2.ra)) oG (λb z=>by rw[z];exact bY) (λb z=>.inr ⟨_,(congrArg J z).trans (ad x N)⟩) (λb z=>.inl z) (λb z _=>z) (λb z e=>by
    by_cases q:b=x.2.ra
    .rw[q,hG]at e;cases e
    .rw[ah q]at e;exact RF.mt b z e)
   have bv:∀b,upd J x.2.ra (.frz L (.dK (Tb.dk eF x.2.pl))) (two l1 l2 b)=none:=λb=>(by rw[ah (a4 b)];exact be b);have IG:=I3.wr (r:=x.2.ra) (o:=.frz L (.dK (Tb.dk eF x.2.pl))) a7 a4;have bx:∀{H9 es},fg (upd J x.2.ra (.frz L (.dK (Tb.dk eF x.2.pl)))) H9 s' d l1 l2 es->fg J (upd H9 x.2.ra (.dK (Tb.dk eF x.2.pl))) s' d l1 l2 es:=λI=>I.back (ad x N) a7 a4;generalize b5:upd J x.2.ra (.frz L (.dK (Tb.dk eF x.2.pl)))=HG at *;refine sN (a:=x.2.ra) (o:=L) (kvs:=Tb.dk eF x.2.pl) (λq σ H4=>∃(v7 v8:Option V),σ=[some (.ref a.rp),some (.ref m.md),some (.int nf),some (.int ns),some (.ref d),some (.int x.1),some (.ref x.2.ra),v7,v8]/\fg HG H4 s' d l1 l2 (lZ W (Z.take j)++(tW W x).take q)) ⟨_,_,rfl,by rw[take_zero,append_nil];exact IG⟩ (λq σ H4 _ z0=>by obtain⟨_,_,_,O⟩:=z0;exact O.sm _ _ hG) ?_ ?_
   .rintro q kk v σ H4 hk ⟨bm,bG,rfl,O⟩;have am:(x.2.pl.map λy:Int×Addr×Int=>((Sum.inl y.1:Key),eF y.2))[q]?=some (kk,v):=hk;rw[getElem?_map]at am;obtain⟨y,hy,e⟩:=Option.map_eq_some_iff.mp am;cases e;have b3:=mem_of_getElem? hy;have ey:Tb.look x.2.pl y.1=some y.2:=Tb.bN (S.D.np x N) b3;have R4:=RG.same O.sm;obtain⟨dx,ho⟩:=R4.ob;obtain⟨U,he⟩:∃U,Tb.look xx.t y.1=some U:=by
     cases e:Tb.look xx.t y.1 with
     |some U=>exact⟨U,rfl⟩
     |none=>rw[(bn y.1).mp e]at ey;cases ey
    have ee:kK W x.1 y.1=U:=by
     unfold kK;rw[a3];show(Tb.look xx.t y.1).getD none=U;rw[he];rfl
    have ep:lZ W (Z.take j)++(tW W x).take (q+1)=(lZ W (Z.take j)++(tW W x).take q)++[U]:=by
     rw[take_succ,append_assoc];unfold tW;rw[getElem?_map,hy];show _++(_++[kK W x.1 y.1])=_;rw[ee]
    refine fN λ_ jt=>?_;refine⟨_,rfl,a.rp,dx,_,rfl,ho,gi _ _ _ ao ao ao,_,rfl,_,rfl,M,a,s',W,x.1,y.1,xx,rfl,R4,S.ri,a3,λH5 v s5 ac=>jt _ _ ?_⟩;clear jt;rw[he]at ac;have I5:=O.same s5;rw[ep];generalize lZ W (Z.take j)++(tW W x).take q=es at *;cases U with
    |none =>
     obtain⟨tt,rfl,ap⟩:=ac;refine⟨_,rfl,by show 1<=sizeLine;decide,λtb aB=>?_⟩;have sb:=Tb.au (X:=.tup [.str "blank"]) aB;refine⟨tt,tb,_,_,rfl,rfl,bR.of (sb _ _ ap),bR.of ae,rfl,rfl,_,rfl,?_⟩;refine bw ?_;exact⟨_,_,rfl,(I5.same sb).skip rfl⟩
    |some kx =>
     obtain⟨tt,b,n,rfl,ac,ap⟩:=ac;refine⟨_,rfl,by show 1<=sizeLine;decide,λtb aB=>?_⟩;have sb:=Tb.au (X:=.tup [.str "blank"]) aB;refine⟨tt,tb,_,_,rfl,rfl,bR.of (sb _ _ ap),bR.of ae,rfl,rfl,_,rfl,?_⟩;rw[show gw (jF b n) [V.str "blank"]=false from Bool.and_false _];refine dG ?_;have J5:=I5.same sb;have h5:=sb _ _ ap;clear aB ap I5 O R4;generalize upd H5 tb (.tup [.str "blank"])=H6 at *;have hp:AF s' (some kx)=some (b,n):=ac;obtain⟨_,_,_,g2,_,_⟩:=S.ri.good.va _ _ _ ac;have g3:=(List.getElem?_eq_some_iff.mp g2).1;have eb:x9 [V.ref l1,V.ref l2] (if decide (V.str (if b=true then "frame" else "slot")=V.str "slot")=true then 1 else 0)=some (.ref (two l1 l2 b)):=by
      cases b
      .rw[if_pos ao];rfl
      .rw[if_neg ao];rfl
     have ng:((gJ s' es b).map V.int)[n]?=some (.int (jz s' es b n:Nat)):=(by rw[getElem?_map,cX,if_pos g3];rfl);refine⟨_,rfl,_,rfl,tt,_,0,_,rfl,rfl,bR.of h5,rfl,rfl,.inr ⟨_,rfl,d,_,_,_,rfl,rfl,bq.of J5.hd,eb,?_⟩⟩;refine⟨_,rfl,tt,_,1,.int n,rfl,rfl,bR.of h5,rfl,two l1 l2 b,_,n,.int (jz s' es b n:Nat),rfl,rfl,bq.of (J5.hl b),ij ng,_,_,rfl,rfl,two l1 l2 b,_,n,n,rfl,rfl,J5.hl b,?_,_,_,rfl,J5.bump hp bv bc⟩;unfold rT;rw[length_map,vW,if_pos af,if_pos af];simp
   .rintro σ H4 ⟨bm,bG,rfl,O⟩;refine⟨x.2.ra,L,_,O.sm _ _ hG,ba,_,_,_,_,rfl,?_⟩;rw[et];have:=bx O
    rwa [Tb.cm,take_of_length_le (l:=tW W x) (by unfold tW;rw[length_map];exact le_refl _)]at this
  .rintro σ H2 ⟨v5,v6,v7,v8,rfl,Y⟩;refine⟨m.lr,G,_,Y.sm _ _ hF,hn,?_⟩;rw[Tb.cm,take_of_length_le (le_refl _)]at Y;have I9:=back Y;refine⟨_,rfl,k _ d l1 l2 ⟨I9.sm,f1,f2,as,bc,?_,?_,I9.hd⟩⟩
   .have:=I9.hl true
    rwa [qX (oq S.tw S.R S.D),ym S.ri]at this
   .have:=I9.hl false
    rwa [qX (oq S.tw S.R S.D),ym S.ri]at this
end
abbrev gk:Stmt:=top 50
inductive rh (K:Frag) (vs:List V) (H:Hp) (Q:VK) (e3:XK):Prop
 |mk (a:Addr) (ns:List Int) (_:vs=[.ref a]) (_:bq K H a (ns.map V.int)) (_:ns.length<=63) (_:∀H',Q (.bl true) H'):rh K vs H Q e3
theorem j8 {K:Frag}{H:Hp}:∀xs:List Int,Paired (rA K H 0) (xs.map V.int) (xs.map V.int)
 | []=>.nil
 |x::xs=>.cons ⟨rfl,rfl⟩ (j8 xs)
structure ZI (H0 H:Hp) (s:Pg.PS) (p k1 k2 dl l1 l2:Addr) (i:Nat):Prop where
 sm:a8 H0 H
 hp:H p=some (.tup [.ref k1,.ref k2])
 hd:H dl=some (.lst [.ref l1,.ref l2])
 hl:∀b,H (two l1 l2 b)=some (.lst ((s.ow b).map V.int))
 h1:i=0->H k1=some (.lst ((s.ow true).map V.int))
 h2:i<=1->H k2=some (.lst ((s.ow false).map V.int))
section
variable {H0 H1 H H':Hp}{s:Pg.PS}{p k1 k2 dl l1 l2:Addr}{i j:Nat}{b:Bool}{o:HO}
theorem ZI.IZ (C:ER H0 H1 s dl l1 l2) (D:Dz H1 H s p k1 k2):ZI H0 H s p k1 k2 dl l1 l2 0 :=
 ⟨C.sm.trans D.sm,D.hp,D.sm _ _ C.hd,λb=>by cases b;exact D.sm _ _ C.h2;exact D.sm _ _ C.h1,λ_=>D.h1,λ_=>D.h2⟩
theorem ZI.same (I:ZI H0 H s p k1 k2 dl l1 l2 i) (h:a8 H H'):ZI H0 H' s p k1 k2 dl l1 l2 i :=
 ⟨I.sm.trans h,h _ _ I.hp,h _ _ I.hd,λb=>h _ _ (I.hl b),λe=>h _ _ (I.h1 e),λe=>h _ _ (I.h2 e)⟩
theorem ZI.wr (I:ZI H0 H s p k1 k2 dl l1 l2 i) (f:H0 (two k1 k2 b)=none) (np:p≠two k1 k2 b) (G:dl≠two k1 k2 b) (J:∀b',two l1 l2 b'≠two k1 k2 b) (n:k1≠k2) (L:i<=j) (F:j≠0) (N:j<=1->b=true):ZI H0 (upd H (two k1 k2 b) o) s p k1 k2 dl l1 l2 j:=by
 refine⟨λc u e=>?_,by rw[ah np];exact I.hp,by rw[ah G];exact I.hd,λb'=>by rw[ah (J b')];exact I.hl b',λe=>absurd e F,λe=>?_⟩
 .rw[ah (λz=>by rw[z,f]at e;cases e)];exact I.sm c u e
 .rw[N e,show two k1 k2 true=k1 from rfl,ah (Ne.symm n)];exact I.h2 (le_trans L e)
end
section
variable {P:Program}{w:World}{K:Frag}{mg:Str->Option Value}{base:Heap}
theorem fC:az ["_law_script","_law_m","_law_frames","_law_slots","_law_kept","_law_model_here","_law_low","_law_tasks","_law_k","_law_deed","_law_due_here","_law_found","_law_one","_law_other"] ["_law_script"] (aq gk):=L2.bD
theorem Eb {f:Addr}{fd:FuncData}{c:CA}(F:cL K "law" "law" gk f fd) (T:kN mg) (TR:qK K mg c) (c8:Df P w K mg base aU 2 "_law_number" (mH K)) (fu:Df P w K mg base aU 1 "_law_sizes" kR) (e3:Df P w K mg base aU 7 "_law_begun" (qe c)) (e5:Df P w K mg base aU 2 "_law_busy" tu) (ep:Df P w K mg base aU 2 "_law_due" zg) (d2:Df P w K mg base aU 1 "_law_done" qB) (e7:Df P w K mg base aU 11 "_law_called" (lY c)) (en:Df P w K mg base aU 5 "_law_due_counts" (uk c)) (d1:Df P w K mg base aU 2 "_law_numbers" ku) (d5:Df P w K mg base aU 1 "_law_held" jy) (dp:Md P w K mg base aU 2 c.C "counts" (jZ c)) (fx:Md P w K mg base aU 2 c.C "held" (jJ c)) :
  bf P w K mg base aU 12 f fd ["_law_script"] (rh K):=by
 refine F.ok fC (λvs H Q E h=>?_) (λf4 A outer s H vs Q E U h=>?_)
 .obtain⟨a,ns,rfl,_⟩:=h;rfl
 .obtain⟨sc,ns,rfl,bY,fI,k⟩:=h;have hs:sizeLine=16777216:=sizeLine_eq;have cP:(aq gk).names.lookup ("_law_number" : Str)=some NameKind.globalImplicit:=ao;have et:(aq gk).names.lookup ("_law_sizes" : Str)=some NameKind.globalImplicit:=ao;have ee:(aq gk).names.lookup ("_law_begun" : Str)=some NameKind.globalImplicit:=ao;have eP:(aq gk).names.lookup ("range" : Str)=some NameKind.globalImplicit:=ao;have eb:(aq gk).names.lookup ("max" : Str)=some NameKind.globalImplicit:=ao;have c0:(aq gk).names.lookup ("len" : Str)=some NameKind.globalImplicit:=ao;have dV:(aq gk).names.lookup ("_law_busy" : Str)=some NameKind.globalImplicit:=ao;have ev:(aq gk).names.lookup ("_law_due" : Str)=some NameKind.globalImplicit:=ao;have e1:(aq gk).names.lookup ("_law_done" : Str)=some NameKind.globalImplicit:=ao;have eC:(aq gk).names.lookup ("_law_called" : Str)=some NameKind.globalImplicit:=ao;have fn:(aq gk).names.lookup ("_law_due_counts" : Str)=some NameKind.globalImplicit:=ao;have ek:(aq gk).names.lookup ("isinstance" : Str)=some NameKind.globalImplicit:=ao;have eA:(aq gk).names.lookup ("tuple" : Str)=some NameKind.globalImplicit:=ao;have d6:(aq gk).names.lookup ("_law_numbers" : Str)=some NameKind.globalImplicit:=ao;have dT:(aq gk).names.lookup ("_law_held" : Str)=some NameKind.globalImplicit:=ao;have eH:(aq gk).names.lookup ("list" : Str)=some NameKind.globalImplicit:=ao;refine⟨_,(ag (aK (i:=1) fC.nd rfl (Or.inl rfl) (pc (hg:=cP) c8 U aw (aa (pv 0) (aa ak ai))))
   (ag (cG (pc (hg:=et) fu U aw (aa (pv 1) ai)) (dw rfl (a9 (aX (i:=2) fC.nd rfl (Or.inl rfl)) (a9 (aX (i:=3) fC.nd rfl (Or.inl rfl)) cI))))
   (ag (cG (pc (hg:=ee) e3 U aw (aa (pv 1) ai)) (dw rfl (a9 (aX (i:=4) fC.nd rfl (Or.inl rfl)) (a9 (aX (i:=5) fC.nd rfl (Or.inl rfl)) cI))))
   (ag (aK (i:=6) fC.nd rfl (Or.inl rfl) (aZ ck (bX (aa ak (aa (ay pI (E3 Eg ak) (ay bH (ay bJ (pv 1) ak) (ay uE ak ak))) ai))) (ay bH (ay bJ (pv 1) ak) ak) (λ_ _=>rfl)))
   (ag (aK (i:=7) fC.nd rfl (Or.inl rfl) (bX (aa ak (aa ak (aa (ay bu (ay bH (ay bJ (pv 1) ak) (ay uE ak ak)) ak) (aa (pv 6) (aa ak ai)))))))
   (ag (cO PassesOwn.never rfl (eR eP T.range (aa ak (aa (aN (nG rfl) eb T.max yI (aa ak (aa (aN bF c0 T.len boot_len (aa (dg gq (pv 0) fq (cV ak)) ai)) ai))) ai))) (aX (i:=8) fC.nd rfl (Or.inl rfl)) (ag (aK (i:=9) fC.nd rfl (Or.inl rfl) (pc (hg:=dV) e5 U aw (aa (pc (hg:=cP) c8 U aw (aa (pv 0) (aa (pv 8) ai))) (aa (pv 5) (aa (pv 7) ai)))))
   (ag (aS (aC bW (pc (hg:=ev) ep U aw (aa (pv 5) (aa (pv 9) ai))) aI (aH _)) (ag (aL (pc (hg:=e1) d2 U aw (aa (pv 5) (aa (pv 9) ai))))
   (aj (aL (pc (hg:=eC) e7 U aw (aa (pv 4) (aa (pv 9) ai)))))) aF)
   (ag (aK (i:=10) fC.nd rfl (Or.inl rfl) (pc (hg:=fn) en U aw (aa (pv 4) (aa (pv 5) (aa (pv 2) (aa (pv 3) ai))))))
   (ag (aK (i:=11) fC.nd rfl (Or.inl rfl) (sF (pv 4) TR.cl dp U aw))
   (ag (aS (PW.pt (gj (ve (fQ (aN dn ek T.yH bO (aa (pv 11) (aa (d0 (v:=.ty "tuple") eA T.tuple jD rfl) ai))))) (eY (aC yW (aN bF c0 T.len boot_len (aa (pv 11) ai)) ak (aH _))))) (aj (aE lJ)) aF)
   (ag (cO PassesOwn.never rfl (Be (by rfl) TR.zip (aa (pv 11) (aa (pv 10) ai))) (dw rfl (a9 (aX (i:=12) fC.nd rfl (Or.inl rfl)) (a9 (aX (i:=13) fC.nd rfl (Or.inl rfl)) cI))) (ag (aS (ve (fQ (pc (hg:=d6) d1 U aw (aa (pv 12) (aa (pv 13) ai))))) (aj (aE lJ)) aF)
   (ag (aL (gI plainAttrs_list PySem.F.slot_list_append PySem.F.type_list_append iC (pv 12) (aa ak ai)))
   (aj (cG (ay bu (aZ ck (pv 12) ak (λ_ _=>rfl)) ak) (dS (pv 12) ak set_list))))))
   (aj (aS (PW.pt (gj (aC yW (sF (pv 4) TR.cl fx U aw) (pc (hg:=dT) d5 U aw (aa (pv 5) ai)) (aH _)) (eY (aC (De 1 (Nat.lt_of_le_of_lt (Nat.add_le_add_left (by decide:2<=64) _) U.units)) (bE cA eH T.list dt (aa (sF (pv 4) TR.cl dp U aw) ai)) (pv 10) (aH _))))) (aj (aE lJ)) aF)))))))))
   (aj (aE lJ)))))))),?_⟩
  refine fN λ_ O=>?_;refine⟨_,rfl,sc,ns,0,rfl,bY,af,af,λG H1 s1=>O _ _ ?_⟩;clear O;refine⟨_,rfl,G,rfl,λH2 t2 s2 _ h2=>⟨t2,_,rfl,bR.of h2,rfl,_,_,rfl,_,_,rfl,rfl,?_⟩⟩;refine⟨_,rfl,G,rfl,λH3 t3 M a m J cv pk W Z s3 S3 c2 h3=>⟨t3,_,rfl,bR.of h3,rfl,_,_,rfl,_,_,rfl,rfl,?_⟩⟩;have fr:∀b,M b->H b=none:=λb z=>s1.free (s2.free (c2 b z));have cC:=s1.trans (s2.trans s3);clear c2 h3 h2 s1 s2 s3;dsimp only;refine fN λ_ O=>?_;have w0:=emod_nonneg (G/20000) (show(2:Int)≠0 by decide);have w1:=emod_lt_of_pos (G/20000) (show(0:Int)<2 by decide);obtain⟨b1,_⟩:=at_of (xs:=[0, -1-G/20000%10^toNat 59]) (i:=G/20000%2) (n:=2) w0 w1 rfl;generalize f0:([0, -1-G/20000%10^toNat 59]:List Int).getD (G/20000%2).toNat 0=lo at b1;refine⟨_,rfl,_,rfl,_,_,rfl,rfl,⟨av,av⟩,_,_,rfl,rfl,⟨av,av,av⟩,_,_,rfl,rfl,(by show(0:Int)<10^toNat 59;decide),_,_,rfl,rfl,by show 2<=sizeLine;decide,λl0 c3=>⟨_,rfl,_,_,rfl,rfl,⟨av,av⟩,_,_,rfl,rfl,(by show(0:Int)<2;decide),l0,_,_,.int lo,rfl,rfl,bq.of ae,b1,O _ _ ?_⟩⟩;clear O;have s4:=Tb.au (X:=.lst ([0, -1-G/20000%10^toNat 59].map V.int)) c3;refine fN λ_ O=>?_;refine⟨_,rfl,_,_,rfl,rfl,⟨av,av⟩,_,_,rfl,rfl,⟨av,av,av⟩,_,_,rfl,rfl,(by show(0:Int)<10^toNat 59;decide),_,_,rfl,rfl,_,rfl,by show 5<=sizeLine;decide,λtl b0=>O _ _ ?_⟩;clear O;have s5:=Tb.au (X:=.lst ([1,2,G/20000%10^toNat 59+3,lo,12].map V.int)) b0;generalize dj:([1,2,G/20000%10^toNat 59+3,lo,12]:List Int)=ts at s5;have l5:ts.length=5:=(by rw[<-dj];rfl);have S5:AB c (upd (upd H3 l0 (.lst ([0, -1-G/20000%10^toNat 59].map V.int))) tl (.lst (ts.map V.int))) M a m (kO G) (mP G) 1 J cv pk W Z:=S3.same (s4.trans s5);have dI:upd (upd H3 l0 (.lst ([0, -1-G/20000%10^toNat 59].map V.int))) tl (.lst (ts.map V.int)) tl=some (.lst (ts.map V.int)):=ae;have b5:a8 H (upd (upd H3 l0 (.lst ([0, -1-G/20000%10^toNat 59].map V.int))) tl (.lst (ts.map V.int))):=cC.trans (s4.trans s5);have dd:¬ M tl:=λz=>S3.R.mt tl z (s4.free b0);subst dj;show ml _ _ _ _ (upd (upd H3 l0 (.lst ([0, -1-G/20000%10^toNat 59].map V.int))) tl (.lst ([1,2,G/20000%10^toNat 59+3,lo,12].map V.int)));clear s4 s5;generalize ([1,2,G/20000%10^toNat 59+3,lo,12]:List Int)=ts at *;clear c3 b0 S3 cC;generalize upd (upd H3 l0 (.lst ([0, -1-G/20000%10^toNat 59].map V.int))) tl (.lst (ts.map V.int))=H5 at *;have c4:=Rm.ed bY (b5 _);have ec:eV (ns.map V.int) none (some (63:Int))=(ns.take 63).map V.int:=Rm.tK (s:=63);refine⟨_,rfl,_,rfl,sc,_,rfl,c4,λp6 dM=>?_⟩;have s6:=Tb.au (X:=.lst (eV (ns.map V.int) none (some (63:Int)))) dM;refine⟨p6,_,rfl,.inl (bq.of ae),_,_,rfl,?_⟩;rw[ec]at s6 ⊢;rw[length_map,length_take];generalize eN:(if ((min 63 ns.length:Nat):Int)>6 then((min 63 ns.length:Nat):Int)else 6)=N;have hN:6<=N/\N<=63:=(by rw[<-eN];split<;>omega);refine⟨_,_,rfl,⟨av,av,af,af⟩,?_⟩;refine ig (lo:=1) (n:=(N-1).toNat) (λi σ H7=>∃(v8 v9 b9 b7 bd a4:Option V) (M:Addr->Prop) (J:Pg.PS) (cv:Int->Int->List Int) (pk:Int) (W:dY) (Z:Zs),σ=[some (.ref sc),some (.int G),some (.int (kO G)),some (.int (mP G)),some (.ref a.rp),some (.ref m.md),some (.int lo),some (.ref tl),v8,v9,b9,b7,bd,a4]/\AB c H7 M a m (kO G) (mP G) (i+1) J cv pk W Z/\a8 H H7/\(∀b,M b->H b=none)/\H7 tl=some (.lst (ts.map V.int))/\¬ M tl)
   ⟨_,_,_,_,_,_,M,J,cv,pk,W,Z,rfl,S5.same s6,b5.trans s6,fr,s6 _ _ dI,dd⟩ ?_ (λσ H7 _=>k H7)
  clear dM s6 dI dd fr S5 b5 c4 ec M J cv pk W Z;rintro i σ H7 hi ⟨v8,v9,b9,b7,bd,a4,M,J,cv,pk,W,Z,rfl,S7,ce,bc,dL,ba⟩;refine fN λ_ O=>?_;refine⟨_,rfl,_,rfl,sc,ns,1+i,by rw[Int.natCast_add];rfl,Rm.ed bY (ce _),af,af,λnh H8 s8=>?_⟩;have S8:=S7.same s8;have cS:=ce.trans s8;have b4:=s8 _ _ dL;clear S7 ce dL s8;refine⟨_,rfl,_,rfl,nh,m,_,pk,Z,tl,ts,rfl,S8.D,S8.zn,by have:=S8.lz;omega,b4,l5,λH9 d D s9 hd am bI ci=>O _ _ ?_⟩;clear O;have bl:=S8.same s9;have bm:=cS.trans s9;have ca:=s9 _ _ b4;have b8:∀t ad Y cs,D=.poke t ad Y cs->¬ cR m Z Y:=λt ad Y cs e w=>by
   rcases S8.D.alive Y w with⟨_,h⟩|⟨_,h⟩
   .rw[bI t ad Y cs e]at h;cases h
   .rw[bI t ad Y cs e]at h;cases h
  clear S8 cS b4 bI s9;refine mG (λσ ac=>∃(M:Addr->Prop) (J:Pg.PS) (cv:Int->Int->List Int) (pk:Int) (W:dY) (Z:Zs),σ=[some (.ref sc),some (.int G),some (.int (kO G)),some (.int (mP G)),some (.ref a.rp),some (.ref m.md),some (.int lo),some (.ref tl),some (.int (1+(i:Int))),some (.ref d),b9,b7,bd,a4]/\AB c ac M a m (kO G) (mP G) (i+1+1) J cv pk W Z/\a8 H ac/\(∀b,M b->H b=none)/\ac tl=some (.lst (ts.map V.int))/\¬ M tl) (λfc QQ ji je=>?A2) ?B2
  case A2 =>
   have up:∀{Hx},a8 H9 Hx->AB c Hx M a m (kO G) (mP G) (i+1+1) J cv pk W Z:=λsx=>by
    have S:=bl.same sx;exact⟨S.R,S.ri,S.cv,S.D,S.p0,S.sp,S.tw,S.lf,S.ls,S.zn,Nat.le_succ_of_le S.lw,Nat.le_succ_of_le S.lz⟩
   refine⟨_,rfl,_,rfl,m,_,pk,Z,d,D,rfl,bl.D,by have:=bl.lz;omega,hd,am,λr ac ap ej=>⟨rfl,_,rfl,?_⟩⟩;refine Ap (λcr=>ji _ ?_) (λ_=>je _ ⟨M,J,cv,pk,W,Z,rfl,up ap,bm.trans ap,bc,ap _ _ ca,ba⟩);have fi:=ej (V.str.inj (of_decide_eq_true cr));have L:=bl.same ap;have bv:u7 ac d D:=⟨ap _ _ hd.1,λt ad Y cs e=>ap _ _ (hd.2 t ad Y cs e)⟩;refine⟨_,rfl,_,rfl,m,_,pk,Z,d,D,rfl,L.D,L.p0,by have:=L.lz;omega,bv,fi,(λt ad Y cs e=>?_),(λt ad n e=>?_),λbi d7 Z2 v c7 fD a0 f3 aT fv=>?_⟩
   .subst e;exact⟨b8 _ _ _ _ rfl,am.1,am.2.1,am.2.2.2⟩
   .subst e;exact⟨am.1,am.2.1,am.2.2.2⟩
   obtain⟨aB,fy⟩:=yy L.R L.D L.sp c7 a0;have c9:a8 H bi:=λb u e=>a0.1 b u (ap _ _ (bm _ _ e)) λw=>(by rw[bc b (L.sp b w).1]at e;cases e);have cx:∀b,((M b/\¬ cR m Z b)\/cR m Z2 b)->H b=none:=λb z=>by
    rcases z with z|z
    .exact bc b z.1
    .rcases a0.2 b z with z|z
     .exact bc b (L.sp b z).1
     .exact(bm.trans ap).free z
   have dz:=ap _ _ ca;have ch:=a0.1 _ _ dz λw=>ba (L.sp _ w).1;have c1:¬ ((M tl/\¬ cR m Z tl)\/cR m Z2 tl):=λz=>by
    rcases z with z|z
    .exact ba z.1
    .rcases a0.2 _ z with z|z
     .exact ba (L.sp _ z).1
     .rw[dz]at z;cases z
   have fo:∀{b xs},ac b=some (.tup xs)->¬ cR m Z b:=λe w=>by
    rcases L.D.alive _ w with⟨_,h⟩|⟨_,h⟩
    .rw[e]at h;cases h
    .rw[e]at h;cases h
   have eo:u7 bi d D:=⟨a0.1 _ _ bv.1 (fo bv.1),λt ad Y cs e=>a0.1 _ _ (bv.2 t ad Y cs e) (b8 t ad Y cs e)⟩;refine⟨_,rfl,_,rfl,_,a,J,W,cv,d,D,rfl,aB,L.ri,L.cv,by have:=L.lw;omega,eo,EJ L.tw L.R L.D am fi,λdf b3 er fz e9 v ew el e0 be bG fT e8 d4=>?_⟩;obtain⟨dO,eq⟩:=rP c7 fy be;have ft:=L.tw.next e8 aT d4 fv;have fe:a8 H df:=λb u e=>be.off b u (c9 _ _ e) λw=>(by rw[cx b (aB.dR b w)]at e;cases e);have e2:∀b,b3 b->H b=none:=λb z=>(be.mn b z).elim (cx b) λz=>c9.free z;have e4:=be.off _ _ ch λw=>c1 (aB.dR _ w);have d9:¬ b3 tl:=λz=>(be.mn _ z).elim c1 λz=>(by rw[ch]at z;cases z);have fl:Z2≠[]:=λe=>by
    have hh:∀t,hZ Z2 t=false:=λt=>(by rw[e];rfl);obtain⟨t0,a5⟩:∃t0,hZ Z t0=true:=by
     cases ef:Z with
     |nil=>exact absurd ef L.zn
     |cons x r =>
      refine⟨x.1,?_⟩;unfold hZ;rw[Tb.aM,if_pos rfl];rfl
    cases D with
    |begin t=>exact absurd am id
    |close o =>
     obtain⟨t1,n1,z1,em⟩:=ci o rfl;have:=aT t1;rw[hh t1,decide_eq_true n1]at this;unfold hZ at this;rw[em]at this;cases this
    |copy t o=>have:=aT t0;rw[hh t0,a5]at this;simp at this
    |map t p q=>have:=aT t0;rw[hh t0,a5]at this;cases this
    |drop t p q=>have:=aT t0;rw[hh t0,a5]at this;cases this
    |peek t p q=>have:=aT t0;rw[hh t0,a5]at this;cases this
    |poke t p q r=>have:=aT t0;rw[hh t0,a5]at this;cases this
   refine fc _ _ ⟨b3,er,e9,d7,fz,Z2,rfl,⟨ew,el,e0,?_,fD,eq,ft,(bG true).trans L.lf,(bG false).trans L.ls,fl,?_,?_⟩,fe,e2,e4,d9⟩
   .rw[y7 bG];exact dO
   .have:=L.lw;omega
   .have:=L.lz;omega
  case B2 =>
  clear ci b8 am hd bl bm ca ba bc M J cv pk W Z;rintro σ ac ⟨M,J,cv,pk,W,Z,rfl,S,Sm,fr,hT,nM⟩;have R0:=S.R;have dm:∀b,(J.ow b).length<=60:=R0.pg.le;refine fN λ_ O=>?_;refine⟨_,rfl,_,rfl,_,rfl,_,rfl,M,a,m,_,_,_,J,cv,pk,W,Z,rfl,S,λbi dl l1 l2 as=>O _ _ ?_⟩;clear O;have aB:=R0.same as.sm;obtain⟨dx,ho⟩:=aB.ob;refine fN λ_ O=>?_;refine⟨_,rfl,a.rp,dx,_,rfl,ho,gi _ _ _ ao ao ao,M,a,J,W,rfl,aB,λdf p k1 k2 ab=>O _ _ ?_⟩;clear O;refine Bc ?_;dsimp only;refine bZ λ_ ji je=>?_;refine⟨_,rfl,.ref p,"tuple",_,true,rfl,.tup ab.hp,zf _,true,rfl,bw ?_⟩;refine⟨_,rfl,p,_,rfl,.inr (bR.of ab.hp),rfl,false,rfl,je _ ?_⟩;clear ji je;have I0:=ZI.IZ as ab;have fk:∀b,ac (two k1 k2 b)=none:=λb=>(by cases b;exact as.sm.free ab.f2;exact as.sm.free ab.f1);have np:∀b,p≠two k1 k2 b:=λb z=>by
   have h:=ab.hp;cases b
   .have h2:=ab.h2;rw[z]at h;rw[show two k1 k2 false=k2 from rfl,h2]at h;cases h
   .have h2:=ab.h1;rw[z]at h;rw[show two k1 k2 true=k1 from rfl,h2]at h;cases h
  have nw:∀{w u} b,bi w=some u->w≠two k1 k2 b:=λb h z=>by
   have:bi (two k1 k2 b)=none:=(by cases b;exact ab.f2;exact ab.f1);rw[z,this]at h;cases h
  have nd:=λb=>nw b as.hd;have nl:∀b' b,two l1 l2 b'≠two k1 k2 b:=λb' b=>(by cases b';exact nw b as.h2;exact nw b as.h1);have nk:=ab.n;clear as ab aB ho;refine Bc ?_;dsimp only;refine⟨⟨_,rfl,_,rfl,p,dl,rfl,⟨_,bR.of I0.hp⟩,⟨_,bq.of I0.hd⟩,?_⟩⟩;refine ze (K:=K) (a:=p) (b:=dl) (xs:=[.ref k1,.ref k2]) (ys:=[.ref l1,.ref l2]) (λq σ a3=>∃(bd a4:Option V),σ=[some (.ref sc),some (.int G),some (.int (kO G)),some (.int (mP G)),some (.ref a.rp),some (.ref m.md),some (.int lo),some (.ref tl),some (.int (1+(i:Int))),some (.ref d),some (.ref dl),some (.ref p),bd,a4]/\ZI ac a3 J p k1 k2 dl l1 l2 q) ⟨_,_,rfl,I0⟩ rfl (λq σ a3 _ z0=>by obtain⟨_,_,_,I⟩:=z0;exact⟨bR.of I.hp,bq.of I.hd⟩) ?_ ?_
  .rintro q x y σ a3 Tt hx hy ei ⟨d3,ey,rfl,bn⟩;obtain⟨b,rfl,rfl,hb⟩:∃b,x=.ref (two k1 k2 b)/\y=.ref (two l1 l2 b)/\q=(if b=true then 0 else 1):=by
    match q,hx,hy with
    |0,hx,hy=>cases hx;cases hy;exact⟨true,rfl,rfl,rfl⟩
    |1,hx,hy=>cases hx;cases hy;exact⟨false,rfl,rfl,rfl⟩
    |n+2,hx,_=>cases hx
   have bz:=bn.same (Tb.au (X:=.tup [.ref (two k1 k2 b),.ref (two l1 l2 b)]) ei);have hk:upd a3 Tt (.tup [.ref (two k1 k2 b),.ref (two l1 l2 b)]) (two k1 k2 b)=some (.lst ((J.ow b).map V.int)):=by
    cases b
    .exact bz.h2 (by rw[hb];exact le_refl _)
    .exact bz.h1 hb
   refine⟨Tt,_,rfl,bR.of ae,rfl,_,_,rfl,_,_,rfl,rfl,?_⟩;generalize upd a3 Tt (.tup [.ref (two k1 k2 b),.ref (two l1 l2 b)])=ea at *;refine Bc ?_;dsimp only;refine⟨_,rfl,_,rfl,_,_,J.ow b,rfl,hk,bz.hl b,by have:=dm b;omega,λa7 a6=>⟨true,rfl,bw ?_⟩⟩;have bb:=bz.same a6;have c5:=a6 _ _ hk;refine vY ?_;dsimp only;have f5:=dm b;obtain⟨z,zs,ez⟩:∃z zs,(J.ow b).map V.int++[V.int 3]=V.int z::zs:=by
    cases J.ow b with
    |nil=>exact⟨3,[],rfl⟩
    |cons u us=>exact⟨u,_,rfl⟩
   refine⟨_,rfl,.inl ⟨rfl,_,bq.of c5⟩,_,_,_,rfl,rfl,c5,by rw[length_map];omega,?_⟩;have wr:∀{Hx o j'},ZI ac Hx J p k1 k2 dl l1 l2 j'->j'<=q+1->ZI ac (upd Hx (two k1 k2 b) o) J p k1 k2 dl l1 l2 (q+1):=λI h=>I.wr (fk b) (np b) (nd b) (λb'=>nl b' b) nk h (Nat.succ_ne_zero _) λe=>by
    cases b
    .rw[hb]at e;exact absurd e av
    .rfl
   have bx:=wr (o:=.lst ((J.ow b).map V.int++[V.int 3])) bb (le_succ _);rw[ez]at bx ⊢;exact⟨_,rfl,two k1 k2 b,_,0,.int z,rfl,rfl,bq.of ae,by simp[x9,rT],_,_,rfl,rfl,_,rfl,two k1 k2 b,_,0,0,rfl,rfl,ae,by unfold rT;simp,_,_,rfl,wr bx (le_refl _)⟩
  .rintro σ a3 ⟨d3,ey,rfl,bn⟩;dsimp only;have b2:=S.same bn.sm;obtain⟨dx,ho⟩:=b2.R.ob;refine Ci λQQ ji je=>?_;refine⟨_,rfl,a.rp,dx,_,rfl,ho,gi _ _ _ ao ao ao,M,a,J,W,rfl,b2.R,by have:=S.lw;omega,λea db=>?_⟩;have cT:=b2.same db;refine⟨_,rfl,m,_,pk,Z,rfl,cT.D,by have:=S.lz;omega,λa7 a6=>⟨rfl,_,rfl,?_⟩⟩;rw[S.tw.held S.R S.D,decide_eq_true rfl];refine bw ?_;have da:=cT.same a6;obtain⟨e6,fa⟩:=da.R.ob;refine⟨_,rfl,a.rp,e6,_,rfl,fa,gi _ _ _ ao ao ao,M,a,J,W,rfl,da.R,λfH p2 j1 j2 a2=>?_⟩;have bb:=(bn.same db).same a6;have bx:=bb.same a2.sm;refine⟨p2,_,rfl,.inr (bR.of a2.hp),λll d8=>?_⟩;have b6:=Tb.au (X:=.lst [.ref j1,.ref j2]) d8;have a1:=bx.same b6;have ne:∀{u w},a7 u=none->a7 w≠none->u≠w:=λh1 h2 e=>h2 (e▸h1);refine⟨_,rfl,ll,dl,_,_,rfl,rfl,bq.of ae,bq.of a1.hd,.cons (.inr ⟨j1,l1,_,_,rfl,rfl,ne a2.f1 (by rw[show a7 l1=_ from bb.hl true];exact λq=>by cases q),.inl ⟨bq.of (b6 _ _ a2.h1),bq.of (a1.hl true)⟩,j8 _⟩) (.cons (.inr ⟨j2,l2,_,_,rfl,rfl,ne a2.f2 (by rw[show a7 l2=_ from bb.hl false];exact λq=>by cases q),.inl ⟨bq.of (b6 _ _ a2.h2),bq.of (a1.hl false)⟩,j8 _⟩) .nil),false,rfl,je _ ?_⟩;exact⟨_,_,_,_,_,_,M,J,cv,pk,W,Z,rfl,S.same a1.sm,Sm.trans a1.sm,fr,a1.sm _ _ hT,nM⟩
end
end Lw
namespace Hd
open PySem PySem.W PyProof.Rows
def p9:List Obj->List Obj×List Obj
 | []=>([],[])
 | [a]=>([a],[])
 |a::b::r=>(a::(p9 r).1,b::(p9 r).2)
def build:Nat->List Obj->BT
 |0,_=>.nil
 |_+1,[]=>.nil
 |f+1,o::r=>.node o (build f (p9 r).1) (build f (p9 r).2)
def topT (tb:String->Option Builtin) (p:Program) (w:World) (m:Nat) (an:Option Value):Nat->SharedT->Thread->Option SharedT
 |0,_,_=>none
 |k+1,x,t=>match through t with
  |true=>some x
  |false=>match stepOk m an t with
   |false=>none
   |true=>match stepT (denote tb) p w x t with
    |some (y,u)=>topT tb p w m an k y u
    |none=>none
theorem topT_of {tb:String->Option Builtin}{p:Program}{w:World}{m:Nat}{an:Option Value}:∀{k:Nat}{x z:SharedT}{t:Thread},topT tb p w m an k x t=some z->topRun tb p w m an k x.abs t=some z.abs:=by
 intro k
 induction k with
 |zero=>intro x z t e;cases e
 |succ k F =>
  intro x z t e;unfold topT at e;unfold topRun;cases a:through t with
  |true=>rw[a]at e;cases e;rfl
  |false =>
   rw[a]at e;cases b:stepOk m an t with
   |false=>rw[b]at e;cases e
   |true =>
    rw[b]at e;cases c:stepT (denote tb) p w x t with
    |none=>rw[c]at e;cases e
    |some r =>
     obtain⟨y,u⟩:=r;rw[c]at e;rw[stepT_spec c];exact F e
def zh (p q:Program) (loose:List Str) (F:Shared->Bool) (G:Bool) (h:Heap) (s:Shared):=
 (staticsOk (importedModules p.main.body) h s.heap&&namesBound p s.heap&&gensDone s&&laidKept h s.heap,openSeen q loose (importedModules p.main.body) F G s)
theorem AU {p q:Program}{loose:List Str}{J:Shared->Bool}{α:Type}{O:Shared->α}{I:World->α}{N M m:Nat}{L:Bool}{H:Params->Heap}{T:Params->BT}{life:Life}{gs:Array GenState}{d:Drawn}{k:Nat}{an:Option Value}
  (hO:∀w:World,(fencedOpening treeTable p w N).map (λs=>(s.heap,s.gens,s.drawn,s.toks))=some (H w.params,gs,d,k))
  (hT:∀P,absHeap (T P) m life=H P)
  (Y:∀w:World,((H w.params).isNs mainGlobals&&gs.size==0,(H w.params).objs.size,(H w.params).nsMap mainGlobals "__annotations__")=(true,m,an))
  (le:Nat.ble M N=true)
  (run:∀(w:World) (os:OsState),(topT treeTable p w m an M ⟨T w.params,m,life,gs,d,k,os⟩ (topStub p)).map (λs=>(zh p q loose J L (H w.params) s.abs,O s.abs))=some ((true,openGood q loose),I w)) :
  LeftO p q loose J O I N L:=by
 intro w;obtain⟨s,a,b⟩:=Option.map_eq_some_iff.mp (hO w);obtain⟨h,F,d',G,os⟩:=s;simp only[Prod.mk.injEq]at b;obtain⟨rfl,rfl,rfl,rfl⟩:=b;have z:=Y w;simp only[Prod.mk.injEq]at z;obtain⟨z1,S,R⟩:=z;obtain⟨x,c,e⟩:=Option.map_eq_some_iff.mp (run w os);have r:=topT_of c;have ab:(SharedT.mk (T w.params) m life F d' G os).abs=⟨H w.params,F,d',G,os⟩:=by
  unfold SharedT.abs;rw[hT]
 rw[ab]at r;have r:=topRun_mono (N-M) _ _ _ _ r;rw[show M+(N-M)=N from Nat.add_sub_cancel' (Nat.le_of_ble_eq_true le)]at r;simp only[zh,Prod.mk.injEq]at e;obtain⟨⟨U,e2⟩,e3⟩:=e;have t:topFrom treeTable p w N ⟨H w.params,F,d',G,os⟩=some x.abs:=by
  unfold topFrom;dsimp only;rw[z1,S,R,r];simp only[bind_some,U]
 unfold openEnds;rw[a];simp only[bind_some,t,Option.map_some,e2,e3]
theorem both {r:OpenRow}{q:Program}{loose:List Str}{d:DefRec}{F:List (Str×Expr)}{N:Nat}(H:Hook)
  (h1:defOf q r.name=some (d,F)) (h2:r.prog.theDef r.name=some (d.params,d.body,d.scope)) (O:kwWritten? d.params.kwonlyargs d.params.kw_defaults=some F) (G:(!r.writes||r.records.isEmpty)=true)
  (L:r.wellSaid=true) (J:(chainsOk q&&opensWell r.prog&&(frees r.toRowW&&r.within.isEmpty))=true) (I:r.prog.bare) (R:r.toRowW.promised)
  (h:LeftO r.prog q loose (λs=>xlAt q [] s&&recOk r.records s) H.obs H.val N/\WalkO q loose (XL q []) H.says r.toRowW d F λf vs=>PySem.call f vs):r.Holds :=
 holds_open h.1 H.of H.keeps (λs e=>xl_of s (Bool.and_eq_true_iff.mp e).1) XL.keeps h1 h2 O (λs e=>recFacts_of (Bool.and_eq_true_iff.mp e).2) G L J I R h.2
noncomputable def Co (P:Params):BT:=build 12 (boot_heap P).objs.toList
def q:Program:=PySem.W.view PySem.Challenge.pw_ownroom_k15_owners_counted [50]
def loose:List Str:=[Str.ofString "_wall",Str.ofString "__name__",Str.ofString "KernelError",Str.ofString "ValueError",Str.ofString "NoOwner",Str.ofString "NoTask",Str.ofString "NoPage",Str.ofString "NoRoom",Str.ofString "Taken",Str.ofString "PAGE_CELLS",Str.ofString "Store",Str.ofString "lift",Str.ofString "settle",Str.ofString "Paging",Str.ofString "ROOM_PAGES",Str.ofString "room_of",Str.ofString "refuse_second_room",Str.ofString "refuse_above",Str.ofString "pages_from",Str.ofString "refuse_unmapped",Str.ofString "pages_to_map",Str.ofString "pages_to_drop",Str.ofString "pages_of_cells",Str.ofString "run_within",Str.ofString "pages_with",Str.ofString "STEP_PAGES",Str.ofString "own_copy",Str.ofString "Table",Str.ofString "BLANK",Str.ofString "Rooms",Str.ofString "_law_mixed",Str.ofString "_law_number",Str.ofString "_law_whole",Str.ofString "_law_cells",Str.ofString "_law_model",Str.ofString "_law_held",Str.ofString "_law_stretch",Str.ofString "_law_due",Str.ofString "_law_done",Str.ofString "_law_called",Str.ofString "_law_numbers",Str.ofString "_law_sizes",Str.ofString "_law_busy",Str.ofString "_law_begun",Str.ofString "_law_due_counts"]
local macro_rules | `(tactic| o_head $H) => `(tactic| refine Hd.both (q:=Hd.q) (loose:=Hd.loose) (N:=100000) $H (by rfl) (by rfl) (by rfl) (by rfl) (by assumption) ao ⟨rfl,rfl,rfl,rfl,rfl,ao⟩ ?$(Lean.mkIdent `hw):ident ?$(Lean.mkIdent `hc):ident)
open_top top for PySem.Challenge.rw_ownroom_k15_owners_counted
def at_:List Addr:=[2,3,15,17,18,20,21,22,29,30,31,32,35,42,43,44,47,54,55,56,59,66,67,68,71,78,79,80,83,90,91,92,102,104,105,107,108,109,111,112,114,115,116,118,119,121,122,123,125,126,128,129,130,132,133,135,136,137,139,140,142,143,144,146,147,149,150,151,153,154,156,157,158,160,161,163,164,165,166,167,168,169,172,174,175,177,178,179,181,182,184,185,193,195,196,198,199,200,202,203,205,206,207,209,210,212,213,214,216,217,219,220,221,223,224,226,227,228,230,231,233,234,235,237,238,240,241,242,244,245,247,248,249,251,252,254,255,256,258,259,261,262,263,265,266,268,269,270,272,273,275,276,277,279,280,282,283,284,286,287,289,290,291,292,293,294,295,298,300,301,303,304,305,307,308,310,311,312,314,315,317,318,319,321,322,324,325,326,328,329,331,332,333,335,336,338,339,340,342,343,345,346,347,349,350,352,353,354,356,357,359,360,361,364,365,366,369,370,378,380,381,383,384,385,387,388,390,391,392,394,395,397,398,399,401,402,404,405,406,408,409,411,412,413,415,416,418,419,420,421,422,423,424,427,435,437,438,440,441,442,444,445,447,448,449,451,452,454,455,456,458,459,461,462,463,465,466,468,469,470,472,473,475,476,477,479,480,482,483,484,486,487,489,490,491,494,495,496,498,499,501,502,503,505,506,508,509,510,512,513,515,516,517,519,520,522,523,524,526,527,529,530,531,532,533,534,535,538,540,541,543,544,545,547,548,550,551,552,554,555,557,558,559,561,562,564,565,566,568,569,571,572,573,576,577,578,581,582,583,586,587,588,591,592,593,595,596,598,599,600,603,604,605,607,608,610,611,612,614,615,617,618,619,621,622,624,625,626,628,629,631,632,633,635,636,638,639]
noncomputable def lhs (w:World) (os:OsState):=
 (topT treeTable PySem.Challenge.pw_ownroom_k15_owners_counted w 11 (some (.ref 6)) 100000 ⟨Co w.params,11, {},Array.mk [],boot_drawn,boot_toks,os⟩ (topStub PySem.Challenge.pw_ownroom_k15_owners_counted)).map
  λs=>(zh PySem.Challenge.pw_ownroom_k15_owners_counted q loose (λs=>xlAt q [] s&&recOk PySem.Challenge.rw_ownroom_k15_owners_counted.row.records s) true (boot_heap w.params) s.abs,at_.map s.abs.heap.get?)
noncomputable def Hc (K:Frag):=some ((true,openGood q loose),K.map λp=>some p.2)
theorem lhs_self:lhs=lhs:=rfl
theorem Ay:Hc=Hc:=rfl
name_quick hdL for Hd.lhs by Hd.lhs_self
name_quick hdR for Hd.Hc by Hd.Ay
noncomputable def rhs (w:World):=some ((true,openGood q loose),(Hd.top.heap_39 w.params).map λp=>some p.2)
theorem same_ (w:World) (os:OsState):PySem.W.Fast.hdL w os=PySem.W.Fast.hdR (Hd.top.heap_39 w.params):=by kernel_rfl
theorem run_ (w:World) (os:OsState):lhs w os=rhs w:=((congrFun (congrFun PySem.W.Fast.hdL_eq w) os).trans (same_ w os)).trans (congrFun PySem.W.Fast.hdR_eq (Hd.top.heap_39 w.params)).symm
end Hd
namespace Lw
open PySem L2
def Al:Nat->(List Value->Prop)->Prop
 |0,p=>p []
 |n+1,p=>∀a,Al n λl=>p (a::l)
theorem al:∀{n:Nat}{p:List Value->Prop},Al n p->∀us:List Value,us.length=n->p us
 |0,_,h,us,e=>by cases List.eq_nil_of_length_eq_zero e;exact h
 |n+1,_,h,us,e=>by
  cases us with
  |nil=>cases e
  |cons a us=>exact al (h a) us (Nat.succ.inj e)
inductive MI (K:Frag) (C:Addr) (m q:Str) (st:Stmt) (ps:List Str):Prop
 |mk (f:Addr) (fd:FuncData) (_:cL K m q st f fd) (_:Binds K fd ps []) (_:Meth K C m f):MI K C m q st ps
inductive DI (K:Frag) (x:Str) (st:Stmt) (ps:List Str):Prop
 |mk (f:Addr) (fd:FuncData) (_:cL K x x st f fd) (_:Binds K fd ps []) (_:nsIn K mainGlobals x=some (some (.ref f))):DI K x st ps
section
variable {K:Frag}{C f:Addr}{m q:Str}{st:Stmt}{ps:List Str}{od an:Option Addr}{sl:Array (Option Value)}{oc kV dc pm cd ct:Value}
theorem MI.of (a:findIn K (.ref C) m=some (some (.ref f))) (i:isFn K (.ref f)=true) (l:K.lookup f=some ⟨oc,od,.func (fnOf m q (fB st) (eK st) (aq st) .none kV dc pm an cd ct),sl⟩) (c:codeIn K cd q=true) (k:keepIn K (.ref f)=true)
  (b:∀kV F pm an G ct,Al ps.length λus=>bindArgs (fnOf m q (fB st) (eK st) (aq st) .none kV F pm an G ct) ⟨us,[]⟩=pure (ps.zip us)):MI K C m q st ps :=
 ⟨_,_,qf l c k,(qf l c k).binds λ_ _ _ _ _ _=>al (b _ _ _ _ _ _),a,i,k⟩
theorem DI.of (a:nsIn K mainGlobals m=some (some (.ref f))) (l:K.lookup f=some ⟨oc,od,.func (fnOf m m (fB st) (eK st) (aq st) .none kV dc pm an cd ct),sl⟩) (c:codeIn K cd m=true) (k:keepIn K (.ref f)=true)
  (b:∀kV F pm an G ct,Al ps.length λus=>bindArgs (fnOf m m (fB st) (eK st) (aq st) .none kV F pm an G ct) ⟨us,[]⟩=pure (ps.zip us)):DI K m st ps :=
 ⟨_,_,qf l c k,(qf l c k).binds λ_ _ _ _ _ _=>al (b _ _ _ _ _ _),a⟩
inductive CI (K:Frag) (C:Addr) (x:Str):Prop
 |mk (_:nsIn K mainGlobals x=some (some (.ref C))) (_:qR K C) (_:makesIn K C=true) (_:keepIn K (.ref C)=true):CI K C x
end
def NI (K:Frag):List Str->Prop
 | []=>True
 |x::l=>nsIn K mainGlobals x=some none/\NI K l
def AI (K:Frag) (C:Addr):List Str->Prop
 | []=>True
 |x::l=>findIn K (.ref C) x=some none/\AI K C l
theorem all_mk {l:PySem.W.OpenLaw}{w:World}{K:Frag}{h:Heap}{mg:Str->Option Value}{fa J F L I aB:Addr}{ii t8 t9:Tok}{dj:Value}{fz:Option Addr}{ra:Array (Option Value)}{a0:Array Value}{nB:Nat}(X:K.In h) (G:h.Ns mainGlobals mg) (pD:mg "law" = some (.ref fa)) :
  CI K J "Store" -> AI K J ["owners","contents"]->MI K J "__init__" "Store.__init__" St.l9 ["self","many"]->MI K J "take" "Store.take" St.zR ["self"]->MI K J "less" "Store.less" St.zb ["self","n"]->MI K J "more" "Store.more" St.zj ["self","n"]->MI K J "free" "Store.free" St.yE ["self"]->MI K J "count" "Store.count" St.tD ["self","n"]->MI K J "cells" "Store.cells" St.uh ["self","n"]->MI K J "put" "Store.put" St.Dt ["self","n","cells"]->MI K J "refuse_free" "Store.refuse_free" St.qO ["self","n"]->CI K F "Paging" -> AI K F ["frames","slots","places","last_sheet","in_frames"]->MI K F "__init__" "Paging.__init__" St.t6 ["self","frames","slots"]->MI K F "new_sheet" "Paging.new_sheet" St.j6 ["self","cells"]->MI K F "share" "Paging.share" St.tN ["self","sheet"]->MI K F "leave" "Paging.leave" St.uK ["self","sheet"]->MI K F "cells" "Paging.cells" St.pO ["self","sheet"]->MI K F "change" "Paging.change" St.pM ["self","sheet","cells"]->MI K F "fetch" "Paging.fetch" St.uo ["self","sheet"]->MI K F "bring_in" "Paging.bring_in" St.lF ["self","sheet","moved"]->MI K F "put_out" "Paging.put_out" St.qJ ["self","sheet"]->MI K F "place" "Paging.place" St.uA ["self","sheet"]->MI K F "number_of" "Paging.number_of" St.kg ["self","sheet"]->MI K F "store_of" "Paging.store_of" St.mX ["self","sheet"]->MI K F "count" "Paging.count" St.qr ["self","sheet"]->MI K F "counts" "Paging.counts" Lw.mT ["self"]->CI K L "Table" -> AI K L ["first_step"]->MI K L "__init__" "Table.__init__" Tb.l9 ["self"]->MI K L "get" "Table.get" Tb.D0 ["self","page"]->MI K L "lay" "Table.lay" Tb.DN ["self","page","entry"]->MI K L "clear" "Table.clear" Tb.uc ["self","page"]->MI K L "pages" "Table.pages" Tb.tQ ["self"]->CI K I "Rooms" -> AI K I ["paging","total","rooms"]->MI K I "__init__" "Rooms.__init__" St.sV ["self","frames","slots"]->MI K I "begin" "Rooms.begin" St.qF ["self","task"]->MI K I "close" "Rooms.close" St.oN ["self","task"]->MI K I "map" "Rooms.map" St.Ak ["self","task","page","many"]->MI K I "drop" "Rooms.drop" St.sX ["self","task","page","many"]->MI K I "peek" "Rooms.peek" St.uG ["self","task","address","many"]->MI K I "poke" "Rooms.poke" St.tq ["self","task","address","cells"]->MI K I "copy" "Rooms.copy" St.uH ["self","task","other"]->MI K I "held" "Rooms.held" St.sZ ["self"]->MI K I "counts" "Rooms.counts" Lw.mV ["self"]->MI K I "place" "Rooms.place" St.p7 ["self","task","page"]->MI K I "leave_pages" "Rooms.leave_pages" St.pA ["self","table","pages"]->MI K I "cells_of" "Rooms.cells_of" St.pG ["self","entry"]->MI K I "sheet_with" "Rooms.sheet_with" St.pQ ["self","entry","cells"]->DI K "lift" St.yP ["store","n"]->DI K "settle" St.pX ["store","moved"]->DI K "own_copy" Tb.vA ["value"]->DI K "room_of" St.pP ["rooms","task"]->DI K "refuse_second_room" St.pf ["rooms","task"]->DI K "refuse_above" St.uF ["held","total"]->DI K "pages_from" Rm.iL ["page","many"]->DI K "refuse_unmapped" Rm.jR ["mapped","pages"]->DI K "pages_to_map" Rm.vq ["mapped","page","many"]->DI K "pages_to_drop" Rm.qt ["mapped","page","many"]->DI K "pages_of_cells" Rm.mJ ["mapped","address","many"]->DI K "run_within" Rm.pU ["whole","address","many"]->DI K "pages_with" Rm.yR ["whole","address","cells"]->DI K "_law_mixed" Lw.uO ["_law_cell","_law_k"]->DI K "_law_number" Lw.qE ["_law_script","_law_k"]->DI K "_law_whole" Lw.uZ ["_law_found"]->DI K "_law_cells" Lw.lE ["_law_m","_law_many"]->DI K "_law_model" Lw.uV ["_law_total"]->DI K "_law_held" Lw.t7 ["_law_model_here"]->DI K "_law_stretch" Lw.lL ["_law_room","_law_address","_law_many"]->DI K "_law_due" Lw.CL ["_law_model_here","_law_deed"]->DI K "_law_done" Lw.zp ["_law_model_here","_law_deed"]->DI K "_law_called" Lw.pE ["_law_kept","_law_deed"]->DI K "_law_sizes" Lw.uI ["_law_m"]->DI K "_law_busy" Lw.y6 ["_law_m","_law_model_here","_law_tasks"]->DI K "_law_begun" Lw.tE ["_law_m"]->DI K "_law_numbers" Lw.mO ["_law_found","_law_due_here"]->DI K "_law_due_counts" Lw.vF ["_law_kept","_law_model_here","_law_frames","_law_slots"]->DI K "law" Lw.gk ["_law_script"]->nsIn K mainGlobals "ROOM_PAGES" = some (some (.int 64 ii))->nsIn K mainGlobals "PAGE_CELLS" = some (some (.int 8 t8))->nsIn K mainGlobals "STEP_PAGES" = some (some (.int 8 t9))->NI K ["range","enumerate","sum","int","isinstance","min","max","list","len","dict","bool","tuple","sorted","all","any","zip"]->nsIn K mainGlobals "BLANK" = some (some (.ref aB))->K.lookup aB=some ⟨dj,fz,.seq a0 nB,ra⟩->dj=.type "tuple" -> Vals [V.str "blank"] a0.toList->a0.size<=1 ->
  ∃fd:FuncData,(∀(s:Shared) (v:Value),BindsTo s fd ⟨[v],[]⟩ [("_law_script",v)])/\∀base:Heap,K.In base->base.Ns mainGlobals mg->bf l.prog w K mg base aU 12 fa fd ["_law_script"] (rh K):=by
 intro h0 h1 h2 h3 h4 h5 h6 h7 h8 h9 hK pw pr hT kw lf j3 ng lz g4 mv nw ls on k0 it q3 lp g9 oG ft qb o2 lA o6 ll ov i6 p6 ez mx ew hm i8 m0 em he e7 jp pn nk ob nn nL g6 p0 ep e6 hd hw pl eP me l7 fx fi gF n9 hj nP fo fc p1 la ql lx l6 hq pq q0 q1 q2 li yB lB oB vB wB;obtain⟨en,eo,pp,om⟩:=h0;obtain⟨nC,mn,_⟩:=h1;obtain⟨f1,d1,F1,b1,M1⟩:=h2;obtain⟨f2,d2,F2,b2,M2⟩:=h3;obtain⟨f3,d3,F3,b3,M3⟩:=h4;obtain⟨f4,d4,F4,b4,M4⟩:=h5;obtain⟨f5,d5,F5,b5,M5⟩:=h6;obtain⟨f6,d6,F6,b6,M6⟩:=h7;obtain⟨f7,d7,F7,b7,M7⟩:=h8;obtain⟨f8,d8,F8,b8,M8⟩:=h9;obtain⟨f9,d9,F9,b9,M9⟩:=hK;obtain⟨kv,qo,fk,hr⟩:=pw;obtain⟨hf,fT,go,nM,kQ,_⟩:=pr;obtain⟨u2,r0,m8,fr,bb⟩:=hT;obtain⟨sL,rr,ha,hF,fv⟩:=kw;obtain⟨s5,yv,hP,g1,og⟩:=lf;obtain⟨rB,ua,oA,mb,nh⟩:=j3;obtain⟨v4,sU,i5,e5,mp⟩:=ng;obtain⟨v0,vn,qj,gd,na⟩:=lz;obtain⟨wh,t2,pe,no,o7⟩:=g4;obtain⟨w5,tp,e2,fe,jt⟩:=mv;obtain⟨ti,xl,ol,nt,kd⟩:=nw;obtain⟨wP,se,mu,hQ,p3⟩:=ls;obtain⟨sS,sK,hS,j0,g7⟩:=on;obtain⟨sd,r7,qy,fy,mw⟩:=k0;obtain⟨t4,vr,o3,g5,o1⟩:=it;obtain⟨r8,t3,i0,oR,hG⟩:=q3;obtain⟨c9,hN,c3,a6⟩:=lp;obtain⟨hx,_⟩:=g9;obtain⟨r3,vl,g3,ca,ap⟩:=oG;obtain⟨s3,w7,fu,ge,hy⟩:=ft;obtain⟨s2,rx,nl,m1,hO⟩:=qb;obtain⟨tn,sw,nq,pa,lw⟩:=o2;obtain⟨rk,xe,hR,ga,hD⟩:=lA;obtain⟨j2,hl,g0,oD⟩:=o6;obtain⟨l0,ia,g2,_⟩:=ll;obtain⟨wn,x5,hM,j1,cr⟩:=ov;obtain⟨rc,xd,iN,gl,q9⟩:=i6;obtain⟨r5,sr,qa,qi,o0⟩:=p6;obtain⟨sc,x2,n4,hu,hY⟩:=ez;obtain⟨ul,rg,q6,ik,ib⟩:=mx;obtain⟨v3,rt,k5,qs,nx⟩:=ew;obtain⟨rz,ww,hH,oC,q5⟩:=hm;obtain⟨rv,vu,im,hz,fH⟩:=i8;obtain⟨sn,r1,lr,n6,qn⟩:=m0;obtain⟨s8,up,p4,l3,ev⟩:=em;obtain⟨v5,r2,i3,nd,o9⟩:=he;obtain⟨sy,wS,op,ot,gm⟩:=e7;obtain⟨sA,t0,eN,e8,md⟩:=jp;obtain⟨x7,rs,ht,hn,q7⟩:=pn;obtain⟨v1,u8,c4,nI,n3⟩:=nk;obtain⟨x0,wU,cx,e4,ni⟩:=ob;obtain⟨rn,t1,ad,df,ei⟩:=nn;obtain⟨xz,ut,dm,gt,e0⟩:=nL;obtain⟨wE,sx,c7,lb,m2⟩:=g6;obtain⟨w1,rp,dp,mB,hv⟩:=p0;obtain⟨v6,wf,bl,ne,nR⟩:=ep;obtain⟨ru,v8,ba,e3,l4⟩:=e6;obtain⟨sa,ux,a4,n7,nr⟩:=hd;obtain⟨u1,ub,c1,py,kn⟩:=hw;obtain⟨w2,r4,be,mt,oe⟩:=pl;obtain⟨ss,uy,c5,nT,q4⟩:=eP;obtain⟨xu,w4,bc,gs,io⟩:=me;obtain⟨xo,xx,c8,i9,jr⟩:=l7;obtain⟨v7,sm,c2,pu,ld⟩:=fx;obtain⟨wp,x3,ec,n8,n0⟩:=fi;obtain⟨w3,wl,el,hL,hI⟩:=gF;obtain⟨x1,ro,dd,fl,et⟩:=n9;obtain⟨ri,s4,c0,rb,lm⟩:=hj;obtain⟨s9,v9,da,fI,nz⟩:=nP;obtain⟨rm,w0,bG,n2,ko⟩:=fo;obtain⟨x4,tw,dO,kk,hA⟩:=fc;obtain⟨va,ry,dV,pT,er⟩:=p1;obtain⟨sT,sB,ce,hg,pd⟩:=la;obtain⟨so,sb,ee,hb,oF⟩:=ql;obtain⟨s1,wT,a5,po,o4⟩:=lx;obtain⟨tz,wv,dI,lv,qw⟩:=l6;obtain⟨re,w8,b0,i7,e9⟩:=hq;obtain⟨t5,i1,ci,ws,ka⟩:=pq;obtain⟨bd,hc,bz,ho,dT,eq,il,ab,ac,ef,e1,bx,db,eA,iF,ih,_⟩:=li;have e:=pD.symm.trans (mg_of X G ka);cases e;refine⟨i1,λs v=>?_,λbase _ _=>?_⟩
 .obtain⟨oc,od,kV,tr,pm,an,s7,ct,s6,rfl,lk,xL⟩:=ci.ex;exact .of_eq rfl
 have TS:St.Txt K mg J:=⟨eo,nC,mn,mg_none_of X G ac,mg_none_of X G ab,⟨_,mg_of X G q1,⟨_,rfl⟩⟩⟩;have TT:Tb.Txt K mg L:=⟨hN,hx,⟨_,mg_of X G q2,⟨_,rfl⟩⟩⟩;have TQ:Tb.yp mg:=⟨mg_none_of X G dT,mg_none_of X G bx,mg_none_of X G ab,mg_none_of X G ef,mg_none_of X G ac,mg_none_of X G db⟩;have SX:Rm.yl mg:=⟨⟨_,mg_of X G q0,⟨_,rfl⟩⟩,⟨_,mg_of X G q1,⟨_,rfl⟩⟩,mg_none_of X G ab,mg_none_of X G bd,mg_none_of X G ac⟩;have TP:St.mZ K mg F:=⟨qo,hf,fT,go,nM,kQ,mg_none_of X G ab⟩;have N:St.qK K mg ⟨I,F,J,L⟩:=⟨hl,l0,ia,g2,⟨aB,mg_of X G yB,.inr ⟨_,a0,nB,lB,oB,rfl,le_trans wB av,vB⟩⟩,⟨_,mg_of X G q1,⟨_,rfl⟩⟩,mg_none_of X G ac,mg_none_of X G bz,mg_none_of X G ih⟩;have MT:Lw.kN mg:=⟨mg_none_of X G bd,mg_none_of X G hc,mg_none_of X G bz,mg_none_of X G ho,mg_none_of X G dT,mg_none_of X G eq,mg_none_of X G il,mg_none_of X G ab,mg_none_of X G ac,mg_none_of X G ef,mg_none_of X G e1,mg_none_of X G bx,mg_none_of X G db,mg_none_of X G eA,mg_none_of X G iF⟩;have hE:=St.oU (P:=l.prog) (w:=w) (base:=base) F1 TS;have U:=Md.mk _ _ _ (St.zS (P:=l.prog) (w:=w) (base:=base) F6 TS) b6 M6;have as:=Md.mk _ _ _ (St.xZ F9 TS U) b9 M9;have eb:=Md.mk _ _ _ (St.Bb F3 TS as) b3 M3;have bi:=Md.mk _ _ _ (St.yQ F7 TS as) b7 M7;have ea:=Md.mk _ _ _ (St.Ek F8 TS as) b8 M8;have bv:=Md.mk _ _ _ (St.BQ F4 TS as) b4 M4;have nO:=Md.mk _ _ _ (St.AZ (P:=l.prog) (w:=w) (base:=base) F2 TS) b2 M2;have bY:=Md.mk _ _ _ (St.B1 (P:=l.prog) (w:=w) (base:=base) F5 TS) b5 M5;have ji:=Df.mk _ _ _ (Tb.yK (P:=l.prog) (w:=w) (base:=base) ad TQ) df (mg_of X G ei) ad.kp;have GC:=Df.mk _ _ _ (Tb.BE ad TQ ji) df (mg_of X G ei) ad.kp;have bI:=Tb.oU (P:=l.prog) (w:=w) (base:=base) g3 TT;have Y:=Md.mk _ _ _ (Tb.Cw fu TT GC) ge hy;have a3:=Md.mk _ _ _ (Tb.Es nl TT GC) m1 hO;have iv:=Md.mk _ _ _ (Tb.Ar (P:=l.prog) (w:=w) (base:=base) nq TT TQ) pa lw;have O:=Md.mk _ _ _ (Tb.yt (P:=l.prog) (w:=w) (base:=base) hR TT TQ) ga hD;have GP:=Df.mk _ _ _ (Rm.ph (P:=l.prog) (w:=w) (base:=base) bl SX) ne (mg_of X G nR) bl.kp;have GU:=Df.mk _ _ _ (Rm.rZ (P:=l.prog) (w:=w) (base:=base) (mg:=mg) ba) e3 (mg_of X G l4) ba.kp;have GM:=Df.mk _ _ _ (Rm.yf a4 GP) n7 (mg_of X G nr) a4.kp;have GD:=Df.mk _ _ _ (Rm.xh c1 GP GU) py (mg_of X G kn) c1.kp;have GO:=Df.mk _ _ _ (Rm.u9 be SX GP GU) mt (mg_of X G oe) be.kp;have m3:=Df.mk _ _ _ (Rm.wO (P:=l.prog) (w:=w) (base:=base) c5 SX) nT (mg_of X G q4) c5.kp;have oL:=Df.mk _ _ _ (Rm.Bp (P:=l.prog) (w:=w) (base:=base) bc SX) gs (mg_of X G io) bc.kp;have dL:=Df.mk _ _ _ (St.AS c4 TS bi U eb) nI (mg_of X G n3) c4.kp;have bn:=Df.mk _ _ _ (St.xK cx TS nO ea U bv) e4 (mg_of X G ni) cx.kp;have am:=Md.mk _ _ _ (St.y0 (CS:=J) (P:=l.prog) (w:=w) (base:=base) mu TP) hQ p3;have S:=Md.mk _ _ _ (St.sk hS TP am) j0 g7;have aT:=Md.mk _ _ _ (St.uY qy TP am) fy mw;have ki:=Md.mk _ _ _ (St.xD o3 TP TS aT S U) g5 o1;have mm:=Md.mk _ _ _ (St.xr i5 TP TS aT S bi) e5 mp;have oI:=Md.mk _ _ _ (St.sY ol TP dL bn S) nt kd;have dM:=Md.mk _ _ _ (St.r6 e2 TP TS bY oI bn) fe jt;have cc:=Md.mk _ _ _ (St.qu ha TP TS bY dM) hF fv;have ek:=Md.mk _ _ _ (St.zc pe TP am dM dL) no o7;have lc:=Md.mk _ _ _ (St.Ag hP TP TS aT S bv) g1 og;have bm:=Md.mk _ _ _ (St.yN oA TP TS aT S eb U) mb nh;have eC:=Md.mk _ _ _ (St.wW qj TP TS ki cc bm ek S ea) gd na;have hk:=St.zi m8 TP ⟨pp,M1.at_,M1.fn,om⟩ (mg_of X G en) hE b1;have R:=Df.mk _ _ _ (St.xj (P:=l.prog) (w:=w) (base:=base) (mg:=mg) dm) gt (mg_of X G e0) dm.kp;have GS:=Df.mk _ _ _ (St.xY (P:=l.prog) (w:=w) (base:=base) (mg:=mg) c7) lb (mg_of X G m2) c7.kp;have GA:=Df.mk _ _ _ (St.zv (P:=l.prog) (w:=w) (base:=base) (mg:=mg) dp) mB (mg_of X G hv) dp.kp;have kt:=St.zQ (c:=⟨I,F,J,L⟩) hM N ⟨fk,bb.at_,bb.fn,hr⟩ (mg_of X G kv) hk fr;have dz:=Md.mk _ _ _ (St.m5 (c:=⟨I,F,J,L⟩) op N TT TP Y iv bm) ot gm;have hh:=Md.mk _ _ _ (St.BU (c:=⟨I,F,J,L⟩) q6 N TT R GD O dz) ik ib;have g8:=Md.mk _ _ _ (St.xm (c:=⟨I,F,J,L⟩) qa N TT R O dz) qi o0;have i2:=Md.mk _ _ _ (St.xB (c:=⟨I,F,J,L⟩) iN N ⟨c3,ap.at_,ap.fn,a6⟩ (mg_of X G c9) GS bI ca) gl q9;have ch:=Md.mk _ _ _ (St.tL (c:=⟨I,F,J,L⟩) eN N TP mm) e8 md;have i4:=Md.mk _ _ _ (St.pR (c:=⟨I,F,J,L⟩) ht N TP cc eC) hn q7;have a2:=Md.mk _ _ _ (St.y4 (c:=⟨I,F,J,L⟩) lr N TT O) n6 qn;have je:=Md.mk _ _ _ (St.xR (c:=⟨I,F,J,L⟩) i3 N TT TP R Y am) nd o9;have fD:=Md.mk _ _ _ (St.Bh (c:=⟨I,F,J,L⟩) n4 N TT R GM GA O a2 a3) hu hY;have eH:=Md.mk _ _ _ (St.yV (c:=⟨I,F,J,L⟩) k5 N TT TP R GO m3 O Y ek ch) qs nx;have nb:=Md.mk _ _ _ (St.yC (c:=⟨I,F,J,L⟩) hH N TT R GO oL O Y a3 ch i4) oC q5;have hp:=Md.mk _ _ _ (St.yg (c:=⟨I,F,J,L⟩) im N TT TP ⟨c3,ap.at_,ap.fn,a6⟩ (mg_of X G c9) R GS GA bI ca O a2 Y a3 lc) hz fH;have KT:Lw.GB l.prog w K mg base ⟨I,F,J,L⟩:=⟨i2,g8,fD,hh,hp,eH,nb,je⟩;have f0:=Df.mk _ _ _ (Lw.zX (P:=l.prog) (w:=w) (base:=base) (mg:=mg) c8) i9 (mg_of X G jr) c8.kp;have n5:=Df.mk _ _ _ (Lw.xX c2 MT f0) pu (mg_of X G ld) c2.kp;have ln:=Df.mk _ _ _ (Lw.zq (P:=l.prog) (w:=w) (base:=base) ec MT) n8 (mg_of X G n0) ec.kp;have l5:=Df.mk _ _ _ (Lw.u6 (P:=l.prog) (w:=w) (base:=base) el MT) hL (mg_of X G hI) el.kp;have ej:=Df.mk _ _ _ (Lw.AA (P:=l.prog) (w:=w) (base:=base) (mg:=mg) ce) hg (mg_of X G pd) ce.kp;have ms:=Df.mk _ _ _ (Lw.zC (P:=l.prog) (w:=w) (base:=base) (mg:=mg) dd) fl (mg_of X G et) dd.kp;have a1:=Df.mk _ _ _ (Lw.Ai (P:=l.prog) (w:=w) (base:=base) c0 MT) rb (mg_of X G lm) c0.kp;have k3:=Df.mk _ _ _ (Lw.uP (P:=l.prog) (w:=w) (base:=base) da MT) fI (mg_of X G nz) da.kp;have n1:=Df.mk _ _ _ (Lw.C2 bG MT a1 k3) n2 (mg_of X G ko) bG.kp;have a7:=Df.mk _ _ _ (Lw.BC (P:=l.prog) (w:=w) (base:=base) dO MT) kk (mg_of X G hA) dO.kp;have o5:=Df.mk _ _ _ (Lw.wG dV N KT) pT (mg_of X G er) dV.kp;have nF:=Md.mk _ _ _ (Lw.tM (P:=l.prog) (w:=w) (base:=base) i0 TP TS) oR hG;have pi:=Md.mk _ _ _ (Lw.uT (c:=⟨I,F,J,L⟩) p4 N TP nF) l3 ev;have ey:=Df.mk _ _ _ (Lw.uj dI MT ln) lv (mg_of X G qw) dI.kp;have nS:=Df.mk _ _ _ (Lw.BK b0 MT N KT) i7 (mg_of X G e9) b0.kp;have hC:=Df.mk _ _ _ (Lw.BA ee MT a1 l5) hb (mg_of X G oF) ee.kp;have hB:=Df.mk _ _ _ (Lw.zK a5 N KT ⟨g0,cr.at_,cr.fn,oD⟩ (mg_of X G j2) ej kt j1 ms a7) po (mg_of X G o4) a5.kp;exact Lw.Eb ci MT N n5 ej hB hC n1 a7 o5 nS ey a1 pi a2
theorem walk {l:PySem.W.OpenLaw}{q:Program}{loose:List Str}{R:(Str->Option Value)->Heap->Prop}{G:World->Heap->Prop}{d:DefRec}{K:Params->Frag}(S:l.most=some 63) (L:d.params.defaults=[])
  (J:∀(w:World) (h:Heap),G w h->(K w.params).In h)
  (F:∀(w:World) (mg:Str->Option Value) (I:Addr) (h:Heap),(K w.params).In h->h.Ns mainGlobals mg->mg d.name=some (.ref I) ->
   ∃fd:FuncData,(∀(s:Shared) (u:Value),BindsTo s fd ⟨[u],[]⟩ [("_law_script",u)])/\∀base:Heap,(K w.params).In base->base.Ns mainGlobals mg->bf l.prog w (K w.params) mg base aU 12 I fd ["_law_script"] (rh (K w.params))) :
  PySem.W.WalkO q loose R G l.row.toRowW d [] (λf vs=>PySem.call f vs):=
 L2.BP (n:=63) (k:=12) (x := "_law_script") (CX:=λ_=>aU) (sp:=λw=>rh (K w.params)) S av L ⟨rfl,av,av⟩ J F (λ_ _ a ns N _ O=>⟨a,ns,rfl,O,N,λ_=>rfl⟩) λ_ _ _ _ _ z=>z
end Lw
open PySem PySem.W PyProof.Rows
theorem PySem.Challenge.cw_ownroom_k15_owners_counted_holds : PySem.Challenge.rw_ownroom_k15_owners_counted.Holds := by
 refine Hd.top ⟨Hd.AU (H:=boot_heap) (T:=Hd.Co) (life:={}) (m:=11) (M:=100000) (gs:=Array.mk []) (d:=boot_drawn) (k:=boot_toks) (an:=some (.ref 6)) (boot_open (by kernel_rfl) av (λs=>by kernel_rfl)) (λP=>by kernel_rfl) (λw=>by kernel_rfl) av (λw os=>Hd.run_ w os),?_⟩
 k_fill
 refine Lw.walk (l:=PySem.Challenge.rw_ownroom_k15_owners_counted) rfl rfl (λw h Y=>PySem.W.kIn_of Y) ?F
 case F =>
  intro w mg fa h KX G hmg;apply Lw.all_mk KX G hmg
  all_goals first
   |(apply Lw.MI.of<;>first|k_is|(first|exact λ_ _ _ _ _ _ _=>rfl|exact λ_ _ _ _ _ _ _ _=>rfl|exact λ_ _ _ _ _ _ _ _ _=>rfl|exact λ_ _ _ _ _ _ _ _ _ _=>rfl|exact λ_ _ _ _ _ _ _ _ _ _ _=>rfl))
   |(apply Lw.DI.of<;>first|k_is|(first|exact λ_ _ _ _ _ _ _=>rfl|exact λ_ _ _ _ _ _ _ _=>rfl|exact λ_ _ _ _ _ _ _ _ _=>rfl|exact λ_ _ _ _ _ _ _ _ _ _=>rfl|exact λ_ _ _ _ _ _ _ _ _ _ _=>rfl))
   |(apply Lw.CI.mk;k_is;(constructor<;>k_is);k_is;k_is)
   |(unfold Lw.NI;repeat' first|apply And.intro|exact trivial|k_is|unfold Lw.NI)
   |(unfold Lw.AI;repeat' first|apply And.intro|exact trivial|k_is|unfold Lw.AI)
   |k_is|k_exc|rfl|exact .cons ⟨_,rfl⟩ .nil|exact le_refl 1
