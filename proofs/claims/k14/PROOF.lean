import PyProof.Rows.All
import Wide.All
import OpenK.AllK
import Wide.FinOn
import Lean
import PyProof.EqAt
import PyProof.EqKinds
import PyProof.TupleCall
import PySem.Challenge.RW_ownroom_k14_shared_and_alone
inductive xy {α β:Type}(p:α->β->Prop):Prop
 |mk (x0:α) (x1:β) (_:p x0 x1):xy p
inductive Eh {α β γ:Type}(p:α->β->γ->Prop):Prop
 |mk (x0:α) (x1:β) (x2:γ) (_:p x0 x1 x2):Eh p
inductive Fz {α β γ δ:Type}(p:α->β->γ->δ->Prop):Prop
 |mk (x0:α) (x1:β) (x2:γ) (x3:δ) (_:p x0 x1 x2 x3):Fz p
inductive zX {α β γ δ ε:Type}(p:α->β->γ->δ->ε->Prop):Prop
 |mk (x0:α) (x1:β) (x2:γ) (x3:δ) (x4:ε) (_:p x0 x1 x2 x3 x4):zX p
inductive Eg {α β γ δ ε ζ:Type}(p:α->β->γ->δ->ε->ζ->Prop):Prop
 |mk (x0:α) (x1:β) (x2:γ) (x3:δ) (x4:ε) (x5:ζ) (_:p x0 x1 x2 x3 x4 x5):Eg p
inductive qF (A0 A1 A2:Prop):Prop
 |mk (_:A0) (_:A1) (_:A2):qF A0 A1 A2
inductive DH (A0 A1 A2 A3:Prop):Prop
 |mk (_:A0) (_:A1) (_:A2) (_:A3):DH A0 A1 A2 A3
inductive Ca (A0 A1 A2 A3 A4:Prop):Prop
 |mk (_:A0) (_:A1) (_:A2) (_:A3) (_:A4):Ca A0 A1 A2 A3 A4
inductive wo (A0 A1 A2 A3 A4 A5:Prop):Prop
 |mk (_:A0) (_:A1) (_:A2) (_:A3) (_:A4) (_:A5):wo A0 A1 A2 A3 A4 A5
inductive FA (A0 A1 A2 A3 A4 A5 A6:Prop):Prop
 |mk (_:A0) (_:A1) (_:A2) (_:A3) (_:A4) (_:A5) (_:A6):FA A0 A1 A2 A3 A4 A5 A6
inductive Fs (A0 A1 A2 A3 A4 A5 A6 A7:Prop):Prop
 |mk (_:A0) (_:A1) (_:A2) (_:A3) (_:A4) (_:A5) (_:A6) (_:A7):Fs A0 A1 A2 A3 A4 A5 A6 A7
inductive E3 (A0 A1 A2 A3 A4 A5 A6 A7 A8 A9 A10:Prop):Prop
 |mk (_:A0) (_:A1) (_:A2) (_:A3) (_:A4) (_:A5) (_:A6) (_:A7) (_:A8) (_:A9) (_:A10):E3 A0 A1 A2 A3 A4 A5 A6 A7 A8 A9 A10
inductive Er (A0 A1 A2 A3 A4 A5 A6 A7 A8 A9 A10 A11 A12:Prop):Prop
 |mk (_:A0) (_:A1) (_:A2) (_:A3) (_:A4) (_:A5) (_:A6) (_:A7) (_:A8) (_:A9) (_:A10) (_:A11) (_:A12):Er A0 A1 A2 A3 A4 A5 A6 A7 A8 A9 A10 A11 A12
set_option Elab.async false
set_option linter.all false
set_option tactic.hygienic false
set_option maxRecDepth 100000
set_option maxHeartbeats 0
local macro_rules | `(tactic| omega) => `(tactic| lia)
theorem ao {p:Prop}(h:p:=by decide +kernel):p:=h
theorem av {p:Prop}(h:p:=by decide):p:=h
theorem af {p:Prop}(h:p:=by omega):p:=h
open PySem.W (instObj methodObj lookIn plainGet hasDictIn findIn handedIn plainGet_of isFn plainOver takerIn makesIn emptyDict keepIn kitOne kia_one kitx_list kitx_tuple kitx_dict callWith_K callWith_K0 fnOf codeIn KdlSrc kdl_dict nsIn mg_of mg_none_of)
open PySem.F (slot_dict_get entry_dict_get plainAttrs_dict plainAttrs_list slot_list_remove slot_list_extend type_list_extend)
open List (mem_cons_self mem_cons_of_mem mem_append_left getElem?_set_self getElem?_set_ne mem_append_right length_cons map_cons length_map append_nil of_mem_zip replicate length_take getElem?_map take_sublist mem_of_getElem? length_append length_replicate size_toArray length_drop map_nil length_set all_cons any_cons replicate_succ flatten_cons foldl append_assoc length_singleton getElem_mem find?_cons length_nil filter_cons nodup_nil getElem?_eq_getElem drop_sublist take_append_drop pairwise_append perm_append_comm getElem_take drop_eq_getElem_cons take_of_length_le reverse_append take_zero map_map mem_cons not_mem_nil mem_singleton length_range map_set map_append filter_eq_self map_congr_left take_length map_take range_succ sum_cons getElem_of_mem count_cons_self filter take_add_one mem_map)
open Nat (lt_of_lt_of_le lt_irrefl ne_of_lt le_trans le_of_lt ne_of_gt le_refl zero_le le_succ lt_succ_of_lt min_eq_left zero_add min_eq_right)
open Int (toNat_natCast emod_nonneg toNat emod_lt_of_pos)
open Option (getD_none map_some isSome_map getD_some bind_some isNone)
open Array (length_toList toList getElem?_toList toList_push toList_extract toList_append size_push toList_reverse)
open PySem
namespace L2
open PySem PySem.Spec PyProof.Rows
noncomputable abbrev Key:=Sum Int Str
noncomputable def lN:Key->Value->Bool
 |.inl k,v=>Value.isInt k v
 |.inr x,v=>Value.isStrOf x v
noncomputable def GB (w:World):Key->Int
 |.inl k=>hashInt k
 |.inr x=>hashStr w x
theorem cm:∀{k:Key}{v:Value},lN k v=true->(∃i t,k=Sum.inl i/\v=Value.int i t)\/(∃x t,k=Sum.inr x/\v=Value.str x t)
 |.inl i,v,h=>by
  obtain⟨t,e⟩:=Value.isInt_shape (k:=i) (v:=v) h;exact .inl ⟨i,t,rfl,e⟩
 |.inr x,v,h=>by
  obtain⟨t,e⟩:=Value.isStrOf_shape (x:=x) (v:=v) h;exact .inr ⟨x,t,rfl,e⟩
theorem wX (i:Int) (t:Tok):lN (.inl i) (.int i t)=true:=by simp[lN,Value.isInt]
theorem wz (x:Str) (t:Tok):lN (.inr x) (.str x t)=true:=by simp[lN,Value.isStrOf]
theorem Dh (a b:Int):decide ((Sum.inl a:Key)=Sum.inl b)=(a==b):=by
 by_cases e:a=b
 .subst e;simp
 .have h:¬ (Sum.inl a:Key)=Sum.inl b:=λq=>e (Sum.inl.inj q);rw[decide_eq_false h];exact(beq_eq_false_iff_ne.mpr e).symm
theorem BM (a b:Str):decide ((Sum.inr a:Key)=Sum.inr b)=decide (a=b):=by
 by_cases e:a=b
 .subst e;simp
 .have h:¬ (Sum.inr a:Key)=Sum.inr b:=λq=>e (Sum.inr.inj q);rw[decide_eq_false h,decide_eq_false e]
theorem Cr (a:Int) (b:Str):decide ((Sum.inl a:Key)=Sum.inr b)=false:=decide_eq_false (λq=>nomatch q)
theorem C2 (a:Str) (b:Int):decide ((Sum.inr a:Key)=Sum.inl b)=false:=decide_eq_false (λq=>nomatch q)
noncomputable def br (prog:Program) (w:World):PySem.KeyKind prog w Key where
 is:=lN
 hash:=GB w
 inj:=λv a b L I=>by
  rcases cm L with⟨i,t,rfl,rfl⟩|⟨x,t,rfl,rfl⟩
  .rcases cm I with⟨j,u,rfl,e⟩|⟨y,u,rfl,e⟩
   .injection e with F _;rw[F]
   .exact nomatch e
  .rcases cm I with⟨j,u,rfl,e⟩|⟨y,u,rfl,e⟩
   .exact nomatch e
   .injection e with F _;rw[F]
 byValue:=λk v h=>by
  rcases cm h with⟨i,t,rfl,rfl⟩|⟨x,t,rfl,rfl⟩<;>rfl
 pyHash:=λG h=>by
  rcases cm G with⟨i,t,rfl,rfl⟩|⟨x,t,rfl,rfl⟩
  .exact wpAny_pyHash_int h
  .exact wpAny_pyHash_str h
 eqBool:=λJ G h=>by
  rcases cm J with⟨i,t,rfl,rfl⟩|⟨x,t,rfl,rfl⟩
  .rcases cm G with⟨j,u,rfl,rfl⟩|⟨y,u,rfl,rfl⟩
   .rw[Dh]at h;exact wpAny_eqBool_int h
   .rw[Cr]at h;exact SeqAt.EqAt.int_str i t y u _ _ _ _ h
  .rcases cm G with⟨j,u,rfl,rfl⟩|⟨y,u,rfl,rfl⟩
   .rw[C2]at h;exact SeqAt.EqAt.str_int x t j u _ _ _ _ h
   .rw[BM]at h;exact wpAny_eqBool_str h
 «strs» := λk x t v h=>by
  rcases cm h with⟨i,u,rfl,e⟩|⟨y,u,rfl,e⟩
  .exact nomatch e
  .injection e with F _;subst F;cases v<;>rfl
theorem rO (prog:Program) (w:World) (i:Int) (t:Tok):(br prog w).is (.inl i) (.int i t)=true:=wX i t
theorem rG (prog:Program) (w:World) (x:Str) (t:Tok):(br prog w).is (.inr x) (.str x t)=true:=wz x t
inductive V where
 |non|bl (b:Bool)|int (i:Int)|str (x:Str)|byt (b:Array UInt8)|flt (b:UInt64)|ref (a:Addr)|ty (n:String)
 deriving DecidableEq
noncomputable def RelV:V->Value->Prop
 |.non,u=>u=Value.none
 |.bl b,u=>u=Value.bool b
 |.int i,u=>∃t,u=Value.int i t
 |.str x,u=>∃t,u=Value.str x t
 |.byt b,u=>∃t,u=Value.bytes b t
 |.flt b,u=>∃t,u=Value.float b t
 |.ref a,u=>u=Value.ref a
 |.ty n,u=>u=Value.type n
noncomputable abbrev Vals:List V->List Value->Prop:=Paired RelV
theorem Vals.length {xs:List V}{us:List Value}(r:Vals xs us):xs.length=us.length:=Paired.length r
theorem Vals.get:∀{xs:List V}{us:List Value}{i:Nat}{x:V},Vals xs us->xs[i]?=some x->∃u,us[i]?=some u/\RelV x u
 |_,_,_,_,.nil,e=>by simp at e
 |_,_,0,_,.cons r _,e=>by simp at e;subst e;exact⟨_,rfl,r⟩
 |_,_,i+1,x,.cons _ t,e=>by
  obtain⟨u,h1,h2⟩:=Vals.get (i:=i) (x:=x) t (by simpa using e);exact⟨u,by simpa using h1,h2⟩
theorem Vals.set {x:V}{u:Value}(r:RelV x u):∀{xs:List V}{us:List Value}(i:Nat),Vals xs us->Vals (xs.set i x) (us.set i u)
 |_,_,_,.nil=>.nil
 |_,_,0,.cons _ t=>.cons r t
 |_,_,i+1,.cons q t=>.cons q (Vals.set r i t)
theorem Vals.append:∀{xs ys:List V}{us ws:List Value},Vals xs us->Vals ys ws->Vals (xs++ys) (us++ws)
 |_,_,_,_,.nil,s=>s
 |_,_,_,_,.cons r t,s=>.cons r (Vals.append t s)
theorem Vals.take:∀{xs:List V}{us:List Value}(n:Nat),Vals xs us->Vals (xs.take n) (us.take n)
 |_,_,0,_=>.nil
 |_,_,_+1,.nil=>.nil
 |_,_,n+1,.cons r t=>.cons r (Vals.take n t)
theorem Vals.drop:∀{xs:List V}{us:List Value}(n:Nat),Vals xs us->Vals (xs.drop n) (us.drop n)
 |_,_,0,r=>r
 |_,_,_+1,.nil=>.nil
 |_,_,n+1,.cons _ t=>Vals.drop n t
noncomputable def fm:Option V->Option Value->Prop
 |some v,some u=>RelV v u
 |none,none=>True
 |_,_=>False
noncomputable def KV {κ:Type}:List (κ×V)->List (κ×Value)->Prop:=Paired λ(p:κ×V) (q:κ×Value)=>p.1=q.1/\RelV p.2 q.2
noncomputable def kV:Key->V
 |.inl i=>.int i
 |.inr x=>.str x
inductive HO where
  |lst (xs:List V)
  |tup (xs:List V)
  |dK (kvs:List (Key×V))|dT (kvs:List (List Key×V))
  |set (S:Int->Bool) (n:Nat)
  |ins (C dx:Addr) (fs:List (Str×V))
  |own (x:Addr)
  |xd (fs:List (Str×V))
  |met (f x:Addr)
  |rng (lo hi:Int)
  |frz (o:Obj) (u:HO)
  |tbl (ps:Array Value)
  |ext (φ:Heap->Prop)
noncomputable abbrev Hp:=Addr->Option HO
noncomputable def upd (H:Hp) (a:Addr) (o:HO):Hp:=λb=>if b=a then some o else H b
theorem ae {H:Hp}{a:Addr}{o:HO}:upd H a o a=some o:=by unfold upd;rw[if_pos rfl]
theorem ah {H:Hp}{a b:Addr}{o:HO}(h:b≠a):upd H a o b=H b:=by unfold upd;rw[if_neg h]
theorem cH {H:Hp}{a b:Addr}{o u:HO}(h:H a=some o) (h':H b=some u) (d:o≠u):a≠b:=by
 intro e;subst e;rw[h]at h';exact d (Option.some.inj h')
theorem aq {H:Hp}{a b:Addr}{o:HO}(h:H a=some o) (h':H b=none):a≠b:=by
 intro e;subst e;rw[h]at h';cases h'
section
variable (P:Program) (w:World)
noncomputable def bT (H:Hp) (h:Heap) (a:Addr):HO->Prop
 |.lst xs=>xs.length<=sizeLine/\∃(its:List Value) (n:Nat),Vals xs its/\h.get? a=some { cls:=.type "list",data:=.seq its.toArray n }
 |.tup xs=>xs.length<=sizeLine/\∃its:List Value,Vals xs its/\IsTup h a its.toArray
 |.dK kvs=>kvs.length<=sizeLine/\(a==sysModules)=false/\∃vs,KV kvs vs/\h.DictOf (br P w) a vs
 |.dT kvs=>kvs.length<=sizeLine/\(a==sysModules)=false/\∃xs:List (List Key×Addr×Value),
   Paired (λ(p:List Key×V) (q:List Key×Addr×Value)=>p.1=q.1/\H q.2.1=some (.tup (p.1.map kV))/\RelV p.2 q.2.2) kvs xs /\
   ∃o es ep,h.get? a=some o/\o.ExactDict/\o.data=.dict es ep/\es.toList=xs.map (entryOfKey (tupleKind (br P w)))/\(xs.map (·.1)).Nodup
 |.set S n=>h.SetOf (intKind P w) a S n
 |.ins C dx fs=>H dx=some (.own a)/\fs.length<=1000/\dx≠a/\h.get? a=some (instObj C dx) /\
   ∃mA,h.Ns1 dx mA/\(∀f,fm (fs.lookup f) (mA f))/\PySem.Within mA (fs.map (·.1))
 |.own _=>∃o,h.get? a=some o
 |.xd fs=>∃mA,h.Ns1 a mA/\∀f,fm (fs.lookup f) (mA f)
 |.rng lo hi=>∃t u v,h.get? a=some { cls:=.type "range",data:=.fields #[.int lo t,.int hi u,.int 1 v] }
 |.frz o u=>h.get? a=some o/\bT H h a u
 |.tbl ps=>h.get? a=some { cls:=.none,data:=.fields ps }
 |.met f x=>h.get? a=some (methodObj (.ref f) (.ref x))
 |.ext F=>F h/\(∃o,h.get? a=some o)/\∀h1 h2:Heap, F h1->(∀o,h1.get? a=some o->h2.get? a=some o)->F h2
noncomputable def iT (H:Hp) (h:Heap):Prop:=∀a o,H a=some o->bT P w H h a o
end
section
variable {P:Program}{w:World}{H H':Hp}{h h':Heap}{a:Addr}{o:HO}
theorem bT.lt (x:bT P w H h a o):a<h.objs.size:=by
 cases o with
 |lst xs=>obtain⟨_,_,_,_,e⟩:=x;exact Heap.lt_size e
 |tup xs=>obtain⟨_,_,_,p⟩:=x;exact p.lt
 |dK kvs=>obtain⟨_,_,_,_,o,_,_,e,_⟩:=x;exact Heap.lt_size e
 |dT kvs=>obtain⟨_,_,_,_,o,_,_,e,_⟩:=x;exact Heap.lt_size e
 |set S n=>obtain⟨o,_,_,_,e,_⟩:=x;exact Heap.lt_size e
 |ins C dx fs=>obtain⟨_,_,_,e,_⟩:=x;exact Heap.lt_size e
 |own y=>obtain⟨_,e⟩:=x;exact Heap.lt_size e
 |xd fs=>obtain⟨_,⟨_,_,_,e,_⟩,_⟩:=x;exact Heap.lt_size e
 |rng lo hi=>obtain⟨_,_,_,e⟩:=x;exact Heap.lt_size e
 |frz F u=>obtain⟨e,_⟩:=x;exact Heap.lt_size e
 |tbl ps=>exact Heap.lt_size (show h.get? a=some _ from x)
 |met f y=>exact Heap.lt_size (show h.get? a=some _ from x)
 |ext G=>obtain⟨_,⟨_,e⟩,_⟩:=x;exact Heap.lt_size e
theorem Paired.yW {α I:Type}{F G:α->I->Prop}:∀{l₁:List α}{l₂:List I},Paired F l₁ l₂->(∀a b,F a b->G a b)->Paired G l₁ l₂
 |_,_,.nil,_=>.nil
 |_,_,.cons r t,f=>.cons (f _ _ r) (Paired.yW t f)
theorem bT.p9 (x:bT P w H h a o) (k:∀b u,(b=a\/H b=some (.own a))->h.get? b=some u->h'.get? b=some u)
  (L:∀b,H b=some (.own a)->H' b=some (.own a)) (N:∀b xs,H b=some (.tup xs)->H' b=some (.tup xs)):bT P w H' h' a o:=by
 induction o with
 |lst xs=>obtain⟨z,its,n,r,e⟩:=x;exact⟨z,its,n,r,k _ _ (.inl rfl) e⟩
 |tup xs=>obtain⟨z,its,r,F,e,c⟩:=x;exact⟨z,its,r,F,k _ _ (.inl rfl) e,c⟩
 |dK kvs=>obtain⟨z,y,vs,r,F,es,ep,e,c⟩:=x;exact⟨z,y,vs,r,F,es,ep,k _ _ (.inl rfl) e,c⟩
 |dT kvs =>
  obtain⟨z,y,xs,r,F,es,ep,e,c⟩:=x;exact⟨z,y,xs,Paired.yW r λp q z=>⟨z.1,N _ _ z.2.1,z.2.2⟩,F,es,ep,k _ _ (.inl rfl) e,c⟩
 |set S n=>obtain⟨F,es,ep,t,e,c⟩:=x;exact⟨F,es,ep,t,k _ _ (.inl rfl) e,c⟩
 |ins C dx fs =>
  obtain⟨d,z,J,e,mA,⟨od,es,ep,G,c⟩,r⟩:=x;exact⟨L _ d,z,J,k _ _ (.inl rfl) e,mA,⟨od,es,ep,k _ _ (.inr d) G,c⟩,r⟩
 |own y=>obtain⟨F,e⟩:=x;exact⟨F,k _ _ (.inl rfl) e⟩
 |xd fs=>obtain⟨mA,⟨od,es,ep,e,c⟩,r⟩:=x;exact⟨mA,⟨od,es,ep,k _ _ (.inl rfl) e,c⟩,r⟩
 |rng lo hi=>obtain⟨t,u,v,e⟩:=x;exact⟨t,u,v,k _ _ (.inl rfl) e⟩
 |frz F u I=>obtain⟨e,q⟩:=x;exact⟨k _ _ (.inl rfl) e,I q⟩
 |tbl ps =>
  have e:h.get? a=some { cls:=.none,data:=.fields ps }:=x;show h'.get? a=some { cls:=.none,data:=.fields ps };exact k a _ (.inl rfl) e
 |met f y =>
  have e:h.get? a=some (methodObj (.ref f) (.ref y)):=x;show h'.get? a=some (methodObj (.ref f) (.ref y));exact k a _ (.inl rfl) e
 |ext O=>obtain⟨p,⟨o,e⟩,st⟩:=x;exact⟨st _ _ p λo q=>k _ _ (.inl rfl) q,⟨o,k _ _ (.inl rfl) e⟩,st⟩
theorem iT.lt (x:iT P w H h) (e:H a=some o):a<h.objs.size:=(x a o e).lt
theorem iT.fresh (x:iT P w H h) (e:h.objs.size<=a):H a=none:=by
 cases q:H a with
 |none=>rfl
 |some u=>exact absurd (lt_of_lt_of_le (x.lt q) e) (lt_irrefl _)
theorem iT.kept (x:iT P w H h) (k:∀b u,h.get? b=some u->h'.get? b=some u):iT P w H h':=λa o e =>
 (x a o e).p9 (λb u _ q=>k b u q) (λ_ q=>q) λ_ _ q=>q
theorem iT.laid (x:iT P w H h) (k:∀b u,h.get? b=some u->h'.get? b=some u) (I:h.objs.size<=a) (new:bT P w (upd H a o) h' a o):iT P w (upd H a o) h':=λb u e=>by
 have F:=x.fresh I;by_cases G:b=a
 .subst G;rw[ae]at e;cases e;exact new
 .rw[ah G]at e;exact(x b u e).p9 (λc v _ q=>k c v q) (λc q=>by rw[ah (aq q F)];exact q) λc xs q=>by rw[ah (aq q F)];exact q
end
noncomputable def Rd (H:Hp) (a:Addr) (u:HO):Prop:=H a=some u\/∃o,H a=some (.frz o u)
theorem Rd.ok {P:Program}{w:World}{H:Hp}{h:Heap}{a:Addr}{u:HO}(r:Rd H a u) (x:iT P w H h):bT P w H h a u:=by
 rcases r with r|⟨o,r⟩
 .exact x a u r
 .obtain⟨_,q⟩:=x a _ r;exact q
noncomputable def Ef:Option HO->Prop
 |some (.lst _)=>True
 |some (.dK _)=>True
 |some (.dT _)=>True
 |some (.set _ _)=>True
 |some (.ins _ _ _)=>True
 |some (.ext _)=>True
 |_=>False
section
variable {P:Program}{w:World}{H:Hp}{h h':Heap}{x e:Addr}{o':HO}
theorem iT.write (ok:iT P w H h) (G:Ef (H x)) (N:e=x\/H e=some (.own x)) (k:∀b u,b≠e->h.get? b=some u->h'.get? b=some u) (R:∃u,h'.get? e=some u)
  (new:bT P w (upd H x o') h' x o'):iT P w (upd H x o') h':=λb u q=>by
 have L:∀c y,H c=some (.own y)->c≠x:=λc y r z=>(by subst z;rw[r]at G;exact G);have O:∀c xs,H c=some (.tup xs)->c≠x:=λc xs r z=>(by subst z;rw[r]at G;exact G);by_cases I:b=x
 .subst I;rw[ae]at q;cases q;exact new
 .rw[ah I]at q;by_cases J:b=e
  .have q':H b=some (.own x):=by
    rcases N with z|z
    .exact absurd (J.trans z) I
    .rw[J];exact z
   rw[q]at q';cases q';obtain⟨v,S⟩:=R;exact⟨v,by rw[J];exact S⟩
  .refine(ok b u q).p9 (λc v F r=>k c v ?_ r) (λc r=>by rw[ah (L c b r)];exact r) λc xs r=>(by rw[ah (O c xs r)];exact r);rcases F with rfl|F
   .exact J
   .rintro rfl;rcases N with z|z
    .exact L c b F z
    .rw[F]at z;cases z;exact I rfl
end
structure Un (fs ex:List Addr) (H H':Hp) (h h':Heap):Prop where
 keep:∀b o,h.get? b=some o->H b=none->b∉fs->b∉ex->h'.get? b=some o
 slot:∀b o,h.get? b=some o->H b=none->b∈fs->b∉ex->∃sl,h'.get? b=some { o with slots:=sl }
 free:∀b o,h.get? b=some o->H b=none->b∉ex->H' b=none
 there:∀b o,h.get? b=some o->b∉ex->∃o',h'.get? b=some o'
 qe:∀b xs,H b=some (.tup xs)->H' b=some (.tup xs)
 mR:∀b o u,H b=some (.frz o u)->H' b=some (.frz o u)
 p8:∀b ps,H b=some (.tbl ps)->∃more,H' b=some (.tbl (ps++more))
section
variable {fs fs' ex ex':List Addr}{H H1 H2:Hp}{h h1 h2 h':Heap}{a x e:Addr}{o:HO}
theorem Un.any (u:Un fs ex H H1 h h1) {b:Addr}{F:Obj}(q:h.get? b=some F) (n:H b=none) (I:b∉ex):∃sl,h1.get? b=some { F with slots:=sl }:=by
 by_cases G:b∈fs
 .exact u.slot b F q n G I
 .exact⟨F.slots,u.keep b F q n G I⟩
theorem Un.kept (k:∀b u,h.get? b=some u->h'.get? b=some u):Un fs ex H H h h' :=
 ⟨λb F q _ _ _=>k b F q,λb F q _ _ _=>⟨F.slots,k b F q⟩,λ_ _ _ n _=>n,λb F q _=>⟨F,k b F q⟩,λ_ _ q=>q,λ_ _ _ q=>q,λ_ ps q=>⟨#[],by rw[q];simp⟩⟩
theorem Un.refl:Un fs ex H H h h:=Un.kept λ_ _ q=>q
theorem Un.laid (k:∀b u,h.get? b=some u->h'.get? b=some u) (G:h.objs.size<=a) (F:H a=none):Un fs ex H (upd H a o) h h' where
 keep:=λb u q _ _ _=>k b u q
 slot:=λb u q _ _ _=>⟨u.slots,k b u q⟩
 free:=λb u q n _=>by rw[ah (ne_of_lt (lt_of_lt_of_le (Heap.lt_size q) G))];exact n
 there:=λb u q _=>⟨u,k b u q⟩
 qe:=λb xs q=>by rw[ah (aq q F)];exact q
 mR:=λb u xs q=>by rw[ah (aq q F)];exact q
 p8:=λb ps q=>⟨#[],by rw[ah (aq q F),q];simp⟩
theorem Un.write (F:Ef (H x)) (O:e=x\/H e=some (.own x)) (k:∀b u,b≠e->h.get? b=some u->h'.get? b=some u) (N:∃u,h'.get? e=some u):Un fs ex H (upd H x o) h h':=by
 have J:∀b,H b=none->b≠x:=λb n z=>(by subst z;rw[n]at F;exact F);have L:∀b,H b=none->b≠e:=λb n z=>by
  subst z;rcases O with r|r
  .exact J b n r
  .rw[n]at r;cases r
 have G:∀b u,H b=some u->¬ Ef (some u)->b≠x:=λb u q nm z=>(by subst z;rw[q]at F;exact nm F);refine⟨λb u q n _ _=>k b u (L b n) q,λb u q n _ _=>⟨u.slots,k b u (L b n) q⟩,λb u q n _=>by rw[ah (J b n)];exact n,λb u q _=>?_,
  λb xs q=>by rw[ah (G b _ q λz=>z)];exact q,λb u xs q=>by rw[ah (G b _ q λz=>z)];exact q,λb ps q=>⟨#[],by rw[ah (G b _ q λz=>z),q];simp⟩⟩
 by_cases I:b=e
 .subst I;exact N
 .exact⟨u,k b u I q⟩
end
noncomputable def Fq (h:Heap) (H:Hp):List Addr:=(List.range h.objs.size).filter λa=>(H a).isSome
noncomputable def p7 (h:Heap) (H:Hp):Heap:=PySem.W.hideAll h (Fq h H)
theorem xn (h:Heap) (H:Hp):(p7 h H).objs.size=h.objs.size:=PySem.W.hideAll_size _ _
theorem x8 {h:Heap}{H:Hp}{b:Addr}{o:Obj}(e:h.get? b=some o) (n:H b=none):(p7 h H).get? b=some o :=
 PySem.W.hideAll_get _ e λF=>by
  have q:(H b).isSome=true:=(List.mem_filter.mp F).2;rw[n]at q;simp at q
theorem An {h:Heap}{H:Hp}{b:Addr}{o:Obj}(e:(p7 h H).get? b=some o):h.get? b=some o/\H b=none:=by
 have F:h.get? b=some o:=PySem.W.of_hideAll (Fq h H) e;refine⟨F,?_⟩;cases q:H b with
 |none=>rfl
 |some x =>
  have G:b∈Fq h H:=List.mem_filter.mpr ⟨List.mem_range.mpr (Heap.lt_size F),by simp[q]⟩;have z:(p7 h H).get? b=none:=PySem.W.hideAll_none (Fq h H) G;rw[z]at e;cases e
structure Mod (K:PySem.W.Frag) (mg:Str->Option Value) (base:Heap):Prop where
 DY:K.In base
 glob:base.Ns mainGlobals mg
 blt:∃mb,base.Ns builtinsNs mb/\∀x:Str,x ≠ "__name__" -> mb x=bootBuiltins x
 nolimit:base.NoLimit
structure Cx where
 prog:Program
 w:World
 K:PySem.W.Frag
 mg:Str->Option Value
 base:Heap
 A:Around
 N:List Str
 s₀:Shared
 H₀:Hp
 env:Env
 outer:List Env
 stack:List Env
 ex:List Addr
 fn:Str->Bool
 calm:Bool
 pn:List (Addr×Obj)
 xe:Value->Shared->Prop
noncomputable def xu (l:List Env):List Addr:=l.filterMap (·.frame)
noncomputable abbrev Cx.fs (X:Cx):List Addr:=xu X.outer
noncomputable def FI (F:Scope) (x:Str):Prop:=F.names.lookup x=some .local\/F.names.lookup x=some .cell\/F.names.lookup x=some .free
noncomputable def Loc (F:Scope) (x:Str):Prop:=F.names.lookup x=some .local\/F.names.lookup x=some .cell
noncomputable def Look (env:Env) (h:Heap) (m:Str->Option Value) (x:Str) (u:Value):Prop :=
 (env.kindOf x=some .local/\m x=some u)\/((env.kindOf x=some .cell\/env.kindOf x=some .free)/\∃c,env.cells.lookup x=some c/\h.IsCell c (some u))
structure Cx.Ok (X:Cx):Prop where
 mod:Mod X.K X.mg X.base
 kind:X.env.scope.kind=.function
 glob:X.env.globals=mainGlobals
 blt:X.env.builtins=builtinsNs
 above:X.s₀.heap.objs.size<=X.env.locals
 inj:∀x y c,X.env.cells.lookup x=some c->X.env.cells.lookup y=some c->x=y
 has:∀x,(X.env.kindOf x=some .cell\/X.env.kindOf x=some .free)->∃c,X.env.cells.lookup x=some c
 DJ:∀x c,X.fn x=true->X.env.cells.lookup x=some c->X.s₀.heap.objs.size<=c
 hd:X.calm=true->X.A.handled=none
 frames:X.A.frames=some X.stack
 Ei:X.stack=X.outer\/(X.stack=X.env::X.outer/\X.env.frame=some X.env.locals)
 Gp:∀b∈X.ex,b≠X.env.locals/\∀x c,X.env.cells.lookup x=some c->c≠b
 bs:∀b o,X.base.get? b=some o->X.s₀.heap.get? b=some o/\X.H₀ b=none
 zV:X.base.objs.size<=X.s₀.heap.objs.size
 wk:∀b o,X.base.get? b=some o->b∉X.ex
 xr:∀b∈X.ex,b∉X.fs
 jK:X.s₀.heap.FunFrames X.base X.outer
 Bv:∀b∈X.fs,X.H₀ b=none
structure Inv (X:Cx) (pins:List (Addr×Obj)) (σ:List (Option V)) (H:Hp) (s:Shared):Prop where
 ok:X.Ok
 os:s.os=X.s₀.os
 bare:AllBare s.gens
 base:Un X.fs X.ex X.H₀ H X.s₀.heap s.heap
 loc:∃m,s.heap.Ns X.env.locals m/\∀(i:Nat) (x:Str) (v:V),X.N[i]?=some x->σ[i]?=some (some v)->FI X.env.scope x->∃u,RelV v u/\Look X.env s.heap m x u
 cell:∀x c,X.env.cells.lookup x=some c->∃v,s.heap.IsCell c v
 free:H X.env.locals=none
 gy:∀x c,X.env.cells.lookup x=some c->H c=none
 pin:∀p∈X.pn++pins,s.heap.get? p.1=some p.2/\H p.1=none/\p.1≠X.env.locals/\p.1∉X.fs/\∀v,p.2.data≠.cell v
 bJ:iT X.prog X.w H s.heap
 len:σ.length=X.N.length
section
variable {X:Cx}{pins:List (Addr×Obj)}{σ:List (Option V)}{H H':Hp}{s:Shared}{h':Heap}
theorem Cx.Ok.Gx (ok:X.Ok) {b:Addr}{o:Obj}(e:X.base.get? b=some o):b∉X.fs:=λF=>by
 have:=(ok.jK.mem F).1;rw[e]at this;cases this
theorem Inv.bs (I:Inv X pins σ H s):∀b o,X.base.get? b=some o->s.heap.get? b=some o/\H b=none:=λb o e =>
 ⟨I.base.keep b o (I.ok.bs b o e).1 (I.ok.bs b o e).2 (I.ok.Gx e) (I.ok.wk b o e),I.base.free b o (I.ok.bs b o e).1 (I.ok.bs b o e).2 (I.ok.wk b o e)⟩
theorem Inv.bk (I:Inv X pins σ H s):∀b o,X.base.get? b=some o->s.heap.get? b=some o:=λb o e=>(I.bs b o e).1
theorem Inv.mod (I:Inv X pins σ H s):Mod X.K X.mg X.base:=I.ok.mod
theorem Inv.jV (I:Inv X pins σ H s):X.K.In s.heap:=I.ok.mod.DY.keeps I.bk
theorem Inv.lt (I:Inv X pins σ H s):X.env.locals<s.heap.objs.size:=let ⟨_,F,_⟩:=I.loc;F.lt
theorem Inv.sz (I:Inv X pins σ H s):X.s₀.heap.objs.size<=s.heap.objs.size:=le_trans I.ok.above (le_of_lt I.lt)
theorem Inv.Es (I:Inv X pins σ H s) {a:Addr}(h:s.heap.objs.size<=a):a∉X.fs:=λG=>by
 obtain⟨_,o,F,_⟩:=I.ok.jK.mem G;exact absurd (lt_of_lt_of_le (Heap.lt_size F) (le_trans I.sz h)) (lt_irrefl _)
theorem Inv.Dl (I:Inv X pins σ H s):∀x c,X.env.cells.lookup x=some c->c≠X.env.locals:=λx c e z=>by
 obtain⟨v,o,F,hd⟩:=I.cell x c e;obtain⟨m,⟨o',es,ep,J,G,_⟩,_⟩:=I.loc;rw[z,J]at F;cases F;rw[G]at hd;cases hd
theorem Inv.jK (I:Inv X pins σ H s):s.heap.FunFrames X.base X.outer:=by
 have all:∀(l:List Env),(∀b∈xu l,b∈X.fs)->X.s₀.heap.FunFrames X.base l->s.heap.FunFrames X.base l:=by
  intro l
  induction l with
  |nil=>intro _ _;trivial
  |cons env r O =>
   intro hs Y;obtain⟨S,⟨L,o,F,U,R,hd⟩,N⟩:=Y;have J:L∈X.fs:=hs L (by unfold xu;rw[List.filterMap_cons,F];exact mem_cons_self);obtain⟨sl,e⟩:=I.base.slot L o R (I.ok.Bv L J) J λz=>I.ok.xr L z J;exact⟨S,⟨L,_,F,U,e,hd⟩,O (λb G=>hs b (by unfold xu;rw[List.filterMap_cons,F];exact mem_cons_of_mem _ G)) N⟩
 exact all X.outer (λ_ G=>G) I.ok.jK
theorem Inv.stack (I:Inv X pins σ H s):s.heap.FunFrames X.base X.stack:=by
 rcases I.ok.Ei with e|⟨e,G⟩
 .rw[e];exact I.jK
 .rw[e];obtain⟨m,F,_⟩:=I.loc;refine .cons (by rw[I.ok.kind];decide) G F ?_ I.jK;exact Heap.get?_none_of_le (le_trans I.ok.zV I.ok.above)
theorem Inv.qq (I:Inv X pins σ H s):∀b∈xu X.stack,b∈X.env.locals::X.fs:=λb F=>by
 rcases I.ok.Ei with e|⟨e,G⟩
 .rw[e]at F;exact mem_cons_of_mem _ F
 .rw[e]at F;unfold xu at F;rw[List.filterMap_cons,G]at F;exact F
theorem Inv.vM (I:Inv X pins σ H s):∀b∈xu X.stack,H b=none:=λb F=>by
 rcases List.mem_cons.mp (I.qq b F)with e|F
 .rw[e];exact I.free
 .obtain⟨_,o,G,_⟩:=I.ok.jK.mem F;exact I.base.free b o G (I.ok.Bv b F) λz=>I.ok.xr b z F
theorem Inv.step {g':Array GenState}{t':Nat}{d':Drawn}{ch:List Addr}(I:Inv X pins σ H s)
  (O:∀b∈ch,(b∈X.ex\/X.s₀.heap.objs.size<=b)/\b≠X.env.locals/\(∀x c,X.env.cells.lookup x=some c->c≠b)/\∀p∈X.pn++pins,p.1≠b)
  (keep:∀b o,b≠X.env.locals->b∉X.fs->b∉ch->s.heap.get? b=some o->H b=none->h'.get? b=some o)
  (slot:∀b o,b≠X.env.locals->b∈X.fs->b∉ch->s.heap.get? b=some o->H b=none->∃sl,h'.get? b=some { o with slots:=sl }) (free:∀b o,b∉ch->s.heap.get? b=some o->H b=none->H' b=none)
  (there:∀b o,b∉ch->s.heap.get? b=some o->∃o',h'.get? b=some o')
  (qe:∀b xs,H b=some (.tup xs)->H' b=some (.tup xs)) (mR:∀b o u,H b=some (.frz o u)->H' b=some (.frz o u)) (p8:∀b ps,H b=some (.tbl ps)->∃ad,H' b=some (.tbl (ps++ad)))
  (ns:∀m,s.heap.Ns X.env.locals m->h'.Ns X.env.locals m) (bJ:iT X.prog X.w H' h') (hg:AllBare g') :
  Inv X pins σ H' { s with heap:=h',gens:=g',drawn:=d',toks:=t' }:=by
 have Y:∀b o,X.s₀.heap.get? b=some o->b≠X.env.locals:=λb o e=>ne_of_lt (lt_of_lt_of_le (Heap.lt_size e) I.ok.above);have S:∀b o,X.s₀.heap.get? b=some o->b∉X.ex->b∉ch:=λb o e F J=>by
  rcases(O b J).1 with z|z
  .exact F z
  .exact absurd (lt_of_lt_of_le (Heap.lt_size e) z) (lt_irrefl _)
 have ab:∀x c,X.env.cells.lookup x=some c->∀v,s.heap.IsCell c v->h'.IsCell c v:=λx c e v ac=>by
  obtain⟨o,L,hd⟩:=ac;have R:c∉ch:=λz=>(O c z).2.2.1 x c e rfl;by_cases hc:c∈X.fs
  .obtain⟨sl,q⟩:=slot c o (I.Dl x c e) hc R L (I.gy x c e);exact⟨_,q,hd⟩
  .exact⟨o,keep c o (I.Dl x c e) hc R L (I.gy x c e),hd⟩
 refine⟨I.ok,I.os,hg,⟨λb o e n J F=>?_,λb o e n J F=>?_,λb o e n F=>?_,λb o e F=>?_,λb xs e=>qe b xs (I.base.qe b xs e),λb o xs e=>mR b o xs (I.base.mR b o xs e),λb ps e=>?_⟩,?_,λx c e=>?_,?_,λx c e=>?_,λp U=>?_,bJ,I.len⟩
 .exact keep b o (Y b o e) J (S b o e F) (I.base.keep b o e n J F) (I.base.free b o e n F)
 .obtain⟨sl,G⟩:=I.base.slot b o e n J F;obtain⟨am,N⟩:=slot b _ (Y b o e) J (S b o e F) G (I.base.free b o e n F);exact⟨am,N⟩
 .obtain⟨o',G⟩:=I.base.there b o e F;exact free b o' (S b o e F) G (I.base.free b o e n F)
 .obtain⟨o',G⟩:=I.base.there b o e F;exact there b o' (S b o e F) G
 .obtain⟨m1,G⟩:=I.base.p8 b ps e;obtain⟨m2,N⟩:=p8 b _ G;exact⟨m1++m2,by rw[N,Array.append_assoc]⟩
 .obtain⟨m,hn,hl⟩:=I.loc;refine⟨m,ns m hn,λi x v G N e3=>?_⟩;obtain⟨u,r,l⟩:=hl i x v G N e3;refine⟨u,r,?_⟩;rcases l with l|⟨k,c,e,z⟩
  .exact .inl l
  .exact .inr ⟨k,c,e,ab x c e _ z⟩
 .obtain⟨v,z⟩:=I.cell x c e;exact⟨v,ab x c e v z⟩
 .obtain⟨m,⟨o,_,_,L,_⟩,_⟩:=I.loc;exact free _ o (λz=>(O _ z).2.1 rfl) L I.free
 .obtain⟨v,o,L,hd⟩:=I.cell x c e;exact free c o (λz=>(O c z).2.2.1 x c e rfl) L (I.gy x c e)
 .obtain⟨e,n,ne,nf,d⟩:=I.pin p U;have R:p.1∉ch:=λz=>(O p.1 z).2.2.2 p U rfl;exact⟨keep p.1 p.2 ne nf R e n,free p.1 p.2 R e n,ne,nf,d⟩
theorem Inv.un {t':Nat}(I:Inv X pins σ H s) (u:Un X.fs [] H H' s.heap h') (R:iT X.prog X.w H' h'):Inv X pins σ H' { s with heap:=h',toks:=t' }:=by
 obtain⟨m,⟨o,es,ep,G,r⟩,_⟩:=id I.loc;obtain⟨sl,L⟩:=u.any G I.free (by simp);exact I.step (g':=s.gens) (d':=s.drawn) (ch:=[]) (λ_ z=>nomatch z) (λb o _ F _ e n=>u.keep b o e n F (by simp)) (λb o _ F _ e n=>u.slot b o e n F (by simp)) (λb o _ e n=>u.free b o e n (by simp)) (λb o _ e=>u.there b o e (by simp)) u.qe u.mR u.p8 (λY S=>by
  obtain⟨o',O,U,J,N⟩:=S;rw[G]at J;cases J;exact⟨_,O,U,L,N⟩) R I.bare
theorem Inv.call {g':Array GenState}{t':Nat}{d':Drawn}{ch:List Addr}(I:Inv X pins σ H s) (u:Un (xu X.stack) ch H H' s.heap h') (S:iT X.prog X.w H' h') (hg:AllBare g')
  (J:∀b∈ch,(b∈X.ex\/X.s₀.heap.objs.size<=b)/\b≠X.env.locals/\(∀x c,X.env.cells.lookup x=some c->c≠b)/\∀p∈X.pn++pins,p.1≠b) :
  Inv X pins σ H' { s with heap:=h',gens:=g',drawn:=d',toks:=t' }:=by
 obtain⟨m,⟨o,es,ep,L,r⟩,_⟩:=id I.loc;obtain⟨sl,G⟩:=u.any L I.free λz=>(J _ z).2.1 rfl;exact I.step (ch:=ch) J (λb o G Y F e n=>u.keep b o e n (λz=>(List.mem_cons.mp (I.qq b z)).elim G Y) F) (λb o _ _ F e n=>u.any e n F) (λb o F e n=>u.free b o e n F) (λb o F e=>u.there b o e F) u.qe u.mR u.p8 (λm' U=>by
  obtain⟨o',R,ab,N,O⟩:=U;rw[L]at N;cases N;exact⟨_,R,ab,G,O⟩) S hg
theorem Inv.turned {t':Nat}{F:Addr}(I:Inv X pins σ H s) (k:∀b o,b≠F->s.heap.get? b=some o->h'.get? b=some o) (O:H F=none) (L:F≠X.env.locals)
  (h1:F∈X.ex\/X.s₀.heap.objs.size<=F) (h2:∀x c,X.env.cells.lookup x=some c->c≠F) (R:∀p∈X.pn++pins,p.1≠F):Inv X pins σ H { s with heap:=h',toks:=t' }:=by
 have J:∀b u,H b=some u->b≠F:=λb u e z=>(by rw[z,O]at e;cases e);refine I.step (g':=s.gens) (d':=s.drawn) (ch:=[F]) (λb U=>?_) (λb o _ _ G e _=>k b o (λz=>G (by simp[z])) e) (λb o _ _ G e _=>⟨o.slots,k b o (λz=>G (by simp[z])) e⟩) (λ_ _ _ _ n=>n)
  (λb o G e=>⟨o,k b o (λz=>G (by simp[z])) e⟩) (λ_ _ e=>e) (λ_ _ _ e=>e) (λb ps e=>⟨#[],by rw[e];simp⟩) (λm S=>?_) (λb u e=>?_) I.bare
 .have e:b=F:=(by simpa using U);subst e;exact⟨h1,L,h2,R⟩
 .obtain⟨o,es,ep,N,r⟩:=S;exact⟨o,es,ep,k _ o (Ne.symm L) N,r⟩
 .refine(I.bJ b u e).p9 (λc v G q=>k c v ?_ q) (λ_ q=>q) λ_ _ q=>q;rcases G with z|z
  .rw[z];exact J b u e
  .exact J c _ z
theorem Inv.tok (I:Inv X pins σ H s) (t:Nat):Inv X pins σ H { s with toks:=t }:=I.un (h':=s.heap) (t':=t) Un.refl I.bJ
theorem Inv.kept {t':Nat}(I:Inv X pins σ H s) (k:∀b u,s.heap.get? b=some u->h'.get? b=some u):Inv X pins σ H { s with heap:=h',toks:=t' }:=I.un (Un.kept k) (I.bJ.kept k)
theorem Inv.laid {a:Addr}{o:HO}{t':Nat}(I:Inv X pins σ H s) (k:∀b u,s.heap.get? b=some u->h'.get? b=some u) (F:s.heap.objs.size<=a) (new:bT X.prog X.w (upd H a o) h' a o) :
  Inv X pins σ (upd H a o) { s with heap:=h',toks:=t' }:=I.un (Un.laid k F (I.bJ.fresh F)) (I.bJ.laid k F new)
theorem Inv.write {x e:Addr}{o:HO}{t':Nat}(I:Inv X pins σ H s) (J:Ef (H x)) (G:e=x\/H e=some (.own x)) (k:∀b u,b≠e->s.heap.get? b=some u->h'.get? b=some u) (F:∃u,h'.get? e=some u)
  (new:bT X.prog X.w (upd H x o) h' x o):Inv X pins σ (upd H x o) { s with heap:=h',toks:=t' }:=I.un (Un.write J G k F) (I.bJ.write J G k F new)
theorem Inv.kF {F:List (Addr×Obj)}(I:Inv X pins σ H s) (h:∀p∈F,s.heap.get? p.1=some p.2/\H p.1=none/\p.1≠X.env.locals/\p.1∉X.fs/\∀v,p.2.data≠.cell v):Inv X F σ H s :=
 ⟨I.ok,I.os,I.bare,I.base,I.loc,I.cell,I.free,I.gy,λp G=>(List.mem_append.mp G).elim (λz=>I.pin p (mem_append_left _ z)) (h p),I.bJ,I.len⟩
theorem qV {N:List Str}(G:N.Nodup) {i j:Nat}{x:Str}(a:N[i]?=some x) (b:N[j]?=some x):i=j:=by
 obtain⟨h1,I⟩:=List.getElem?_eq_some_iff.mp a;obtain⟨h2,F⟩:=List.getElem?_eq_some_iff.mp b;exact(List.getElem_inj G).mp (I.trans F.symm)
theorem nc {M:Model}{A:Around}{E:Value->Shared->Prop}{i:Nat}{x:Str}{v:V}{u:Value}{Q:Unit->Shared->Prop}(I:Inv X pins σ H s) (hN:X.N.Nodup) (hi:X.N[i]?=some x) (J:Loc X.env.scope x) (r:RelV v u)
  (h:∀s',Inv X pins (σ.set i (some v)) H s'->(∃a,Heap.SameBut a s.heap s'.heap/\(a=X.env.locals\/X.env.cells.lookup x=some a))->Q () s') (hf:X.fn x=true\/X.env.scope.names.lookup x=some .local:=by first|exact .inl rfl|exact .inr rfl|assumption):wpAny M A (storeName X.env x u) Q E s:=by
 obtain⟨m,hn,hl⟩:=id I.loc;have a0:(X.env.scope.kind == .class||(X.env.scope.kind == .module&&X.env.locals != X.env.globals))=false:=(by rw[I.ok.kind];rfl);have aB:i<σ.length:=(by rw[I.len];exact(List.getElem?_eq_some_iff.mp hi).1);have Dl:=I.Dl;have ac:∀{a:Addr}{h':Heap},(∃o,s.heap.get? a=some o/\H a=none)->Heap.SameBut a s.heap h'->iT X.prog X.w H h':=λ{a h'} ha hs b ob e=>by
  obtain⟨_,_,as⟩:=ha;refine(I.bJ b ob e).p9 (λc w' G q=>(hs.2 c ?_).trans q) (λ_ q=>q) λ_ _ q=>q;rintro rfl;rcases G with rfl|G
  .rw[as]at e;cases e
  .rw[as]at G;cases G
 rcases J with O|O
 .refine wpAny_storeName_local O hn (λh' a2 hs=>?_) a0;obtain⟨oL,_,_,aT,_⟩:=id hn;refine h _ ⟨I.ok,I.os,I.bare,⟨λb o e n S J=>?_,λb o e n S J=>?_,I.base.free,λb o e J=>?_,I.base.qe,I.base.mR,I.base.p8⟩,⟨_,a2,λj y v' F L e3=>?_⟩,λy c e=>?_,I.free,I.gy,λp hp=>?_,ac ⟨oL,aT,I.free⟩ hs,by simpa using I.len⟩ ⟨_,hs,.inl rfl⟩
  .exact(hs.2 b (ne_of_lt (lt_of_lt_of_le (Heap.lt_size e) I.ok.above))).trans (I.base.keep b o e n S J)
  .obtain⟨sl,F⟩:=I.base.slot b o e n S J;exact⟨sl,(hs.2 b (ne_of_lt (lt_of_lt_of_le (Heap.lt_size e) I.ok.above))).trans F⟩
  .obtain⟨o',F⟩:=I.base.there b o e J;exact⟨o',(hs.2 b (ne_of_lt (lt_of_lt_of_le (Heap.lt_size e) I.ok.above))).trans F⟩
  .by_cases R:j=i
   .subst R;rw[hi]at F;cases F;rw[getElem?_set_self aB]at L;cases L;exact⟨u,r,.inl ⟨O,by simp⟩⟩
   .rw[getElem?_set_ne (Ne.symm R)]at L;obtain⟨u',r',q⟩:=hl j y v' F L e3;refine⟨u',r',?_⟩;rcases q with⟨k,e⟩|⟨k,c,e,z⟩
    .refine .inl ⟨k,?_⟩;have:y≠x:=λe=>R (qV hN F (e▸hi));simp[this,e]
    .exact .inr ⟨k,c,e,z.sameBut hs (Dl y c e)⟩
  .obtain⟨w',z⟩:=I.cell y c e;exact⟨w',z.sameBut hs (Dl y c e)⟩
  .obtain⟨e,n,Y,nf,d⟩:=I.pin p hp;exact⟨(hs.2 p.1 Y).trans e,n,Y,nf,d⟩
 .have ab:X.fn x=true:=by
   rcases hf with z|z
   .exact z
   .rw[z]at O;cases O
  obtain⟨c,G⟩:=I.ok.has x (.inl O);obtain⟨w',z⟩:=I.cell x c G;refine wpAny_storeName_cell I.ok.kind O G z (λh' ap hs=>?_);obtain⟨oc,ad,a1⟩:=id z;refine h { s with heap:=h' } ⟨I.ok,I.os,I.bare,⟨λb o e n S J=>?_,λb o e n S J=>?_,I.base.free,λb o e J=>?_,I.base.qe,I.base.mR,I.base.p8⟩,⟨m,hn.sameBut hs (Ne.symm (Dl x c G)),λj y v' F L e3=>?_⟩,λy U e=>?_,I.free,I.gy,λp hp=>?_,ac ⟨oc,ad,I.gy x c G⟩ hs,by simpa using I.len⟩ ⟨c,hs,.inr G⟩
  .exact(hs.2 b (ne_of_lt (lt_of_lt_of_le (Heap.lt_size e) (I.ok.DJ x c ab G)))).trans (I.base.keep b o e n S J)
  .obtain⟨sl,F⟩:=I.base.slot b o e n S J;exact⟨sl,(hs.2 b (ne_of_lt (lt_of_lt_of_le (Heap.lt_size e) (I.ok.DJ x c ab G)))).trans F⟩
  .obtain⟨o',F⟩:=I.base.there b o e J;exact⟨o',(hs.2 b (ne_of_lt (lt_of_lt_of_le (Heap.lt_size e) (I.ok.DJ x c ab G)))).trans F⟩
  .by_cases R:j=i
   .subst R;rw[hi]at F;cases F;rw[getElem?_set_self aB]at L;cases L;exact⟨u,r,.inr ⟨.inl O,c,G,ap⟩⟩
   .rw[getElem?_set_ne (Ne.symm R)]at L;obtain⟨u',r',q⟩:=hl j y v' F L e3;refine⟨u',r',?_⟩;rcases q with q|⟨k,U,e,z'⟩
    .exact .inl q
    .refine .inr ⟨k,U,e,z'.sameBut hs ?_⟩;rintro rfl;exact R (qV hN F (I.ok.inj _ _ _ e G▸hi))
  .by_cases am:U=c
   .subst am;exact⟨_,ap⟩
   .obtain⟨w2,z2⟩:=I.cell y U e;exact⟨w2,z2.sameBut hs am⟩
  .obtain⟨e,n,Y,nf,d⟩:=I.pin p hp;refine⟨(hs.2 p.1 ?_).trans e,n,Y,nf,d⟩;intro q;rw[q,ad]at e;have q':oc=p.2:=Option.some.inj e;exact d w' (by rw[<-q'];exact a1)
theorem gC {M:Model}{A:Around}{E:Value->Shared->Prop}{i:Nat}{x:Str}{v:V}{u:Value}{Q:Unit->Shared->Prop}(I:Inv X pins σ H s) (F:X.N.Nodup) (hi:X.N[i]?=some x) (L:Loc X.env.scope x) (r:RelV v u)
  (h:∀s',Inv X pins (σ.set i (some v)) H s'->Q () s') (G:X.fn x=true\/X.env.scope.names.lookup x=some .local:=by first|exact .inl rfl|exact .inr rfl|assumption):wpAny M A (storeName X.env x u) Q E s :=
 nc I F hi L r (λs' J _=>h s' J) G
theorem Inv.Ep {s':Shared}{ch:List Addr}(I:Inv X pins σ H s) (J:s'.os=s.os) (u:Un (xu X.stack) ch H H' s.heap s'.heap) (F:iT X.prog X.w H' s'.heap) (hg:AllBare s'.gens)
  (G:∀b∈ch,(b∈X.ex\/X.s₀.heap.objs.size<=b)/\b≠X.env.locals/\(∀x c,X.env.cells.lookup x=some c->c≠b)/\∀p∈X.pn++pins,p.1≠b):Inv X pins σ H' s':=by
 obtain⟨h',g',d',t',o'⟩:=s';have e:o'=s.os:=J;subst e;exact I.call (g':=g') (t':=t') (d':=d') u F hg G
end
noncomputable abbrev XK:=Value->Option Addr->Hp->Prop
noncomputable abbrev St:=List (Option V)
noncomputable abbrev VK:=V->Hp->Prop
noncomputable abbrev TE:=St->Hp->VK->Prop
noncomputable abbrev TT:=St->Hp->(Bool->Hp->Prop)->Prop
noncomputable abbrev TA:=St->Hp->(List V->Hp->Prop)->Prop
structure Ends where
 nx:St->Hp->Prop
 rt:VK
 bk:St->Hp->Prop:=λ_ _=>False
 ct:St->Hp->Prop:=λ_ _=>False
noncomputable abbrev TS:=Ends->St->Hp->Prop
noncomputable def EP (X:Cx) (pins:List (Addr×Obj)) (σ:St) (Q:VK) (u:Value) (s':Shared):Prop:=∃v H',Inv X pins σ H' s'/\RelV v u/\Q v H'
noncomputable def TP (X:Cx) (pins:List (Addr×Obj)) (σ:St) (Q:Bool->Hp->Prop) (b:Bool) (s':Shared):Prop:=∃H',Inv X pins σ H' s'/\Q b H'
noncomputable def AP (X:Cx) (pins:List (Addr×Obj)) (σ:St) (Q:List V->Hp->Prop) (us:List Value) (s':Shared):Prop:=∃vs H',Inv X pins σ H' s'/\Vals vs us/\Q vs H'
noncomputable def SP (X:Cx) (pins:List (Addr×Obj)) (D:Ends) (f:Flow) (s':Shared):Prop :=
 match f with
 |.next=>∃F H',Inv X pins F H' s'/\D.nx F H'
 |.brk=>∃F H',Inv X pins F H' s'/\D.bk F H'
 |.cont=>∃F H',Inv X pins F H' s'/\D.ct F H'
 |.ret u=>∃v F H',Inv X pins F H' s'/\RelV v u/\D.rt v H'
noncomputable def PE (X:Cx) (e:Expr) (t:TE):Prop :=
 ∀(pins:List (Addr×Obj)) (s:Shared) (σ:St) (H:Hp) (Q:VK),Inv X pins σ H s->t σ H Q->wpAny (model X.prog X.w) X.A (eval e X.env) (EP X pins σ Q) X.xe s
noncomputable def PT (X:Cx) (e:Expr) (t:TT):Prop :=
 ∀(pins:List (Addr×Obj)) (s:Shared) (σ:St) (H:Hp) (Q:Bool->Hp->Prop),Inv X pins σ H s->t σ H Q->wpAny (model X.prog X.w) X.A (isTrue e X.env (eval e X.env)) (TP X pins σ Q) X.xe s
noncomputable def PW (X:Cx) (e:Expr) (t:TT):Prop :=
 ∀(F:Sem Value) (pins:List (Addr×Obj)) (s:Shared) (σ:St) (H:Hp) (Q:Bool->Hp->Prop),Inv X pins σ H s->t σ H Q->wpAny (model X.prog X.w) X.A (isTrue e X.env F) (TP X pins σ Q) X.xe s
theorem PW.pt {X:Cx}{e:Expr}{t:TT}(h:PW X e t):PT X e t:=h _
noncomputable def PA (X:Cx) (es:List Expr) (t:TA):Prop :=
 ∀(pos:Pos) (pins:List (Addr×Obj)) (s:Shared) (σ:St) (H:Hp) (Q:List V->Hp->Prop),Inv X pins σ H s->t σ H Q->wpAny (model X.prog X.w) X.A (spliced (backTo pos (starEach es X.env))) (AP X pins σ Q) X.xe s
noncomputable def PS (X:Cx) (st:Stmt) (t:TS):Prop :=
 ∀(pins:List (Addr×Obj)) (s:Shared) (σ:St) (H:Hp) (D:Ends),Inv X pins σ H s->t D σ H->wpAny (model X.prog X.w) X.A (exec st X.env) (SP X pins D) X.xe s
noncomputable def vm (X:Cx) (st:List Stmt) (t:TS):Prop :=
 ∀(pins:List (Addr×Obj)) (s:Shared) (σ:St) (H:Hp) (D:Ends),Inv X pins σ H s->t D σ H->wpAny (model X.prog X.w) X.A (execs st X.env) (SP X pins D) X.xe s
theorem bU {α:Type}{t:Sem α}{Q F:α->Shared->Prop}{M:Model}{A:Around}{E:Value->Shared->Prop}{s:Shared}(h:wpAny M A t Q E s) (G:∀a s,Q a s->F a s):wpAny M A t F E s:=wpAny_mono h G λ_ _ x=>x
section
variable {X:Cx}
inductive AM (i:Nat) (σ:St) (H:Hp) (Q:VK):Prop
 |mk (v:_) (_:σ[i]?=some (some v)) (_:Q v H):AM i σ H Q
noncomputable def tC (v:V):TE:=λ_ H Q=>Q v H
theorem CK {i:Nat}{x:Str}{pos:Pos}(Y:X.N[i]?=some x) (R:FI X.env.scope x) (hd:(x==("__debug__" : Str))=false:=by decide) (O:(x==("__classdict__" : Str))=false:=by decide):PE X (.Name x pos) (AM i):=by
 intro pins s σ H Q I h;obtain⟨v,e,h⟩:=h;obtain⟨m,S,U⟩:=I.loc;obtain⟨u,r,l⟩:=U i x v Y e R;have G:EP X pins σ Q u s:=⟨v,H,I,r,h⟩;rcases l with⟨F,hm⟩|⟨F,c,J,L⟩
 .exact wpAny_Name (wpAny_loadName_local I.ok.kind F S hm G) hd
 .rcases F with F|F
  .exact wpAny_Name (wpAny_loadName_cell I.ok.kind F J L G) hd
  .exact wpAny_Name (wpAny_loadName_free I.ok.kind F J L G O) hd
theorem ak {i j pos}:PE X (.Constant (.int i) j pos) (tC (.int i)):=λ_ _ _ H _ I h=>wpAny_Constant_int ⟨.int i,H,I.tok _,⟨_,rfl⟩,h⟩
theorem jz {b j pos}:PE X (.Constant (.bool b) j pos) (tC (.bl b)):=λ_ _ _ H _ I h=>Constant_bool ⟨.bl b,H,I,rfl,h⟩
theorem lK {j pos}:PE X (.Constant .none j pos) (tC .non):=λ_ _ _ H _ I h=>Constant_none ⟨.non,H,I,rfl,h⟩
theorem aJ {x j pos}:PE X (.Constant (.str x) j pos) (tC (.str x)):=λ_ _ _ H _ I h=>Calls.Constant_str ⟨.str x,H,I.tok _,⟨_,rfl⟩,h⟩
noncomputable def Gl (X:Cx) (x:Str):Prop:=X.env.kindOf x=some .globalImplicit
theorem kL {E:Value->Shared->Prop}{pins:List (Addr×Obj)}{s:Shared}{σ:St}{H:Hp}{x:Str}{u:Value}{pos:Pos}{Q:Value->Shared->Prop}(I:Inv X pins σ H s) (hg:Gl X x) (F:X.mg x=some u) (h:Q u s)
  (hd:(x==("__debug__" : Str))=false:=by decide):wpAny (model X.prog X.w) X.A (eval (.Name x pos) X.env) Q E s :=
 Calls.Name_function_global I.ok.kind hg (Calls.loadGlobal_global (by rw[I.ok.glob];exact I.mod.glob.keeps I.bk) F h) hd
theorem gW {E:Value->Shared->Prop}{pins:List (Addr×Obj)}{s:Shared}{σ:St}{H:Hp}{x:Str}{u:Value}{pos:Pos}{Q:Value->Shared->Prop}(I:Inv X pins σ H s) (hg:Gl X x) (J:X.mg x=none) (F:bootBuiltins x=some u) (h:Q u s)
  (G:x ≠ "__name__" := by decide) (hd:(x==("__debug__" : Str))=false:=by decide):wpAny (model X.prog X.w) X.A (eval (.Name x pos) X.env) Q E s:=by
 obtain⟨L,h1,h2⟩:=I.mod.blt;exact Calls.Name_function_global I.ok.kind hg (Calls.loadGlobal_builtin (by rw[I.ok.glob];exact I.mod.glob.keeps I.bk) J (by rw[I.ok.blt];exact h1.keeps I.bk) ((h2 x G).trans F) h) hd
theorem cj {x:Str}{v:V}{u:Value}{pos:Pos}(hg:Gl X x) (F:X.mg x=some u) (r:RelV v u) (hd:(x==("__debug__" : Str))=false:=by decide):PE X (.Name x pos) (tC v):=
 λ_ _ _ H _ I h=>kL I hg F ⟨v,H,I,r,h⟩ hd
theorem hV {x:Str}{v:V}{u:Value}{pos:Pos}(hg:Gl X x) (J:X.mg x=none) (F:bootBuiltins x=some u) (r:RelV v u) (G:x ≠ "__name__" := by decide) (hd:(x==("__debug__" : Str))=false:=by decide):PE X (.Name x pos) (tC v):=
 λ_ _ _ H _ I h=>gW I hg J F ⟨v,H,I,r,h⟩ G hd
variable {a b:Expr}{ta tb:TE}{pos:Pos}
noncomputable def PC (X:Cx) (G:CmpOp) (a b:Expr) (t:TE):Prop :=
 ∀(pins:List (Addr×Obj)) (s:Shared) (σ:St) (H:Hp) (Q:VK),Inv X pins σ H s->t σ H Q ->
  wpAny (model X.prog X.w) X.A (eval a X.env) (λv F=>wpAny (model X.prog X.w) X.A (eval b X.env) (λu I=>wpAny (model X.prog X.w) X.A (compareOp G v u) (EP X pins σ Q) X.xe I) X.xe F) X.xe s
inductive HD (t:TE) (Q:Bool->Hp->Prop) (x:V) (H1:Hp):Prop
 |mk (c:_) (_:x=.bl c) (_:Q c H1):HD t Q x H1
noncomputable def tB (t:TE):TT:=λσ H Q=>t σ H λx H1=>HD t Q x H1
theorem uj {F:CmpOp}{t:TE}(h:PC X F a b t) (h1:behindInMarks F b=false:=by first|exact nobehind _ av av|rfl):PE X (.Compare a [F] [b] pos) t:=λpins s σ H Q I G=>wpAny_Compare1 (h pins s σ H Q I G) h1
theorem iK {F:CmpOp}{t:TE}(h:PC X F a b t) (h1:behindInMarks F b=false:=by first|exact nobehind _ av av|rfl):PT X (.Compare a [F] [b] pos) (tB t):=by
 intro pins s σ H Q I O;refine wpAny_isTrue_Compare1 (bU (h pins s σ H _ I O) λv U h1=>bU h1 λu S h2=>bU h2 λc R G=>?_) h1;obtain⟨x,H1,L,J,N⟩:=G;obtain⟨d,rfl,q⟩:=N;cases J;exact wpAny_truthy_bool ⟨H1,L,q⟩
theorem gp {e:Expr}{t:TE}(h:PE X e t) (N:∀F,isTrue e X.env F=(do let v <-F;standAt e.pos;holding [v] (truthy v)):=by intro _;rfl):PT X e (tB t):=by
 intro pins s σ H Q I R;refine isTrue_plain (bU (h pins s σ H _ I R) λv S G=>?_) (N _);obtain⟨x,H1,L,J,O⟩:=G;obtain⟨d,rfl,q⟩:=O;cases J;exact wpAny_truthy_bool ⟨H1,L,q⟩
variable {tA tB':TT}{rest:List Expr}
noncomputable def Gw (t u:TT):TT:=λσ H Q=>t σ H λc H1=>if c=true then u σ H1 Q else Q false H1
noncomputable def HY (t u:TT):TT:=λσ H Q=>t σ H λc H1=>if c=true then Q true H1 else u σ H1 Q
noncomputable def Gn (t:TT):TT:=λσ H Q=>t σ H λc H1=>Q (!c) H1
theorem kD (F:PT X a tA):PW X (.BoolOp .And [a] pos) tA:=by
 intro J pins s σ H Q I h;refine isTrue_and (bU (F pins s σ H Q I h) λc G e=>?_);cases c with
 |true=>exact isTrue_and_nil e
 |false=>exact e
theorem fw (F:PT X a tA):PW X (.BoolOp .Or [a] pos) tA:=by
 intro J pins s σ H Q I h;refine isTrue_or (bU (F pins s σ H Q I h) λc G e=>?_);cases c with
 |false=>exact isTrue_or_nil e
 |true=>exact e
theorem qm (O:PT X a tA) (R:PW X (.BoolOp .And (b::rest) pos) tB'):PW X (.BoolOp .And (a::b::rest) pos) (Gw tA tB'):=by
 intro J pins s σ H Q I h;refine isTrue_and (bU (O pins s σ H _ I h) λc N L=>?_);obtain⟨H1,F,G⟩:=L;cases c with
 |true=>exact R J pins N σ H1 Q F G
 |false=>exact⟨H1,F,G⟩
theorem fM (O:PT X a tA) (R:PW X (.BoolOp .Or (b::rest) pos) tB'):PW X (.BoolOp .Or (a::b::rest) pos) (HY tA tB'):=by
 intro J pins s σ H Q I h;refine isTrue_or (bU (O pins s σ H _ I h) λc N L=>?_);obtain⟨H1,F,G⟩:=L;cases c with
 |true=>exact⟨H1,F,G⟩
 |false=>exact R J pins N σ H1 Q F G
theorem x6 (F:PT X a tA):PT X (.UnaryOp .Not a pos) (Gn tA):=by
 intro pins s σ H Q I h;exact isTrue_not (F pins s σ H (λc H1=>Q (!c) H1) I h)
inductive BE (ta tb:TE) (σ:St) (Q:VK) (x:V) (H1:Hp):Prop
 |mk (c:_) (_:x=.bl c) (_:if c=true then Q (.bl true) H1 else tb σ H1 Q):BE ta tb σ Q x H1
noncomputable def Hi (ta tb:TE):TE:=λσ H Q=>ta σ H λx H1=>BE ta tb σ Q x H1
theorem Dj {op} {t:TE}(h:PE X a t):PE X (.BoolOp op [a] pos) t:=λpins s σ H Q I F=>BoolOp_one (h pins s σ H Q I F)
theorem ED (O:PE X a ta) (R:PE X (.BoolOp .Or (b::rest) pos) tb):PE X (.BoolOp .Or (a::b::rest) pos) (Hi ta tb):=by
 intro pins s σ H Q I h;refine BoolOp_or (bU (O pins s σ H _ I h) λv N J=>?_);obtain⟨x,H1,G,L,F⟩:=J;obtain⟨c,rfl,F⟩:=F;cases L;refine wpAny_truthy_bool ?_;cases c with
 |false=>exact R pins N σ H1 Q G F
 |true=>exact⟨.bl true,H1,G,rfl,F⟩
end
noncomputable def bE (K:PySem.W.Frag) (H:Hp) (a:Addr) (xs:List V):Prop :=
 Rd H a (.lst xs) \/
  ∃(o:Obj) (its:Array Value) (n:Nat),K.lookup a=some o/\o.cls=.type "list" /\ o.dict=none/\o.data=.seq its n/\its.size<=sizeLine/\Vals xs its.toList
noncomputable def bV (K:PySem.W.Frag) (H:Hp) (a:Addr) (xs:List V):Prop :=
 Rd H a (.tup xs) \/
  ∃(o:Obj) (its:Array Value) (n:Nat),K.lookup a=some o/\o.cls=.type "tuple" /\ o.data=.seq its n/\its.size<=sizeLine/\Vals xs its.toList
noncomputable def Ha:Value->Option V
 |.none=>some .non
 |.bool b=>some (.bl b)
 |.int i _=>some (.int i)
 |.str x _=>some (.str x)
 |.bytes b _=>some (.byt b)
 |.float b _=>some (.flt b)
 |.ref a=>some (.ref a)
 |.type n=>some (.ty n)
 |_=>none
theorem RelV.abs {x:V}{u:Value}(r:RelV x u):Ha u=some x:=by
 cases x with
 |non=>cases r;rfl
 |bl _=>cases r;rfl
 |int _=>obtain⟨t,rfl⟩:=r;rfl
 |str _=>obtain⟨t,rfl⟩:=r;rfl
 |byt _=>obtain⟨t,rfl⟩:=r;rfl
 |flt _=>obtain⟨t,rfl⟩:=r;rfl
 |ref _=>cases r;rfl
 |ty _=>cases r;rfl
theorem RelV.inj {x y:V}{u:Value}(r:RelV x u) (q:RelV y u):x=y:=Option.some.inj (r.abs.symm.trans q.abs)
theorem Vals.inj:∀{xs ys:List V}{us:List Value},Vals xs us->Vals ys us->xs=ys
 |_,_,_,.nil,.nil=>rfl
 |_,_,_,.cons r t,.cons F t'=>by rw[r.inj F,Vals.inj t t']
section
variable {X:Cx}{pins:List (Addr×Obj)}{σ:St}{H:Hp}{s:Shared}{a:Addr}{xs ys:List V}
theorem bE.of {K:PySem.W.Frag}(h:H a=some (.lst xs)):bE K H a xs:=.inl (.inl h)
theorem bV.of {K:PySem.W.Frag}(h:H a=some (.tup xs)):bV K H a xs:=.inl (.inl h)
theorem Inv.list (I:Inv X pins σ H s) (h:bE X.K H a xs):∃its:List Value,Vals xs its/\PlainL s.heap a its.toArray/\xs.length<=sizeLine:=by
 rcases h with h|⟨o,its,n,G,F,hd,hs,J,r⟩
 .obtain⟨z,its,n,r,e⟩:=h.ok I.bJ;exact⟨its,r,⟨_,n,e,rfl,rfl,rfl⟩,z⟩
 .refine⟨its.toList,r,⟨o,n,I.jV a o G,F,hd,by simpa using hs⟩,?_⟩;have e:=r.length;simp only[length_toList]at e;omega
theorem Inv.tuple (I:Inv X pins σ H s) (h:bV X.K H a xs):∃its:List Value,Vals xs its/\IsTup s.heap a its.toArray/\xs.length<=sizeLine:=by
 rcases h with h|⟨o,its,n,G,F,hs,J,r⟩
 .obtain⟨z,its,r,p⟩:=h.ok I.bJ;exact⟨its,r,p,z⟩
 .refine⟨its.toList,r,⟨o,I.jV a o G,F,n,by simpa using hs⟩,?_⟩;have e:=r.length;simp only[length_toList]at e;omega
theorem Inv.ja (I:Inv X pins σ H s) (h:bE X.K H a xs) (h':bE X.K H a ys):xs=ys:=by
 obtain⟨its,r,⟨o,n,e,_,_,d⟩,_⟩:=I.list h;obtain⟨its',G,⟨o',J,F,_,_,d'⟩,_⟩:=I.list h';rw[e]at F;cases F;rw[d]at d';injection d' with d1 _;have:its=its':=(by simpa using congrArg toList d1);subst this;exact r.inj G
theorem Inv.wK (I:Inv X pins σ H s) (h:bV X.K H a xs) (h':bV X.K H a ys):xs=ys:=by
 obtain⟨its,r,⟨o,e,_,n,d⟩,_⟩:=I.tuple h;obtain⟨its',G,⟨o',F,_,J,d'⟩,_⟩:=I.tuple h';rw[e]at F;cases F;rw[d]at d';injection d' with d1 _;have:its=its':=(by simpa using congrArg toList d1);subst this;exact r.inj G
end
noncomputable abbrev Cx.mY (X:Cx) (E:Value->Shared->Prop):Cx:={ X with xe:=E }
noncomputable abbrev Cx.Dn (X:Cx):Cx:=X.mY λ_ _=>False
theorem Cx.Ok.mY {X:Cx}(ok:X.Ok) (E:Value->Shared->Prop):(X.mY E).Ok :=
 ⟨ok.mod,ok.kind,ok.glob,ok.blt,ok.above,ok.inj,ok.has,ok.DJ,ok.hd,ok.frames,ok.Ei,ok.Gp,ok.bs,ok.zV,ok.wk,ok.xr,ok.jK,ok.Bv⟩
theorem Cx.Ok.gR {X:Cx}{E:Value->Shared->Prop}(ok:(X.mY E).Ok):X.Ok :=
 ⟨ok.mod,ok.kind,ok.glob,ok.blt,ok.above,ok.inj,ok.has,ok.DJ,ok.hd,ok.frames,ok.Ei,ok.Gp,ok.bs,ok.zV,ok.wk,ok.xr,ok.jK,ok.Bv⟩
section
variable {X:Cx}{pins:List (Addr×Obj)}{σ:St}{H:Hp}{s:Shared}{E:Value->Shared->Prop}
theorem Inv.mY (I:Inv X pins σ H s) (E:Value->Shared->Prop):Inv (X.mY E) pins σ H s:=⟨I.ok.mY E,I.os,I.bare,I.base,I.loc,I.cell,I.free,I.gy,I.pin,I.bJ,I.len⟩
theorem Inv.gR (I:Inv (X.mY E) pins σ H s):Inv X pins σ H s:=⟨I.ok.gR,I.os,I.bare,I.base,I.loc,I.cell,I.free,I.gy,I.pin,I.bJ,I.len⟩
theorem SP.gR {D:Ends}{f:Flow}{s':Shared}(h:SP (X.mY E) pins D f s'):SP X pins D f s':=by
 cases f with
 |next=>obtain⟨F,H',I,q⟩:=h;exact⟨F,H',I.gR,q⟩
 |brk=>obtain⟨F,H',I,q⟩:=h;exact⟨F,H',I.gR,q⟩
 |cont=>obtain⟨F,H',I,q⟩:=h;exact⟨F,H',I.gR,q⟩
 |ret u=>obtain⟨v,F,H',I,r,q⟩:=h;exact⟨v,F,H',I.gR,r,q⟩
theorem vm.Dn {st:List Stmt}{t:TS}(h:vm X.Dn st t):vm X st t:=λpins s σ H D I F =>
 wpAny_mono (h pins s σ H D (I.mY _) F) (λ_ _ q=>q.gR) λ_ _ z=>False.elim z
end
section
variable {X:Cx}{st:Stmt}{rest:List Stmt}{t u:TS}{e:Expr}{te:TE}{pos:Pos}
noncomputable def qI:TS:=λD σ H=>D.nx σ H
noncomputable def kC (t u:TS):TS:=λD σ H=>t { D with nx:=u D } σ H
theorem aF:vm X [] qI:=λ_ _ σ H _ I h=>wpAny_execs_nil ⟨σ,H,I,h⟩
theorem ag (h1:PS X st t) (h2:vm X rest u):vm X (st::rest) (kC t u):=by
 intro pins s σ H D I h;refine wpAny_execs_cons (bU (h1 pins s σ H { D with nx:=u D } I h) λf G q=>?_);cases f with
 |next =>
  obtain⟨F,H',J,q⟩:=q;exact h2 pins G F H' D J q
 |ret v=>exact q
 |brk=>exact q
 |cont=>exact q
theorem aj (h1:PS X st t):vm X [st] t:=by
 intro pins s σ H D I h;refine wpAny_execs_cons (bU (h1 pins s σ H D I h) λf F q=>?_);cases f with
 |next=>exact wpAny_execs_nil q
 |ret v=>exact q
 |brk=>exact q
 |cont=>exact q
theorem Inv.quiet {pins:List (Addr×Obj)}{σ:St}{H:Hp}{s:Shared}(I:Inv X pins σ H s):interactive X.env=false:=by simp[interactive,I.ok.kind]
noncomputable def D0 (te:TE):TS:=λD σ H=>te σ H λ_ H1=>D.nx σ H1
theorem aM (G:PE X e te) (hs:swapsWith e none pos.line X.env=pure false:=by rfl):PS X (.Expr e pos) (D0 te):=by
 intro pins s σ H D I h;exact wpAny_Expr_any (bU (G pins s σ H _ I h) λv N L=>by obtain⟨x,H1,F,O,J⟩:=L;exact⟨σ,H1,F,J⟩) I.quiet hs
noncomputable def Ct (te:TE):TS:=λD σ H=>te σ H D.rt
theorem aE (G:PE X e te):PS X (.Return (some e) pos) (Ct te):=by
 intro pins s σ H D I h;exact wpAny_Return_some (bU (G pins s σ H _ I h) λv O F=>by obtain⟨x,H1,J,N,L⟩:=F;exact⟨x,σ,H1,J,N,L⟩)
noncomputable def E8:TS:=λD _ H=>D.rt .non H
theorem pY:PS X (.Return none pos) E8:=λ_ _ σ H _ I h=>wpAny_Return_none ⟨.non,σ,H,I,rfl,h⟩
noncomputable def wO (c:TT) (t u:TS):TS:=λD σ H=>c σ H λb H1=>if b=true then t D σ H1 else u D σ H1
theorem aR {c:Expr}{a b:List Stmt}{tc:TT}(N:PT X c tc) (O:vm X a t) (R:vm X b u):PS X (.If c a b pos) (wO tc t u):=by
 intro pins s σ H D I h;refine wpAny_If (bU (N pins s σ H _ I h) λd F L=>?_);obtain⟨H1,G,J⟩:=L;cases d with
 |true=>exact O pins F σ H1 D G J
 |false=>exact R pins F σ H1 D G J
noncomputable def yl:TS:=λ_ _ _=>False
theorem dQ:PS X st yl:=λ_ _ _ _ _ _ h=>h.elim
theorem cU {sts:List Stmt}:vm X sts yl:=λ_ _ _ _ _ _ h=>h.elim
end
noncomputable abbrev TG:=V->St->Hp->(St->Hp->Prop)->Prop
noncomputable abbrev DE:=List V->St->Hp->(St->Hp->Prop)->Prop
noncomputable def PG (X:Cx) (G:Expr) (t:TG):Prop :=
 ∀(pins:List (Addr×Obj)) (s:Shared) (σ:St) (H:Hp) (v:V) (u:Value) (Q:St->Hp->Prop),Inv X pins σ H s->RelV v u->t v σ H Q ->
  wpAny (model X.prog X.w) X.A (assign G X.env u) (λ_ s'=>∃F H',Inv X pins F H' s'/\Q F H') X.xe s
noncomputable def Fx (X:Cx) (ts:List Expr) (t:DE):Prop :=
 ∀(pins:List (Addr×Obj)) (s:Shared) (σ:St) (H:Hp) (vs:List V) (us:List Value) (Q:St->Hp->Prop),Inv X pins σ H s->Vals vs us->t vs σ H Q ->
  wpAny (model X.prog X.w) X.A (assignInOrder ((assignEach ts X.env).map (·.2)) us) (λ_ s'=>∃F H',Inv X pins F H' s'/\Q F H') X.xe s
noncomputable abbrev xf:=V->V->V->Hp->(Hp->Prop)->Prop
noncomputable def AH (X:Cx) (t:xf):Prop :=
 ∀(pins:List (Addr×Obj)) (s:Shared) (σ:St) (H:Hp) (o i v:V) (ov F u:Value) (Q:Hp->Prop),Inv X pins σ H s->RelV o ov->RelV i F->RelV v u->t o i v H Q ->
  wpAny (model X.prog X.w) X.A (setItem ov F u) (λ_ s'=>∃H',Inv X pins σ H' s'/\Q H') X.xe s
noncomputable abbrev Fv:=V->V->Hp->VK->Prop
noncomputable def Gf (X:Cx) (F:Operator) (t:Fv):Prop :=
 ∀(pins:List (Addr×Obj)) (s:Shared) (σ:St) (H:Hp) (x y:V) (v u:Value) (Q:VK),Inv X pins σ H s->RelV x v->RelV y u->t x y H Q ->
  wpAny (model X.prog X.w) X.A (inplaceOp F v u) (EP X pins σ Q) X.xe s
section
variable {X:Cx}{pos:Pos}
noncomputable def rR (i:Nat):TG:=λv σ H Q=>Q (σ.set i (some v)) H
theorem aZ {i:Nat}{x:Str}(F:X.N.Nodup) (hi:X.N[i]?=some x) (L:Loc X.env.scope x) (G:X.fn x=true\/X.env.scope.names.lookup x=some .local:=by first|exact .inl rfl|exact .inr rfl|assumption):PG X (.Name x pos) (rR i):=by
 intro pins s σ H v u Q I r h;exact wpAny_assign_Name (gC I F hi L r (λs' J=>⟨_,H,J,h⟩) G)
noncomputable def Gi:DE:=λvs σ H Q=>vs=[]/\Q σ H
inductive yu (t:TG) (u:DE) (vs:List V) (σ:St) (H:Hp) (Q:St->Hp->Prop):Prop
 |mk (v:_) (r:_) (_:vs=v::r) (_:t v σ H λσ' H'=>u r σ' H' Q):yu t u vs σ H Q
theorem cK:Fx X [] Gi:=by
 intro pins s σ H vs us Q I r h;obtain⟨e,h⟩:=h;subst e;cases r;exact assignInOrder_nil ⟨σ,H,I,h⟩
theorem bh {e:Expr}{es:List Expr}{t:TG}{u:DE}(h1:PG X e t) (h2:Fx X es u)
  (hs:(assignEach (e::es) X.env).map (·.2)=assign e X.env::(assignEach es X.env).map (·.2):=by rfl):Fx X (e::es) (yu t u):=by
 intro pins s σ H vs us Q I r h;obtain⟨v,S,F,h⟩:=h;subst F;cases r with
 |cons r G =>
  rw[hs];refine assignInOrder_cons (bU (h1 pins s σ H _ _ _ I r h) λ_ J N=>?_);obtain⟨R,H1,L,O⟩:=N;exact h2 pins J R H1 _ _ Q L G O
inductive DP (K:PySem.W.Frag) (n:Nat) (t:DE) (v:V) (σ:St) (H:Hp) (Q:St->Hp->Prop):Prop
 |mk (a:_) (xs:_) (_:v=.ref a) (_:bV K H a xs) (_:xs.length=n) (_:t xs σ H Q):DP K n t v σ H Q
theorem dB {es:List Expr}{k:Nat}{t:DE}{n:Nat}(R:X.calm=true) (h:Fx X es t)
  (S:(assignEach es X.env).length=n:=by rfl) (L:(assignEach es X.env).findIdx? (·.1)=none:=by rfl):PG X (.Tuple es k pos) (DP X.K n t):=by
 intro pins s σ H v u Q I r F;obtain⟨a,xs,N,J,U,F⟩:=F;subst N;cases r;obtain⟨its,G,ht,hz⟩:=I.tuple J;refine assign_Tuple_tuple (I.ok.hd R) ht (by simp[S, <-U,G.length]) L λh' Y=>?_;have O:Inv X pins σ H { s with heap:=h' }:=I.kept (t':=s.toks) λb o e=>Y b o (ne_of_lt (Heap.lt_size e)) e;exact h pins _ σ H xs _ Q O (by simpa using G) F
noncomputable def He (to G:TE) (t:xf):TG:=λv σ H Q=>to σ H λo H1=>G σ H1 λi H2=>t o i v H2 λF=>Q σ F
theorem dA {o i:Expr}{to G:TE}{t:xf}(ho:PE X o to) (hi:PE X i G) (hs:AH X t)
  (ha:∀v,assign (.Subscript o i pos) X.env v=(do
   let ov <-holding [v] (eval o X.env)
   let F <-holding [v,ov] (eval i X.env)
   standAt pos
   holding [v,ov,F] (setItem ov F v)
   release [v,ov,F] []):=by intro _;rfl):PG X (.Subscript o i pos) (He to G t):=by
 intro pins s σ H v u Q I r h;rw[ha];refine wpAny_bind (wpAny_holding (bU (ho pins s σ H _ I h) λov S ab=>?_));obtain⟨x,H1,U,N,q1⟩:=ab;refine wpAny_bind (wpAny_holding (bU (hi pins S σ H1 _ U q1) λF O ac=>?_));obtain⟨y,H2,I2,r2,q2⟩:=ac;refine wpAny_bind (wpAny_standAt (wpAny_bind (wpAny_holding (bU (hs pins O σ H2 x y v ov F u _ I2 N r2 r q2) λ_ s3 Y=>?_))));obtain⟨J,L,R⟩:=Y;exact wpAny_release ⟨σ,J,L,R⟩
noncomputable def Ba (te:TE) (g:TG):TS:=λD σ H=>te σ H λx H1=>g x σ H1 D.nx
theorem cF {tg e:Expr}{te:TE}{g:TG}(L:PE X e te) (hg:PG X tg g) (hs:swapsWithSole [tg] e pos.line X.env=pure false:=by rfl) (O:swappedStores [tg] e X.env=pure none:=by rfl)
  (h1:(assignEach [tg] X.env).map (·.2)=[assign tg X.env]:=by rfl):PS X (.Assign [tg] e pos) (Ba te g):=by
 intro pins s σ H D I h;refine wpAny_Assign_stores (bU (L pins s σ H _ I h) λv J G=>?_) hs O;obtain⟨x,H1,N,F,R⟩:=G;rw[h1];exact bU (hg pins J σ H1 x v _ N F R) λ_ S q=>q
theorem aL {i:Nat}{x:Str}{e:Expr}{te:TE}{pos':Pos}(O:X.N.Nodup) (hi:X.N[i]?=some x) (Y:Loc X.env.scope x) (L:PE X e te) (hs:swapsWith e (some (.Name x pos')) pos.line X.env=pure false:=by rfl) (R:X.fn x=true\/X.env.scope.names.lookup x=some .local:=by first|exact .inl rfl|exact .inr rfl|assumption) :
  PS X (.Assign [.Name x pos'] e pos) (Ba te (rR i)):=by
 intro pins s σ H D I h;refine wpAny_Assign_Name (bU (L pins s σ H _ I h) λv s1 G=>?_) hs;obtain⟨y,H1,J,F,U⟩:=G;exact gC J O hi Y F (λs2 S=>⟨_,H1,S,U⟩) R
noncomputable def Gq (i j:Nat) (ta:TA):TS:=λD σ H=>ta σ H λvs H1=>xy λv w=>vs=[v,w]/\D.nx ((σ.set i (some v)).set j (some w)) H1
theorem Dr {i j:Nat}{x y:Str}{a b:Expr}{ta:TA}{px O pt:Pos}{kt k2 pt2} (hc:X.calm=true) (S:X.N.Nodup) (hi:X.N[i]?=some x) (hj:X.N[j]?=some y) (ac:i≠j)
  (Y:X.env.scope.names.lookup x=some .local) (R:X.env.scope.names.lookup y=some .local) (ha:PA X [a,b] ta)
  (hw:swappedStores [.Tuple [.Name x px,.Name y O] kt pt] (.Tuple [a,b] k2 pt2) X.env=pure (some [x,y]))
  (hs:swapsWithSole [.Tuple [.Name x px,.Name y O] kt pt] (.Tuple [a,b] k2 pt2) pos.line X.env=pure false:=by rfl) :
  PS X (.Assign [.Tuple [.Name x px,.Name y O] kt pt] (.Tuple [a,b] k2 pt2) pos) (Gq i j ta):=by
 intro pins s σ H D I h;rw[exec_Assign_arm];refine wpAny_bind (wpAny_standAt ?_);rw[hs];refine wpAny_bind (wpAny_pure ?_);rw[if_neg av];refine wpAny_bind (Tuple_ (bU (ha _ pins s σ H _ I h) λus F ab=>?_));obtain⟨vs,H1,I1,r1,L⟩:=ab;obtain⟨v,w,e1,L⟩:=L;subst e1;obtain⟨J,G,rfl,rv,am⟩:∃J G,us=[J,G]/\RelV v J/\RelV w G:=by
  cases r1 with
  |cons p q =>
   cases q with
   |cons p' q' =>
    cases q';exact⟨_,_,rfl,p,p'⟩
 refine wpAny_newObj_type ?_ (by show 2<=sizeLine;decide);have I2:Inv X pins σ H1 { F with heap:=F.heap.push { cls:=.type "tuple",data:=.seq [J,G].toArray } }:=I1.kept (t':=F.toks) λb o e=>Heap.get?_push_of_some _ e;rw[hw];refine wpAny_bind (wpAny_pure ?_);show wpAny (model X.prog X.w) X.A (do rule "assign.swapped-stores";let items <-unpackItems (.ref F.heap.objs.size) 2 none;assignInOrder [λv=>bindName X.env y v,λv=>bindName X.env x v] items.reverse;pure Flow.next) _ _ _;refine wpAny_bind (wpAny_rule (wpAny_bind (unpackItems_tuple (items := #[J,G]) (I.ok.hd hc) (IsTup.new F.heap _) λh' ad=>?_)));have I3:=I2.kept (h':=h') (t':=F.toks) λb o e=>ad b o (ne_of_lt (Heap.lt_size e)) e;show wpAny _ _ (assignInOrder [λv=>bindName X.env y v,λv=>bindName X.env x v] [G,J]>>=λ_=>pure Flow.next) _ _ _;refine wpAny_bind (assignInOrder_cons (wpAny_bindName (gC I3 S hj (.inl R) am (λs2 I4=>?_) (.inr R))));refine assignInOrder_cons (wpAny_bindName (gC I4 S hi (.inl Y) rv (λs3 U=>assignInOrder_nil (wpAny_pure ?_)) (.inr Y)));rw[List.set_comm _ _ (Ne.symm ac)]at U;exact⟨_,H1,U,L⟩
noncomputable def Ea (to J te:TE) (F:V->V->Hp->VK->Prop) (G:Fv) (R:xf):TS:=λD σ H=>to σ H λo H1=>J σ H1 λi H2=>F o i H2 λx I=>te σ I λy O=>G x y O λz L=>R o i z L λN=>D.nx σ N
noncomputable def EX (X:Cx) (t:V->V->Hp->VK->Prop):Prop :=
 ∀(pins:List (Addr×Obj)) (s:Shared) (σ:St) (H:Hp) (o i:V) (ov F:Value) (Q:VK),Inv X pins σ H s->RelV o ov->RelV i F->t o i H Q ->
  wpAny (model X.prog X.w) X.A (getItem ov F) (EP X pins σ Q) X.xe s
theorem u4 {o i e:Expr}{to L te:TE}{N:V->V->Hp->VK->Prop}{O:Fv}{Y:xf}{R:Operator}{tpos:Pos}(ho:PE X o to) (hi:PE X i L) (hg:EX X N) (he:PE X e te) (hp:Gf X R O) (hs:AH X Y)
  (ha:∀ov F new,augStore i ov F new=(do holding [new,ov,F] (setItem ov F new);release [new,ov,F] [];pure .next):=by intros;rfl):PS X (.AugAssign (.Subscript o i tpos) R e pos) (Ea to L te N O Y):=by
 intro pins s σ H D I h;refine wpAny_AugAssign_SubscriptAny (bU (ho pins s σ H _ I h) λov s1 ac=>?_) ha;obtain⟨J,H1,I1,G,q1⟩:=ac;refine bU (hi pins s1 σ H1 _ I1 q1) λF s2 am=>?_;obtain⟨S,H2,I2,U,q2⟩:=am;refine bU (hg pins s2 σ H2 J S ov F _ I2 G U q2) λaB s3 ad=>?_;obtain⟨x3,H3,I3,r3,q3⟩:=ad;refine bU (he pins s3 σ H3 _ I3 q3) λv s4 as=>?_;obtain⟨x4,H4,I4,r4,q4⟩:=as;refine bU (hp pins s4 σ H4 x3 x4 aB v _ I4 r3 r4 q4) λnew s5 ab=>?_;obtain⟨x5,H5,I5,r5,q5⟩:=ab;exact bU (hs pins s5 σ H5 J S x5 ov F new _ I5 G U r5 q5) λ_ s6 ap=>by obtain⟨H6,I6,q6⟩:=ap;exact⟨σ,H6,I6,q6⟩
noncomputable def Hy (f:Int->Int->Int):Fv:=λx y H Q=>∃i j,x=.int i/\y=.int j/\Q (.int (f i j)) H
theorem Dk:Gf X .Add (Hy λi j=>i+j):=by
 intro pins s σ H x y v u Q I G L h;obtain⟨i,j,J,F,q⟩:=h;subst J;subst F;obtain⟨t,rfl⟩:=G;obtain⟨t',rfl⟩:=L;exact iadd_int ⟨.int _,H,I.tok _,⟨_,rfl⟩,q⟩
theorem Cs:Gf X .Sub (Hy λi j=>i-j):=by
 intro pins s σ H x y v u Q I G L h;obtain⟨i,j,J,F,q⟩:=h;subst J;subst F;obtain⟨t,rfl⟩:=G;obtain⟨t',rfl⟩:=L;exact isub_int ⟨.int _,H,I.tok _,⟨_,rfl⟩,q⟩
end
section
variable {X:Cx}{pos:Pos}
noncomputable def BK (c:TT) (tb:TS):TS:=λD σ H=>∃W:Nat->St->Hp->Prop,(∃m,W m σ H)/\∀m σ H,W m σ H ->
 c σ H λb H1=>if b=true then ∃N:St->Hp->Prop,(∀G H',N G H'->∃F,F<m/\W F G H')/\tb { D with nx:=N,ct:=N,bk:=D.nx } σ H1 else D.nx σ H1
theorem rP {c:Expr}{body:List Stmt}{tc:TT}{tb:TS}(hp:PassesOwn (model X.prog X.w) X.A X.env X.xe) (hc:PT X c tc) (hb:vm X body tb):PS X (.While c body [] pos) (BK tc tb):=by
 intro pins s σ H D I h;obtain⟨W,⟨m0,w0⟩,ac⟩:=h;refine wpAny_While (codeAny_whileLoop (λn s'=>∃ab H',Inv X pins ab H' s'/\W n ab H') ?_ m0 ⟨σ,H,I,w0⟩);rintro n s1 ⟨L,H1,I1,w1⟩;refine wpAny_passesOwn hp (bU (hc pins s1 L H1 _ I1 (ac n L H1 w1)) λb s2 ad=>?_);obtain⟨H2,I2,O⟩:=ad;cases b with
 |true =>
  obtain⟨N,hN,O⟩:=O;rw[if_pos rfl];refine wpAny_passesOwn hp (bU (hb pins s2 L H2 _ I2 O) λf s3 J=>?_);cases f with
  |next =>
   obtain⟨G,F,S,Y⟩:=J;obtain⟨R,U,w3⟩:=hN G F Y;exact⟨R,U,G,F,S,w3⟩
  |cont =>
   obtain⟨G,F,S,Y⟩:=J;obtain⟨R,U,w3⟩:=hN G F Y;exact⟨R,U,G,F,S,w3⟩
  |brk=>exact J
  |ret v=>exact J
 |false =>
  rw[if_neg Bool.false_ne_true];exact wpAny_execs_nil ⟨L,H2,I2,O⟩
end
structure It where
 go:Nat->Hp->Prop
 Ak:Nat->Hp->V->Hp->Prop
 stop:Nat->Hp->Prop
noncomputable def fQ (X:Cx) (pins:List (Addr×Obj)) (H:Hp) (b:Addr):Prop :=
 H b=none/\b≠X.env.locals/\b∉X.fs/\(b∈X.ex\/X.s₀.heap.objs.size<=b)/\(∀x c,X.env.cells.lookup x=some c->c≠b)/\∀p∈X.pn++pins,p.1≠b
theorem Inv.js {X:Cx}{pins:List (Addr×Obj)}{σ:St}{H H':Hp}{s:Shared}{b:Addr}(I:Inv X pins σ H s) (F:s.heap.objs.size<=b) (G:H' b=none):fQ X pins H' b:=by
 refine⟨G,ne_of_gt (lt_of_lt_of_le I.lt F),I.Es F,.inr (le_trans I.sz F),λx c e z=>?_,λp J z=>?_⟩
 .obtain⟨v,q⟩:=I.cell x c e;exact absurd (lt_of_lt_of_le q.lt (by rw[z];exact F)) (lt_irrefl _)
 .exact absurd (lt_of_lt_of_le (Heap.lt_size (I.pin p J).1) (by rw[z];exact F)) (lt_irrefl _)
structure Turn (P:Program) (w:World) (K:PySem.W.Frag) (tg:Expr) (J:It) (fp:List Addr) (it:Addr) (tn:Nat->Heap->Prop):Prop where
 mem:it∈fp
 obj:∀i h,tn i h->∀b∈fp,∃o,h.get? b=some o/\∀v,o.data≠.cell v
 keep:∀i h h',tn i h->(∀b∈fp,∀o,h.get? b=some o->h'.get? b=some o)->tn i h'
 item:∀(X:Cx),X.prog=P->X.w=w->X.K=K->X.calm=true->∀(i:Nat) (pins:List (Addr×Obj)) (s:Shared) (σ:St) (H:Hp) (E:Value->Shared->Prop),Inv X pins σ H s->(∀b∈fp,fQ X pins H b)->tn i s.heap->J.go i H ->
  wpAny (model P w) X.A (pyNext (.ref it)) (λr s1=>∃u,r=some u /\
   wpAny (model P w) X.A (letOwnedTupleGo tg (.ref it) u) (λ_ s2=>∃x H',Inv X pins σ H' s2/\RelV x u/\J.Ak i H x H'/\tn (i+1) s2.heap/\∀b∈fp,H' b=none) E s1) E s
 done:∀(X:Cx),X.prog=P->X.w=w->X.K=K->X.calm=true->∀(i:Nat) (pins:List (Addr×Obj)) (s:Shared) (σ:St) (H:Hp) (E:Value->Shared->Prop),Inv X pins σ H s->(∀b∈fp,fQ X pins H b)->tn i s.heap->J.stop i H ->
  wpAny (model P w) X.A (pyNext (.ref it)) (λr s1=>r=none/\Inv X pins σ H s1) E s
 self:∀(A:Around) (i:Nat) (s:Shared) (Q:Value->Shared->Prop) (E:Value->Shared->Prop),tn i s.heap->Q (.ref it) s->wpAny (model P w) A (pyIter (.ref it)) Q E s
noncomputable abbrev TI:=St->Hp->(It->Hp->Prop)->Prop
noncomputable def Hv (X:Cx) (pins:List (Addr×Obj)) (σ:St) (tg:Expr) (R:It->Hp->Prop) (L:Value) (I:Shared):Prop :=
 ∃(G:Addr) (fp:List Addr) (F:Nat->Heap->Prop) (J:It) (H':Hp),L=.ref G/\Inv X pins σ H' I/\Turn X.prog X.w X.K tg J fp G F/\F 0 I.heap/\(∀b∈fp,fQ X pins H' b)/\R J H'
noncomputable def PI (X:Cx) (tg iter:Expr) (wi:TI):Prop :=
 ∀(pins:List (Addr×Obj)) (s:Shared) (σ:St) (H:Hp) (R:It->Hp->Prop),Inv X pins σ H s->wi σ H R ->
  wpAny (model X.prog X.w) X.A (eval iter X.env) (λv F=>wpAny (model X.prog X.w) X.A (pyIter v) (Hv X pins σ tg R) X.xe F) X.xe s
theorem nX {M:Model}{A:Around}{E:Value->Shared->Prop}{s:Shared}{tg:Expr}{G:Addr}{u:Value}{o:Obj}{n:String}{vs:Array Value}{Q:Unit->Shared->Prop}(L:s.heap.get? G=some o) (I:o.cls=.type n) (hd:o.data=.fields vs)
  (J:["enumerate","zip","dict_itemiterator","dict_reverseitemiterator","odict_iterator","itertools.zip_longest","itertools.pairwise"].contains n=false) (F:Q () s):wpAny M A (letOwnedTupleGo tg (.ref G) u) Q E s:=by
 unfold letOwnedTupleGo;cases tg<;>first
  |exact wpAny_pure F
  |(cases u<;>first
    |exact wpAny_pure F
    |(refine wpAny_bind (wpAny_load L ?_)
      rw[I,hd];show wpAny M A (if (["enumerate","zip","dict_itemiterator","dict_reverseitemiterator","odict_iterator","itertools.zip_longest","itertools.pairwise"].contains n&&vs[0]?==some (rawInt _))=true then _ else _) Q E s;rw[if_neg (by intro h;rw[J,Bool.false_and]at h;cases h)];exact wpAny_pure F))
noncomputable def E5 (K:PySem.W.Frag) (a:Addr):It :=
 ⟨λi H=>∃xs x,bE K H a xs/\xs[i]?=some x,λi H x H'=>H'=H/\∀xs,bE K H a xs->xs[i]?=some x,λi H=>∃xs,bE K H a xs/\xs.length<=i⟩
noncomputable def Ft (K:PySem.W.Frag) (a:Addr):It :=
 ⟨λi H=>∃xs x,bV K H a xs/\xs[i]?=some x,λi H x H'=>H'=H/\∀xs,bV K H a xs->xs[i]?=some x,λi H=>∃xs,bV K H a xs/\xs.length<=i⟩
noncomputable def Bm (lo:Int) (n:Nat):It:=⟨λi _=>i<n,λi H x H'=>H'=H/\x=.int (lo+i),λi _=>n<=i⟩
theorem w9 {P:Program}{w:World}{K:PySem.W.Frag}{tg:Expr}(a F:Addr):Turn P w K tg (E5 K a) [F] F (λi h=>h.IsListIter F a i) where
 mem:=by simp
 obj:=λi h st b G=>by
  have e:b=F:=(by simpa using G);subst e;obtain⟨o,e,c,d⟩:=st;exact⟨o,e,λv z=>by rw[d]at z;cases z⟩
 keep:=λi h h' st k=>st.at λo e=>k F (by simp) o e
 item:=by
  intro X N hw Y hc i pins s σ H E I L st hg;subst N hw Y;obtain⟨xs,x,J,hx⟩:=hg;obtain⟨its,rv,p,hz⟩:=I.list J;obtain⟨u,hu,ru⟩:=rv.get hx;obtain⟨U,S,f2,O,R,f5⟩:=L F (by simp);refine wpAny_pyNext_list_item st p.isList (x:=u) (by simpa using hu) λh' ab sb=>?_;have I1:Inv X pins σ H { s with heap:=h' }:=I.turned (t':=s.toks) (λb o G e=>(sb.2 b G).trans e) U S O R f5;obtain⟨o,e,c,d⟩:=id ab;exact⟨u,rfl,nX (s:={ s with heap:=h' }) e c d av ⟨x,H,I1,ru,⟨rfl,λys hy=>by rw[I.ja hy J];exact hx⟩,ab,λb G=>(L b G).1⟩⟩
 done:=by
  intro X N hw Y hc i pins s σ H E I L st hg;subst N hw Y;obtain⟨xs,J,hx⟩:=hg;obtain⟨its,rv,p,hz⟩:=I.list J;obtain⟨U,S,f2,O,R,f5⟩:=L F (by simp);have hl:=rv.length;exact wpAny_pyNext_list_end (I.ok.hd hc) st p.isList (by simp;omega) λh' eb=>⟨rfl,I.turned (t':=s.toks) (λb o G e=>eb b o G e) U S O R f5⟩
 self:=λ_ _ _ _ _ st h=>wpAny_pyIter_listiter st h
theorem su {P:Program}{w:World}{K:PySem.W.Frag}{tg:Expr}(a F:Addr):Turn P w K tg (Ft K a) [F] F (λi h=>h.IsTupleIter F a i) where
 mem:=by simp
 obj:=λi h st b G=>by
  have e:b=F:=(by simpa using G);subst e;obtain⟨o,e,c,d⟩:=st;exact⟨o,e,λv z=>by rw[d]at z;cases z⟩
 keep:=λi h h' st k=>st.at λo e=>k F (by simp) o e
 item:=by
  intro X N hw Y hc i pins s σ H E I L st hg;subst N hw Y;obtain⟨xs,x,J,hx⟩:=hg;obtain⟨its,rv,p,hz⟩:=I.tuple J;obtain⟨u,hu,ru⟩:=rv.get hx;obtain⟨U,S,f2,O,R,f5⟩:=L F (by simp);refine wpAny_pyNext_tuple_item st (show s.heap.IsTuple a its.toArray from p) (x:=u) (by simpa using hu) λh' ab sb=>?_;have I1:Inv X pins σ H { s with heap:=h' }:=I.turned (t':=s.toks) (λb o G e=>(sb.2 b G).trans e) U S O R f5;obtain⟨o,e,c,d⟩:=id ab;exact⟨u,rfl,nX (s:={ s with heap:=h' }) e c d av ⟨x,H,I1,ru,⟨rfl,λys hy=>by rw[I.wK hy J];exact hx⟩,ab,λb G=>(L b G).1⟩⟩
 done:=by
  intro X N hw Y hc i pins s σ H E I L st hg;subst N hw Y;obtain⟨xs,J,hx⟩:=hg;obtain⟨its,rv,p,hz⟩:=I.tuple J;obtain⟨U,S,f2,O,R,f5⟩:=L F (by simp);have hl:=rv.length;exact wpAny_pyNext_tuple_end (I.ok.hd hc) st (show s.heap.IsTuple a its.toArray from p) (by simp;omega) λh' eb=>⟨rfl,I.turned (t':=s.toks) (λb o G e=>eb b o G e) U S O R f5⟩
 self:=λ_ _ _ _ _ st h=>wpAny_pyIter_tupleiter st h
theorem tD {P:Program}{w:World}{K:PySem.W.Frag}{tg:Expr}(F:Addr) (lo:Int) (n:Nat):Turn P w K tg (Bm lo n) [F] F (λi h=>IsRangeIter h F (lo+(i:Nat)*1) ((n:Int)-(i:Nat)) 1) where
 mem:=by simp
 obj:=λi h st b G=>by
  have e:b=F:=(by simpa using G);subst e;exact⟨_,st,λv z=>by
   have z':Data.fields _=Data.cell v:=z;cases z'⟩
 keep:=λi h h' st k=>k F (by simp) _ st
 item:=by
  intro X L hw Y N i pins s σ H E I J st hg;subst L hw Y;obtain⟨U,S,f2,O,R,f5⟩:=J F (by simp);have W:=Walks.range (prog:=X.prog) (w:=X.w) (I.ok.hd N) F lo 1 n;refine W.item i s _ _ hg st λv h' tk hv ab kk=>?_;obtain⟨t,rfl⟩:=hv;have I1:Inv X pins σ H { s with heap:=h',toks:=tk }:=I.turned (λb o G e=>kk b o (by simpa using G) e) U S O R f5;refine⟨_,rfl,nX (s:={ s with heap:=h',toks:=tk }) (n := "range_iterator") ab rfl rfl av ⟨.int (lo+i),H,I1,⟨t,?_⟩,⟨rfl,rfl⟩,ab,λb G=>(J b G).1⟩⟩;rw[Int.mul_one]
 done:=by
  intro X L hw Y N i pins s σ H E I J st hg;subst L hw Y;obtain⟨U,S,f2,O,R,f5⟩:=J F (by simp);exact wpAny_pyNext_range_end (I.ok.hd N) st (by have:n<=i:=hg;omega) λh' eb=>⟨rfl,I.turned (t':=s.toks) (λb o G e=>eb b o G e) U S O R f5⟩
 self:=λ_ _ _ _ _ st h=>wpAny_pyIter_rangeiter st h
section
variable {X:Cx}{tg:Expr}
noncomputable def D1 (K:PySem.W.Frag) (tl:TE):TI:=λσ H R=>tl σ H λx H1=>∃a,x=.ref a/\(∃xs,bE K H1 a xs)/\R (E5 K a) H1
noncomputable def FW (K:PySem.W.Frag) (tl:TE):TI:=λσ H R=>tl σ H λx H1=>∃a,x=.ref a/\(∃xs,bV K H1 a xs)/\R (Ft K a) H1
theorem gj {l:Expr}{tl:TE}(O:PE X l tl):PI X tg l (D1 X.K tl):=by
 intro pins s σ H R I h;refine bU (O pins s σ H _ I h) λv F L=>?_;obtain⟨x,H1,G,N,S⟩:=L;obtain⟨a,e,⟨xs,J⟩,q⟩:=S;subst e;cases N;obtain⟨its,rv,p,Y⟩:=G.list J;refine wpAny_pyIter_list p.isList ?_;refine⟨F.heap.objs.size,[F.heap.objs.size],_,_,H1,rfl,G.kept (t':=F.toks) λb o e=>Heap.get?_push_of_some _ e,w9 a _,⟨_,Heap.get?_push_size _ rfl,rfl,rfl⟩,λb U=>?_,q⟩;have e:b=F.heap.objs.size:=(by simpa using U);subst e;exact G.js (le_refl _) (G.bJ.fresh (le_refl _))
theorem CW {l:Expr}{tl:TE}(N:PE X l tl):PI X tg l (FW X.K tl):=by
 intro pins s σ H R I h;refine bU (N pins s σ H _ I h) λv F S=>?_;obtain⟨x,H1,G,L,O⟩:=S;obtain⟨a,e,⟨xs,J⟩,q⟩:=O;subst e;cases L;obtain⟨its,rv,p,Y⟩:=G.tuple J;refine wpAny_pyIter_tuple (show F.heap.IsTuple a its.toArray from p) ?_;refine⟨F.heap.objs.size,[F.heap.objs.size],_,_,H1,rfl,G.kept (t':=F.toks) λb o e=>Heap.get?_push_of_some _ e,su a _,⟨_,Heap.get?_push_size _ rfl,rfl,rfl⟩,λb U=>?_,q⟩;have e:b=F.heap.objs.size:=(by simpa using U);subst e;exact G.js (le_refl _) (G.bJ.fresh (le_refl _))
theorem r9 {pins:List (Addr×Obj)}{σ:St}{H:Hp}{s:Shared}{R:It->Hp->Prop}{E:Value->Shared->Prop}{lo hi:Int}{t u v:Tok}{tk:Nat}(I:Inv X pins σ H s) (h1 : -(2^62)<=lo) (h2:lo<2^62) (L : -(2^62)<=hi) (O:hi<2^62)
  (q:R (Bm lo (hi-lo).toNat) H):wpAny (model X.prog X.w) X.A (pyIter (.ref s.heap.objs.size)) (Hv X pins σ tg R) E { s with heap:=s.heap.push { cls:=.type "range",data:=.fields #[.int lo t,.int hi u,.int 1 v] },toks:=tk }:=by
 refine wpAny_pyIter_range (IsRange.new ..) (small_one h1 h2 L O) ?_;have F:Inv X pins σ H { s with heap:=s.heap.push { cls:=.type "range",data:=.fields #[.int lo t,.int hi u,.int 1 v] },toks:=tk }:=I.kept λb o e=>Heap.get?_push_of_some _ e;refine⟨(s.heap.push { cls:=.type "range",data:=.fields #[.int lo t,.int hi u,.int 1 v] }).objs.size,[(s.heap.push { cls:=.type "range",data:=.fields #[.int lo t,.int hi u,.int 1 v] }).objs.size],_,_,H,rfl,
  F.kept (t':=tk) λb o e=>Heap.get?_push_of_some _ e,tD _ lo (hi-lo).toNat,?_,λb N=>?_,q⟩
 .have J:lo+((0:Nat):Int)*1=lo:=(by simp);have G:(((hi-lo).toNat:Nat):Int)-((0:Nat):Int)=Builtin.Range.rangeSize lo hi 1:=(by rw[rangeSize_one];split<;>omega);show IsRangeIter _ _ (lo+((0:Nat):Int)*1) ((((hi-lo).toNat:Nat):Int)-((0:Nat):Int)) 1;rw[J,G];exact Heap.get?_push_size _ rfl
 .have e:b=(s.heap.push { cls:=.type "range",data:=.fields #[.int lo t,.int hi u,.int 1 v] }).objs.size:=(by simpa using N);subst e;exact F.js (le_refl _) (F.bJ.fresh (le_refl _))
noncomputable def Fi (ta:TA):TI:=λσ H R=>ta σ H λvs H1=>∃j:Int,vs=[.int j] /\ -(2^62)<=j/\j<2^62/\R (Bm 0 j.toNat) H1
noncomputable def ER (ta:TA):TI:=λσ H R=>ta σ H λvs H1=>xy λ(i j:Int)=>qF (vs=[.int i,.int j]) ((-(2^62)<=i/\i<2^62 /\ -(2^62)<=j/\j<2^62)) (R (Bm i (j-i).toNat) H1)
theorem wU {a:Expr}{ta:TA}{p pos:Pos}(hg:Gl X "range") (O:X.mg "range" = none) (S:PA X [a] ta) (hs:starEach [a] X.env=[(false,eval a X.env)]:=by rfl):PI X tg (.Call (.Name "range" p) [a] [] pos) (Fi ta):=by
 intro pins s σ H R I h;refine Call_ (gW I hg O boot_range (PyProof.Rows.callWith_type1 (bU (S pos pins s σ H _ I h) λus Y N=>?_) hs rfl));obtain⟨vs,H1,L,G,F⟩:=N;obtain⟨j,e,F,U,q⟩:=F;subst e;cases G with
 |cons r J =>
  cases J;obtain⟨t,rfl⟩:=r;exact call_range_1 (r9 L af af F U (by simpa using q))
theorem dW {a b:Expr}{ta:TA}{p pos:Pos}(hg:Gl X "range") (U:X.mg "range" = none) (ha:PA X [a,b] ta) (hs:starEach [a,b] X.env=[(false,eval a X.env),(false,eval b X.env)]:=by rfl) (J:starEach [b] X.env=[(false,eval b X.env)]:=by rfl) :
  PI X tg (.Call (.Name "range" p) [a,b] [] pos) (ER ta):=by
 intro pins s σ H R I h;refine Call_ (gW I hg U boot_range (PyProof.Rows.callWith_type1 (bU (ha pos pins s σ H _ I h) λus s1 ⟨vs,H1,S,L,F⟩=>?_) (by rw[hs,J]) (by rw[J];rfl)));obtain⟨i,j,e,⟨F,Y,N,q4⟩,q⟩:=F;subst e;cases L with
 |cons r G =>
  cases G with
  |cons O G =>
   cases G;obtain⟨t,rfl⟩:=r;obtain⟨t',rfl⟩:=O;exact call_range_2 (r9 S F Y N q4 q)
noncomputable def Hf (wi:TI) (g:TG) (tb:TS):TS:=λD σ H=>wi σ H λJ H1=>∃W:Nat->Nat->St->Hp->Prop,(∃m,W 0 m σ H1)/\∀i m σ H,W i m σ H ->
 (J.stop i H/\D.nx σ H)\/(J.go i H/\∃N:St->Hp->Prop,(∀G H',N G H'->∃F,F<m/\W (i+1) F G H')/\∀x H',J.Ak i H x H'->g x σ H' λI H2=>tb { D with nx:=N,ct:=N,bk:=D.nx } I H2)
noncomputable def mF (fp:List Addr) (h:Heap):List (Addr×Obj):=fp.filterMap λb=>(h.get? b).map λo=>(b,o)
theorem fY {fp:List Addr}{h:Heap}{b:Addr}{o:Obj}(F:b∈fp) (e:h.get? b=some o):(b,o)∈mF fp h:=List.mem_filterMap.mpr ⟨b,F,by rw[e];rfl⟩
theorem vU {fp:List Addr}{h:Heap}{p:Addr×Obj}(G:p∈mF fp h):p.1∈fp/\h.get? p.1=some p.2:=by
 obtain⟨b,I,e⟩:=List.mem_filterMap.mp G;cases q:h.get? b with
 |none=>rw[q]at e;cases e
 |some o =>
  rw[q]at e;have F:(b,o)=p:=Option.some.inj e;subst F;exact⟨I,q⟩
theorem Inv.pinned {pins:List (Addr×Obj)}{σ:St}{H:Hp}{s:Shared}{fp:List Addr}(I:Inv X pins σ H s) (S:∀b∈fp,fQ X pins H b) (N:∀b∈fp,∃o,s.heap.get? b=some o/\∀v,o.data≠.cell v):Inv X (pins++mF fp s.heap) σ H s :=
 I.kF λp J=>(List.mem_append.mp J).elim (λz=>I.pin p (mem_append_right _ z)) λz=>by
  obtain⟨G,e⟩:=vU z;obtain⟨O,L,R,_⟩:=S p.1 G;obtain⟨o,F,d⟩:=N p.1 G;rw[e]at F;cases F;exact⟨e,O,L,R,d⟩
theorem Inv.lM {pins pl:List (Addr×Obj)}{σ:St}{H:Hp}{s:Shared}(I:Inv X (pins++pl) σ H s):Inv X pins σ H s:=I.kF λp F=>I.pin p (mem_append_right _ (mem_append_left _ F))
theorem cY {iter:Expr}{body:List Stmt}{wi:TI}{g:TG}{tb:TS}{pos:Pos}(S:PassesOwn (model X.prog X.w) X.A X.env X.xe) (hc:X.calm=true) (hi:PI X tg iter wi) (hg:PG X tg g) (L:vm X body tb)
  (hs:∀x,foldedSetIterable iter X.env x=pure x:=by intro _;rfl):PS X (.For tg iter body [] pos) (Hf wi g tb):=by
 intro pins s σ H D I h;refine wpAny_For (bU (hi pins s σ H _ I h) λv s1 h1=>bU h1 λa6 s2 h2=>?_) hs;obtain⟨it,fp,tn,J,H2,e,I2,T,as,f2,W,⟨m0,w0⟩,a3⟩:=h2;subst e;have ac:∀{H':Hp},(∀b∈fp,H' b=none)->∀b∈fp,fQ X pins H' b:=λhn b L=>⟨hn b L,(f2 b L).2⟩;refine codeAny_forLoop_any (λn s'=>∃i U H',Inv X pins U H' s'/\tn i s'.heap/\(∀b∈fp,H' b=none)/\W i n U H') ?_ m0 ⟨0,σ,H2,I2,as,λb L=>(f2 b L).1,w0⟩;rintro n s3 ⟨i,Y,H3,I3,ad,am,w3⟩;rcases a3 i n Y H3 w3 with⟨a5,qn⟩|⟨go,N,hN,step⟩
 .refine wpAny_passesOwn S (bU (T.done X rfl rfl rfl hc i pins s3 Y H3 X.xe I3 (ac am) ad a5) λr s4 a1=>?_);obtain⟨hr,I4⟩:=a1;subst hr;exact wpAny_execs_nil ⟨Y,H3,I4,qn⟩
 .refine wpAny_passesOwn S (bU (T.item X rfl rfl rfl hc i pins s3 Y H3 X.xe I3 (ac am) ad go) λr s4 aB=>?_);obtain⟨u,hr,h4⟩:=aB;subst hr;refine wpAny_passesOwn S (bU h4 λ_ s5 a0=>?_);obtain⟨x,H5,I5,r5,y5,ab,a4⟩:=a0;have aT:=I5.pinned (ac a4) (T.obj _ _ ab);refine wpAny_passesOwn S (bU (hg _ s5 Y H5 x u _ aT r5 (step x H5 y5)) λ_ s6 a2=>?_);obtain⟨ap,H6,I6,q6⟩:=a2;refine wpAny_passesOwn S (bU (L _ s6 ap H6 _ I6 q6) λf s7 R=>?_);have again:∀{O:St}{G:Hp},Inv X (pins++mF fp s5.heap) O G s7->N O G->∃m,m<n/\∃i U H',Inv X pins U H' s7/\tn i s7.heap/\(∀b∈fp,H' b=none)/\W i m U H':=λ{O G} F n7=>by
   obtain⟨m',hm,w7⟩:=hN O G n7;refine⟨m',hm,i+1,O,G,F.lM,T.keep _ _ _ ab λb L o e=>(F.pin (b,o) (mem_append_right _ (mem_append_right _ (fY L e)))).1,λb L=>?_,w7⟩;obtain⟨o,e,d⟩:=T.obj _ _ ab b L;exact(F.pin (b,o) (mem_append_right _ (mem_append_right _ (fY L e)))).2.1
  cases f with
  |next=>obtain⟨O,G,F,n7⟩:=R;exact again F n7
  |cont=>obtain⟨O,G,F,n7⟩:=R;exact again F n7
  |brk=>obtain⟨O,G,F,R⟩:=R;exact⟨O,G,F.lM,R⟩
  |ret v=>obtain⟨x7,O,G,F,r7,R⟩:=R;exact⟨x7,O,G,F.lM,r7,R⟩
end
theorem eV {K:PySem.W.Frag}{a:Addr}{xs:List V}{g:TG}{tb:TS}{D:Ends}{σ:St}{H:Hp}(Pv:Nat->St->Hp->Prop) (L:Pv 0 σ H) (R:∀i σ H,i<=xs.length->Pv i σ H->bE K H a xs)
  (hs:∀i x σ H,xs[i]?=some x->Pv i σ H->g x σ H λG H2=>tb { D with nx:=Pv (i+1),ct:=Pv (i+1),bk:=D.nx } G H2) (hd:∀σ H,Pv xs.length σ H->D.nx σ H) :
  ∃W:Nat->Nat->St->Hp->Prop,(∃m,W 0 m σ H)/\∀i m σ H,W i m σ H ->
   ((E5 K a).stop i H/\D.nx σ H)\/((E5 K a).go i H/\∃N:St->Hp->Prop,(∀F H',N F H'->∃I,I<m/\W (i+1) I F H')/\∀x H',(E5 K a).Ak i H x H'->g x σ H' λG H2=>tb { D with nx:=N,ct:=N,bk:=D.nx } G H2):=by
 refine⟨λi m σ H=>m=xs.length-i/\i<=xs.length/\Pv i σ H,⟨xs.length,by simp,zero_le _,L⟩,?_⟩;rintro i m σ H ⟨rfl,hi,p⟩;have q:=R i σ H hi p;by_cases J:i<xs.length
 .refine .inr ⟨⟨xs,xs[i],q,by simp[J]⟩,Pv (i+1),λF H' O=>⟨xs.length-(i+1),af,rfl,J,O⟩,λx H' y=>?_⟩;obtain⟨e,y⟩:=y;subst e;exact hs i x σ _ (y xs q) p
 .have e:i=xs.length:=af;subst e;exact .inl ⟨⟨xs,q,le_refl _⟩,hd σ H p⟩
theorem fP {lo:Int}{n:Nat}{g:TG}{tb:TS}{D:Ends}{σ:St}{H:Hp}(Pv:Nat->St->Hp->Prop) (L:Pv 0 σ H)
  (hs:∀i σ H,i<n->Pv i σ H->g (.int (lo+i)) σ H λI H2=>tb { D with nx:=Pv (i+1),ct:=Pv (i+1),bk:=D.nx } I H2) (hd:∀σ H,Pv n σ H->D.nx σ H) :
  ∃W:Nat->Nat->St->Hp->Prop,(∃m,W 0 m σ H)/\∀i m σ H,W i m σ H ->
   ((Bm lo n).stop i H/\D.nx σ H)\/((Bm lo n).go i H/\∃N:St->Hp->Prop,(∀F H',N F H'->∃J,J<m/\W (i+1) J F H')/\∀x H',(Bm lo n).Ak i H x H'->g x σ H' λI H2=>tb { D with nx:=N,ct:=N,bk:=D.nx } I H2):=by
 refine⟨λi m σ H=>m=n-i/\i<=n/\Pv i σ H,⟨n,by simp,zero_le _,L⟩,?_⟩;rintro i m σ H ⟨rfl,hi,p⟩;by_cases G:i<n
 .refine .inr ⟨G,Pv (i+1),λF H' O=>⟨n-(i+1),af,rfl,G,O⟩,λx H' y=>?_⟩;obtain⟨e,y⟩:=y;subst e y;exact hs i σ _ G p
 .have e:i=n:=af;subst e;exact .inl ⟨le_refl _,hd σ H p⟩
noncomputable abbrev R2:=V->V->Hp->VK->Prop
noncomputable def kz (X:Cx) (f:Value->Value->Sem Value) (r:R2):Prop :=
 ∀(pins:List (Addr×Obj)) (s:Shared) (σ:St) (H:Hp) (x y:V) (v u:Value) (Q:VK),Inv X pins σ H s->RelV x v->RelV y u->r x y H Q ->
  wpAny (model X.prog X.w) X.A (f v u) (EP X pins σ Q) X.xe s
noncomputable def GW (X:Cx) (f:Value->Sem Value) (r:V->Hp->VK->Prop):Prop :=
 ∀(pins:List (Addr×Obj)) (s:Shared) (σ:St) (H:Hp) (x:V) (v:Value) (Q:VK),Inv X pins σ H s->RelV x v->r x H Q ->
  wpAny (model X.prog X.w) X.A (f v) (EP X pins σ Q) X.xe s
noncomputable def dr (X:Cx) (f:Value) (r:List V->Hp->VK->Prop):Prop :=
 ∀(pins:List (Addr×Obj)) (s:Shared) (σ:St) (H:Hp) (xs:List V) (us:List Value) (Q:VK),Inv X pins σ H s->Vals xs us->r xs H Q ->
  wpAny (model X.prog X.w) X.A (call f us) (EP X pins σ Q) X.xe s
noncomputable def DF (r:R2) (ta tb:TE):TE:=λσ H Q=>ta σ H λx H1=>tb σ H1 λy H2=>r x y H2 Q
noncomputable def Ic (r:V->Hp->VK->Prop) (ta:TE):TE:=λσ H Q=>ta σ H λx H1=>r x H1 Q
inductive rI (C:Int->Int->Prop) (g:Int->Int->V) (x:V) (y:V) (H:Hp) (Q:VK):Prop
 |mk (i:_) (j:_) (_:x=.int i) (_:y=.int j) (_:C i j) (_:Q (g i j) H):rI C g x y H Q
inductive Bu (g:Int->Int->V) (x:V) (y:V) (H:Hp) (Q:VK):Prop
 |mk (i:_) (j:_) (_:x=.int i) (_:y=.int j) (_:Q (g i j) H):Bu g x y H Q
inductive rU (g:Int->V) (x:V) (H:Hp) (Q:VK):Prop
 |mk (i:_) (_:x=.int i) (_:Q (g i) H):rU g x H Q
section
variable {X:Cx}{a b c:Expr}{ta tb tc:TE}{pos:Pos}
theorem Cm (ha:PE X a ta) (hb:PE X b tb) {pins:List (Addr×Obj)}{s:Shared}{σ:St}{H:Hp}{R:V->V->Hp->Prop}(I:Inv X pins σ H s)
  (h:ta σ H λx H1=>tb σ H1 λy H2=>R x y H2) {Q:Value->Shared->Prop}{f:Value->Value->Sem Value}
  (hf:∀v u F x y H2,Inv X pins σ H2 F->RelV x v->RelV y u->R x y H2->wpAny (model X.prog X.w) X.A (f v u) Q X.xe F) :
  wpAny (model X.prog X.w) X.A (eval a X.env) (λv G=>wpAny (model X.prog X.w) X.A (eval b X.env) (λu J=>wpAny (model X.prog X.w) X.A (f v u) Q X.xe J) X.xe G) X.xe s:=by
 refine bU (ha pins s σ H _ I h) λv U O=>?_;obtain⟨x,H1,Y,L,q1⟩:=O;refine bU (hb pins U σ H1 _ Y q1) λu F N=>?_;obtain⟨y,H2,I2,S,q2⟩:=N;exact hf v u F x y H2 I2 L S q2
theorem az {F:Operator}{r:R2}(J:kz X (binaryOp F) r) (R:PE X a ta) (S:PE X b tb):PE X (.BinOp a F b pos) (DF r ta tb):=by
 intro pins s σ H Q I h;exact wpAny_BinOp (Cm R S I h λv u L x y H2 O G N q=>J pins L σ H2 x y v u Q O G N q)
theorem DX {F:UnaryOp}{r:V->Hp->VK->Prop}(G:GW X (unaryOp F) r) (S:PE X a ta):PE X (.UnaryOp F a pos) (Ic r ta):=by
 intro pins s σ H Q I h;exact UnaryOp_ (bU (S pins s σ H _ I h) λv N J=>by obtain⟨x,H1,O,L,R⟩:=J;exact G pins N σ H1 x v Q O L R)
theorem FD {f:Value->Value->Sem Value}{C:Int->Int->Prop}{g:Int->Int->Int}
  (rule:∀(i j:Int) (t u:Tok) (s:Shared) (Q:Value->Shared->Prop) (E:Value->Shared->Prop),C i j->Q (.int (g i j) s.toks) { s with toks:=s.toks+1 }->wpAny (model X.prog X.w) X.A (f (.int i t) (.int j u)) Q E s) :
  kz X f (rI C λi j=>.int (g i j)):=by
 intro pins s σ H x y v u Q I F G h;obtain⟨i,j,rfl,rfl,J,q⟩:=h;obtain⟨t,rfl⟩:=F;obtain⟨t',rfl⟩:=G;exact rule i j t t' s _ _ J ⟨.int (g i j),H,I.tok _,⟨_,rfl⟩,q⟩
theorem En {f:Value->Value->Sem Value}{g:Int->Int->Int}
  (rule:∀(i j:Int) (t u:Tok) (s:Shared) (Q:Value->Shared->Prop) (E:Value->Shared->Prop),Q (.int (g i j) s.toks) { s with toks:=s.toks+1 }->wpAny (model X.prog X.w) X.A (f (.int i t) (.int j u)) Q E s) :
  kz X f (Bu λi j=>.int (g i j)):=by
 intro pins s σ H x y v u Q I F G h;obtain⟨i,j,rfl,rfl,q⟩:=h;obtain⟨t,rfl⟩:=F;obtain⟨t',rfl⟩:=G;exact rule i j t t' s _ _ ⟨.int (g i j),H,I.tok _,⟨_,rfl⟩,q⟩
theorem DC {f:Value->Value->Sem Value}{g:Int->Int->Bool}
  (rule:∀(i j:Int) (t u:Tok) (s:Shared) (Q:Value->Shared->Prop) (E:Value->Shared->Prop),Q (.bool (g i j)) s->wpAny (model X.prog X.w) X.A (f (.int i t) (.int j u)) Q E s) :
  kz X f (Bu λi j=>.bl (g i j)):=by
 intro pins s σ H x y v u Q I F G h;obtain⟨i,j,rfl,rfl,q⟩:=h;obtain⟨t,rfl⟩:=F;obtain⟨t',rfl⟩:=G;exact rule i j t t' s _ _ ⟨.bl (g i j),H,I,rfl,q⟩
noncomputable def FV (i j:Int):Prop:=0<j/\j<1073741824
noncomputable def Hj (i j:Int):Prop:=0<=j/\j<=1000000/\i.natAbs<2^64
noncomputable def xB (i j:Int):Prop:=(-(2^64)<i/\i<2^64)\/(-(2^64)<j/\j<2^64)
theorem xB.ok {i j:Int}(h:xB i j):IntMulOk i j:=by
 rcases h with⟨h1,h2⟩|⟨h1,h2⟩
 .exact .of_left (intBits_le_64 h1 h2)
 .exact .of_right (intBits_le_64 h1 h2)
theorem bq:kz X (binaryOp .Add) (Bu λi j=>.int (i+j)):=En λ_ _ _ _ _ _ _ q=>add_int q
theorem oS:kz X (binaryOp .Sub) (Bu λi j=>.int (i-j)):=En λ_ _ _ _ _ _ _ q=>sub_int q
theorem eS:kz X (binaryOp .Mult) (rI xB λi j=>.int (i*j)):=FD λ_ _ _ _ _ _ _ F q=>mul_int q F.ok
theorem bF:kz X (binaryOp .FloorDiv) (rI FV λi j=>.int (i/j)):=FD λi j _ _ _ _ _ F q=>by
 have h1:(0:Int)<j:=F.1;have h2:j<1073741824:=F.2;exact floordiv_int af (by rw[Int.fdiv_eq_ediv_of_nonneg i af];exact q) (.inl (PyProof.noPylong_small af))
theorem bH:kz X (binaryOp .Mod) (rI (λ_ j=>0<j) λi j=>.int (i%j)):=FD λi j _ _ _ _ _ F q=>by
 have h1:(0:Int)<j:=F;exact mod_int' af (by rw[Int.fmod_eq_emod_of_nonneg i af];exact q)
theorem tP:kz X (binaryOp .Pow) (rI Hj λi j=>.int (i^j.toNat)):=FD λ_ _ _ _ _ _ _ F q=>pow_int_small F.1 F.2.1 F.2.2 q
theorem HJ {f:Value->Sem Value}{g:Int->Int}
  (rule:∀(i:Int) (t:Tok) (s:Shared) (Q:Value->Shared->Prop) (E:Value->Shared->Prop),Q (.int (g i) s.toks) { s with toks:=s.toks+1 }->wpAny (model X.prog X.w) X.A (f (.int i t)) Q E s) :
  GW X f (rU λi=>.int (g i)):=by
 intro pins s σ H x v Q I F h;obtain⟨i,rfl,q⟩:=h;obtain⟨t,rfl⟩:=F;exact rule i t s _ _ ⟨.int (g i),H,I.tok _,⟨_,rfl⟩,q⟩
theorem CV:GW X (unaryOp .USub) (rU λi=>.int (-i)):=HJ λ_ _ _ _ _ q=>neg_int q
end
noncomputable def Am:V->V->Bool
 |.non,.non=>true|.non,.int _=>true|.int _,.non=>true|.non,.bl _=>true|.bl _,.non=>true|.non,.str _=>true|.str _,.non=>true
 |.int _,.int _=>true|.bl _,.bl _=>true|.str _,.str _=>true|.byt _,.byt _=>true
 |.int _,.str _=>true|.str _,.int _=>true|.bl _,.str _=>true|.str _,.bl _=>true
 |_,_=>false
noncomputable def Gv:R2:=λx y H Q=>Am x y=true/\Q (.bl (decide (x=y))) H
noncomputable def HX:R2:=λx y H Q=>Am x y=true/\Q (.bl (!decide (x=y))) H
theorem vo {i j:Int}:decide (V.int i=V.int j)=(i==j):=by
 rw[Bool.eq_iff_iff];simp
theorem xI {i j:Bool}:decide (V.bl i=V.bl j)=(i==j):=by
 rw[Bool.eq_iff_iff];simp
theorem vA {i j:Str}:decide (V.str i=V.str j)=(i==j):=by
 rw[Bool.eq_iff_iff];simp
theorem u6 {i j:Array UInt8}:decide (V.byt i=V.byt j)=(i.toList==j.toList):=by
 rw[Bool.eq_iff_iff];cases i;cases j;simp
section
variable {X:Cx}{a b c:Expr}{ta tb tc:TE}{pos:Pos}
theorem bM {pins:List (Addr×Obj)}{σ:St}{H:Hp}{s:Shared}{Q:VK}{k F:Bool}(I:Inv X pins σ H s) (q:Q (.bl k) H) (e:k=F):EP X pins σ Q (.bool F) s:=by
 subst e;exact⟨.bl k,H,I,rfl,q⟩
theorem bS:kz X (compareOp .Eq) Gv:=by
 intro pins s σ H x y v u Q I G F h;obtain⟨hs,q⟩:=h;cases x with
 |non =>
  cases G;cases y with
  |non=>cases F;exact PySem.EqNone.eq_none_none (bM I q (by simp))
  |bl j=>cases F;exact PySem.EqNone.eq_none_bool (bM I q (by simp))
  |int j=>obtain⟨t',rfl⟩:=F;exact PySem.EqNone.eq_none_int (bM I q (by simp))
  |str j=>obtain⟨t',rfl⟩:=F;exact PySem.EqNone.eq_none_str (bM I q (by simp))
  |_=>exact absurd (show false=true from hs) Bool.false_ne_true
 |bl i =>
  cases G;cases y with
  |non=>cases F;exact PySem.EqNone.eq_bool_none (bM I q (by simp))
  |bl j=>cases F;exact eq_bool (bM I q xI)
  |str j=>obtain⟨t',rfl⟩:=F;exact PySem.EqMixed.eq_bool_str (bM I q (by simp))
  |_=>exact absurd (show false=true from hs) Bool.false_ne_true
 |int i =>
  obtain⟨t,rfl⟩:=G;cases y with
  |non=>cases F;exact PySem.EqNone.eq_int_none (bM I q (by simp))
  |int j=>obtain⟨t',rfl⟩:=F;exact eq_int (bM I q vo)
  |str j=>obtain⟨t',rfl⟩:=F;exact PySem.EqMixed.eq_int_str (bM I q (by simp))
  |_=>exact absurd (show false=true from hs) Bool.false_ne_true
 |str i =>
  obtain⟨t,rfl⟩:=G;cases y with
  |non=>cases F;exact PySem.EqNone.eq_str_none (bM I q (by simp))
  |bl j=>cases F;exact PySem.EqMixed.eq_str_bool (bM I q (by simp))
  |int j=>obtain⟨t',rfl⟩:=F;exact PySem.EqMixed.eq_str_int (bM I q (by simp))
  |str j=>obtain⟨t',rfl⟩:=F;exact eq_str (bM I q vA)
  |_=>exact absurd (show false=true from hs) Bool.false_ne_true
 |byt i =>
  obtain⟨t,rfl⟩:=G;cases y with
  |byt j=>obtain⟨t',rfl⟩:=F;exact PySem.W.eq_bytes (bM I q u6)
  |_=>exact absurd (show false=true from hs) Bool.false_ne_true
 |_=>cases y<;>exact absurd (show false=true from hs) Bool.false_ne_true
theorem yZ:kz X (compareOp .NotEq) HX:=by
 intro pins s σ H x y v u Q I G F h;obtain⟨hs,q⟩:=h;cases x with
 |non =>
  cases G;cases y with
  |non=>cases F;exact PySem.EqNone.ne_none_none (bM I q (by simp))
  |bl j=>cases F;exact PySem.EqNone.ne_none_bool (bM I q (by simp))
  |int j=>obtain⟨t',rfl⟩:=F;exact PySem.EqNone.ne_none_int (bM I q (by simp))
  |str j=>obtain⟨t',rfl⟩:=F;exact PySem.EqNone.ne_none_str (bM I q (by simp))
  |_=>exact absurd (show false=true from hs) Bool.false_ne_true
 |bl i =>
  cases G;cases y with
  |non=>cases F;exact PySem.EqNone.ne_bool_none (bM I q (by simp))
  |bl j=>cases F;exact ne_bool (bM I q (congrArg not xI))
  |str j=>obtain⟨t',rfl⟩:=F;exact PySem.EqMixed.ne_bool_str (bM I q (by simp))
  |_=>exact absurd (show false=true from hs) Bool.false_ne_true
 |int i =>
  obtain⟨t,rfl⟩:=G;cases y with
  |non=>cases F;exact PySem.EqNone.ne_int_none (bM I q (by simp))
  |int j=>obtain⟨t',rfl⟩:=F;exact ne_int (bM I q (congrArg not vo))
  |str j=>obtain⟨t',rfl⟩:=F;exact PySem.EqMixed.ne_int_str (bM I q (by simp))
  |_=>exact absurd (show false=true from hs) Bool.false_ne_true
 |str i =>
  obtain⟨t,rfl⟩:=G;cases y with
  |non=>cases F;exact PySem.EqNone.ne_str_none (bM I q (by simp))
  |bl j=>cases F;exact PySem.EqMixed.ne_str_bool (bM I q (by simp))
  |int j=>obtain⟨t',rfl⟩:=F;exact PySem.EqMixed.ne_str_int (bM I q (by simp))
  |str j=>obtain⟨t',rfl⟩:=F;exact ne_str (bM I q (congrArg not vA))
  |_=>exact absurd (show false=true from hs) Bool.false_ne_true
 |byt i =>
  obtain⟨t,rfl⟩:=G;cases y with
  |byt j=>obtain⟨t',rfl⟩:=F;exact PySem.W.ne_bytes (bM I q (congrArg not u6))
  |_=>exact absurd (show false=true from hs) Bool.false_ne_true
 |_=>cases y<;>exact absurd (show false=true from hs) Bool.false_ne_true
theorem gu:kz X (compareOp .Lt) (Bu λi j=>.bl (decide (i<j))):=DC λ_ _ _ _ _ _ _ q=>lt_int q
theorem gU:kz X (compareOp .Gt) (Bu λi j=>.bl (decide (j<i))):=DC λ_ _ _ _ _ _ _ q=>gt_int q
theorem Eu:kz X (compareOp .GtE) (Bu λi j=>.bl (decide (j<=i))):=DC λ_ _ _ _ _ _ _ q=>ge_int q
theorem zG:kz X (compareOp .Is) (λx y H Q=>y=.non/\Q (.bl (decide (x=.non))) H):=by
 intro pins s σ H x y v u Q I F G h;obtain⟨rfl,q⟩:=h;cases G;refine is_none_gen (bM I q ?_);cases x<;>first
  |(cases F;rfl)
  |(obtain⟨t,rfl⟩:=F;rfl)
theorem aG (b:Expr) {F:CmpOp}(h:F≠.In:=by decide) (h2:F≠.NotIn:=by decide):behindInMarks F b=false:=by
 have I:(F==CmpOp.In)=false:=by cases F<;>first|rfl|exact absurd rfl h
 have G:(F==CmpOp.NotIn)=false:=by cases F<;>first|rfl|exact absurd rfl h2
 cases b<;>simp[behindInMarks,I,G]
theorem kM {F:CmpOp}{r:R2}(J:kz X (compareOp F) r) (S:PE X a ta) (U:PE X b tb) (R:behindInMarks F b=false):PE X (.Compare a [F] [b] pos) (DF r ta tb):=by
 intro pins s σ H Q I h;exact wpAny_Compare1 (Cm S U I h λv u L x y H2 O G N q=>J pins L σ H2 x y v u Q O G N q) R
inductive ya (t:TE) (Q:Bool->Hp->Prop) (x:V) (H':Hp):Prop
 |mk (k:_) (_:x=.bl k) (_:Q k H'):ya t Q x H'
noncomputable def yb (t:TE):TT:=λσ H Q=>t σ H λx H'=>ya t Q x H'
theorem aC {F:CmpOp}{r:R2}(J:kz X (compareOp F) r) (ha:PE X a ta) (hb:PE X b tb) (hm:behindInMarks F b=false):PT X (.Compare a [F] [b] pos) (yb (DF r ta tb)):=by
 intro pins s σ H Q I h;refine wpAny_isTrue_Compare1 (bU (ha pins s σ H _ I h) λv Y ⟨x,H1,U,N,q1⟩=>bU (hb pins Y σ H1 _ U q1) λu O ⟨y,H2,I2,S,q2⟩ =>
  bU (J pins O σ H2 x y v u _ I2 N S q2) λc s3 ⟨z,G,L,r3,k,e,R⟩=>?_) hm
 subst e;cases r3;exact wpAny_truthy_bool ⟨G,L,R⟩
theorem lQ:(sizeLine:Nat)<2^63:=by rw[sizeLine_eq];decide
theorem vals1 {x:V}{us:List Value}(r:Vals [x] us):∃u,us=[u]/\RelV x u:=by
 cases r with
 |cons G F=>cases F;exact⟨_,rfl,G⟩
theorem vals2 {x y:V}{us:List Value}(r:Vals [x,y] us):∃u F,us=[u,F]/\RelV x u/\RelV y F:=by
 cases r with
 |cons J G =>
  cases G with
  |cons I L=>cases L;exact⟨_,_,rfl,J,I⟩
theorem oi (G:X.calm=true):dr X (.builtin "max") (λxs H Q=>∃i j,xs=[.int i,.int j]/\Q (.int (if j>i then j else i)) H):=by
 intro pins s σ H xs us Q I r h;obtain⟨i,j,rfl,q⟩:=h;obtain⟨u,J,rfl,⟨t,rfl⟩,⟨t',rfl⟩⟩:=vals2 r;refine max_two_ints (I.ok.hd G) λh' tk k=>⟨_,H,I.kept k,?_,q⟩;by_cases F:j>i
 .rw[if_pos F,if_pos F];exact⟨_,rfl⟩
 .rw[if_neg F,if_neg F];exact⟨_,rfl⟩
theorem wI (G:X.calm=true):dr X (.builtin "min") (λxs H Q=>∃i j,xs=[.int i,.int j]/\Q (.int (if j<i then j else i)) H):=by
 intro pins s σ H xs us Q I r h;obtain⟨i,j,rfl,q⟩:=h;obtain⟨u,J,rfl,⟨t,rfl⟩,⟨t',rfl⟩⟩:=vals2 r;refine min_two_ints (I.ok.hd G) λh' tk k=>⟨_,H,I.kept k,?_,q⟩;by_cases F:j<i
 .rw[if_pos F,if_pos F];exact⟨_,rfl⟩
 .rw[if_neg F,if_neg F];exact⟨_,rfl⟩
theorem dX:dr X (.type "int") (λxs H Q=>(∃i,xs=[.int i]/\Q (.int i) H)\/∃k,xs=[.bl k]/\Q (.int (if k then 1 else 0)) H):=by
 intro pins s σ H xs us Q I r h;rcases h with⟨i,rfl,q⟩|⟨k,rfl,q⟩
 .obtain⟨u,rfl,t,rfl⟩:=vals1 r;exact call_int_int ⟨.int i,H,I,⟨_,rfl⟩,q⟩
 .obtain⟨u,rfl,F⟩:=vals1 r;cases F;exact call_int_bool ⟨.int (if k then 1 else 0),H,I.tok _,⟨_,rfl⟩,q⟩
end
structure tj (h:Heap) (x dx C:Addr) (mA:Str->Option Value):Prop where
 obj:h.get? x=some (instObj C dx)
 ns:h.Ns1 dx mA
 ne:dx≠x
theorem xk {h:Heap}{dx:Addr}{mA:Str->Option Value}(n:h.Ns1 dx mA):∃od,h.get? dx=some od/\∀name,lookIn name od=some (mA name):=by
 obtain⟨o,es,ep,F,hd,J,_,L⟩:=n;refine⟨o,F,λname=>?_⟩;have e:=L name;unfold nsFind findBy at e;rw[<-Array.find?_toList]at e;unfold lookIn;rw[hd];dsimp only
 set_option tactic.hygienic true in split
 .rename_i y q;rw[q]at e;exact congrArg some e
 .rename_i q;rw[q]at e;have a:es.toList.any (·.refKey)=false:=by
   rw[List.any_eq_false];intro y G;obtain⟨z,t,N⟩:=J y (Array.mem_toList_iff.mp G);simp[DictEntry.refKey,N]
  have I:¬ es.toList.any (·.refKey)=true:=(by rw[a];exact Bool.false_ne_true);rw[if_neg I];exact congrArg some e
theorem tj.look {h:Heap}{x dx C:Addr}{mA:Str->Option Value}(I:tj h x dx C mA):∃od,PySem.W.InstAt h x (instObj C dx) C (some od)/\∀name,lookIn name od=some (mA name):=
 let ⟨od,G,F⟩:=xk I.ns
 ⟨od,⟨I.obj,rfl,rfl,G⟩,F⟩
section
variable {prog:Program}{w:World}{A:Around}{E:Value->Shared->Prop}{s:Shared}{K:PySem.W.Frag}{x dx C f:Addr}{mA:Str->Option Value}{name:Str}{v:Value}
theorem get_map {L:Bool}{Q:Value->Shared->Prop}(X:K.In s.heap) (I:tj s.heap x dx C mA) (hg:plainGet K C name=true) (R:hasDictIn K C=true)
  (O:findIn K (.ref C) name=some none) (F:mA name=some v) (N:handedIn v=true) (h:Q v { s with toks:=s.toks+1 }) :
  wpAny (model prog w) A (getAttr (.ref x) name L) Q E s:=by
 obtain⟨od,J,G⟩:=I.look;exact PySem.W.get_value X J (plainGet_of hg).1 (PySem.W.findObj_own R O rfl (by rw[G,F])) N h
theorem zr {pl:Sem Bool}{Q:Value×List Value->Shared->Prop}(X:K.In s.heap) (I:tj s.heap x dx C mA) (hg:plainGet K C name=true)
  (L:findIn K (.ref C) name=some (some (.ref f))) (N:isFn K (.ref f)=true) (F:mA name=none) (h:Q (.ref f,[.ref x]) s) :
  wpAny (model prog w) A (getMethod (.ref x) name pl) Q E s:=by
 obtain⟨od,J,G⟩:=I.look;exact PySem.W.method_fn X J (plainGet_of hg).1 (plainGet_of hg).2 L (beq_iff_eq.mp N) (by show(lookIn name od).map (·.isSome)=some false;rw[G,F];rfl) h
theorem Au {ns:List Str}{Q:Unit->Shared->Prop}(X:K.In s.heap) (I:tj s.heap x dx C mA)
  (hs:findIn K (.ref C) "__setattr__" = some (some (.builtin "object.__setattr__"))) (R:plainOver K C=true) (ht:takerIn K C name=some none) (N:hasDictIn K C=true)
  (Y:PySem.Within mA ns) (hsz:ns.length<=sizeLine)
  (h:∀h',tj h' x dx C (λy=>if y=name then some v else mA y)->Heap.SameBut dx s.heap h'->Q () { s with heap:=h',toks:=s.toks+2 }) :
  wpAny (model prog w) A (setAttr (.ref x) name v) Q E s:=by
 obtain⟨od,J,hl⟩:=I.look;refine PySem.W.set_plain X J hs (PySem.W.osa_open (s:={ s with toks:=s.toks+1 }) (r:=none) X J R ht λb=>?_);obtain⟨cd,U,L⟩:=PySem.W.any_some N;have hx:s.heap.get? x=some ⟨.ref C,some dx,.plain, #[]⟩:=I.obj;refine wpAny_bind (wpAny_pure (wpAny_bind (wpAny_bind (wpAny_loadPart hx (wpAny_bind (PySem.W.Looks.here (s:={ s with toks:=s.toks+1 }) (PySem.W.looks_clsIn X U) ?_))))));rw[L];refine wpAny_pure (a:=some dx) (wpAny_bind (wpAny_pure (wpAny_bind ?_)));refine wpAny_nsSet1 (s:={ s with toks:=s.toks+1 }) I.ns λh' G F=>?_;obtain⟨oD,ad,ac,S,O,ab⟩:=G.count (PySem.Within.cons name v Y);refine wpAny_bind (wpAny_lookBehind S (by rw[O];exact pastItsLine_dict (le_trans ab (by rw[length_cons];omega))) ?_);exact wpAny_pure (h _ ⟨(F.2 _ (Ne.symm I.ne)).trans I.obj,G,I.ne⟩ F)
theorem xS {R:Result->Shared->Prop}{vs:List Value}{F:List (Str×Value)}(X:K.In s.heap) (I:makesIn K C=true)
  (hi:findIn K (.ref C) "__init__" = some (some (.ref f))) (G:PySem.W.typeIn K (.ref f)=some (.type "function"))
  (h:codeAny (model prog w) (A.under (.builtin "type.__call__" ⟨.ref C::vs,F⟩)) (.call (.ref f) ⟨.ref (s.heap.objs.size+1)::vs,F⟩) (PySem.W.InitBack (s.heap.objs.size+1) R)
   { s with heap:=(s.heap.push emptyDict).push (instObj C s.heap.objs.size) }) :
  codeAny (model prog w) A (.call (.ref C) ⟨vs,F⟩) R s:=by
 obtain⟨J,g,d,t,os⟩:=s;exact PySem.W.make_core (PySem.W.makes_of X I) (PySem.W.looks_findIn X hi) (λself=>PySem.W.bind_fn X self G) (.inl rfl) h
end
noncomputable def bo (f:Str) (v:V):List (Str×V)->List (Str×V)
 | []=>[(f,v)]
 |(g,x)::r=>if g=f then(g,v)::r else(g,x)::bo f v r
theorem aD (f g:Str) (v:V):∀fs:List (Str×V),(bo f v fs).lookup g=if g=f then some v else fs.lookup g
 | []=>by
  show List.lookup g [(f,v)]=_;by_cases h:g=f
  .have F:(g==f)=true:=beq_iff_eq.mpr h;simp only[List.lookup,F,if_pos h]
  .have F:(g==f)=false:=beq_eq_false_iff_ne.mpr h;simp only[List.lookup,F,if_neg h]
 |(k,x)::r=>by
  have I:=aD f g v r;rw[show bo f v ((k,x)::r)=(if k=f then(k,v)::r else(k,x)::bo f v r)from rfl];by_cases G:k=f
  .rw[if_pos G];by_cases h:g=k
   .have F:(g==k)=true:=beq_iff_eq.mpr h;simp only[List.lookup,F,if_pos (h.trans G)]
   .have F:(g==k)=false:=beq_eq_false_iff_ne.mpr h;simp only[List.lookup,F,if_neg (λe:g=f=>h (e.trans G.symm))]
  .rw[if_neg G];by_cases h:g=k
   .have F:(g==k)=true:=beq_iff_eq.mpr h;simp only[List.lookup,F,if_neg (λe:g=f=>G (h.symm.trans e))]
   .have F:(g==k)=false:=beq_eq_false_iff_ne.mpr h;simp only[List.lookup,F];exact I
theorem kf (f:Str) (v:V):∀fs:List (Str×V),f∈(bo f v fs).map (·.1)/\∀g,g∈fs.map (·.1)->g∈(bo f v fs).map (·.1)
 | []=>⟨by simp[bo],λg h=>by simp at h⟩
 |(k,x)::r=>by
  obtain⟨I,G⟩:=kf f v r;rw[show bo f v ((k,x)::r)=(if k=f then(k,v)::r else(k,x)::bo f v r)from rfl];by_cases F:k=f
  .rw[if_pos F];subst F;exact⟨by simp,λg h=>by simpa using h⟩
  .rw[if_neg F];refine⟨?_,λg h=>?_⟩
   .rw[map_cons];exact mem_cons_of_mem _ I
   .rw[map_cons]at h ⊢;rcases List.mem_cons.mp h with e|e
    .exact List.mem_cons.mpr (.inl e)
    .exact mem_cons_of_mem _ (G g e)
theorem ky (f:Str) (v:V):∀fs:List (Str×V),(bo f v fs).length<=fs.length+1
 | []=>by simp[bo]
 |(k,x)::r=>by
  have G:=ky f v r;rw[show bo f v ((k,x)::r)=(if k=f then(k,v)::r else(k,x)::bo f v r)from rfl];by_cases F:k=f
  .rw[if_pos F,length_cons,length_cons];omega
  .rw[if_neg F,length_cons,length_cons];omega
theorem fm.some_of {v:V}{o:Option Value}(r:fm (some v) o):∃u,o=some u/\RelV v u:=by
 cases o with
 |none=>exact(show False from r).elim
 |some u=>exact⟨u,rfl,r⟩
theorem fm.none_of {o:Option Value}(r:fm none o):o=none:=by
 cases o with
 |none=>rfl
 |some u=>exact(show False from r).elim
theorem xp {v:V}{u:Value}(r:RelV v u):handedIn u=true:=by
 cases v with
 |non=>cases(show u=Value.none from r);rfl
 |bl b=>cases(show u=Value.bool b from r);rfl
 |int i=>obtain⟨t,e⟩:=(show ∃t,u=Value.int i t from r);cases e;rfl
 |str x=>obtain⟨t,e⟩:=(show ∃t,u=Value.str x t from r);cases e;rfl
 |byt b=>obtain⟨t,e⟩:=(show ∃t,u=Value.bytes b t from r);cases e;rfl
 |flt b=>obtain⟨t,e⟩:=(show ∃t,u=Value.float b t from r);cases e;rfl
 |ref a=>cases(show u=Value.ref a from r);rfl
 |ty n=>cases(show u=Value.type n from r);rfl
section
variable {P:Program}{w:World}{H H':Hp}{h h':Heap}{a C dx:Addr}{fs fs':List (Str×V)}
theorem kJ (F:iT P w H h) (e:H a=some (.ins C dx fs)):∃mA,tj h a dx C mA/\(∀f,fm (fs.lookup f) (mA f))/\PySem.Within mA (fs.map (·.1))/\fs.length<=1000/\H dx=some (.own a):=by
 obtain⟨d,z,I,G,mA,n,r,q⟩:=(show bT P w H h a (.ins C dx fs)from F a _ e);exact⟨mA,⟨G,n,I⟩,r,q,z,d⟩
end
structure qE (K:PySem.W.Frag) (C:Addr):Prop where
 pg:plainGet K C Str.empty=true
 hd:hasDictIn K C=true
 po:plainOver K C=true
 sa:findIn K (.ref C) "__setattr__" = some (some (.builtin "object.__setattr__"))
theorem qE.get {K:PySem.W.Frag}{C:Addr}(c:qE K C) (f:Str):plainGet K C f=true:=c.pg
noncomputable def cX (K:PySem.W.Frag) (C:Addr) (f:Str):Prop:=findIn K (.ref C) f=some none
theorem cX.DL {K:PySem.W.Frag}{C:Addr}{f:Str}(n:cX K C f):takerIn K C f=some none:=by
 unfold takerIn;rw[show findIn K (.ref C) f=some none from n];rfl
structure Meth (K:PySem.W.Frag) (C:Addr) (m:Str) (f:Addr):Prop where
 at_:findIn K (.ref C) m=some (some (.ref f))
 fn:isFn K (.ref f)=true
 kp:keepIn K (.ref f)=true
section
variable {X:Cx}{pins:List (Addr×Obj)}{σ:St}{H:Hp}{s:Shared}{a C dx:Addr}{fs:List (Str×V)}{f:Str}{v:V}{A:Around}{E:Value->Shared->Prop}
theorem mE {b:Bool}{Q:Value->Shared->Prop}(I:Inv X pins σ H s) (e:H a=some (.ins C dx fs)) (c:qE X.K C) (n:cX X.K C f) (l:fs.lookup f=some v)
  (h:∀u s',Inv X pins σ H s'->RelV v u->Q u s'):wpAny (model X.prog X.w) A (getAttr (.ref a) f b) Q E s:=by
 obtain⟨mA,O,r,_,_,_⟩:=kJ I.bJ e;obtain⟨u,G,F⟩:=fm.some_of (v:=v) (o:=mA f) (by rw[<-l];exact r f);exact get_map I.jV O (c.get f) c.hd n G (xp F) (h u _ (I.tok _) F)
theorem lC {m:Str}{g:Addr}{pl:Sem Bool}{Q:Value×List Value->Shared->Prop}(I:Inv X pins σ H s) (e:H a=some (.ins C dx fs)) (c:qE X.K C) (k:Meth X.K C m g) (l:fs.lookup m=none)
  (h:Q (.ref g,[.ref a]) s):wpAny (model X.prog X.w) A (getMethod (.ref a) m pl) Q E s:=by
 obtain⟨mA,O,r,_,_,_⟩:=kJ I.bJ e;have F:mA m=none:=fm.none_of (by rw[<-l];exact r m);exact zr I.jV O (c.get m) k.at_ k.fn F h
theorem mH {y:V}{u:Value}{Q:Unit->Shared->Prop}(I:Inv X pins σ H s) (e:H a=some (.ins C dx fs)) (c:qE X.K C) (n:cX X.K C f) (U:fs.length<1000) (N:RelV y u)
  (h:∀s',Inv X pins σ (upd H a (.ins C dx (bo f y fs))) s'->Q () s'):wpAny (model X.prog X.w) A (setAttr (.ref a) f u) Q E s:=by
 obtain⟨mA,O,r,wi,_,G⟩:=kJ I.bJ e;have L:(fs.map (·.1)).length<=sizeLine:=(by rw[length_map,sizeLine_eq];omega);refine Au I.jV O c.sa c.po n.DL c.hd wi L λh' F J=>h _ ?_;have hd:∃o,h'.get? dx=some o:=let ⟨o,_,_,R,_⟩:=F.ns;⟨o,R⟩;refine I.write (x:=a) (e:=dx) (by rw[e];exact True.intro) (.inr G) (λb q S z=>(J.2 b S).trans z) hd ?_;refine⟨by rw[ah O.ne];exact G,?_,O.ne,F.obj,_,F.ns,λg=>?_,λg hg=>?_⟩
 .have:=ky f y fs;omega
 .show fm ((bo f y fs).lookup g) (if g=f then some u else mA g);rw[aD];by_cases q:g=f
  .rw[if_pos q,if_pos q];exact N
  .rw[if_neg q,if_neg q];exact r g
 .by_cases q:g=f
  .rw[q];exact(kf f y fs).1
  .refine(kf f y fs).2 g (wi g λz=>hg ?_);show(if g=f then some u else mA g)=none;rw[if_neg q];exact z
theorem Inv.made (I:Inv X pins σ H s):Inv X pins σ (upd (upd H s.heap.objs.size (.own (s.heap.objs.size+1))) (s.heap.objs.size+1) (.ins C s.heap.objs.size []))
  { s with heap:=(s.heap.push emptyDict).push (instObj C s.heap.objs.size) }:=by
 have G:(s.heap.push emptyDict).get? s.heap.objs.size=some emptyDict:=Heap.get?_push_size s.heap rfl;have J:((s.heap.push emptyDict).push (instObj C s.heap.objs.size)).get? (s.heap.objs.size+1)=some (instObj C s.heap.objs.size):=by
  have:=Heap.get?_push_size (s.heap.push emptyDict) (o:=instObj C s.heap.objs.size) rfl
  rwa [Heap.size_push]at this
 have R:(s.heap.push emptyDict).Ns s.heap.objs.size (λ_=>none):=⟨emptyDict, #[],_,G,rfl,(λe O=>absurd O (by simp)),λ_=>rfl⟩;have N:=I.laid (a:=s.heap.objs.size) (o:=.own (s.heap.objs.size+1)) (h':=s.heap.push emptyDict) (t':=s.toks) (λb u q=>Heap.get?_push_of_some _ q) (le_refl _) ⟨_,G⟩;refine N.laid (a:=s.heap.objs.size+1) (o:=.ins C s.heap.objs.size []) (t':=s.toks) (λb u q=>Heap.get?_push_of_some _ q) (Nat.le_of_eq (Heap.size_push _ _)) ?_;have F:s.heap.objs.size≠s.heap.objs.size+1:=ne_of_lt (Nat.lt_succ_self _);refine⟨by rw[ah F,ae],zero_le _,F,J,λ_=>none,(Heap.Ns1.of_empty R).at λo q=>Heap.get?_push_of_some _ q,λ_=>True.intro,λy L=>absurd rfl L⟩
theorem AD {prog:Program}{w:World}{env:Env}{e:Expr}{f:Str}{pos:Pos}{s:Shared}{Q:Value->Shared->Prop}(G:attributeBase e f env (eval e env)=eval e env)
  (h:wpAny (model prog w) A (eval e env) (λo F=>wpAny (model prog w) A (getAttr o f true) Q E F) E s):wpAny (model prog w) A (eval (.Attribute e f pos) env) Q E s :=
 Attribute_any_ h (by rw[arm_eval_Attribute,G])
end
inductive Bn (K:PySem.W.Frag) (ta:TE) (f:Str) (Q:VK) (x:V) (H1:Hp):Prop
 |mk (a:_) (C:_) (dx:_) (fs:_) (v:_) (_:x=.ref a) (_:H1 a=some (.ins C dx fs)) (_:qE K C) (_:cX K C f) (_:fs.lookup f=some v) (_:Q v H1):Bn K ta f Q x H1
noncomputable def Bl (K:PySem.W.Frag) (ta:TE) (f:Str):TE:=λσ H Q=>ta σ H λx H1=>Bn K ta f Q x H1
noncomputable def Hh (K:PySem.W.Frag) (ta tv:TE) (f:Str):TS:=λD σ H=>tv σ H λy H1=>ta σ H1 λx H2=>Fz λa C dx fs=>wo (x=.ref a) (H2 a=some (.ins C dx fs)) (qE K C) (cX K C f) (fs.length<1000) (D.nx σ (upd H2 a (.ins C dx (bo f y fs))))
noncomputable def D2 (X:Cx) (F:Operator) (rd:V->V->Hp->VK->Prop):Prop :=
 ∀(pins:List (Addr×Obj)) (s:Shared) (σ:St) (H:Hp) (x y:V) (u v:Value) (Q:VK),Inv X pins σ H s->RelV x u->RelV y v->rd x y H Q->wpAny (model X.prog X.w) X.A (inplaceOp F u v) (EP X pins σ Q) X.xe s
noncomputable def AU (K:PySem.W.Frag) (ta tv:TE) (rd:V->V->Hp->VK->Prop) (f:Str):TS:=λD σ H=>ta σ H λx H1=>zX λa C dx fs v=>wo (x=.ref a) (H1 a=some (.ins C dx fs)) (qE K C) (cX K C f) (fs.lookup f=some v) (tv σ H1 λy H2=>rd v y H2 λz G=>∃F fs',G a=some (.ins C F fs')/\fs'.length<1000/\D.nx σ (upd G a (.ins C F (bo f z fs'))))
section
variable {X:Cx}{o e value:Expr}{f:Str}{pos pos' tpos:Pos}{ta tv:TE}
theorem aK (L:PE X e ta) (R:attributeBase e f X.env (eval e X.env)=eval e X.env):PE X (.Attribute e f pos) (Bl X.K ta f):=by
 intro pins s σ H Q I h;refine AD R (bU (L pins s σ H _ I h) λu s1 G=>?_);obtain⟨x,H1,J,F,a,C,dx,fs,v,ex,S,c,n,l,q⟩:=G;subst ex;obtain rfl:u=Value.ref a:=F;exact mE J S c n l λU Y O N=>⟨v,H1,O,N,q⟩
theorem eT (ha:PE X o ta) (Y:PE X value tv) (hs:swapsWith value (some (.Attribute o f pos')) pos.line X.env=pure false):PS X (.Assign [.Attribute o f pos'] value pos) (Hh X.K ta tv f):=by
 intro pins s σ H D I h;refine plainObj_wpAny_Assign_Attribute (bU (Y pins s σ H _ I h) λu L ab=>?_) hs;obtain⟨y,H1,N,J,q⟩:=ab;refine bU (ha pins L σ H1 _ N q) λov s2 F=>?_;obtain⟨x,H2,O,U,a,C,dx,fs,ex,S,c,n,l,R⟩:=F;subst ex;obtain rfl:ov=Value.ref a:=U;exact mH O S c n l J λs3 G=>⟨σ,_,G,R⟩
theorem wQ {F:Operator}{rd:V->V->Hp->VK->Prop}(ha:PE X o ta) (hv:PE X value tv) (N:D2 X F rd):PS X (.AugAssign (.Attribute o f tpos) F value pos) (AU X.K ta tv rd f):=by
 intro pins s σ H D I h;refine wpAny_AugAssign_AttributeAny (bU (ha pins s σ H _ I h) λov s1 S=>?_);obtain⟨x,H1,Y,rx,a,C,dx,fs,v,ex,ea,c,n,l,q⟩:=S;subst ex;obtain rfl:ov=Value.ref a:=rx;refine mE Y ea c n l λu L I2 ru=>bU (hv pins L σ H1 _ I2 q) λw3 J ab=>?_;obtain⟨y,H2,G,R,O⟩:=ab;refine bU (N pins J σ H2 v y u w3 _ G ru R O) λw4 s4 ac=>?_;obtain⟨z,H3,U,rz,am,fs',ad,l',q4⟩:=ac;exact mH U ad c n l' rz λs5 I5=>⟨σ,_,I5,q4⟩
inductive Em (x:V) (y:V) (H:Hp) (Q:VK):Prop
 |mk (i:_) (j:_) (_:x=.int i) (_:y=.int j) (_:Q (.int (i+j)) H):Em x y H Q
theorem Ci:D2 X .Add Em:=by
 rintro pins s σ H x y u v Q I F G ⟨i,j,rfl,rfl,q⟩;obtain⟨t,rfl⟩:=(show ∃t,u=Value.int i t from F);obtain⟨t',rfl⟩:=(show ∃t',v=Value.int j t' from G);exact PyProof.Rows.iadd_int ⟨.int (i+j),H,I.tok _,⟨_,rfl⟩,q⟩
end
section
variable {X:Cx}{pins:List (Addr×Obj)}{σ:St}{H:Hp}{s:Shared}{A:Around}{E:Value->Shared->Prop}{Q:Value->Shared->Prop}{c:Value}{b:Bool}
inductive jF (K:PySem.W.Frag) (H:Hp):V->Value->Prop where
 |non:jF K H .non (.type "NoneType")
 |bl (x:Bool):jF K H (.bl x) (.type "bool")
 |int (i:Int):jF K H (.int i) (.type "int")
 |str (x:Str):jF K H (.str x) (.type "str")
 |flt (x:UInt64):jF K H (.flt x) (.type "float")
 |lst {a:Addr}{xs:List V}(e:H a=some (.lst xs)):jF K H (.ref a) (.type "list")
 |frz {a:Addr}{o:Obj}{xs:List V}(e:H a=some (.frz o (.lst xs))):jF K H (.ref a) (.type "list")
 |tup {a:Addr}{xs:List V}(e:H a=some (.tup xs)):jF K H (.ref a) (.type "tuple")
 |dK {a:Addr}{kvs:List (Key×V)}(e:H a=some (.dK kvs)):jF K H (.ref a) (.type "dict")
 |dT {a:Addr}{kvs:List (List Key×V)}(e:H a=some (.dT kvs)):jF K H (.ref a) (.type "dict")
 |ins {a C dx:Addr}{fs:List (Str×V)}(e:H a=some (.ins C dx fs)) (cl:qE K C) (ha:findIn K (.ref C) "__class__" = some (some (.builtin "object.__class__")))
   (hn:PySem.W.specialIn K (.builtin "object.__class__") "__get__" = some (some (.builtin "getset_descriptor.__get__"))) (htk:PySem.W.takesIn K (.builtin "object.__class__")=some true)
   (hm:PySem.W.mroIn K C (.type "object")=some true):jF K H (.ref a) (.ref C)
theorem wC {x:V}{u t:Value}(I:Inv X pins σ H s) (G:RelV x u) (ty:jF X.K H x t) (e:kitOne X.K t c=some b) (h:∀tk,Q (.bool b) { s with toks:=tk }) :
  wpAny (model X.prog X.w) A (call (.builtin "isinstance") [u,c]) Q E s:=by
 cases ty with
 |non=>cases(show u=Value.none from G);exact kia_one PySem.W.kitx_none I.jV True.intro e (λz=>nomatch z) h
 |bl y=>cases(show u=Value.bool y from G);exact kia_one PySem.W.kitx_bool I.jV True.intro e (λz=>nomatch z) h
 |int i=>obtain⟨t,q⟩:=(show ∃t,u=Value.int i t from G);cases q;exact kia_one PySem.W.kitx_int I.jV True.intro e (λz=>nomatch z) h
 |str y=>obtain⟨t,q⟩:=(show ∃t,u=Value.str y t from G);cases q;exact kia_one PySem.W.kitx_str I.jV True.intro e (λz=>nomatch z) h
 |flt y=>obtain⟨t,q⟩:=(show ∃t,u=Value.float y t from G);cases q;exact kia_one PySem.W.kitx_float I.jV True.intro e (λz=>nomatch z) h
 | @lst a xs F =>
  cases(show u=Value.ref a from G);obtain⟨_,_,n,_,h1⟩:=(show bT X.prog X.w H s.heap a (.lst xs)from I.bJ a _ F);exact kia_one kitx_list I.jV ⟨_,h1,rfl⟩ e (λz=>nomatch z) h
 | @frz a L xs F =>
  cases(show u=Value.ref a from G);obtain⟨_,_,_,n,_,h1⟩:=(show bT X.prog X.w H s.heap a (.frz L (.lst xs))from I.bJ a _ F);exact kia_one kitx_list I.jV ⟨_,h1,rfl⟩ e (λz=>nomatch z) h
 | @tup a xs F =>
  cases(show u=Value.ref a from G);obtain⟨_,_,_,p⟩:=(show bT X.prog X.w H s.heap a (.tup xs)from I.bJ a _ F);obtain⟨o,h1,h2,_⟩:=p;exact kia_one kitx_tuple I.jV ⟨o,h1,h2⟩ e (λz=>nomatch z) h
 | @dK a kvs F =>
  cases(show u=Value.ref a from G);obtain⟨_,_,vs,_,p⟩:=(show bT X.prog X.w H s.heap a (.dK kvs)from I.bJ a _ F);obtain⟨o,es,ep,h1,h2,_⟩:=p;exact kia_one kitx_dict I.jV ⟨o,h1,h2.1⟩ e (λz=>nomatch z) h
 | @dT a kvs F =>
  cases(show u=Value.ref a from G);obtain⟨_,_,xs,_,o,es,ep,h1,h2,_⟩:=(show bT X.prog X.w H s.heap a (.dT kvs)from I.bJ a _ F);exact kia_one kitx_dict I.jV ⟨o,h1,h2.1⟩ e (λz=>nomatch z) h
 | @ins a C dx fs F cl U S R N =>
  cases(show u=Value.ref a from G);obtain⟨mA,O,_⟩:=kJ I.bJ F;obtain⟨od,J,_⟩:=O.look;exact kia_one (PySem.W.kitx_own (cl.get _) cl.hd U S R N) I.jV J e (λz=>nomatch z) h
end
structure dC (k:Nat) (A:Around):Prop where
 hd:A.handled=none
 dp:A.depth+3*k+5<recursionLimit
 un:A.units+16*k+200<cLine
theorem dC.mono {j k:Nat}{A:Around}(r:dC k A) (h:j<=k):dC j A:=⟨r.hd,by have:=r.dp;omega,by have:=r.un;omega⟩
theorem dC.deeper {k:Nat}{A:Around}(r:dC (k+1) A) (env:Env):dC k (A.deeper env):=
 ⟨r.hd,by have:=r.dp;show A.depth+1+3*k+5<_;omega,by have:=r.un;show A.units+3+16*k+200<_;omega⟩
theorem sv {A:Around}{C:Addr}{us:List Value}{F:List (Str×Value)}:(A.under (.builtin "type.__call__" ⟨.ref C::us,F⟩)).depth=A.depth+1:=by
 first|rfl|simp[Around.under,Code.weight,Code.isCreation,Code.isGuard,Code.isCaller,Code.frames,Code.isFrame,guardIds]
theorem sF {A:Around}{C:Addr}{us:List Value}{F:List (Str×Value)}:(A.under (.builtin "type.__call__" ⟨.ref C::us,F⟩)).units=A.units+1:=by
 first|rfl|simp[Around.under,Code.cUnits,Code.frames,Code.isFrame]
theorem dC.make {k:Nat}{A:Around}(r:dC (k+1) A) (C:Addr) (us:List Value) (F:List (Str×Value)):dC k (A.under (.builtin "type.__call__" ⟨.ref C::us,F⟩)):=
 ⟨r.hd,by have:=r.dp;rw[sv];omega,by have:=r.un;rw[sF];omega⟩
theorem dC.depth {k:Nat}{A:Around}(r:dC k A):A.depth<recursionLimit:=by have:=r.dp;omega
theorem dC.units {k:Nat}{A:Around}(r:dC k A):A.units+64<cLine:=by have:=r.un;omega
theorem dC.gH {k:Nat}{A:Around}(r:dC k A):A.units<cLine:=by have:=r.un;omega
noncomputable def z9:TA:=λ_ H Q=>Q [] H
noncomputable def EO (ta:TE) (F:TA):TA:=λσ H Q=>ta σ H λx H1=>F σ H1 λxs H2=>Q (x::xs) H2
section
variable {X:Cx}{e:Expr}{es:List Expr}{te:TE}{t:TA}{pos:Pos}
theorem ai:PA X [] z9:=λ_ _ _ _ H Q I h=>Calls.spliced_nil ⟨[],H,I,.nil,h⟩
theorem aa (Y:PE X e te) (F:PA X es t) (hs:starEach (e::es) X.env=(false,eval e X.env)::starEach es X.env:=by rfl):PA X (e::es) (EO te t):=by
 intro pos pins s σ H Q I h;rw[hs];show wpAny _ _ (spliced ((false,eval e X.env)::backTo pos (starEach es X.env))) _ _ s;refine Calls.spliced_cons (bU (Y pins s σ H _ I h) λu O J=>?_);obtain⟨x,H1,R,L,S⟩:=J;exact bU (F pos pins O σ H1 _ R S) λus s2 G=>by obtain⟨xs,H2,U,N,q2⟩:=G;exact⟨x::xs,H2,U,.cons L N,q2⟩
noncomputable def FY (t:TA):TE:=λσ H Q=>t σ H λxs H1=>xs.length<=sizeLine/\∀p,H1 p=none->Q (.ref p) (upd H1 p (.tup xs))
noncomputable def Fh (t:TA):TE:=λσ H Q=>t σ H λxs H1=>xs.length<=sizeLine/\∀p,H1 p=none->Q (.ref p) (upd H1 p (.lst xs))
theorem cL {x1} (h:PA X es t):PE X (.Tuple es x1 pos) (FY t):=by
 intro pins s σ H Q I J;refine wpAny_Tuple_spliced (bU (h pos pins s σ H _ I J) λus F N=>?_);obtain⟨xs,H1,G,r,z,q⟩:=N;refine⟨by rw[<-r.length];exact z,?_⟩;have L:H1 F.heap.objs.size=none:=G.bJ.fresh (le_refl _);refine⟨.ref F.heap.objs.size,upd H1 F.heap.objs.size (.tup xs),G.laid (t':=F.toks) (λb u e=>Heap.get?_push_of_some _ e) (le_refl _) ?_,rfl,q _ L⟩;exact⟨z,us,r,⟨_,Heap.get?_push_size _ rfl,rfl,_,rfl⟩⟩
theorem ck (h:PA X es t):PE X (.List es pos) (Fh t):=by
 intro pins s σ H Q I J;refine wpAny_List_spliced (bU (h pos pins s σ H _ I J) λus F L=>?_);obtain⟨xs,H1,G,r,z,q⟩:=L;refine⟨by rw[<-r.length];exact z,?_⟩;have N:H1 F.heap.objs.size=none:=G.bJ.fresh (le_refl _);refine⟨.ref F.heap.objs.size,upd H1 F.heap.objs.size (.lst xs),G.laid (t':=F.toks) (λb u e=>Heap.get?_push_of_some _ e) (le_refl _) ?_,rfl,q _ N⟩;exact⟨z,us,0,r,Heap.get?_push_size _ rfl⟩
end
noncomputable abbrev Sp:=List V->Hp->VK->XK->Prop
noncomputable abbrev vI:=List Env->Hp->Shared->XK->Value->Shared->Prop
structure sQ (P:Program) (w:World) (K:PySem.W.Frag) (mg:Str->Option Value) (base:Heap) (A:Around) (outer:List Env) (s:Shared) (H:Hp):Prop where
 frames:A.frames=some outer
 mod:Mod K mg base
 bs:∀b o,base.get? b=some o->s.heap.get? b=some o/\H b=none
 zV:base.objs.size<=s.heap.objs.size
 jK:s.heap.FunFrames base outer
 Bv:∀b∈xu outer,H b=none
 bJ:iT P w H s.heap
 bare:AllBare s.gens
noncomputable def CE (outer:List Env) (P:Program) (w:World) (H:Hp) (s:Shared) (Q:VK) (u:Value) (s':Shared):Prop :=
 ∃v H',s'.os=s.os/\AllBare s'.gens/\Un (xu outer) [] H H' s.heap s'.heap/\iT P w H' s'.heap/\RelV v u/\Q v H'
noncomputable def CR (CX:vI) (outer:List Env) (P:Program) (w:World) (H:Hp) (s:Shared) (Q:VK) (E:XK) (r:Result) (s':Shared):Prop :=
 match r with
 |.ok (.ret u)=>CE outer P w H s Q u s'
 |.ok _=>False
 |.error e=>CX outer H s E e s'
structure bj (P:Program) (w:World) (K:PySem.W.Frag) (mg:Str->Option Value) (base:Heap) (CX:vI) (k:Nat) (f:Addr) (fd:FuncData) (ps:List Str) (sp:Sp):Prop where
 len:∀vs H Q E,sp vs H Q E->vs.length=ps.length
 run:∀(A:Around) (outer:List Env) (s:Shared) (H:Hp) (args:Args) (us:List Value) (vs:List V) (Q:VK) (E:XK),dC k A->sQ P w K mg base A outer s H->BindsTo s fd args (ps.zip us)->Vals vs us->sp vs H Q E ->
  codeAny (model P w) A (.call (.ref f) args) (CR CX outer P w H s Q E) s
theorem sQ.make {P:Program}{w:World}{K:PySem.W.Frag}{mg:Str->Option Value}{base:Heap}{A:Around}{outer:List Env}{s:Shared}{H:Hp}(e:sQ P w K mg base A outer s H) (C:Addr) (us:List Value) (F:List (Str×Value)) :
  sQ P w K mg base (A.under (.builtin "type.__call__" ⟨.ref C::us,F⟩)) outer s H:=⟨by first|exact e.frames|(simpa[Around.under,Code.envs,Code.isFrame,pushEnvs]using e.frames),e.mod,e.bs,e.zV,e.jK,e.Bv,e.bJ,e.bare⟩
section
variable {X:Cx}{pins:List (Addr×Obj)}{σ:St}{H:Hp}{s s':Shared}
theorem Inv.E6 (I:Inv X pins σ H s):sQ X.prog X.w X.K X.mg X.base X.A X.stack s H :=
 ⟨I.ok.frames,I.ok.mod,I.bs,le_trans I.ok.zV I.sz,I.stack,I.vM,I.bJ,I.bare⟩
theorem Inv.after {Q:VK}{u:Value}(I:Inv X pins σ H s) (h:CE X.stack X.prog X.w H s Q u s'):EP X pins σ Q u s':=by
 obtain⟨v,H',os,bare,un,G,r,q⟩:=h;obtain⟨F,g,d,t,J⟩:=s';obtain rfl:J=s.os:=os;exact⟨v,H',I.call (h':=F) (g':=g) (d':=d) (t':=t) (ch:=[]) un G bare (λb z=>absurd z (by simp)),r,q⟩
end
noncomputable def Br (sp:Sp) (dvs:List V) (E:XK) (t:TA):TE:=λσ H Q=>t σ H λvs H1=>sp (vs++dvs) H1 Q E
inductive yf (C:Addr) (m:Str) (sp:Sp) (dvs:List V) (E:XK) (ta:TE) (t:TA) (σ:St) (Q:VK) (x:V) (H1:Hp):Prop
 |mk (a:_) (dx:_) (fs:_) (_:x=.ref a) (_:H1 a=some (.ins C dx fs)) (_:fs.lookup m=none) (_:t σ H1 λvs H2=>sp (x::(vs++dvs)) H2 Q E):yf C m sp dvs E ta t σ Q x H1
noncomputable def u9 (C:Addr) (m:Str) (sp:Sp) (dvs:List V) (E:XK) (ta:TE) (t:TA):TE:=λσ H Q=>ta σ H λx H1=>yf C m sp dvs E ta t σ Q x H1
noncomputable def Bq (C:Addr) (sp:Sp) (dvs:List V) (E:XK) (t:TA):TE:=λσ H Q=>t σ H λvs H1=>∀x dx,H1 x=none->H1 dx=none->dx≠x ->
 sp (.ref x::(vs++dvs)) (upd (upd H1 dx (.own x)) x (.ins C dx [])) (λv H2=>v=.non/\Q (.ref x) H2) E
noncomputable def Binds (K:PySem.W.Frag) (fd:FuncData) (ps:List Str) (ds:List Value):Prop :=
 ∀(s:Shared) (us:List Value),K.In s.heap->(us++ds).length=ps.length->BindsTo s fd ⟨us,[]⟩ (ps.zip (us++ds))
theorem Binds.all {K:PySem.W.Frag}{fd:FuncData}{ps:List Str}(h:∀us:List Value,us.length=ps.length->bindArgs fd ⟨us,[]⟩=pure (ps.zip us)):Binds K fd ps []:=λs us _ F=>by
 rw[append_nil]at F ⊢;exact .of_eq (h us F)
noncomputable def Passes (CX:vI) (X:Cx) (E:XK):Prop:=∀(pins:List (Addr×Obj)) (σ:St) (H:Hp) (s:Shared) (e:Value) (s':Shared),Inv X pins σ H s->CX X.stack H s E e s'->X.xe e s'
section
variable {X:Cx}{CX:vI}{k:Nat}{f C:Addr}{fd:FuncData}{ps:List Str}{sp:Sp}{dvs:List V}{ds:List Value}{E:XK}{x m:Str}{p pos apos:Pos}{e o:Expr}{es:List Expr}{ta:TE}{t:TA}
theorem tm {pins:List (Addr×Obj)}{σ:St}{H:Hp}{s:Shared}{Q:VK}{us:List Value}{vs:List V}(F:bj X.prog X.w X.K X.mg X.base CX k f fd ps sp) (L:dC k X.A) (R:Binds X.K fd ps ds) (hd:Vals dvs ds) (S:Passes CX X E)
  (I:Inv X pins σ H s) (r:Vals vs us) (h:sp (vs++dvs) H Q E):wpAny (model X.prog X.w) X.A (call (.ref f) us) (EP X pins σ Q) X.xe s:=by
 have J:Vals (vs++dvs) (us++ds):=r.append hd;have N:(us++ds).length=ps.length:=(by rw[<-J.length];exact F.len _ _ _ _ h);refine wpAny_call (codeAny_mono (F.run X.A X.stack s H ⟨us,[]⟩ (us++ds) (vs++dvs) Q E L I.E6 (R s us I.jV N) J h) λr s' G=>?_);cases r with
 |error e=>exact S pins σ H s e s' I G
 |ok O =>
  cases O with
  |ret u=>exact I.after G
  |next=>exact False.elim G
  |brk=>exact False.elim G
  |cont=>exact False.elim G
theorem Bc (F:bj X.prog X.w X.K X.mg X.base CX k f fd ps sp) (L:dC k X.A) (hg:Gl X x) (R:X.mg x=some (.ref f)) (N:keepIn X.K (.ref f)=true) (U:Binds X.K fd ps ds) (hd:Vals dvs ds) (hx:Passes CX X E)
  (S:PA X (e::es) t) (Y:(x==("__debug__" : Str))=false:=by decide) (O:starEach (e::es) X.env=(false,eval e X.env)::starEach es X.env:=by rfl) (J:(backTo pos (starEach es X.env)).any (·.1)=false:=by rfl) :
  PE X (.Call (.Name x p) (e::es) [] pos) (Br sp dvs E t):=by
 intro pins s σ H Q I h;refine wpAny_Call_Name_kw (kL I hg R ?_ Y);refine callWith_K (h₀:=X.base) I.ok.mod.DY N (bU (S pos pins s σ H _ I h) λus s1 ab=>?_) O J;obtain⟨vs,H1,G,r,q⟩:=ab;refine⟨G.jV,?_⟩;exact tm F L U hd hx G r q
theorem AN {pl:Sem Bool}(Y:PE X o ta) (c:qE X.K C) (L:Meth X.K C m f) (F:bj X.prog X.w X.K X.mg X.base CX k f fd ps sp) (O:dC k X.A) (hb:Binds X.K fd ps ds) (hd:Vals dvs ds) (hx:Passes CX X E) (ha:PA X (e::es) t)
  (R:starEach (e::es) X.env=(false,eval e X.env)::starEach es X.env:=by rfl) (N:(backTo pos (starEach es X.env)).any (·.1)=false:=by rfl)
  (ht:eval (.Call (.Attribute o m apos) (e::es) [] pos) X.env=(do
   let ov <-eval o X.env
   standAt apos.atName
   let (f,first) <-holding [ov] (getMethod ov m pl)
   callWith pos f first (backTo pos (starEach (e::es) X.env)) (backToKw pos (keywordEach [] X.env))):=by rfl) :
  PE X (.Call (.Attribute o m apos) (e::es) [] pos) (u9 C m sp dvs E ta t):=by
 intro pins s σ H Q I h;refine PySem.W.methodCall_KW (pl:=pl) (bU (Y pins s σ H _ I h) λu S ab=>?_) ht;obtain⟨x,H1,G,rx,a,dx,fs,ex,ea,l,q⟩:=ab;subst ex;obtain rfl:u=Value.ref a:=rx;refine lC G ea c L l ?_;refine callWith_K (first:=[.ref a]) (h₀:=X.base) I.ok.mod.DY L.kp (bU (ha pos pins S σ H1 _ G q) λus s2 U=>?_) R N;obtain⟨vs,H2,J,r,q2⟩:=U;refine⟨J.jV,?_⟩;exact tm (us:=.ref a::us) (vs:=.ref a::vs) F O hb hd hx J (.cons rfl r) q2
theorem yq {pl:Sem Bool}(R:PE X o ta) (c:qE X.K C) (J:Meth X.K C m f) (F:bj X.prog X.w X.K X.mg X.base CX k f fd ps sp) (O:dC k X.A) (S:Binds X.K fd ps ds) (hd:Vals dvs ds) (U:Passes CX X E)
  (ht:eval (.Call (.Attribute o m apos) [] [] pos) X.env=(do
   let ov <-eval o X.env
   standAt apos.atName
   let (f,first) <-holding [ov] (getMethod ov m pl)
   callWith pos f first (backTo pos (starEach [] X.env)) (backToKw pos (keywordEach [] X.env))):=by rfl) :
  PE X (.Call (.Attribute o m apos) [] [] pos) (u9 C m sp dvs E ta z9):=by
 intro pins s σ H Q I h;refine PySem.W.methodCall_KW (pl:=pl) (bU (R pins s σ H _ I h) λu s1 N=>?_) ht;obtain⟨x,H1,G,L,a,dx,fs,ex,Y,l,q⟩:=N;subst ex;obtain rfl:u=Value.ref a:=L;refine lC G Y c J l ?_;exact callWith_K0 (first:=[.ref a]) G.jV J.kp (tm (us:=[.ref a]) (vs:=[.ref a]) F O S hd U G (.cons rfl .nil) q)
structure Mk (K:PySem.W.Frag) (C f:Addr):Prop where
 makes:makesIn K C=true
 init:findIn K (.ref C) "__init__" = some (some (.ref f))
 fn:isFn K (.ref f)=true
 kp:keepIn K (.ref C)=true
theorem rT {pins:List (Addr×Obj)}{σ:St}{H:Hp}{s:Shared}{Q:VK}{us:List Value}{vs:List V}(M:Mk X.K C f) (F:bj X.prog X.w X.K X.mg X.base CX k f fd ps sp) (Y:dC (k+1) X.A) (R:Binds X.K fd ps ds) (hd:Vals dvs ds)
  (U:Passes CX X E) (I:Inv X pins σ H s) (r:Vals vs us)
  (h:∀x dx,H x=none->H dx=none->dx≠x->sp (.ref x::(vs++dvs)) (upd (upd H dx (.own x)) x (.ins C dx [])) (λv H2=>v=.non/\Q (.ref x) H2) E) :
  wpAny (model X.prog X.w) X.A (call (.ref C) us) (EP X pins σ Q) X.xe s:=by
 have L:=h (s.heap.objs.size+1) s.heap.objs.size (I.bJ.fresh (le_succ _)) (I.bJ.fresh (le_refl _)) (ne_of_lt (Nat.lt_succ_self _));have J:=Inv.made (C:=C) I;have N:Vals (V.ref (s.heap.objs.size+1)::(vs++dvs)) (Value.ref (s.heap.objs.size+1)::(us++ds)):=.cons rfl (r.append hd);have hl:(Value.ref (s.heap.objs.size+1)::us++ds).length=ps.length:=by
  have e:=N.length;rw[F.len _ _ _ _ L]at e;exact e.symm
 refine wpAny_call (xS (f:=f) I.jV M.makes M.init (beq_iff_eq.mp M.fn) (codeAny_mono (F.run _ X.stack _ _ ⟨Value.ref (s.heap.objs.size+1)::us,[]⟩ (Value.ref (s.heap.objs.size+1)::(us++ds)) _ _ E (Y.make C us [])
  (J.E6.make C us []) (R _ (Value.ref (s.heap.objs.size+1)::us) J.jV hl) N L) λr s' G=>?_))
 cases r with
 |error e=>exact U pins σ _ _ e s' J G
 |ok O =>
  cases O with
  |ret u =>
   obtain⟨v,H',I3,S,ev,q3⟩:=J.after G;subst ev;exact⟨S,⟨V.ref (s.heap.objs.size+1),H',I3,rfl,q3⟩⟩
  |next=>exact False.elim G
  |brk=>exact False.elim G
  |cont=>exact False.elim G
theorem kZ (M:Mk X.K C f) (F:bj X.prog X.w X.K X.mg X.base CX k f fd ps sp) (L:dC (k+1) X.A) (hg:Gl X x) (O:X.mg x=some (.ref C)) (U:Binds X.K fd ps ds) (hd:Vals dvs ds) (hx:Passes CX X E)
  (S:PA X (e::es) t) (Y:(x==("__debug__" : Str))=false:=by decide) (N:starEach (e::es) X.env=(false,eval e X.env)::starEach es X.env:=by rfl) (J:(backTo pos (starEach es X.env)).any (·.1)=false:=by rfl) :
  PE X (.Call (.Name x p) (e::es) [] pos) (Bq C sp dvs E t):=by
 intro pins s σ H Q I h;refine wpAny_Call_Name_kw (kL I hg O ?_ Y);refine callWith_K (h₀:=X.base) I.ok.mod.DY M.kp (bU (S pos pins s σ H _ I h) λus s1 R=>?_) N J;obtain⟨vs,H1,G,r,q⟩:=R;refine⟨G.jV,?_⟩;exact rT M F L U hd hx G r q
theorem rA (M:Mk X.K C f) (F:bj X.prog X.w X.K X.mg X.base CX k f fd ps sp) (G:dC (k+1) X.A) (hg:Gl X x) (J:X.mg x=some (.ref C)) (L:Binds X.K fd ps ds) (hd:Vals dvs ds) (O:Passes CX X E)
  (N:(x==("__debug__" : Str))=false:=by decide):PE X (.Call (.Name x p) [] [] pos) (Bq C sp dvs E z9):=by
 intro pins s σ H Q I h;refine wpAny_Call_Name_kw (kL I hg J ?_ N);exact callWith_K0 I.jV M.kp (rT (us:=[]) M F G L hd O I .nil h)
end
section
variable {X:Cx}{CX:vI}{k:Nat}{f C:Addr}{fd:FuncData}{ps ks:List Str}{sp:Sp}{E:XK}{x m:Str}{p pos apos kpos:Pos}{e o:Expr}{es:List Expr}{kws:List Keyword}{te ta:TE}{t tk:TA}{nm:Option Str}
variable {g:List Value->List Value->List Value}{gV:List V->List V->List V}
end
structure aA (N P:List Str) (sc:Scope):Prop where
 kind:sc.kind=.function
 co:sc.isCoroutine=false
 gen:sc.isGenerator=false
 nd:N.Nodup
 pre:N.take P.length=P
 par:∀x∈P,sc.names.lookup x=some .local\/sc.names.lookup x=some .cell
 CO:∀y∈sc.names,y.2≠.free
theorem bD {N P:List Str}{F:Scope}(a:F.kind=.function:=by exact rfl) (b:F.isCoroutine=false:=by exact rfl) (c:F.isGenerator=false:=by exact rfl) (d:N.Nodup:=by decide +kernel) (e:N.take P.length=P:=by exact rfl) (f:∀x∈P,F.names.lookup x=some .local\/F.names.lookup x=some .cell:=by decide +kernel) (g:∀y∈F.names,y.2≠.free:=by decide +kernel):aA N P F:=⟨a,b,c,d,e,f,g⟩
theorem m9 {kindOf:Str->Option NameKind}{x:Str}:∀{binds:List (Str×Value)}{m:Str->Option Value},(∀v,(x,v)∉binds)->bindL kindOf binds m x=m x
 | [],_,_=>rfl
 |(n,v)::r,m,h=>by
  unfold bindL;rw[m9 λw F=>h w (mem_cons_of_mem _ F)];split
  .have:x≠n:=(by rintro rfl;exact h v mem_cons_self);simp[this]
  .rfl
theorem nJ {kindOf:Str->Option NameKind}{x:Str}:∀{binds:List (Str×Value)}{m:Str->Option Value},(∀v,(x,v)∉binds)->bindC kindOf binds m x=m x
 | [],_,_=>rfl
 |(n,v)::r,m,h=>by
  unfold bindC;rw[nJ λw F=>h w (mem_cons_of_mem _ F)];split
  .rfl
  .have:x≠n:=(by rintro rfl;exact h v mem_cons_self);simp[this]
theorem nv {kindOf:Str->Option NameKind}{x:Str}{v:Value}:∀{P:List Str}{vs:List Value}{i:Nat}{m:Str->Option Value},P.Nodup->P[i]?=some x->vs[i]?=some v->kindOf x=some .local ->
  bindL kindOf (P.zip vs) m x=some v
 | [],_,_,_,_,h,_,_=>by simp at h
 |_::_,[],_,_,_,_,h,_=>by simp at h
 |p::P,w::vs,0,m,F,h1,h2,G=>by
  simp at h1 h2;subst h1;subst h2;show bindL kindOf ((p,w)::P.zip vs) m p=_;unfold bindL;rw[m9 λv I=>(List.nodup_cons.mp F).1 (of_mem_zip I).1,if_pos G];simp
 |p::P,w::vs,i+1,m,F,h1,h2,G=>by
  show bindL kindOf ((p,w)::P.zip vs) m x=_;unfold bindL;exact nv (i:=i) (List.nodup_cons.mp F).2 (by simpa using h1) (by simpa using h2) G
theorem nu {kindOf:Str->Option NameKind}{x:Str}{v:Value}:∀{P:List Str}{vs:List Value}{i:Nat}{m:Str->Option Value},P.Nodup->P[i]?=some x->vs[i]?=some v->kindOf x≠some .local ->
  bindC kindOf (P.zip vs) m x=some v
 | [],_,_,_,_,h,_,_=>by simp at h
 |_::_,[],_,_,_,_,h,_=>by simp at h
 |p::P,w::vs,0,m,F,h1,h2,G=>by
  simp at h1 h2;subst h1;subst h2;show bindC kindOf ((p,w)::P.zip vs) m p=_;unfold bindC;rw[nJ λv I=>(List.nodup_cons.mp F).1 (of_mem_zip I).1,if_neg G];simp
 |p::P,w::vs,i+1,m,F,h1,h2,G=>by
  show bindC kindOf ((p,w)::P.zip vs) m x=_;unfold bindC;exact nu (i:=i) (List.nodup_cons.mp F).2 (by simpa using h1) (by simpa using h2) G
noncomputable def start (N:List Str) (vs:List V):St:=vs.map some++replicate (N.length-vs.length) none
noncomputable def wN (CX:vI) (P:Program) (w:World) (K:PySem.W.Frag) (mg:Str->Option Value) (base:Heap) (N:List Str) (F:Str) (scope:Scope) (f:Addr) (cd:Value) (A:Around) (outer:List Env) (s:Shared) (H:Hp) (E:XK):Cx where
 prog:=P
 w:=w
 K:=K
 mg:=mg
 base:=base
 A:=A.deeper (envOfC F scope s.heap.objs.size f cd)
 N:=N
 s₀:=s
 H₀:=H
 env:=envOfC F scope s.heap.objs.size f cd
 outer:=outer
 stack:=envOfC F scope s.heap.objs.size f cd::outer
 ex:=[]
 calm:=true
 fn:=λ_=>true
 pn:=[]
 xe:=λe s'=>wpAny (model P w) (A.deeper (envOfC F scope s.heap.objs.size f cd)) (leaving (envOfC F scope s.heap.objs.size f cd) e) (λ_ G=>CX outer H s E e G) (λI G=>CX outer H s E I G) s'
theorem rl {F:Scope}{n:Nat}{x:Str}(h:F.names.lookup x=some .cell):∃c,(cellsFrom n F.names []).lookup x=some c:=by
 have q:=PySem.W.cellsFrom_some F.names n [] (.inl h);exact Option.isSome_iff_exists.mp q
theorem vT {CX:vI}{P:Program}{w:World}{K:PySem.W.Frag}{mg:Str->Option Value}{base:Heap}{N ps:List Str}{J:Str}{scope:Scope}{f:Addr}{cd:Value}{A:Around}{outer:List Env}{s O:Shared}{H:Hp}{E:XK}{us:List Value}{vs:List V}
  (S:aA N ps scope) (hd:A.handled=none) (F:sQ P w K mg base A outer s H) (hl:vs.length=ps.length) (r:Vals vs us)
  (x:InCallC s s.heap.objs.size (bindL (envOfC J scope s.heap.objs.size f cd).kindOf (ps.zip us) λ_=>none) (cellsFrom (s.heap.objs.size+1) scope.names []) (bindC (envOfC J scope s.heap.objs.size f cd).kindOf (ps.zip us) λ_=>none) O) :
  Inv (wN CX P w K mg base N J scope f cd A outer s H E) [] (start N vs) H O:=by
 have ab:ps.length<=N.length:=(by have:=congrArg List.length S.pre;rw[length_take]at this;omega);obtain⟨h1,tk,rfl,Y⟩:=x.done;have L:∀b:Addr,b∉(wN CX P w K mg base N J scope f cd A outer s H E).ex:=λb z=>absurd (show b∈([]:List Addr)from z) (by simp);refine⟨⟨F.mod,S.kind,rfl,rfl,le_refl _,λy z c h1 h2=>?_,λy G=>?_,λy c _ h=>?_,λ_=>hd,Around.frames_deeper F.frames,.inr ⟨rfl,rfl⟩,λb z=>absurd z (L b),F.bs,F.zV,λb _ _=>L b,λb z=>absurd z (L b),F.jK,F.Bv⟩,
  rfl,F.bare,Un.kept Y,⟨_,x.toInCall.ns,λi y v h1 h2 h3=>?_⟩,λy c h=>⟨_,x.cell y c h⟩,F.bJ.fresh (le_refl _),λy c h=>?_,λp I=>absurd (show p∈([]:List (Addr×Obj))from I) (by simp),F.bJ.kept Y,?_⟩
 .exact name_of_addr x.apart (PySem.mem_of_lookup h1) (PySem.mem_of_lookup h2)
 .have G:scope.names.lookup y=some .cell\/scope.names.lookup y=some .free:=G;rcases G with G|G
  .exact rl G
  .exact absurd rfl (S.CO _ (PySem.mem_of_lookup G))
 .exact le_of_lt (x.above y c (PySem.mem_of_lookup h))
 .have hi:i<vs.length:=by
   unfold start at h2;by_cases hi:i<vs.length
   .exact hi
   .rw[List.getElem?_append_right (by simpa using hi)]at h2;rw[List.getElem?_replicate]at h2;split at h2<;>cases h2
  have ha:vs[i]?=some v:=by
   unfold start at h2;rw[List.getElem?_append_left (by simpa using hi),getElem?_map]at h2;cases e:vs[i]? with
   |none=>rw[e]at h2;cases h2
   |some a=>rw[e]at h2;cases h2;rfl
  obtain⟨u,R,rv⟩:=r.get ha;have I:ps[i]?=some y:=by
   rw[<-S.pre,List.getElem?_take_of_lt af];exact h1
  have U:ps.Nodup:=(by rw[<-S.pre];exact S.nd.sublist (take_sublist _ _));refine⟨u,rv,?_⟩;rcases S.par y (mem_of_getElem? I)with k|k
  .exact .inl ⟨k,nv U I R k⟩
  .obtain⟨c,e⟩:=rl (n:=s.heap.objs.size+1) k;refine .inr ⟨.inl k,c,e,?_⟩;have q:=x.cell y c e;rw[nu U I R (by show scope.names.lookup y≠_;rw[k];decide)]at q;exact q
 .exact F.bJ.fresh (le_of_lt (x.above y c (PySem.mem_of_lookup h)))
 .unfold start;show _=N.length;rw[length_append,length_map,length_replicate];omega
theorem Fe {CX:vI}{P:Program}{w:World}{K:PySem.W.Frag}{mg:Str->Option Value}{base:Heap}{k:Nat}{f:Addr}{name F:Str}{ac:Arguments}{body:List Stmt}{scope:Scope}{dV kV ad pm G ct oc:Value}{an od:Option Addr}
  {a0:Array (Option Value)}{N ps:List Str}{sp:Sp}(lk:K.lookup f=some ⟨oc,od,.func (fnOf name F ac body scope dV kV ad pm an G ct),a0⟩) (am:codeIn K G F=true) (S:aA N ps scope)
  (len:∀vs H Q E,sp vs H Q E->vs.length=ps.length)
  (as:∀(A:Around) (outer:List Env) (s:Shared) (H:Hp) (vs:List V) (Q:VK) (E:XK),dC k (A.deeper (envOfC F scope s.heap.objs.size f G))->sp vs H Q E ->
   ∃t,vm (wN CX P w K mg base N F scope f G A outer s H E) body t/\t { nx:=λ_ H'=>Q .non H',rt:=Q } (start N vs) H) :
  bj P w K mg base CX (k+1) f (fnOf name F ac body scope dV kV ad pm an G ct) ps sp:=by
 refine⟨len,λA outer s H args us vs Q E U L hb r ab=>?_⟩;have hl:=len _ _ _ _ ab;have KX:K.In s.heap:=L.mod.DY.keeps λb o e=>(L.bs b o e).1;have aT:s.heap.NoLimit:=L.mod.nolimit.keeps λb o e=>(L.bs b o e).1;have aB:∀y∈ps.zip us,scope.names.lookup y.1=some .local\/(scope.names.lookup y.1=some .cell/\((cellsFrom (s.heap.objs.size+1) scope.names []).lookup y.1).isSome=true):=λap hy=>by
  obtain⟨n,v⟩:=ap;rcases S.par n (of_mem_zip hy).1 with q|q
  .exact .inl q
  .exact .inr ⟨q,PySem.W.cellsFrom_some _ _ _ (.inl q)⟩
 refine codeAny_call_function U.depth (KX _ _ lk) rfl S.co S.gen rfl (PySem.W.codeRec_of KX am) (hb _ _ _ _ ?_);refine wpAny_newFunctionEnv_cells S.kind aB λenv he s1 x=>?_;subst he;refine⟨aT.keeps x.toInCall.keep,codeAny_func ?_⟩;obtain⟨t,ht,hq⟩:=as A outer s H vs Q E (U.deeper _) ab;have I:Inv (wN CX P w K mg base N F scope f G A outer s H E) [] (start N vs) H s1:=vT S U.hd L hl r x;refine wpAny_mono (ht [] s1 (start N vs) H _ I hq) (λfl s' hs=>?_) λe s' hs=>hs;have Y:∀{O:St}{H':Hp}{v:V}{u:Value},Inv (wN CX P w K mg base N F scope f G A outer s H E) [] O H' s'->RelV v u->Q v H'->CE outer P w H s Q u s' :=
  λ{O H' v u} J R q=>⟨v,H',J.os,J.bare,J.base,J.bJ,R,q⟩
 cases fl with
 |ret u =>
  obtain⟨v,O,H',J,R,q⟩:=hs;exact Y J R q
 |next =>
  obtain⟨O,H',J,q⟩:=hs;exact Y (v:=V.non) (u:=Value.none) J rfl q
 |brk =>
  obtain⟨_,_,_,q⟩:=hs;exact False.elim q
 |cont =>
  obtain⟨_,_,_,q⟩:=hs;exact False.elim q
section
variable {X:Cx}{x:Str}{p pos:Pos}{e:Expr}{es:List Expr}{t:TA}{id T:String}{r:List V->Hp->VK->Prop}
noncomputable def Hw (r:List V->Hp->VK->Prop) (t:TA):TE:=λσ H Q=>t σ H λvs H1=>r vs H1 Q
theorem aV (O:dr X (.builtin id) r) (hg:Gl X x) (hm:X.mg x=none) (S:bootBuiltins x=some (.builtin id)) (ha:PA X (e::es) t) (U:x ≠ "__name__" := by decide) (F:(x==("__debug__" : Str))=false:=by decide)
  (R:starEach (e::es) X.env=(false,eval e X.env)::starEach es X.env:=by rfl) (G:(backTo pos (starEach es X.env)).any (·.1)=false:=by rfl):PE X (.Call (.Name x p) (e::es) [] pos) (Hw r t):=by
 intro pins s σ H Q I h;refine wpAny_Call_Name_kw (gW I hg hm S ?_ U F);exact PyProof.Rows.callWith_builtin1 (bU (ha pos pins s σ H _ I h) λus L ab=>by obtain⟨vs,H1,N,J,Y⟩:=ab;exact O pins L σ H1 vs us Q N J Y) R G
theorem bK (N:dr X (.type T) r) (hg:Gl X x) (Y:X.mg x=none) (R:bootBuiltins x=some (.type T)) (ha:PA X (e::es) t) (S:x ≠ "__name__" := by decide) (ac:(x==("__debug__" : Str))=false:=by decide)
  (O:starEach (e::es) X.env=(false,eval e X.env)::starEach es X.env:=by rfl) (F:(backTo pos (starEach es X.env)).any (·.1)=false:=by rfl):PE X (.Call (.Name x p) (e::es) [] pos) (Hw r t):=by
 intro pins s σ H Q I h;refine wpAny_Call_Name_kw (gW I hg Y R ?_ S ac);exact PyProof.Rows.callWith_type1 (bU (ha pos pins s σ H _ I h) λus J ab=>by obtain⟨vs,H1,L,G,U⟩:=ab;exact N pins J σ H1 vs us Q L G U) O F
end
end L2
namespace HT
open PySem PyProof.Rows
section
open PySem.SeqAt
open PySem.AutoSeq1 (wpAny_loadPart')
open PySem.MeetsSeq PySem.MeetsSeq2 PySem.MeetsSeq3
end
section
variable {prog:Program}{w:World}{A:Around}{E:Value->Shared->Prop}{s:Shared}
noncomputable def cZ (n d:Nat):Option Int->Nat
 |none=>d
 |some v=>if v<0 then(v+(n:Int)).toNat else min v.toNat n
theorem kK (n d k:Nat):cZ n d (some (k:Int))=min k n:=by
 show(if (k:Int)<0 then((k:Int)+(n:Int)).toNat else min (k:Int).toNat n)=min k n;rw[if_neg af,toNat_natCast]
theorem C9 (n d:Nat) (hd:d<=n) (o:Option Int):cZ n d o<=n:=by
 cases o with
 |none=>exact hd
 |some v =>
  show(if v<0 then(v+(n:Int)).toNat else min v.toNat n)<=n;by_cases F:v<0
  .rw[if_pos F];omega
  .rw[if_neg F];exact Nat.min_le_right _ _
theorem vv (v:Int) (n d:Nat):(if v<0 then max (v+(n:Int)) 0 else min v (n:Int))=((cZ n d (some v):Nat):Int):=by
 show(if v<0 then max (v+(n:Int)) 0 else min v (n:Int))=(((if v<0 then(v+(n:Int)).toNat else min v.toNat n):Nat):Int);by_cases F:v<0
 .simp only[if_pos F];omega
 .simp only[if_neg F];omega
theorem uU (lo hi:Option Int) (n:Nat):Builtin.Slice.sliceAdjust lo hi 1 (n:Int)=(((cZ n 0 lo:Nat):Int),((cZ n n hi:Nat):Int)):=by
 have h1:¬ ((1:Int)<0):=af;unfold Builtin.Slice.sliceAdjust;simp only[h1,if_false];refine Prod.ext ?_ ?_
 .cases lo with
  |none=>rfl
  |some v=>exact vv v n 0
 .cases hi with
  |none=>rfl
  |some v=>exact vv v n n
theorem uY (i j:Nat):Builtin.Slice.slicePlaces (i:Int) (j:Int) 1=j-i:=by
 unfold Builtin.Slice.slicePlaces;have h1:(1:Int)>0:=af;simp only[h1,if_true,Int.ediv_one];split<;>omega
theorem lq {v:Value}{o:Option Int}{Q:Option Int->Shared->Prop}(p:IsPart v o) (h:Q o s):wpAny (model prog w) A (Builtin.Slice.slicePartIndex v) Q E s:=by
 cases p with
 |none=>exact slicePart_none h
 |int i t=>exact slicePart_int h
theorem fU {sl:Addr}{F G:Value}{lo hi:Option Int}{n:Nat}{Q:Int×Int×Nat->Shared->Prop}(hs:s.heap.IsSliceOf sl F G .none) (pl:IsPart F lo) (L:IsPart G hi)
  (h:Q (((cZ n 0 lo:Nat):Int),1,cZ n n hi-cZ n 0 lo) s):wpAny (model prog w) A (Builtin.Slice.sliceApplied (.ref sl) (pure (n:Int))) Q E s:=by
 obtain⟨os,I,N,J⟩:=id hs;unfold Builtin.Slice.sliceApplied Builtin.Slice.sliceFields;refine wpAny_bind (wpAny_bind (wpAny_field I J (x:=F) rfl (wpAny_bind (wpAny_field I J (x:=G) rfl (wpAny_bind (wpAny_field I J (x:=.none) rfl (wpAny_pure ?_)))))));refine wpAny_bind (slicePart_none ?_);show wpAny _ _ (if ((1:Int)==0)=true then _ else _) _ _ s;rw[if_neg av];refine wpAny_bind (lq pl (wpAny_bind (lq L (wpAny_bind (wpAny_pure ?_)))));show wpAny _ _ (match Builtin.Slice.sliceAdjust lo hi 1 (n:Int)with|(lo,hi)=>pure (lo,(1:Int),Builtin.Slice.slicePlaces lo hi 1)) _ _ s;rw[uU lo hi n];show wpAny _ _ (pure (((cZ n 0 lo:Nat):Int),(1:Int),Builtin.Slice.slicePlaces ((cZ n 0 lo:Nat):Int) ((cZ n n hi:Nat):Int) 1)) _ _ s;rw[uY];exact wpAny_pure h
theorem za (xs:Array Value) (i k:Nat):((List.range k).filterMap λ(m:Nat)=>xs[((i:Int)+(m:Int)*1).toNat]?).toArray=((xs.toList.drop i).take k).toArray:=by
 have e:(λ(m:Nat)=>xs[((i:Int)+(m:Int)*1).toNat]?)=λm=>xs[i+m]?:=by
  funext m;have:((i:Int)+(m:Int)*1).toNat=i+m:=af;rw[this]
 rw[e];have:=pick_run xs i k;rw[List.filterMap_map]at this;have F:((λx=>xs[x]?)∘λx=>i+x)=λm=>xs[i+m]?:=rfl;rw[F]at this;rw[this]
theorem jm {t sl:Addr}{items:Array Value}{J I:Value}{lo hi:Option Int}{Q:Value->Shared->Prop}(G:IsTup s.heap t items) (hs:s.heap.IsSliceOf sl J I .none) (pl:IsPart J lo) (O:IsPart I hi)
  (U:¬ (cZ items.size 0 lo=0/\cZ items.size items.size hi=items.size))
  (h:Q (.ref s.heap.objs.size) { s with heap:=s.heap.push { cls:=.type "tuple",data:=.seq ((items.toList.drop (cZ items.size 0 lo)).take (cZ items.size items.size hi-cZ items.size 0 lo)).toArray } })
  (hsz:items.size<=sizeLine):wpAny (model prog w) A (getItem (.ref t) (.ref sl)) Q E s:=by
 have F:sizeOk (.seq ((items.toList.drop (cZ items.size 0 lo)).take (cZ items.size items.size hi-cZ items.size 0 lo)).toArray):=by
  show((items.toList.drop (cZ items.size 0 lo)).take (cZ items.size items.size hi-cZ items.size 0 lo)).toArray.size<=sizeLine;rw[size_toArray,length_take,length_drop,length_toList];omega
 have hj:cZ items.size items.size hi<=items.size:=C9 _ _ (le_refl _) hi;obtain⟨os,L,R,Y⟩:=id hs;have S:s.TypeIs (.ref sl) "slice" := ⟨os,L,R⟩;unfold getItem
 try with_reducible refine wpAny_holding ?_
 first|refine wpAny_bind (wpAny_pure ?_)|skip
 refine wpAny_bind (wpAny_sequenceKey G.typeIs av ?_);refine wpAny_bind (wpAny_callSpecial?_slot (name:=Str.ofString "__getitem__") G.typeIs PyProof.Rows.slot_tuple_getitem
  (wpAny_call_entry PyProof.Rows.slot_tuple_getitem G.typeIs entry_tuple_getitem ?_ (args_tuple_getitem _ _)))
 show wpAny _ _ (Builtin.Tuple.tupleItemsOf (.ref t)>>=_) _ _ s;refine wpAny_bind (tupleItemsOf_ G ?_);refine wpAny_bind (wpAny_typeOf S ?_);rw[if_pos av];refine wpAny_bind (fU hs pl O ?_);have N:¬ ((((cZ items.size 0 lo:Nat):Int)==0&&(1:Int)==1&&(cZ items.size items.size hi-cZ items.size 0 lo)==items.size)=true):=by
  intro q;rw[Bool.and_eq_true,Bool.and_eq_true]at q;have q1:((cZ items.size 0 lo:Nat):Int)=0:=eq_of_beq q.1.1;have q2:cZ items.size items.size hi-cZ items.size 0 lo=items.size:=eq_of_beq q.2;exact U ⟨af,af⟩
 show wpAny _ _ (if (((cZ items.size 0 lo:Nat):Int)==0&&(1:Int)==1&&(cZ items.size items.size hi-cZ items.size 0 lo)==items.size)=true then _ else _) _ _ s;rw[if_neg N,za]
 first
  |exact wpAny_bind (m:=Builtin.Tuple.tupleExact _) (wpAny_newObj_type (wpAny_pure ⟨_,rfl,wpAny_pure h⟩) F)
  |exact wpAny_bind (m:=Builtin.Tuple.tupleExact _) (wpAny_newObj_type (wpAny_bind (wpAny_pure (wpAny_pure ⟨_,rfl,wpAny_pure h⟩))) F)
  |exact wpAny_bind (wpAny_bind (m:=Builtin.Tuple.tupleExact _) (wpAny_newObj_type (wpAny_pure (wpAny_pure ⟨_,rfl,wpAny_pure h⟩)) F))
  |exact wpAny_bind (wpAny_bind (m:=Builtin.Tuple.tupleExact _) (wpAny_newObj_type (wpAny_pure ⟨_,rfl,wpAny_pure h⟩) F))
end
end HT
namespace L2
open PySem PySem.Spec PyProof.Rows
noncomputable abbrev TO:=St->Hp->(Option Int->Hp->Prop)->Prop
noncomputable def PO (X:Cx) (e:Option Expr) (t:TO):Prop :=
 ∀(pins:List (Addr×Obj)) (s:Shared) (σ:St) (H:Hp) (Q:Option Int->Hp->Prop),Inv X pins σ H s->t σ H Q ->
  wpAny (model X.prog X.w) X.A (evalPart e X.env) (λu s'=>∃o H',Inv X pins σ H' s'/\IsPart u o/\Q o H') X.xe s
noncomputable def AJ:TO:=λ_ H Q=>Q none H
noncomputable def Fc (t:TE):TO:=λσ H Q=>t σ H λx H1=>∃i,x=.int i/\Q (some i) H1
theorem intsAre_of {ns:List Int}:∀{us:List Value},Vals (ns.map V.int) us->IntsAre us ns:=by
 induction ns with
 |nil=>intro us r;rw[map_nil]at r;cases r;exact .nil
 |cons n ns G =>
  intro us r;rw[map_cons]at r;cases r with
  |cons I F =>
   obtain⟨t,e⟩:=I;subst e;exact .cons n t (G F)
section
variable {X:Cx}{e:Expr}{te:TE}{lo hi:Option Expr}{tl th:TO}{pos p2:Pos}
theorem eY:PO X none AJ:=by
 intro pins s σ H Q I h;rw[evalPart_none];exact wpAny_pure ⟨none,H,I,.none,h⟩
theorem de (h:PE X e te):PO X (some e) (Fc te):=by
 intro pins s σ H Q I N;rw[evalPart_some];refine bU (h pins s σ H _ I N) λu O F=>?_;obtain⟨x,H1,J,G,L⟩:=F;obtain⟨i,rfl,q⟩:=L;obtain⟨t,rfl⟩:=G;exact⟨some i,H1,J,.int i t,q⟩
noncomputable def Eo (X:Cx) (r:V->Option Int->Option Int->Hp->VK->Prop):Prop :=
 ∀(pins:List (Addr×Obj)) (s:Shared) (σ:St) (H:Hp) (x:V) (v F G:Value) (lo hi:Option Int) (sl:Addr) (Q:VK),Inv X pins σ H s->RelV x v->s.heap.IsSliceOf sl F G .none->IsPart F lo->IsPart G hi->r x lo hi H Q ->
  ∃T id,typeLookup (.type T) "__getitem__" = pure (some (.builtin id))/\s.TypeIs v T/\wpAny (model X.prog X.w) X.A (getItem v (.ref sl)) (EP X pins σ Q) X.xe s
noncomputable def HN (r:V->Option Int->Option Int->Hp->VK->Prop) (te:TE) (tl th:TO):TE:=λσ H Q=>te σ H λx H1=>tl σ H1 λl H2=>th σ H2 λu F=>r x l u F Q
theorem dg {r:V->Option Int->Option Int->Hp->VK->Prop}(N:Eo X r) (he:PE X e te) (hl:PO X lo tl) (hu:PO X hi th):PE X (.Subscript e (.Slice lo hi none p2) pos) (HN r te tl th):=by
 intro pins s σ H Q I h;refine Subscript_ (bU (he pins s σ H _ I h) λv s1 ab=>?_);obtain⟨x,H1,I1,R,q1⟩:=ab;refine wpAny_Slice (bU (hl pins s1 σ H1 _ I1 q1) λG U ac=>?_);obtain⟨l,H2,I2,pl,q2⟩:=ac;refine bU (hu pins U σ H2 _ I2 q2) λJ F S=>?_;obtain⟨u,L,O,pu,Y⟩:=S;rw[evalPart_none];refine wpAny_pure ?_;have I4:Inv X pins σ L { F with heap:=F.heap.push { cls:=.type "slice",data:=.fields #[G,J,.none] } }:=O.kept (t':=F.toks) λb ob q=>Heap.get?_push_of_some _ q;obtain⟨T,id,hT,ht,hg⟩:=N pins { F with heap:=F.heap.push { cls:=.type "slice",data:=.fields #[G,J,.none] } } σ L x v G J l u F.heap.objs.size Q I4 R (Heap.IsSliceOf.new ..) pl pu Y;show wpAny (model X.prog X.w) X.A (subscriptTail e (.Slice lo hi none p2) v (.ref F.heap.objs.size)) (EP X pins σ Q) X.xe { F with heap:=F.heap.push { cls:=.type "slice",data:=.fields #[G,J,.none] } };exact tail_any (ops:=[.ref F.heap.objs.size,v]) ht hT hg (by with_unfolding_all rfl)
noncomputable def eX (xs:List V) (lo hi:Option Int):List V:=(xs.drop (HT.cZ xs.length 0 lo)).take (HT.cZ xs.length xs.length hi-HT.cZ xs.length 0 lo)
theorem kl (xs:List V) (lo hi:Option Int):(eX xs lo hi).length<=xs.length:=by
 unfold eX;rw[length_take,length_drop];omega
inductive Fd (K:PySem.W.Frag) (x:V) (lo:Option Int) (hi:Option Int) (H:Hp) (Q:VK):Prop
 |mk (a:_) (xs:_) (_:x=.ref a) (_:bV K H a xs) (_:¬ (HT.cZ xs.length 0 lo=0/\HT.cZ xs.length xs.length hi=xs.length)) (_:∀p,H p=none->Q (.ref p) (upd H p (.tup (eX xs lo hi)))):Fd K x lo hi H Q
theorem CU:Eo X (Fd X.K):=by
 intro pins s σ H x v Y U lo hi sl Q I L hs pl N h;obtain⟨a,xs,rfl,R,O,q⟩:=h;cases L;obtain⟨its,r,J,G⟩:=I.tuple R;have F:its.toArray.size=xs.length:=(by rw[size_toArray];exact r.length.symm);refine⟨"tuple",_,PyProof.Rows.slot_tuple_getitem.lookup,J.typeIs,?_⟩;refine HT.jm J hs pl N (by rw[F];exact O) ?_ (by rw[F];exact G);rw[F];refine⟨.ref s.heap.objs.size,_,I.laid (t':=s.toks) (o:=.tup (eX xs lo hi)) (λb S q=>Heap.get?_push_of_some _ q) (le_refl _) ?_,rfl,q _ (I.bJ.fresh (le_refl _))⟩;exact⟨le_trans (kl xs lo hi) G,_,(r.drop (HT.cZ xs.length 0 lo)).take (HT.cZ xs.length xs.length hi-HT.cZ xs.length 0 lo),IsTup.new _ _⟩
end
noncomputable def u7 (n:Nat) (i:Int):Option Nat:=if 0<=i then(if i<n then some i.toNat else none)else if -(n:Int)<=i then some (i+n).toNat else none
noncomputable def xA {α:Type}(xs:List α) (i:Int):Option α:=(u7 xs.length i).bind λj=>xs[j]?
theorem vC {n:Nat}{i:Int}{j:Nat}(h:u7 n i=some j):seqIndex? i n=some j/\j<n /\ -(n:Int)<=i/\i<n:=by
 unfold u7 at h;by_cases F:0<=i
 .rw[if_pos F]at h;by_cases h1:i<n
  .rw[if_pos h1]at h;have e:i.toNat=j:=Option.some.inj h;exact⟨by rw[seqIndex_of F h1,e],af,af,h1⟩
  .rw[if_neg h1]at h;cases h
 .rw[if_neg F]at h;by_cases h1 : -(n:Int)<=i
  .rw[if_pos h1]at h;have e:(i+n).toNat=j:=Option.some.inj h;exact⟨by rw[seqIndex_neg af h1,e],af,h1,af⟩
  .rw[if_neg h1]at h;cases h
theorem oP {α:Type}{xs:List α}{i:Int}{v:α}(h:xA xs i=some v):∃j,seqIndex? i xs.length=some j/\xs[j]?=some v/\j<xs.length /\ -(xs.length:Int)<=i/\i<xs.length:=by
 unfold xA at h;cases e:u7 xs.length i with
 |none=>rw[e]at h;cases h
 |some j =>
  rw[e]at h;obtain⟨h1,h2,F,G⟩:=vC e;exact⟨j,h1,h,h2,F,G⟩
theorem ie {α:Type}{xs:List α}{j:Nat}{v:α}(h:xs[j]?=some v):xA xs (j:Int)=some v:=by
 have F:j<xs.length:=(List.getElem?_eq_some_iff.mp h).1;have e:u7 xs.length (j:Int)=some j:=by
  unfold u7;rw[if_pos af,if_pos af];simp
 unfold xA;rw[e];exact h
noncomputable def Aw (b:Expr):Prop:=∀o i,subscripted b false o i=operate [o,i] (getItem o i)
noncomputable def FG (X:Cx) (r:R2):Prop :=
 ∀(value F:Expr) (pins:List (Addr×Obj)) (s:Shared) (σ:St) (H:Hp) (x y:V) (v u:Value) (Q:VK),Inv X pins σ H s->RelV x v->RelV y u->r x y H Q ->
  subscripted F false v u=operate [v,u] (getItem v u)->wpAny (model X.prog X.w) X.A (subscriptTail value F v u) (EP X pins σ Q) X.xe s
noncomputable def HS (X:Cx) (id:String) (r:V->List V->Hp->VK->Prop):Prop :=
 ∀(pins:List (Addr×Obj)) (s:Shared) (σ:St) (H:Hp) (x:V) (xs:List V) (v:Value) (us:List Value) (Q:VK),Inv X pins σ H s->RelV x v->Vals xs us->r x xs H Q ->
  wpAny (model X.prog X.w) X.A (call (.builtin id) (v::us)) (EP X pins σ Q) X.xe s
section
variable {X:Cx}{a b:Expr}{ta tb:TE}{pos:Pos}
theorem aX {r:R2}(G:FG X r) (O:PE X a ta) (R:PE X b tb) (hs:Aw b):PE X (.Subscript a b pos) (DF r ta tb):=by
 intro pins s σ H Q I h;exact Subscript_ (Cm O R I h λv u J x y H2 N F L q=>G a b pins J σ H2 x y v u Q N F L q (hs _ _))
inductive Ae (K:PySem.W.Frag) (x:V) (y:V) (H:Hp) (Q:VK):Prop
 |mk (p:_) (xs:_) (i:_) (v:_) (_:x=.ref p) (_:y=.int i) (_:bE K H p xs) (_:xA xs i=some v) (_:Q v H):Ae K x y H Q
inductive EN (K:PySem.W.Frag) (x:V) (y:V) (H:Hp) (Q:VK):Prop
 |mk (p:_) (xs:_) (i:_) (v:_) (_:x=.ref p) (_:y=.int i) (_:bV K H p xs) (_:xA xs i=some v) (_:Q v H):EN K x y H Q
theorem cg:FG X (Ae X.K):=by
 intro value ab pins s σ H x y v u Q I rx N h hs;obtain⟨p,xs,i,z,rfl,rfl,Y,O,q⟩:=h;cases rx;obtain⟨t,rfl⟩:=N;obtain⟨its,r,pl,hz⟩:=I.list Y;obtain⟨j,h1,h2,h3,U,S⟩:=oP O;obtain⟨w,L,R⟩:=r.get h2;have hl:=r.length;have hn:=lQ;have J:EP X pins σ Q w s:=⟨z,H,I,R,q⟩;by_cases G:0<=i
 .have F:i.toNat=j:=by
   rw[seqIndex_of G S]at h1;exact Option.some.inj h1
  exact item_listR pl.isList G af (by rw[F];simpa using L) J hs
 .have F:(i+(its.toArray.size:Int)).toNat=j:=by
   rw[seqIndex_neg af U]at h1;rw[size_toArray, <-hl];exact Option.some.inj h1
  exact subscriptTail_builtinR (x:=w) pl.isList.typeIs slot_list_getitem.lookup
   (wpAny_getItem_list_neg (Q:=λr s'=>r=w/\EP X pins σ Q r s') pl.isList af (by rw[size_toArray]<;>omega) af (by rw[F];simpa using L) ⟨rfl,J⟩) hs
theorem a8:FG X (EN X.K):=by
 intro value ab pins s σ H x y v u Q I O G h hs;obtain⟨p,xs,i,z,rfl,rfl,N,J,q⟩:=h;cases O;obtain⟨t,rfl⟩:=G;obtain⟨its,r,pl,hz⟩:=I.tuple N;obtain⟨j,h1,h2,U,h4,Y⟩:=oP J;obtain⟨w,S,L⟩:=r.get h2;have R:=r.length;have hn:=lQ;have F:EP X pins σ Q w s:=⟨z,H,I,L,q⟩;exact subscriptTail_builtinR (x:=w) pl.typeIs slot_tuple_getitem.lookup
  (getItem_tuple (j:=j) (Q:=λr s'=>r=w/\EP X pins σ Q r s') pl af af (by rw[size_toArray, <-R];exact h1) (by simpa using S) ⟨rfl,F⟩) hs
theorem sY (its:List Value) (n j:Nat) (u:Value):Obj.mapSeq (·.setIfInBounds j u) { cls:=.type "list",data:=.seq its.toArray n }={ cls:=.type "list",data:=.seq (its.set j u).toArray n }:=by
 simp[Obj.mapSeq]
theorem Inv.lst {pins:List (Addr×Obj)}{σ:St}{H:Hp}{s:Shared}{p:Addr}{xs:List V}(I:Inv X pins σ H s) (h:H p=some (.lst xs)) :
  ∃(its:List Value) (n:Nat),Vals xs its/\s.heap.get? p=some { cls:=.type "list",data:=.seq its.toArray n }/\xs.length<=sizeLine:=by
 obtain⟨z,its,n,r,e⟩:=I.bJ p _ h;exact⟨its,n,r,e,z⟩
theorem Inv.BN {pins:List (Addr×Obj)}{σ:St}{H:Hp}{s:Shared}{p:Addr}{xs ys:List V}{its its':List Value}{n F:Nat}{f:Obj->Obj}(I:Inv X pins σ H s) (h:H p=some (.lst xs))
  (L:s.heap.get? p=some { cls:=.type "list",data:=.seq its.toArray n }) (G:f { cls:=.type "list",data:=.seq its.toArray n }={ cls:=.type "list",data:=.seq its'.toArray F }) (r:Vals ys its') (J:ys.length<=sizeLine) (t:Nat) :
  Inv X pins σ (upd H p (.lst ys)) { s with heap:=s.heap.update p f,toks:=t }:=by
 have e:(s.heap.update p f).get? p=some { cls:=.type "list",data:=.seq its'.toArray F }:=by
  rw[Heap.get?_update_self f L (by rw[G]<;>rfl),G]
 refine I.write (x:=p) (e:=p) (by rw[h];trivial) (.inl rfl) (λb u N q=>(Heap.get?_update_other _ _ (Ne.symm N)).trans q) ⟨_,e⟩ ?_;exact⟨J,its',F,r,e⟩
inductive BC (o:V) (i:V) (v:V) (H:Hp) (Q:(Hp->Prop)):Prop
 |mk (p:_) (xs:_) (k:_) (j:_) (_:o=.ref p) (_:i=.int k) (_:H p=some (.lst xs)) (_:u7 xs.length k=some j) (_:Q (upd H p (.lst (xs.set j v)))):BC o i v H Q
theorem set_list:AH X BC:=by
 intro pins s σ H o i v ov iv u Q I U ri rv h;obtain⟨p,xs,k,j,rfl,rfl,N,Y,q⟩:=h;cases U;obtain⟨t,rfl⟩:=ri;obtain⟨its,n,r,F,hz⟩:=I.lst N;obtain⟨h1,h2,O,R⟩:=vC Y;have J:=r.length;have hn:=lQ;have S:Inv X pins σ (upd H p (.lst (xs.set j v))) { s with heap:=s.heap.update p (Obj.mapSeq (·.setIfInBounds j u)) }:=
  I.BN N F (sY its n j u) (r.set rv j) (by rw[length_set];exact hz) s.toks
 by_cases L:0<=k
 .have G:k.toNat=j:=by
   rw[seqIndex_of L R]at h1;exact Option.some.inj h1
  exact PySem.W.ki_setAt F L af (by rw[size_toArray, <-J];exact R) (by rw[G];exact⟨_,S,q⟩)
 .have G:(k+(its.toArray.size:Int)).toNat=j:=by
   rw[seqIndex_neg af O]at h1;rw[size_toArray, <-J];exact Option.some.inj h1
  exact PySem.W.ki_setBack F af (by rw[size_toArray, <-J];exact O) af (by rw[G];exact⟨_,S,q⟩)
theorem qB (lo hi:Option Int) (n:Nat):(sliceBounds lo hi none n).1=((HT.cZ n 0 lo:Nat):Int)/\(sliceBounds lo hi none n).2.1=((HT.cZ n n hi:Nat):Int)/\(sliceBounds lo hi none n).2.2=1:=by
 refine⟨?_,?_,rfl⟩
 .cases lo with
  |none=>simp[sliceBounds,HT.cZ]
  |some i =>
   simp only[sliceBounds,HT.cZ,getD_none,show(1:Int)>0 by decide,if_true];by_cases h:i<0
   .simp only[h,if_true]<;>omega
   .simp only[h,if_false]<;>omega
 .cases hi with
  |none=>simp[sliceBounds,HT.cZ]
  |some i =>
   simp only[sliceBounds,HT.cZ,getD_none,show(1:Int)>0 by decide,if_true];by_cases h:i<0
   .simp only[h,if_true]<;>omega
   .simp only[h,if_false]<;>omega
theorem m4 (its:List Value) (lo hi:Option Int):slicePick its.toArray lo hi none=((its.drop (HT.cZ its.length 0 lo)).take (HT.cZ its.length its.length hi-HT.cZ its.length 0 lo)).toArray:=by
 obtain⟨h1,h2,F⟩:=qB lo hi its.toArray.size;unfold slicePick;rw[h1,h2,F];simp only[sliceRange_one,pick_run,size_toArray]<;>rfl
inductive Cz (K:PySem.W.Frag) (x:V) (lo:Option Int) (hi:Option Int) (H:Hp) (Q:VK):Prop
 |mk (a:_) (xs:_) (_:x=.ref a) (_:bE K H a xs) (_:∀p,H p=none->Q (.ref p) (upd H p (.lst (eX xs lo hi)))):Cz K x lo hi H Q
theorem gb:Eo X (Cz X.K):=by
 intro pins s σ H x v U S lo hi sl Q I G hs pl N h;obtain⟨a,xs,rfl,O,q⟩:=h;cases G;obtain⟨its,r,F,J⟩:=I.list O;have L:=r.length;refine⟨"list",_,slot_list_getitem.lookup,F.isList.typeIs,?_⟩;refine wpAny_getItem_list_slice F.isList hs pl N .none (by simp) ?_ (by rw[size_toArray]<;>omega);rw[m4, <-L];refine⟨.ref s.heap.objs.size,_,I.laid (t':=s.toks) (o:=.lst (eX xs lo hi)) (λb R q=>Heap.get?_push_of_some _ q) (le_refl _) ?_,rfl,q _ (I.bJ.fresh (le_refl _))⟩;exact⟨le_trans (kl xs lo hi) J,_,0,(r.drop (HT.cZ xs.length 0 lo)).take (HT.cZ xs.length xs.length hi-HT.cZ xs.length 0 lo),Heap.get?_push_size _ rfl⟩
noncomputable def eh:V->Bool
 |.non=>true
 |.bl _=>true
 |.int _=>true
 |.str _=>true
 |_=>false
noncomputable def ly:V->V->Bool
 |.non,.non=>true
 |.bl a,.bl b=>a==b
 |.bl a,.int b=>(if a then 1 else 0)==b
 |.int a,.bl b=>a==(if b then 1 else 0)
 |.int a,.int b=>a==b
 |.str a,.str b=>a==b
 |_,_=>false
theorem qd {A:Around}{s:Shared}{y x:V}{u v:Value}(I:RelV y u) (F:RelV x v) (J:eh y=true) (G:eh x=true):SeqAt.EqAt A s u v (ly y x):=by
 cases y with
 |non =>
  cases I;cases x with
  |non=>cases F;exact SeqAt.EqAt.same _
  |bl b=>cases F;exact SeqAt.EqAt.none_bool b
  |int b=>obtain⟨t,rfl⟩:=F;exact SeqAt.EqAt.none_int b t
  |str b=>obtain⟨t,rfl⟩:=F;exact SeqAt.EqAt.none_str b t
  |_=>exact absurd (show false=true from G) Bool.false_ne_true
 |bl a =>
  cases I;cases x with
  |non=>cases F;exact SeqAt.EqAt.bool_none a
  |bl b=>cases F;exact SeqAt.EqAt.bool_bool a b
  |int b=>obtain⟨t,rfl⟩:=F;exact SeqAt.EqAt.bool_int a b t
  |str b=>obtain⟨t,rfl⟩:=F;exact SeqAt.EqAt.bool_str a b t
  |_=>exact absurd (show false=true from G) Bool.false_ne_true
 |int a =>
  obtain⟨t',rfl⟩:=I;cases x with
  |non=>cases F;exact SeqAt.EqAt.int_none a t'
  |bl b=>cases F;exact SeqAt.EqAt.int_bool a t' b
  |int b=>obtain⟨t,rfl⟩:=F;exact SeqAt.EqAt.int_int a t' b t
  |str b=>obtain⟨t,rfl⟩:=F;exact SeqAt.EqAt.int_str a t' b t
  |_=>exact absurd (show false=true from G) Bool.false_ne_true
 |str a =>
  obtain⟨t',rfl⟩:=I;cases x with
  |non=>cases F;exact SeqAt.EqAt.str_none a t'
  |bl b=>cases F;exact SeqAt.EqAt.str_bool a t' b
  |int b=>obtain⟨t,rfl⟩:=F;exact SeqAt.EqAt.str_int a t' b t
  |str b=>obtain⟨t,rfl⟩:=F;exact SeqAt.EqAt.str_str a t' b t
  |_=>exact absurd (show false=true from G) Bool.false_ne_true
 |_=>exact absurd (show false=true from J) Bool.false_ne_true
noncomputable def tG (x:V) (u:Value):Bool:=match u with
 |.none=>ly .non x
 |.bool b=>ly (.bl b) x
 |.int i _=>ly (.int i) x
 |.str z _=>ly (.str z) x
 |_=>false
theorem yM {x y:V}{u:Value}(r:RelV y u) (f:eh y=true):tG x u=ly y x:=by
 cases y with
 |non=>cases r;rfl
 |bl b=>cases r;rfl
 |int i=>obtain⟨t,rfl⟩:=r;rfl
 |str z=>obtain⟨t,rfl⟩:=r;rfl
 |_=>exact absurd (show false=true from f) Bool.false_ne_true
theorem jq {x:V}:∀{xs:List V}{us:List Value},Vals xs us->xs.all eh=true->us.any (tG x)=xs.any λy=>ly y x
 |_,_,.nil,_=>rfl
 |y::xs,u::us,.cons r t,f=>by
  rw[all_cons,Bool.and_eq_true]at f;rw[any_cons,any_cons,yM r f.1,jq t f.2]
theorem gF {A:Around}{s:Shared}{x:V}{v:Value}(G:RelV x v) (I:eh x=true):∀{xs:List V}{us:List Value},Vals xs us->xs.all eh=true->∀u∈us,SeqAt.EqAt A s u v (tG x u)
 |_,_,.nil,_=>λu F=>by cases F
 |y::xs,u::us,.cons r t,f=>λJ F=>by
  rw[all_cons,Bool.and_eq_true]at f;rcases List.mem_cons.mp F with rfl|F
  .rw[yM r f.1];exact qd r G f.1 I
  .exact gF G I t f.2 J F
noncomputable def BG (x:V) (xs:List V):Bool:=xs.any λy=>ly y x
inductive Hb (K:PySem.W.Frag) (neg:Bool) (x:V) (y:V) (H:Hp) (Q:VK):Prop
 |mk (p:_) (xs:_) (_:y=.ref p) (_:(bE K H p xs\/bV K H p xs)) (_:eh x=true) (_:xs.all eh=true) (_:Q (.bl (if neg then !BG x xs else BG x xs)) H):Hb K neg x y H Q
theorem wd:kz X (compareOp .In) (Hb X.K false):=by
 intro pins s σ H x y v u Q I J O h;obtain⟨p,xs,rfl,F,L,fs,q⟩:=h;cases O;rcases F with F|F
 .obtain⟨its,r,pl,N⟩:=I.list F;refine SeqAt.in_listAt (tG x) pl.isList (λw G=>gF J L r fs w (by simpa using G)) ⟨.bl _,H,I,rfl,?_⟩;rw[show its.toArray.any (tG x)=its.any (tG x)by simp,jq r fs];exact q
 .obtain⟨its,r,pl,N⟩:=I.tuple F;refine SeqAt.in_tupleAt (tG x) pl (λw G=>gF J L r fs w (by simpa using G)) ⟨.bl _,H,I,rfl,?_⟩;rw[show its.toArray.any (tG x)=its.any (tG x)by simp,jq r fs];exact q
theorem fZ:kz X (compareOp .NotIn) (Hb X.K true):=by
 intro pins s σ H x y v u Q I J O h;obtain⟨p,xs,rfl,F,L,fs,q⟩:=h;cases O;rcases F with F|F
 .obtain⟨its,r,pl,N⟩:=I.list F;refine SeqAt.notIn_listAt (tG x) pl.isList (λw G=>gF J L r fs w (by simpa using G)) ⟨.bl _,H,I,rfl,?_⟩;rw[show its.toArray.any (tG x)=its.any (tG x)by simp,jq r fs];exact q
 .obtain⟨its,r,pl,N⟩:=I.tuple F;refine SeqAt.notIn_tupleAt (tG x) pl (λw G=>gF J L r fs w (by simpa using G)) ⟨.bl _,H,I,rfl,?_⟩;rw[show its.toArray.any (tG x)=its.any (tG x)by simp,jq r fs];exact q
theorem bG:dr X (.builtin "len") (λxs H Q=>∃p ys,xs=[.ref p]/\(bE X.K H p ys\/bV X.K H p ys)/\Q (.int ys.length) H):=by
 intro pins s σ H xs us Q I r h;obtain⟨p,ys,rfl,F,q⟩:=h;obtain⟨u,rfl,L⟩:=vals1 r;cases L;have O:=lQ;rcases F with F|F
 .obtain⟨its,J,pl,N⟩:=I.list F;have G:=J.length;exact Calls.call_len_list pl.isList (by simp only[size_toArray]<;>omega) ⟨.int ys.length,H,I.tok _,⟨s.toks+1,by rw[size_toArray,G]⟩,q⟩
 .obtain⟨its,J,pl,N⟩:=I.tuple F;have G:=J.length;exact len_tuple pl (by simp only[size_toArray]<;>omega) ⟨.int ys.length,H,I.tok _,⟨s.toks+1,by rw[size_toArray,G]⟩,q⟩
theorem cO:dr X (.type "list") (λxs H Q=>∃p ys,xs=[.ref p]/\(bE X.K H p ys\/bV X.K H p ys)/\∀l,H l=none->Q (.ref l) (upd H l (.lst ys))):=by
 intro pins s σ H xs us Q I r h;obtain⟨p,ys,rfl,J,q⟩:=h;obtain⟨u,rfl,U⟩:=vals1 r;cases U;have S:∀(its:List Value),Vals ys its->ys.length<=sizeLine->∀(h':Heap) (G:Nat),(∀b o',s.heap.get? b=some o'->h'.get? b=some o') ->
   h'.get? s.heap.objs.size=some { cls:=.type "list",dict:=none,data:=.seq its.toArray G,slots := #[] }->EP X pins σ Q (.ref s.heap.objs.size) { s with heap:=h' }:=λits F L h' G N e =>
  ⟨.ref s.heap.objs.size,_,I.laid (t':=s.toks) N (le_refl _) (show bT X.prog X.w _ h' _ (.lst ys)from⟨L,its,G,F,e⟩),rfl,q _ (I.bJ.fresh (le_refl _))⟩
 rcases J with J|J
 .obtain⟨its,F,pl,L⟩:=I.list J;have Y:=F.length;obtain⟨o,R,O,n,hd⟩:=pl.isList;exact call_list_seq p (.inl rfl) R O hd (λh' G N e=>S its F L h' G N e) (by simp only[size_toArray]<;>omega)
 .obtain⟨its,F,pl,L⟩:=I.tuple J;have Y:=F.length;obtain⟨o,R,O,n,hd⟩:=pl;exact call_list_seq p (.inr rfl) R O hd (λh' G N e=>S its F L h' G N e) (by simp only[size_toArray]<;>omega)
theorem mW:dr X (.type "tuple") (λxs H Q=>∃p ys,xs=[.ref p]/\((bE X.K H p ys/\∀l,H l=none->Q (.ref l) (upd H l (.tup ys)))\/(bV X.K H p ys/\Q (.ref p) H))):=by
 intro pins s σ H xs us Q I r h;obtain⟨p,ys,rfl,h⟩:=h;obtain⟨u,rfl,N⟩:=vals1 r;cases N;rcases h with⟨F,q⟩|⟨F,q⟩
 .obtain⟨its,G,pl,J⟩:=I.list F;have S:=G.length;refine call_tuple_list pl.isList (λh' O=>?_) (by simp only[size_toArray]<;>omega);have L:Inv X pins σ H { s with heap:=h' }:=I.kept (t':=s.toks) O;have R:Inv X pins σ (upd H h'.objs.size (.tup ys)) { s with heap:=h'.push { cls:=.type "tuple",data:=.seq its.toArray } }:=
   L.laid (t':=s.toks) (λb o e=>Heap.get?_push_of_some _ e) (le_refl _) (show bT X.prog X.w _ _ _ (.tup ys)from⟨J,its,G,IsTup.new _ _⟩)
  exact⟨.ref h'.objs.size,_,R,rfl,q _ (L.bJ.fresh (le_refl _))⟩
 .obtain⟨its,G,pl,J⟩:=I.tuple F;exact call_tuple_same pl ⟨.ref p,H,I,rfl,q⟩
noncomputable def Hr (K:PySem.W.Frag) (T:String) (x:V) (H:Hp):Prop:=match x with
 |.str _=>T = "str"
 |.int _=>T = "int"
 |.ref p=>(T = "list" /\ ∃xs,bE K H p xs)\/(T = "tuple" /\ ∃o,K.lookup p=some o/\o.cls=.type "tuple" /\ o.dict=none) \/
   (T = "dict" /\ ((∃kvs,H p=some (.dK kvs))\/∃kvs,H p=some (.dT kvs)))\/(T = "set" /\ ∃S n,H p=some (.set S n))
 |_=>False
theorem BQ {pins:List (Addr×Obj)}{σ:St}{H:Hp}{s:Shared}{T:String}{x:V}{v:Value}(I:Inv X pins σ H s) (r:RelV x v) (ty:Hr X.K T x H) :
  s.TypeIs v T/\∀a,v=.ref a->∃J,s.heap.get? a=some J/\J.dict=none:=by
 cases x with
 |str z =>
  obtain⟨t,rfl⟩:=r;cases(show T = "str" from ty);exact⟨typeIs_str s z t,λ_ e=>nomatch e⟩
 |int i =>
  obtain⟨t,rfl⟩:=r;cases(show T = "int" from ty);exact⟨typeIs_int s i t,λ_ e=>nomatch e⟩
 |ref p =>
  cases r;rcases ty with⟨rfl,xs,L⟩|⟨rfl,o,F,N,hd⟩|⟨rfl,F⟩|⟨rfl,S,n,F⟩
  .obtain⟨its,_,pl,_⟩:=I.list L;refine⟨pl.isList.typeIs,λa e=>?_⟩;cases e;obtain⟨o,n,e,c,hd,_⟩:=pl;exact⟨o,e,hd⟩
  .refine⟨⟨o,I.jV p o F,N⟩,λa e=>?_⟩;cases e;exact⟨o,I.jV _ o F,hd⟩
  .have z:∃o,s.heap.get? p=some o/\o.ExactDict:=by
    rcases F with⟨kvs,F⟩|⟨kvs,F⟩
    .obtain⟨_,_,_,_,o,_,_,e,ex,_⟩:=I.bJ p _ F;exact⟨o,e,ex⟩
    .obtain⟨_,_,_,_,o,_,_,e,ex,_⟩:=I.bJ p _ F;exact⟨o,e,ex⟩
   obtain⟨o,e,ex⟩:=z;refine⟨⟨o,e,ex.1⟩,λa G=>?_⟩;cases G;exact⟨o,e,ex.2.1⟩
  .obtain⟨o,_,_,_,e,ex,_⟩:=I.bJ p _ F;refine⟨⟨o,e,ex.1⟩,λa G=>?_⟩;cases G;exact⟨o,e,ex.2.1⟩
 |_=>exact False.elim ty
noncomputable def HZ (K:PySem.W.Frag) (T:String) (r:V->List V->Hp->VK->Prop) (to:TE) (t:TA):TE:=λσ H Q=>to σ H λx H1=>Hr K T x H1/\t σ H1 λxs H2=>r x xs H2 Q
variable {o e:Expr}{es:List Expr}{to:TE}{t:TA}{name:Str}{apos cpos:Pos}{T id:String}{r:V->List V->Hp->VK->Prop}
theorem gK (pa:PlainAttrs T) (slot:Slot T name id) (Y:typeOf (.builtin id)=pure (.type "method_descriptor")) (hm:HS X id r) (ho:PE X o to) (ha:PA X (e::es) t)
  (N:attributeBase o name X.env (eval o X.env)=eval o X.env:=by rfl)
  (ab:((backTo cpos (starEach (e::es) X.env)).all (λx => !x.1)&&(backToKw cpos (keywordEach [] X.env)).all (λx=>x.1.isSome)
   && decide ((e::es).length+([]:List Keyword).length+(if ([]:List Keyword).isEmpty then 0 else 1)<30))=true:=by rfl)
  (O:(apos.endLine==cpos.line)=true:=by rfl) (hs:starEach (e::es) X.env=(false,eval e X.env)::starEach es X.env:=by rfl) (ac:(backTo cpos (starEach es X.env)).any (·.1)=false:=by rfl) :
  PE X (.Call (.Attribute o name apos) (e::es) [] cpos) (HZ X.K T r to t):=by
 intro pins s σ H Q I h;refine wpAny_Call_method_late N ab O rfl (bU (ho pins s σ H _ I h) λv S L=>?_);obtain⟨x,H1,G,F,ty,U⟩:=L;obtain⟨h1,h2⟩:=BQ G F ty;refine⟨T,id,pa,slot,Y,h1,h2,?_⟩;have J:=ha cpos pins S σ H1 _ G U;rw[hs]at J ⊢;refine Calls.callWith_builtin (by show(false||(backTo cpos (starEach es X.env)).any (·.1))=false;rw[ac]<;>rfl) (Calls.evalArgs_plain ?_);exact bU J λus R ad=>by obtain⟨vs,H2,I2,r2,q2⟩:=ad;exact hm pins R σ H2 x vs v us Q I2 F r2 q2
end
noncomputable def Cw (X:Cx) (id:String) (r:V->List V->Hp->VK->Prop):Prop :=
 ∀(pins:List (Addr×Obj)) (s:Shared) (σ:St) (H:Hp) (x:V) (xs:List V) (v:Value) (us:List Value) (Q:VK),Inv X pins σ H s->RelV x v->Vals xs us->r x xs H Q ->
  wpAny (model X.prog X.w) X.A (call (.builtin id) (v::us)) (EP X pins σ Q) X.xe s
theorem Vals.one:∀{x:V}{us:List Value},Vals [x] us->∃u,us=[u]/\RelV x u
 |_,_,.cons r .nil=>⟨_,rfl,r⟩
theorem Vals.eraseIdx:∀{xs:List V}{us:List Value}(i:Nat),Vals xs us->Vals (xs.eraseIdx i) (us.eraseIdx i)
 |_,_,_,.nil=>.nil
 |_,_,0,.cons _ t=>t
 |_,_,i+1,.cons r t=>.cons r (Vals.eraseIdx i t)
theorem Vals.rep {xs:List V}{us:List Value}(h:Vals xs us):∀k:Nat,Vals (replicate k xs).flatten (replicate k us).flatten
 |0=>.nil
 |k+1=>by
  rw[replicate_succ,replicate_succ,flatten_cons,flatten_cons];exact Vals.append h (Vals.rep h k)
theorem m6 {α:Type}:∀(l:List α) (i:Nat),(l.eraseIdx i).length<=l.length
 | [],_=>le_refl _
 |_::_,0=>le_succ _
 |_::r,i+1=>Nat.succ_le_succ (m6 r i)
theorem foldl_rep (its:List Value):∀(k:Nat) (F:List Value),
  foldl (λJ I=>J++I) F.toArray (replicate k its.toArray)=(F++(replicate k its).flatten).toArray
 |0,F=>by simp
 |k+1,F=>by
  have e:F.toArray++its.toArray=(F++its).toArray:=(by simp);have G:(F++its)++(replicate k its).flatten=F++(replicate (k+1) its).flatten:=by
   rw[replicate_succ,flatten_cons,append_assoc]
  rw[<-G, <-foldl_rep its k (F++its), <-e,replicate_succ,List.foldl_cons]
section
variable {X:Cx}{pins:List (Addr×Obj)}{σ:St}{H:Hp}{s:Shared}{l b:Addr}{xs ys zs:List V}
theorem Inv.Bi {its its':List Value}{n:Nat}{f:Array Value->Array Value}{t':Nat}(I:Inv X pins σ H s) (G:H l=some (.lst xs))
  (e:s.heap.get? l=some { cls:=.type "list",data:=.seq its.toArray n }) (N:f its.toArray=its'.toArray) (J:Vals ys its') (F:ys.length<=sizeLine) :
  Inv X pins σ (upd H l (.lst ys)) { s with heap:=s.heap.update l (Obj.mapSeq f),toks:=t' }:=by
 have q:=PySem.IsL.update e f;rw[N]at q;refine I.write (x:=l) (e:=l) (by rw[G];exact trivial) (.inl rfl) (λR u O L=>(Heap.get?_update_other s.heap (Obj.mapSeq f) (Ne.symm O)).trans L) ⟨_,q⟩ ?_;exact⟨F,its',_,J,q⟩
theorem Inv.D7 {its:List Value}{t':Nat}(I:Inv X pins σ H s) (F:Vals ys its) (G:ys.length<=sizeLine) :
  Inv X pins σ (upd H s.heap.objs.size (.lst ys)) { s with heap:=s.heap.push { cls:=.type "list",data:=.seq its.toArray },toks:=t' }:=
 I.laid (λ_ _ q=>Heap.get?_push_of_some _ q) (le_refl _) ⟨G,its,0,F,Heap.get?_push_size _ rfl⟩
theorem Inv.fresh (I:Inv X pins σ H s):H s.heap.objs.size=none:=I.bJ.fresh (le_refl _)
theorem Inv.lj (I:Inv X pins σ H s) (F:H l=some (.lst xs)):xs.length<=sizeLine/\∃(its:List Value) (n:Nat),Vals xs its/\xs.length=its.length/\s.heap.get? l=some { cls:=.type "list",data:=.seq its.toArray n }:=by
 obtain⟨z,its,n,r,e⟩:=I.bJ l _ F;exact⟨z,its,n,r,r.length,e⟩
theorem rh {n:Nat}(h:n<=sizeLine):Builtin.List.listTooLong n=false:=by
 unfold Builtin.List.listTooLong;exact decide_eq_false af
end
section
variable {X:Cx}
inductive ve (x:V) (vs:List V) (H:Hp) (Q:VK):Prop
 |mk (l:_) (xs:_) (y:_) (_:x=.ref l) (_:vs=[y]) (_:H l=some (.lst xs)) (_:xs.length<sizeLine) (_:Q .non (upd H l (.lst (xs++[y])))):ve x vs H Q
theorem jS:Cw X "list.append" ve:=by
 intro pins s σ H x vs v us Q I J N h;obtain⟨l,xs,y,rfl,rfl,G,O,q⟩:=h;cases J;obtain⟨u,rfl,L⟩:=N.one;obtain⟨z,its,n,r,R,e⟩:=I.lj G;refine call_meets F.slot_list_append ⟨_,e,rfl⟩ F.entry_list_append (F.args_list_append_2 _ _) (list_append l its.toArray n u (by rw[size_toArray];omega)) ⟨e,?_⟩;refine⟨.non,_,I.Bi (its':=its++[u]) G e (by simp) (r.append (.cons L .nil)) ?_,rfl,q⟩;rw[length_append,length_singleton];omega
inductive vg (x:V) (vs:List V) (H:Hp) (Q:VK):Prop
 |mk (l:_) (b:_) (xs:_) (zs:_) (_:x=.ref l) (_:vs=[.ref b]) (_:H l=some (.lst xs)) (_:H b=some (.lst zs)) (_:xs.length+zs.length<=sizeLine) (_:Q .non (upd H l (.lst (xs++zs)))):vg x vs H Q
theorem m7:Cw X "list.extend" vg:=by
 intro pins s σ H x vs v us Q I rx O h;obtain⟨l,b,xs,zs,rfl,rfl,J,R,hz,q⟩:=h;cases rx;obtain⟨u,rfl,U⟩:=O.one;cases U;obtain⟨z,its,n,r,hl,e⟩:=I.lj J;obtain⟨z2,G,L,N,ab,S⟩:=I.lj R;have hsz:its.toArray.size+G.toArray.size<=sizeLine:=(by rw[size_toArray,size_toArray];omega);have Y:¬ (!its.toArray.isEmpty&&Builtin.List.listTooLong (its.toArray.size+G.toArray.size))=true:=by
  rw[rh hsz,Bool.and_false];exact Bool.false_ne_true
 refine call_meets F.slot_list_extend ⟨_,e,rfl⟩ F.entry_list_extend (F.args_list_extend_2 _ _)
  (AutoSeq1.list_extend_list_list_0 l its.toArray n b G.toArray L Y (by rw[size_toArray];omega) af) ⟨e,S,?_⟩
 refine⟨.non,_,I.Bi (its':=its++G) J e (by simp) (r.append N) ?_,rfl,q⟩;rw[length_append];omega
inductive yj (x:V) (vs:List V) (H:Hp) (Q:VK):Prop
 |mk (l:_) (xs:_) (i:_) (k:_) (y:_) (_:x=.ref l) (_:vs=[.int i]) (_:H l=some (.lst xs)) (_ : -(2^63)<=i) (_:i<2^63) (_:seqIndex? i xs.length=some k) (_:xs[k]?=some y) (_:Q y (upd H l (.lst (xs.eraseIdx k)))):yj x vs H Q
theorem y6:Cw X "list.pop" yj:=by
 intro pins s σ H x vs v us Q I J U h;obtain⟨l,xs,i,k,y,rfl,rfl,G,h1,h2,O,N,q⟩:=h;cases J;obtain⟨u,rfl,R⟩:=U.one;obtain⟨t,rfl⟩:=R;obtain⟨z,its,n,r,S,e⟩:=I.lj G;obtain⟨w,Y,L⟩:=r.get N;refine call_meets F.slot_list_pop ⟨_,e,rfl⟩ F.entry_list_pop (F.args_list_pop_2 _ _)
  (MeetsSeq.list_pop_at l its.toArray n i t k w (fitsIndex_both h1 h2) (by rw[size_toArray, <-S];exact O) (by rw[<-getElem?_toList];exact Y) (by rw[size_toArray];omega)) ⟨e,?_⟩
 refine⟨y,_,I.Bi (its':=its.eraseIdx k) G e ?_ (r.eraseIdx k) ?_,L,q⟩
 .show its.toArray.eraseIdxIfInBounds k=(its.eraseIdx k).toArray;rw[List.eraseIdxIfInBounds_toArray]
 .have:=m6 xs k;omega
inductive Ed (x:V) (y:V) (H:Hp) (Q:VK):Prop
 |mk (l:_) (b:_) (xs:_) (zs:_) (_:x=.ref l) (_:y=.ref b) (_:H l=some (.lst xs)) (_:H b=some (.lst zs)) (_:xs.length+zs.length<=sizeLine) (_:∀p,H p=none->Q (.ref p) (upd H p (.lst (xs++zs)))):Ed x y H Q
theorem sN:kz X (binaryOp .Add) Ed:=by
 intro pins s σ H x y v u Q I G N h;obtain⟨l,b,xs,zs,rfl,rfl,L,R,U,q⟩:=h;cases G;cases N;obtain⟨z,its,n,r,hl,e⟩:=I.lj L;obtain⟨Y,F,n2,O,ab,J⟩:=I.lj R;refine PySem.P.add_list e J ?_ (by rw[size_toArray,size_toArray];omega);have S:its.toArray++F.toArray=(its++F).toArray:=(by simp);rw[S];exact⟨.ref _,_,I.D7 (t':=s.toks) (r.append O) (by rw[length_append];omega),rfl,q _ I.fresh⟩
inductive E2 (x:V) (y:V) (H:Hp) (Q:VK):Prop
 |mk (l:_) (k:_) (xs:_) (_:x=.ref l) (_:y=.int k) (_:H l=some (.lst xs)) (_ : -(2^63)<=k) (_:k<2^63) (_:xs.length*k.toNat<=sizeLine) (_:∀p,H p=none->Q (.ref p) (upd H p (.lst (replicate k.toNat xs).flatten))):E2 x y H Q
theorem len_rep {α:Type}(xs:List α) (k:Nat):(replicate k xs).flatten.length=k*xs.length:=by
 induction k with
 |zero=>simp
 |succ k F=>rw[replicate_succ,flatten_cons,length_append,F,Nat.succ_mul,Nat.add_comm]
theorem lS:kz X (binaryOp .Mult) E2:=by
 intro pins s σ H x y v u Q I S N h;obtain⟨l,k,xs,rfl,rfl,hH,h1,h2,L,q⟩:=h;cases S;obtain⟨t,rfl⟩:=N;obtain⟨z,its,n,r,hl,e⟩:=I.lj hH;have Y:its.toArray.size*k.toNat<=sizeLine:=(by rw[size_toArray, <-hl];exact L);have ac:¬ its.toArray.size*k.toNat>(2^63-1)/8:=by
  have:(sizeLine:Nat)<=(2^63-1)/8:=av;omega
 have R:¬ (!Builtin.List.listFitsIndex k)=true:=by
  rw[fitsIndex_both h1 h2];exact Bool.false_ne_true
 have O:¬ Builtin.List.listTooLong (its.toArray.size*k.toNat)=true:=by
  rw[rh Y];exact Bool.false_ne_true
 have ab:foldl (λG J=>G++J) #[] (replicate (if its.toArray.isEmpty=true then 0 else k.toNat) its.toArray)=(replicate k.toNat its).flatten.toArray:=by
  have f0:∀m:Nat,foldl (λG J=>G++J) #[] (replicate m its.toArray)=(replicate m its).flatten.toArray:=λm=>by
   have:=foldl_rep its m [];rw[List.nil_append]at this;exact this
  rw[f0];cases its with
  |nil=>simp
  |cons a r'=>rw[if_neg (by simp)]
 refine wpAny_binaryOp_repeat_ref (T := "list") (U := "int") av ⟨_,e,rfl⟩ (λs'=>typeIs_int s' k t) noFill_list_mul F.fills_int_mul F.slot_int_rmul repeat_list F.slot_int_index.lookup
  (call_meets F.slot_int_rmul (typeIs_int s k t) F.entry_int_rmul (F.args_int_rmul_2 _ _) (int___rmul___int_list k t l its.toArray n)
   ⟨e,rfl,⟨_,e,rfl⟩,call_meets F.slot_list_mul ⟨_,e,rfl⟩ F.entry_list_mul (F.args_list_mul_2 _ _) (AutoListH.list___mul___list_int_3 l its.toArray n k t R ac O) ⟨e,?_⟩⟩)
 rw[ab];exact⟨.ref _,_,I.D7 (t':=s.toks) (r.rep k.toNat) (by rw[len_rep,Nat.mul_comm];exact L),rfl,q _ I.fresh⟩
end
section
variable {prog:Program}{w:World}{A:Around}{E:Value->Shared->Prop}{s:Shared}
end
section
variable {X:Cx}
end
end L2
namespace Att
open PySem PySem.W PySem.Calls PyProof.Rows
theorem kA {P:Params}{h:Heap}:∀(ns:List Int) (vs:List Value),WellAll P h vs (ns.map WData.int)->IntsAre vs ns:=by
 intro ns
 induction ns with
 |nil =>
  intro vs w;rw[map_nil]at w;cases w;exact .nil
 |cons n ns F =>
  intro vs w;rw[map_cons]at w;cases w with
  |cons a b =>
   cases a;exact .cons _ _ (F _ b)
theorem wZ {l:OpenLaw}{n:Nat}(Y:l.most=some n) {P:Params}{h:Heap}{args:List WData}{I:List Value}
  (L:l.row.toRowW.claim.pre args=true) (U:WellAll P h I args) :
  ∃a vs ns,I=[Value.ref a]/\args=[WData.list (ns.map WData.int)]/\h.get? a=some { cls:=.type "list",data:=.seq vs.toArray }/\IntsAre vs ns/\ns.length<=n:=by
 have N:WShape.hasAll [] args [.list .int]=true:=(pre_splitW L).1;have J:l.pre.holds [] { args:=args }=true:=(pre_splitW L).2;obtain⟨d,r,rfl,h1,h2⟩:=hasAllW_cons N;obtain rfl:=hasAllW_nil h2;obtain⟨xs,rfl,h3⟩:=hasW_list h1;obtain⟨ns,rfl⟩:=items_int h3;have R:ns.length<=n:=by
  unfold OpenLaw.pre at J;have G:(WTm.not (.lt (.lit (.int (n:Int))) (.len (.arg 0)))).holds [] { args:=[.list (ns.map .int)] }=true:=by
   have G:=(holds_andW J).1;rw[Y]at G;exact G
  have F:=condW_of G (w_not (w_lt w_lit (w_len_list (w_arg rfl))));rw[length_map]at F;refine Nat.le_of_not_lt λq=>?_;have q':(n:Int)<((ns.length:Nat):Int):=af
  first
   |(rw[decide_eq_true q']at F;exact absurd F av)
   |(simp at F;omega)
 cases U with
 |cons w1 w2 =>
  cases w2;cases w1 with
  |list O S=>exact⟨_,_,ns,rfl,rfl,O,kA ns _ S,R⟩
theorem wG (l:OpenLaw) (args:List WData):l.row.toRowW.claim.post args (.bool true) args=true :=
 postW_of (r:=l.row.toRowW) (X:=(true==true))
  (show WShape.has [] (.bool true) .bool=true by first|rfl|decide|simp[WShape.has,WShape.arms,WShape.armsAll])
  (show(WTm.eq .res (.lit (.bool true))).value [] { args:=args,res:=some (.bool true),after:=args }=some (.bool (true==true))from w_eq_bool (w_res rfl) w_lit) rfl
theorem sg {l:OpenLaw}{n:Nat}{q:Program}{loose:List Str}{O:(Str->Option Value)->Heap->Prop}{N:World->Heap->Prop}{d:DefRec}
  (hn:l.most=some n) (ad:d.params.defaults=[])
  (call:∀(w:World) (s₀ F:Shared) (mg L:Str->Option Value) (I:Addr) (o:Obj) (pm cd J:Value) (a:Addr) (vs:List Value) (ns:List Int),
   Ground q loose [] O w s₀ mg L F.heap->N w F.heap ->
   F.heap.get? I=some o->o.data=.func (docDef d.name d.params d.body d.scope pm cd J)->F.heap.CodeRec cd d.name->mg d.name=some (.ref I) ->
   F.heap.get? a=some { cls:=.type "list",data:=.seq vs.toArray }->IntsAre vs ns->ns.length<=n->F.gens = #[] ->
   codeAny (model l.prog w) callerA (.call (.ref I) ⟨[.ref a],[]⟩) (λr s'=>r=.ok (.ret (.bool true))/\OldK F.heap s'.heap/\s'.os=F.os/\AllBare s'.gens) F) :
  WalkO q loose O N l.row.toRowW d [] (λf vs=>PySem.call f vs):=by
 intro w s₀ F mg L G Y I o pm cd J dV kV ho hd U R aB hg args aT as ac a1 a2 S a0;obtain rfl:dV=.none:=Dflts.none R ad;obtain rfl:kV=.none:=Dflts.noKw R;obtain⟨a,vs,ns,rfl,rfl,ap,ab,am⟩:=wZ hn ac S;refine enter_call (codeAny_mono (call w s₀ F mg L I o pm cd J a vs ns G Y ho (fd_plain hd) U aB ap ab am hg) λr s' hq=>?_);obtain⟨rfl,h2,h3,h4⟩:=hq;exact⟨.inl ⟨.bool true,.bool true,[],rfl,λ_=>rfl,.bool true,wG l _,λ_=>⟨List.Pairwise.nil,λ_ hm=>(nomatch hm)⟩⟩,h2,h3,h4⟩
section
variable {prog:Program}{w:World}{A:Around}{E:Value->Shared->Prop}{s:Shared}{K:Frag}
end
end Att
namespace L2
open PySem PySem.Spec PyProof.Rows
theorem ij:∀{vs:List Value}{ns:List Int},IntsAre vs ns->Vals (ns.map V.int) vs
 |_,_,.nil=>.nil
 |_,_,.cons n t h=>.cons ⟨t,rfl⟩ (ij h)
noncomputable def Ds (H:Hp):Prop:=∀b,H b=none\/∃o xs,H b=some (.frz o (.lst xs))
theorem yY {P:Program}{w:World}{K:PySem.W.Frag}{mg S:Str->Option Value}{CX:vI}{k:Nat}{U a:Addr}{fd:FuncData}{x:Str}{sp:Sp}{G:Shared}{vs:List Value}{ns:List Int}
  (KX:K.In G.heap) (Y:G.heap.Ns mainGlobals mg) (I:G.heap.Ns builtinsNs S) (a3:∀x:Str,x ≠ "__name__" -> S x=bootBuiltins x) (ap:G.heap.NoLimit) (hg:G.gens = #[])
  (N:G.heap.get? a=some { cls:=.type "list",data:=.seq vs.toArray }) (hi:IntsAre vs ns) (hl:ns.length<=sizeLine) (hr:dC k callerA)
  (F:∀base:Heap,K.In base->base.Ns mainGlobals mg->bj P w K mg base CX k U fd [x] sp) (a1:∀(s:Shared) (u:Value),BindsTo s fd ⟨[u],[]⟩ [(x,u)])
  (aB:∀H:Hp,Ds H->bE K H a (ns.map V.int)->sp [.ref a] H (λv _=>v=.bl true) λ_ _ _=>False)
  (as:∀H e s',CX [] H G (λ_ _ _=>False) e s'->False) :
  codeAny (model P w) callerA (.call (.ref U) ⟨[.ref a],[]⟩) (λr s'=>r=.ok (.ret (.bool true))/\OldK G.heap s'.heap/\s'.os=G.os/\AllBare s'.gens) G:=by
 have rv:=ij hi;have a0:=hi.length;have ac:∀H:Hp,Ds H->bE K H a (ns.map V.int)->iT P w H G.heap->(∀b,H b≠none->b=a)->(H a≠none->K.lookup a=none) ->
   codeAny (model P w) callerA (.call (.ref U) ⟨[.ref a],[]⟩) (λr s'=>r=.ok (.ret (.bool true))/\OldK G.heap s'.heap/\s'.os=G.os/\AllBare s'.gens) G:=by
  intro H hO hS bJ hA hK;have ab:∀{b:Addr}{o:Obj},G.heap.get? b=some o->H b=none->(p7 G.heap H).get? b=some o:=λe n=>x8 e n;have a2:∀{b:Addr}{o:Obj}{es:Array DictEntry}{ep:Nat},G.heap.get? b=some o->o.data=.dict es ep->H b=none:=λ{b o es ep} e d=>by
   cases q:H b with
   |none=>rfl
   |some u =>
    have O:b=a:=hA b (by rw[q];simp);subst O;rw[N]at e;cases e;have d':Data.seq vs.toArray _=Data.dict es ep:=d;cases d'
  have L:∀{b:Addr}{m:Str->Option Value},G.heap.Ns b m->(p7 G.heap H).Ns b m:=λ{b m} am=>(by obtain⟨o,es,ep,e,d,r⟩:=am;exact⟨o,es,ep,ab e (a2 e d),d,r⟩);have ad:K.In (p7 G.heap H):=λb o e=>ab (KX b o e) (by
   cases q:H b with
   |none=>rfl
   |some u =>
    have O:b=a:=hA b (by rw[q];simp);subst O;rw[hK (by rw[q];simp)]at e;cases e)
  have hM:Mod K mg (p7 G.heap H):=⟨ad,L Y,⟨S,L I,a3⟩,let ⟨mc,h1,h2⟩:=ap;⟨mc,L h1,h2⟩⟩;have e0:sQ P w K mg (p7 G.heap H) callerA [] G H:=⟨rfl,hM,λb o e=>An e,Nat.le_of_eq (xn _ _),trivial,λb I=>absurd (show b∈([]:List Addr)from I) (by simp),bJ,.of_eq hg⟩;refine codeAny_mono ((F _ ad (L Y)).run callerA [] G H ⟨[.ref a],[]⟩ [.ref a] [.ref a] _ _ hr e0 (a1 G (.ref a)) (.cons rfl .nil) (aB H hO hS)) λr s' h=>?_;cases r with
  |error e=>exact(as H e s' h).elim
  |ok fl =>
   cases fl with
   |next=>exact False.elim h
   |brk=>exact False.elim h
   |cont=>exact False.elim h
   |ret u =>
    obtain⟨v,H',os,bare,un,aT,r',q⟩:=h;have q':v=.bl true:=q;subst q';obtain rfl:u=Value.bool true:=r';refine⟨rfl,OldK.of_keep λb o e=>?_,os,bare⟩;cases q:H b with
    |none=>exact un.keep b o e q (by intro z;exact absurd (show b∈([]:List Addr)from z) (by simp)) (by simp)
    |some u =>
     rcases hO b with z|⟨ob,xs,z⟩
     .rw[q]at z;cases z
     .have z2:=un.mR b ob _ z;obtain⟨e1,_⟩:=bJ b _ z;obtain⟨e2,_⟩:=aT b _ z2;rw[e]at e1;cases e1;exact e2
 cases R:K.lookup a with
 |some o =>
  have e:=KX a o R;rw[N]at e;cases e;refine ac (λ_=>none) (λ_=>.inl rfl) (.inr ⟨_,vs.toArray,_,R,rfl,rfl,rfl,by rw[size_toArray,a0];exact hl,by simpa using rv⟩) (λb u z=>by have J:(none:Option HO)=some u:=z;cases J) (λb z=>absurd rfl z) λz=>absurd rfl z
 |none =>
  refine ac (λb=>if b=a then some (.frz { cls:=.type "list",data:=.seq vs.toArray } (.lst (ns.map V.int)))else none) (λb=>?_) (.inl (.inr ⟨{ cls:=.type "list",data:=.seq vs.toArray },if_pos rfl⟩)) (λb u z=>?_) (λb z=>?_) λ_=>R
  .by_cases I:b=a
   .exact .inr ⟨_,_,if_pos I⟩
   .exact .inl (if_neg I)
  .by_cases I:b=a
   .have J:=(if_pos I).symm.trans z;cases J;subst I;exact⟨N,by rw[length_map];exact hl,vs,_,rv,N⟩
   .have J:=(if_neg I).symm.trans z;cases J
  .by_cases I:b=a
   .exact I
   .exact absurd (if_neg I) z
theorem Ac {l:PySem.W.OpenLaw}{n k:Nat}{q:Program}{loose:List Str}{XP:(Str->Option Value)->Heap->Prop}{J:World->Heap->Prop}{d:DefRec}{K:Params->PySem.W.Frag}{CX:World->vI}{sp:World->Sp}{x:Str}
  (hn:l.most=some n) (ac:n<=sizeLine) (ab:d.params.defaults=[]) (O:dC k callerA)
  (R:∀(w:World) (h:Heap),J w h->(K w.params).In h)
  (F:∀(w:World) (mg:Str->Option Value) (I:Addr) (h:Heap),(K w.params).In h->h.Ns mainGlobals mg->mg d.name=some (.ref I) ->
   ∃fd:FuncData,(∀(s:Shared) (u:Value),BindsTo s fd ⟨[u],[]⟩ [(x,u)]) /\
    ∀base:Heap,(K w.params).In base->base.Ns mainGlobals mg->bj l.prog w (K w.params) mg base (CX w) k I fd [x] (sp w))
  (as:∀(w:World) (H:Hp) (a:Addr) (ns:List Int),ns.length<=n->Ds H->bE (K w.params) H a (ns.map V.int)->sp w [.ref a] H (λv _=>v=.bl true) λ_ _ _=>False)
  (ad:∀(w:World) (H:Hp) (s:Shared) (e:Value) (s':Shared),CX w [] H s (λ_ _ _=>False) e s'->False) :
  PySem.W.WalkO q loose XP J l.row.toRowW d [] (λf vs=>PySem.call f vs):=by
 refine Att.sg hn ab λw s₀ am mg mb I o pm cd a0 a vs ns G Y ho hd aT aB ap U N hg=>?_;have L:=R w _ Y;obtain⟨fd,hb,hF⟩:=F w mg I _ L G.T.g aB;exact yY L G.T.g G.T.b G.T.builtins G.T.nolimit hg ap U (le_trans N ac) O hF hb (λH hO S=>as w H a ns N hO S) λH e s'=>ad w H am e s'
noncomputable def inClass (s:Stmt) (j:Nat):Stmt:=match s with
 |.ClassDef _ _ _ body _ _ _ _ _ _ _=>body.getD j (.Pass ⟨0,0,0,0⟩)
 |_=>.Pass ⟨0,0,0,0⟩
noncomputable def fh (s:Stmt):Arguments:=match s with
 |.FunctionDef _ a _ _ _ _ _ _ _ _=>a
 |_=>{ posonlyargs:=[],args:=[],vararg:=none,kwonlyargs:=[],kw_defaults:=[],kwarg:=none,defaults:=[] }
noncomputable def eL (s:Stmt):List Stmt:=match s with
 |.FunctionDef _ _ b _ _ _ _ _ _ _=>b
 |_=>[]
noncomputable def ar (s:Stmt):Scope:=match s with
 |.FunctionDef _ _ _ _ _ _ F _ _ _=>F
 |_=>{ kind:=.function,names:=[],isGenerator:=false,isCoroutine:=false }
noncomputable abbrev aW:vI:=λ_ _ _ _ _ _=>False
noncomputable abbrev E0:XK:=λ_ _ _=>False
theorem aw {X:Cx}:Passes aW X E0:=λ_ _ _ _ _ _ _ h=>h.elim
structure cQ (K:PySem.W.Frag) (x qual:Str) (st:Stmt) (f:Addr) (fd:FuncData):Prop where
 ex:∃(oc:Value) (od:Option Addr) (kV doc pm:Value) (an:Option Addr) (cdv ct:Value) (osl:Array (Option Value)),
  fd=fnOf x qual (fh st) (eL st) (ar st) .none kV doc pm an cdv ct/\K.lookup f=some ⟨oc,od,.func fd,osl⟩/\codeIn K cdv qual=true
 kp:keepIn K (.ref f)=true
section
variable {P:Program}{w:World}{K:PySem.W.Frag}{mg:Str->Option Value}{base:Heap}
theorem cQ.ok {x I:Str}{st:Stmt}{f:Addr}{fd:FuncData}{N ps:List Str}{k:Nat}{sp:Sp}(F:cQ K x I st f fd) (S:aA N ps (ar st)) (len:∀vs H Q E,sp vs H Q E->vs.length=ps.length)
  (U:∀(G:Value) (A:Around) (outer:List Env) (s:Shared) (H:Hp) (vs:List V) (Q:VK) (E:XK),dC k (A.deeper (envOfC I (ar st) s.heap.objs.size f G))->sp vs H Q E ->
   ∃t,vm (wN aW P w K mg base N I (ar st) f G A outer s H E).Dn (eL st) t/\t { nx:=λ_ H'=>Q .non H',rt:=Q } (start N vs) H):bj P w K mg base aW (k+1) f fd ps sp:=by
 obtain⟨oc,od,kV,Y,pm,an,G,ct,ab,rfl,R,L⟩:=F.ex;refine Fe R L S len λA outer s H vs Q E J O=>?_;obtain⟨t,h,q⟩:=U G A outer s H vs Q E J O;exact⟨t,h.Dn,q⟩
theorem cQ.binds {x J:Str}{st:Stmt}{f:Addr}{fd:FuncData}{ps:List Str}(F:cQ K x J st f fd)
  (h:∀(kV I pm:Value) (an:Option Addr) (G ct:Value) (us:List Value),us.length=ps.length->bindArgs (fnOf x J (fh st) (eL st) (ar st) .none kV I pm an G ct) ⟨us,[]⟩=pure (ps.zip us)):Binds K fd ps []:=by
 obtain⟨oc,od,kV,I,pm,an,G,ct,N,rfl,O,L⟩:=F.ex;exact .all (h kV I pm an G ct)
theorem pP {x G:Str}{st:Stmt}{f:Addr}{oc:Value}{od an:Option Addr}{J:Array (Option Value)}{kV I pm F ct:Value}(l:K.lookup f=some ⟨oc,od,.func (fnOf x G (fh st) (eL st) (ar st) .none kV I pm an F ct),J⟩)
  (c:codeIn K F G=true) (k:keepIn K (.ref f)=true):cQ K x G st f (fnOf x G (fh st) (eL st) (ar st) .none kV I pm an F ct):=⟨⟨oc,od,kV,I,pm,an,F,ct,J,rfl,l,c⟩,k⟩
end
theorem bg {A:Around}{k:Nat}(F:dC k A):A.units+1<cLine:=Nat.lt_of_le_of_lt (Nat.add_le_add_left (by decide:1<=64) _) F.units
section
variable {X:Cx}
theorem pv (i:Nat) {x:Str}{pos:Pos}(I:X.N[i]?=some x:=by rfl) (G:FI X.env.scope x:=by first|exact Or.inl rfl|exact Or.inr (Or.inl rfl)|exact Or.inr (Or.inr rfl)) (hd:(x==("__debug__" : Str))=false:=by decide)
  (F:(x==("__classdict__" : Str))=false:=by decide):PE X (.Name x pos) (AM i):=CK I G hd F
end
theorem bu {A B:Prop}(h:B):if false=true then A else B:=by
 rw[if_neg Bool.false_ne_true];exact h
theorem dU {A B:Prop}(h:A):if true=true then A else B:=by
 rw[if_pos rfl];exact h
theorem iD {c A B:Prop} [Decidable c] (h1:c->A) (h2:¬ c->B):if c then A else B:=by
 by_cases h:c
 .rw[if_pos h];exact h1 h
 .rw[if_neg h];exact h2 h
noncomputable def bf (H H':Hp):Prop:=∀b o,H b=some o->H' b=some o
theorem bf.refl (H:Hp):bf H H:=λ_ _ h=>h
theorem bf.trans {H H1 H2:Hp}(a:bf H H1) (b:bf H1 H2):bf H H2:=λc o h=>b c o (a c o h)
theorem bf.free {H H':Hp}(e:bf H H') {l:Addr}(h:H' l=Option.none):H l=Option.none:=by
 cases q:H l with
 |none=>rfl
 |some o =>
  rw[e l o q]at h;cases h
noncomputable def pM (X:Cx) (F:List Str) (scope:Scope) (cl:List (Str×Addr)) (C:Addr) (s₀:Shared) (H₀:Hp) (ex:List Addr):Cx where
 prog:=X.prog
 w:=X.w
 K:=X.K
 mg:=X.mg
 base:=X.base
 A:=X.A
 N:=F
 s₀:=s₀
 H₀:=H₀
 env:=compEnvC scope cl C X.env
 outer:=X.stack
 stack:=X.stack
 ex:=ex
 fn:=λ_=>false
 calm:=X.calm
 pn:=[]
 xe:=λ_ _=>False
noncomputable def fK (t:Str) (caps:List (Str×Nat)):List Str:=t::caps.map (·.1)
noncomputable def gz (caps:List (Str×Nat)) (σ:St) (v:Option V):St:=v::caps.map λp=>(σ[p.2]?).join
structure jI (X:Cx) (scope:Scope) (cl:List (Str×Addr)) (t:Str) (caps:List (Str×Nat)):Prop where
 kind:scope.kind=.function
 B6:∀y∈scope.names,y.2≠.cell
 names:∀y∈scope.names,y.2=.local->scope.names.lookup y.1=some .local
 Hq:scope.names.lookup t=some .local
 DS:closureFor scope X.env=pure cl
 sub:∀p∈cl,X.env.cells.lookup p.1=some p.2
 has:((relabel scope X.env).names.all λy => !(y.2 == .cell||y.2 == .free)||(cl.lookup y.1).isSome)=true
 HH:∀p∈caps,X.N[p.2]?=some p.1/\(X.env.kindOf p.1=some .cell\/X.env.kindOf p.1=some .free)/\((relabel scope X.env).names.lookup p.1=some .cell\/(relabel scope X.env).names.lookup p.1=some .free)
 nd:(fK t caps).Nodup
section
variable {X:Cx}{scope:Scope}{cl:List (Str×Addr)}{t:Str}{caps:List (Str×Nat)}{pins:List (Addr×Obj)}{σ:St}{H:Hp}{s:Shared}{C:Addr}{fp:List Addr}
theorem jI.look (K:jI X scope cl t caps) {x:Str}{c:Addr}(h:cl.lookup x=some c):X.env.cells.lookup x=some c:=K.sub (x,c) (PySem.mem_of_lookup h)
theorem jI.hs (K:jI X scope cl t caps) {x:Str}(h:(relabel scope X.env).names.lookup x=some .cell\/(relabel scope X.env).names.lookup x=some .free):∃c,cl.lookup x=some c:=by
 have F:∀k,(relabel scope X.env).names.lookup x=some k->(k==NameKind.cell||k==NameKind.free)=true->∃c,cl.lookup x=some c:=λk e G=>by
  have:=List.all_eq_true.mp K.has (x,k) (PySem.mem_of_lookup e);dsimp only at this;rw[G]at this;exact Option.isSome_iff_exists.mp (by simpa using this)
 rcases h with h|h
 .exact F _ h rfl
 .exact F _ h rfl
theorem Hl (I:Inv X pins σ H s) (K:jI X scope cl t caps) (G:∀b∈fp,fQ X pins H b) (N:∀b∈fp,b<s.heap.objs.size) (J:s.heap.objs.size<=C):(pM X (fK t caps) scope cl C s H fp).Ok where
 mod:=I.ok.mod
 kind:=K.kind
 glob:=I.ok.glob
 blt:=I.ok.blt
 above:=J
 inj:=λx y c h1 h2=>I.ok.inj x y c (K.look h1) (K.look h2)
 has:=λx O=>K.hs O
 DJ:=λx c h=>nomatch (show false=true from h)
 hd:=I.ok.hd
 frames:=I.ok.frames
 Ei:=.inl rfl
 Gp:=λb F=>⟨ne_of_lt (lt_of_lt_of_le (N b F) J),λx c e=>(G b F).2.2.2.2.1 x c (K.look e)⟩
 bs:=I.bs
 zV:=le_trans I.ok.zV I.sz
 wk:=λb o e F=>by
  rcases(G b F).2.2.2.1 with z|z
  .exact I.ok.wk b o e z
  .exact absurd (lt_of_lt_of_le (Heap.lt_size e) (le_trans I.ok.zV z)) (lt_irrefl _)
 xr:=λb F L=>by
  rcases List.mem_cons.mp (I.qq b L)with e|e
  .exact(G b F).2.1 e
  .exact(G b F).2.2.1 e
 jK:=I.stack
 Bv:=I.vM
theorem Gy {L:Heap}{m:Str->Option Value}{tk:Nat}(I:Inv X pins σ H s) (K:jI X scope cl t caps) (hf:∀b∈fp,fQ X pins H b) (ho:∀b∈fp,b<s.heap.objs.size) (Y:s.heap.objs.size<=C)
  (O:∀b o,s.heap.get? b=some o->L.get? b=some o) (ns:L.Ns C m):Inv (pM X (fK t caps) scope cl C s H fp) [] (gz caps σ none) H { s with heap:=L,toks:=tk }:=by
 have ac:∀c v,s.heap.IsCell c v->L.IsCell c v:=λc v ad=>(by obtain⟨o,e,d⟩:=ad;exact⟨o,O c o e,d⟩);refine⟨Hl I K hf ho Y,rfl,I.bare,Un.kept O,⟨m,ns,λi x v e1 R e3=>?_⟩,λx c e=>?_,I.bJ.fresh Y,λx c e=>I.gy x c (K.look e),λp F=>absurd (show p∈([]:List (Addr×Obj))from F) (by simp),I.bJ.kept O,by simp[gz,fK,pM]⟩
 .cases i with
  |zero =>
   have J:some (none:Option V)=some (some v):=R;cases J
  |succ j =>
   have G:(caps.map (·.1))[j]?=some x:=e1;have J:(caps.map λp=>(σ[p.2]?).join)[j]?=some (some v):=R;rw[getElem?_map]at G J;cases F:caps[j]? with
   |none=>rw[F]at G;cases G
   |some p =>
    rw[F]at G J;have ex:p.1=x:=Option.some.inj G;have N:(σ[p.2]?).join=some v:=Option.some.inj J;have ap:σ[p.2]?=some (some v):=by
     cases q:σ[p.2]? with
     |none=>rw[q]at N;cases N
     |some z=>rw[q]at N;exact congrArg some N
    obtain⟨hN,hk,ab⟩:=K.HH p (mem_of_getElem? F);subst ex;obtain⟨m',_,hl⟩:=I.loc;have am:FI X.env.scope p.1:=by
     rcases hk with z|z
     .exact .inr (.inl z)
     .exact .inr (.inr z)
    obtain⟨u,r,l⟩:=hl p.2 p.1 v hN ap am;obtain⟨c,S⟩:=K.hs ab;rcases l with⟨z,_⟩|⟨_,c',U,as⟩
    .rcases hk with y|y<;>(rw[y]at z;cases z)
    .rw[K.look S]at U;cases U;exact⟨u,r,.inr ⟨ab,c,S,ac c _ as⟩⟩
 .obtain⟨v,z⟩:=I.cell x c (K.look e);exact⟨v,ac c v z⟩
theorem Inv.Fg {D:Addr}{ys:List V}{its:List Value}{n:Nat}(I:Inv X pins σ H s) (f:fQ X pins H D) (e:s.heap.get? D=some { cls:=.type "list",data:=.seq its.toArray n }) (r:Vals ys its) (L:ys.length<=sizeLine) :
  Inv X pins σ (upd H D (.lst ys)) s:=by
 obtain⟨G,O,Y,S,N,U⟩:=f;obtain⟨J,g,d,tk,os⟩:=s;refine I.step (g':=g) (d':=d) (t':=tk) (h':=J) (ch:=[D]) (λb F=>?_) (λb o _ _ _ e _=>e) (λb o _ _ _ e _=>⟨o.slots,e⟩) (λb o F _ n=>?_) (λb o _ e=>⟨o,e⟩) (λb xs q=>?_) (λb o u q=>?_) (λb ps q=>⟨#[],?_⟩) (λm R=>R) (λb u q=>?_) I.bare
 .have z:b=D:=(by simpa using F);subst z;exact⟨S,O,N,U⟩
 .rw[ah (λz=>F (by simp[z]))];exact n
 .rw[ah (aq q G)];exact q
 .rw[ah (aq q G)];exact q
 .rw[ah (aq q G),q];simp
 .by_cases F:b=D
  .subst F;rw[ae]at q;cases q;exact⟨L,its,n,r,e⟩
  .rw[ah F]at q;exact(I.bJ b u q).p9 (λ_ _ _ z=>z) (λc z=>by rw[ah (aq z G)];exact z) λc xs z=>by rw[ah (aq z G)];exact z
end
noncomputable def Fy (X:Cx) (ifs:List Expr) (t:TT):Prop :=
 ∀(pins:List (Addr×Obj)) (s:Shared) (σ:St) (H:Hp) (Q:Bool->Hp->Prop),Inv X pins σ H s->t σ H Q ->
  wpAny (model X.prog X.w) X.A (forIn ifs true λc r=>if r=true then do let ok <-isTrue c X.env (eval c X.env);pure (ForInStep.yield ok)else pure (ForInStep.yield r)) (TP X pins σ Q) X.xe s
noncomputable def oH:TT:=λ_ H Q=>Q true H
theorem gk {X:Cx}:Fy X [] oH:=λ_ _ _ H _ I h=>wpAny_tests_nil ⟨H,I,h⟩
noncomputable def jH (caps:List (Str×Nat)) (tt:TT) (te:TE) (σ:St) (J:It) (Q:List V->Hp->Prop) (W:Nat->Nat->List V->Hp->Prop):Prop :=
 ∀i m ys H,W i m ys H->(J.stop i H/\Q ys H)\/(J.go i H/\∃N:List V->Hp->Prop,(∀G H',N G H'->∃F,F<m/\W (i+1) F G H')/\∀x H',J.Ak i H x H'->tt (gz caps σ (some x)) H' λb H2 =>
  if b=true then te (gz caps σ (some x)) H2 (λy I=>ys.length<sizeLine/\N (ys++[y]) I)else N ys H2)
noncomputable def Bt (caps:List (Str×Nat)) (wi:TI) (tt:TT) (te:TE):TE:=λσ H Q=>wi σ H λJ H1 =>
 ∃W:Nat->Nat->List V->Hp->Prop,(∃m,W 0 m [] H1)/\jH caps tt te σ J (λys H2=>∀p,H2 p=none->Q (.ref p) (upd H2 p (.lst ys))) W
section
variable {X:Cx}{scope:Scope}{cl:List (Str×Addr)}{t:Str}{caps:List (Str×Nat)}{elt iter:Expr}{ifs:List Expr}{px pos:Pos}{wi:TI}{tt:TT}{te:TE}
theorem lE {pins:List (Addr×Obj)}{σ:St}{H:Hp}{s:Shared}{J:It}{fp:List Addr}{it:Addr}{tn:Nat->Heap->Prop}{W:Nat->Nat->List V->Hp->Prop}{QE:List V->Hp->Prop}{E:Value->Shared->Prop}{RR:Value->Addr->Result->Shared->Prop}{m0:Nat}
  (K:jI X scope cl t caps) (hc:X.calm=true)
  (ht:∀C s₀ H₀ ex,Fy (pM X (fK t caps) scope cl C s₀ H₀ ex) ifs tt) (he:∀C s₀ H₀ ex,PE (pM X (fK t caps) scope cl C s₀ H₀ ex) elt te)
  (I:Inv X pins σ H s) (T:Turn X.prog X.w X.K (.Name t px) J fp it tn) (st:tn 0 s.heap) (U:∀b∈fp,fQ X pins H b) (w0:W 0 m0 [] H) (hW:jH caps tt te σ J QE W)
  (bx:∀D C ys H' s' m,H' D=none->Inv X pins σ (upd H' D (.lst ys)) s'->s'.heap.Ns C m->fQ X pins (upd H' D (.lst ys)) C->QE ys H'->RR (.ref D) C (.ok .next) s') :
  wpAny (model X.prog X.w) X.A (newList []) (λbl ac=>wpAny (model X.prog X.w) X.A (newFunctionEnv scope X.env.globals cl [] X.env.qual none .none (some X.env)) (λbm b7 =>
   codeAny (model X.prog X.w) X.A (.compStart (.ListComp elt [⟨.Name t px,iter,ifs,0⟩] scope pos) 0 (.ref it) bl { bm with scope:=relabel scope X.env }) (RR bl bm.locals) b7) E ac) E s:=by
 refine wpAny_newObj_type (wpAny_newFunctionEnv K.B6 (by intro y hy;simp at hy) (λad aB am=>?_) K.kind);dsimp only at aB am ⊢;generalize aT:s.heap.push { cls:=.type "list",dict:=none,data:=.seq ([]:List Value).toArray }=H2 at aB am ⊢;have hC:H2.objs.size=s.heap.objs.size+1:=(by rw[<-aT,Heap.size_push]);have ap:s.heap.objs.size≠H2.objs.size:=(by rw[hC];exact ne_of_lt (Nat.lt_succ_self _));have a5:s.heap.objs.size<=H2.objs.size:=(by rw[hC];exact le_succ _);have below:∀b,b<s.heap.objs.size->b≠H2.objs.size:=λb G=>(by rw[hC];exact ne_of_lt (lt_succ_of_lt G));have bn:∀b o,s.heap.get? b=some o->ad.get? b=some o:=λb o e=>am.extBut b o (below b (Heap.lt_size e)) (Heap.get?_push_of_some _ (aT▸Heap.get?_push_of_some _ e));have b2:ad.get? s.heap.objs.size=some { cls:=.type "list",data:=.seq ([]:List Value).toArray }:=am.extBut _ _ ap (Heap.get?_push_of_some _ (aT▸Heap.get?_push_size _ rfl));have ho:∀b∈fp,b<s.heap.objs.size:=λb G=>let ⟨_,e,_⟩:=T.obj 0 _ st b G;Heap.lt_size e;have bv:s.heap.objs.size∉fp:=λhm=>lt_irrefl _ (ho _ hm);have bd:tn 0 ad:=T.keep 0 _ _ st λb _ o e=>bn b o e;have bz:s.heap.objs.size∉xu X.stack:=λz=>by
  rcases List.mem_cons.mp (I.qq _ z)with e|e
  .exact absurd (e▸I.lt) (lt_irrefl _)
  .exact I.Es (le_refl _) e
 have bY:∀x c,cl.lookup x=some c->c≠s.heap.objs.size:=λx c e z=>by
  obtain⟨v,q⟩:=I.cell x c (K.look e);exact absurd (z▸q.lt) (lt_irrefl _)
 have as:∀{pl:List (Addr×Obj)}{L:Hp},(∀b∈fp,L b=none)->(∀p∈pl,p.1∉fp)->∀b∈fp,fQ (pM X (fK t caps) scope cl H2.objs.size s H fp) pl L b:=λ{pl L} hn S b G =>
  ⟨hn b G,below b (ho b G),(Hl I K U ho a5).xr b G,.inl G,λx c e=>(U b G).2.2.2.2.1 x c (K.look e),λp ca z=>by
   have b0:p∈pl:=ca;exact S p b0 (z▸G)⟩
 have bi:∀ac:Shared,ac={ s with heap:=ad,toks:=s.toks+([]:List (Str×Value)).length } ->
   codeAny (model X.prog X.w) X.A (.compLoop (.ListComp elt [⟨.Name t px,iter,ifs,0⟩] scope pos) 0 (.ref it) (.ref s.heap.objs.size) (compEnvC scope cl H2.objs.size X.env)) (RR (.ref s.heap.objs.size) H2.objs.size) ac:=by
  rintro ac rfl;refine codeAny_loop rfl (λn s'=>∃i ys its O L v0,Inv (pM X (fK t caps) scope cl H2.objs.size s H fp) [] (gz caps σ v0) L s'/\tn i s'.heap/\(∀b∈fp,L b=none)/\L s.heap.objs.size=none /\
   s'.heap.get? s.heap.objs.size=some { cls:=.type "list",data:=.seq its.toArray O }/\Vals ys its/\ys.length<=sizeLine/\W i n ys L) (λn s' hI=>?_) m0
   ⟨0,[],[],0,H,none,Gy I K U ho a5 bn aB,bd,λb G=>(U b G).1,I.bJ.fresh (le_refl _),b2,.nil,zero_le _,w0⟩
  obtain⟨i,ys,its,O,L,v0,I3,ba,bc,a7,e3,r3,z3,w3⟩:=hI;show wpAny _ X.A ((compTurn (.ListComp elt [⟨.Name t px,iter,ifs,0⟩] scope pos) 0 (.ref it) (.ref s.heap.objs.size) (compEnvC scope cl H2.objs.size X.env)).onRaise (λx=>do noteFrame x (compEnvC scope cl H2.objs.size X.env);theTreesLotGoes x)) _ _ s';refine wpAny_noted ?_;rw[compTurn_list];have bb:Inv (pM X (fK t caps) scope cl H2.objs.size s H fp) [(s.heap.objs.size, { cls:=.type "list",data:=.seq its.toArray O })] (gz caps σ v0) L s':=I3.kF λp S=>by
   have ep:p=(s.heap.objs.size, { cls:=.type "list",data:=.seq its.toArray O }):=(by simpa using S);subst ep;exact⟨e3,a7,ap,bz,λv z=>by cases(show Data.seq its.toArray O=Data.cell v from z)⟩
  have pD:∀p∈[((s.heap.objs.size:Addr),({ cls:=.type "list",data:=.seq its.toArray O }:Obj))],p.1∉fp:=λp S=>by
   have ep:p=(s.heap.objs.size, { cls:=.type "list",data:=.seq its.toArray O }):=(by simpa using S);subst ep;exact bv
  rcases hW i n ys L w3 with⟨b6,q⟩|⟨go,N,hN,step⟩
  .refine wpAny_bind (wpAny_standAt (wpAny_bind (bU (T.done (pM X (fK t caps) scope cl H2.objs.size s H fp) rfl rfl rfl hc i _ s' _ L _ bb (as bc pD) ba b6) λr s4 b4=>?_)));obtain⟨hr,Y⟩:=b4;subst hr;refine wpAny_pure ?_;have I5:Inv X pins σ L s4:=I.Ep (ch:=fp) Y.os Y.base Y.bJ Y.bare λb G=>⟨(U b G).2.2.2.1,(U b G).2.1,(U b G).2.2.2.2.1,(U b G).2.2.2.2.2⟩;have e4:=(Y.pin _ (mem_append_right _ mem_cons_self)).1;have fD:fQ X pins L s.heap.objs.size:=I.js (le_refl _) a7;have I6:=I5.Fg fD e4 r3 z3;obtain⟨m,hn,_⟩:=Y.loc;refine bx _ _ ys L s4 m a7 I6 hn (I.js a5 ?_) q;rw[ah (Ne.symm ap)];exact Y.free
  .refine wpAny_bind (wpAny_standAt (wpAny_bind (bU (T.item (pM X (fK t caps) scope cl H2.objs.size s H fp) rfl rfl rfl hc i _ s' _ L _ bb (as bc pD) ba go) λr s4 b1=>?_)));obtain⟨u,hr,h4⟩:=b1;subst hr;refine wpAny_bind (bU h4 λ_ s5 bI=>?_);obtain⟨x,H5,I5,r5,y5,a0,b3⟩:=bI;have ce:=(I5.pin _ (mem_append_right _ mem_cons_self)).2.1;have b8:=I5.pinned (as b3 pD) (T.obj _ _ a0);have Dn:∀{α:Type}{tr:Sem α}{Q:α->Shared->Prop}{E':Value->Shared->Prop}{R:Shared},wpAny (model X.prog X.w) X.A tr Q (λ_ _=>False) R->wpAny (model X.prog X.w) X.A tr Q E' R:=λh=>wpAny_mono h (λ_ _ z=>z) λ_ _ z=>z.elim;refine wpAny_bind (wpAny_assign_Name (gC (X:=pM X (fK t caps) scope cl H2.objs.size s H fp) (i:=0) (x:=t) b8 K.nd rfl (.inl (lookup_relabel_local K.Hq)) r5 (λs6 I6=>?_) (.inr (lookup_relabel_local K.Hq))));have e0:(gz caps σ v0).set 0 (some x)=gz caps σ (some x):=rfl;rw[e0]at I6;refine wpAny_bind (Dn (bU (ht _ _ _ _ _ s6 _ H5 _ I6 (step x H5 y5)) λok s7 b9=>?_));obtain⟨H7,I7,q7⟩:=b9;have be:∀{ab:St}{H':Hp}{R:Shared},Inv (pM X (fK t caps) scope cl H2.objs.size s H fp) ([(s.heap.objs.size, { cls:=.type "list",data:=.seq its.toArray O })]++mF fp s5.heap) ab H' R ->
     R.heap.get? s.heap.objs.size=some { cls:=.type "list",data:=.seq its.toArray O }/\H' s.heap.objs.size=none/\tn (i+1) R.heap/\(∀b∈fp,H' b=none):=λ{ab H' R} Ix=>by
    have a:=Ix.pin _ (mem_append_right _ (mem_append_left _ mem_cons_self));refine⟨a.1,a.2.1,T.keep _ _ _ a0 λb G o e=>(Ix.pin (b,o) (mem_append_right _ (mem_append_right _ (fY G e)))).1,λb G=>?_⟩;obtain⟨o,e,d⟩:=T.obj _ _ a0 b G;exact(Ix.pin (b,o) (mem_append_right _ (mem_append_right _ (fY G e)))).2.1
   have bare:∀{pl:List (Addr×Obj)}{ab:St}{H':Hp}{R:Shared},Inv (pM X (fK t caps) scope cl H2.objs.size s H fp) pl ab H' R->Inv (pM X (fK t caps) scope cl H2.objs.size s H fp) [] ab H' R:=λIx=>Ix.kF λp S=>absurd S (by simp);cases ok with
   |false =>
    rw[if_neg Bool.false_ne_true]at q7;obtain⟨m',hm,w7⟩:=hN _ _ q7;obtain⟨a1,a2,a3,a4⟩:=be I7;exact wpAny_pure ⟨rfl,m',hm,i+1,ys,its,O,H7,some x,bare I7,a3,a4,a2,a1,r3,z3,w7⟩
   |true =>
    rw[if_pos rfl]at q7;refine wpAny_bind (wpAny_bind (Dn (bU (he _ _ _ _ _ s7 _ H7 _ I7 q7) λy s8 b5=>?_)));obtain⟨yv,H8,I8,r8,cc,n8⟩:=b5;obtain⟨m',hm,w8⟩:=hN _ _ n8;obtain⟨a1,a2,a3,a4⟩:=be I8;have ci:=r3.length;refine wpAny_bind (call_meets F.slot_list_append ⟨_,a1,rfl⟩ F.entry_list_append (F.args_list_append_2 _ _) (list_append s.heap.objs.size its.toArray O y (by rw[size_toArray];omega)) ⟨a1,?_⟩);obtain⟨a6,q⟩:∃a6:Nat,(s8.heap.update s.heap.objs.size (Obj.mapSeq (·.push y))).get? s.heap.objs.size=some { cls:=.type "list",data:=.seq (its++[y]).toArray a6 }:=by
     have q:=PySem.IsL.update a1 (·.push y);have ea:its.toArray.push y=(its++[y]).toArray:=(by simp);rw[ea]at q;exact⟨_,q⟩
    have I9:Inv (pM X (fK t caps) scope cl H2.objs.size s H fp) [] (gz caps σ (some x)) H8 { s8 with heap:=s8.heap.update s.heap.objs.size (Obj.mapSeq (·.push y)) }:=
     (bare I8).turned (t':=s8.toks) (λb o G e=>(Heap.get?_update_other _ _ (Ne.symm G)).trans e) a2 ap (.inr (le_refl _)) bY (λp S=>absurd (show p∈([]:List (Addr×Obj))from S) (by simp))
    refine wpAny_pure (wpAny_pure ⟨rfl,m',hm,i+1,ys++[yv],its++[y],a6,H8,some x,I9,T.keep _ _ _ a3 λb G o e=>(Heap.get?_update_other _ _ (show s.heap.objs.size≠b from λz=>bv (by rw[z];exact G))).trans e,a4,a2,q,r3.append (.cons r8 .nil),?_,w8⟩)
    .rw[length_append,length_singleton];omega
 exact codeAny_compStart_list (bi _ rfl) (T.self _ 0 _ _ _ bd (bi _ rfl))
theorem gZ (K:jI X scope cl t caps) (L:X.calm=true) (hi:PI X (.Name t px) iter wi)
  (ht:∀C s₀ H₀ ex,Fy (pM X (fK t caps) scope cl C s₀ H₀ ex) ifs tt) (N:∀C s₀ H₀ ex,PE (pM X (fK t caps) scope cl C s₀ H₀ ex) elt te)
  (hs:∀x,foldedSetIterable iter X.env x=pure x:=by intro _;rfl):PE X (.ListComp elt [⟨.Name t px,iter,ifs,0⟩] scope pos) (Bt caps wi tt te):=by
 intro pins s σ H Q I h;rw[eval_ListComp];refine wpAny_comprehension_free (use:=none) rfl hs K.DS K.kind K.names (bU (hi pins s σ H _ I h) λv s1 h1=>bU h1 λac s2 h2=>?_);obtain⟨it,fp,tn,J,H2,e,Y,T,ab,O,W,⟨m0,S⟩,hW⟩:=h2;subst e;refine lE (RR:=λF C=>compPost (model X.prog X.w) X.A X.xe none (EP X pins σ Q) F C) K L ht N Y T ab O S hW ?_;intro D C ys H' s' m hD I' hn hC q;refine⟨m,hn,λh' R=>?_⟩;obtain⟨c0,c1,c2,c3,U,G⟩:=hC;exact⟨.ref D,_,I'.turned (t':=s'.toks) (λb o hb e=>(R.2 b hb).trans e) c0 c1 c3 U G,rfl,q D hD⟩
theorem Ay {i:Nat}{y:Str}{F L:Pos}(hN:X.N.Nodup) (aB:X.N[i]?=some y) (hy:Loc X.env.scope y) (K:jI X scope cl t caps) (hc:X.calm=true) (hi:PI X (.Name t px) iter wi)
  (ht:∀C s₀ H₀ ex,Fy (pM X (fK t caps) scope cl C s₀ H₀ ex) ifs tt) (he:∀C s₀ H₀ ex,PE (pM X (fK t caps) scope cl C s₀ H₀ ex) elt te)
  (as:swapsWith (.ListComp elt [⟨.Name t px,iter,ifs,0⟩] scope pos) (some (.Name y F)) L.line X.env=pure true:=by rfl)
  (hs:∀x,foldedSetIterable iter X.env x=pure x:=by intro _;rfl) (hf:X.fn y=true\/X.env.scope.names.lookup y=some .local:=by first|exact .inl rfl|exact .inr rfl|assumption) :
  PS X (.Assign [.Name y F] (.ListComp elt [⟨.Name t px,iter,ifs,0⟩] scope pos) L) (Ba (Bt caps wi tt te) (rR i)):=by
 intro pins s σ H D I h;rw[exec_Assign_Name_used _ _ _ _ as];refine wpAny_bind (wpAny_standAt (wpAny_bind ?_));show wpAny _ X.A (do let _ <-comprehension (.ListComp elt [⟨.Name t px,iter,ifs,0⟩] scope pos) scope X.env _ (newList []) false (eval iter X.env) (some (assign (.Name y F) X.env))) _ _ s;refine wpAny_bind (bU (wpAny_comprehension_free (use:=some (assign (.Name y F) X.env)) (Q:=λ_ s'=>SP X pins D .next s') rfl hs K.DS K.kind K.names
  (bU (hi pins s σ H _ I h) λv s1 h1=>bU h1 λaT s2 h2=>?_)) λ_ s' hq=>wpAny_pure (wpAny_pure hq))
 obtain⟨it,fp,tn,J,H2,e,I2,T,ac,Y,W,⟨m0,w0⟩,hW⟩:=h2;subst e;refine lE (RR:=λS C=>compPost (model X.prog X.w) X.A X.xe (some (assign (.Name y F) X.env)) (λ_ s'=>SP X pins D .next s') S C) K hc ht he I2 T ac Y w0 hW ?_;intro G C ys H' s' m hD I' hn hC q;obtain⟨c0,R,c2,c3,O,c5⟩:=hC;show wpAny _ X.A (assign (.Name y F) X.env (.ref G)) _ _ s';refine wpAny_assign_Name (nc (v:=.ref G) I' hN aB hy rfl (λU I3 ap=>?_) hf);obtain⟨a,ab,ha⟩:=ap;have ad:C≠a:=by
  rcases ha with z|z
  .rw[z];exact R
  .exact λw=>O y a z w.symm
 refine⟨m,hn.sameBut ab ad,λh' am=>?_⟩;exact⟨_,_,I3.turned (t':=U.toks) (λb o hb e=>(am.2 b hb).trans e) c0 R c3 O c5,q G hD⟩
end
theorem tS {caps:List (Str×Nat)}{tt:TT}{te:TE}{σ:St}{H:Hp}{lo:Int}{n:Nat}{G:List V->Hp->Prop}(Pv:Nat->List V->Hp->Prop) (I:Pv 0 [] H)
  (hs:∀i ys H,i<n->Pv i ys H->tt (gz caps σ (some (.int (lo+i)))) H λb H2=>if b=true then te (gz caps σ (some (.int (lo+i)))) H2 (λy J=>ys.length<sizeLine/\Pv (i+1) (ys++[y]) J)else Pv (i+1) ys H2)
  (hd:∀ys H,Pv n ys H->G ys H):∃W:Nat->Nat->List V->Hp->Prop,(∃m,W 0 m [] H)/\jH caps tt te σ (Bm lo n) G W:=by
 refine⟨λi m ys H=>m=n-i/\i<=n/\Pv i ys H,⟨n,by simp,zero_le _,I⟩,?_⟩;rintro i m ys H ⟨rfl,hi,p⟩;by_cases F:i<n
 .refine .inr ⟨F,Pv (i+1),λN H' L=>⟨n-(i+1),af,rfl,F,L⟩,λx H' y=>?_⟩;obtain⟨e,y⟩:=y;subst e y;exact hs i ys _ F p
 .have e:i=n:=af;subst e;exact .inl ⟨le_refl _,hd ys H p⟩
theorem zM {K:PySem.W.Frag}{a:Addr}{xs:List V}{caps:List (Str×Nat)}{tt:TT}{te:TE}{σ:St}{H:Hp}{G:List V->Hp->Prop}(Pv:Nat->List V->Hp->Prop) (I:Pv 0 [] H) (N:∀i ys H,i<=xs.length->Pv i ys H->bV K H a xs)
  (hs:∀i x ys H,xs[i]?=some x->Pv i ys H->tt (gz caps σ (some x)) H λb H2=>if b=true then te (gz caps σ (some x)) H2 (λy J=>ys.length<sizeLine/\Pv (i+1) (ys++[y]) J)else Pv (i+1) ys H2)
  (hd:∀ys H,Pv xs.length ys H->G ys H):∃W:Nat->Nat->List V->Hp->Prop,(∃m,W 0 m [] H)/\jH caps tt te σ (Ft K a) G W:=by
 refine⟨λi m ys H=>m=xs.length-i/\i<=xs.length/\Pv i ys H,⟨xs.length,by simp,zero_le _,I⟩,?_⟩;rintro i m ys H ⟨rfl,hi,p⟩;have q:=N i ys H hi p;by_cases F:i<xs.length
 .refine .inr ⟨⟨xs,xs[i],q,by simp[F]⟩,Pv (i+1),λO H' L=>⟨xs.length-(i+1),af,rfl,F,L⟩,λx H' y=>?_⟩;obtain⟨e,y⟩:=y;subst e;exact hs i x ys _ (y xs q) p
 .have e:i=xs.length:=af;subst e;exact .inl ⟨⟨xs,q,le_refl _⟩,hd ys H p⟩
theorem fb {caps:List (Str×Nat)}{te:TE}{σ:St}{H:Hp}{lo:Int}{n:Nat}{F:List V->Hp->Prop}(Pv:Nat->List V->Hp->Prop) (G:Pv 0 [] H)
  (hs:∀i ys H,i<n->Pv i ys H->te (gz caps σ (some (.int (lo+i)))) H (λy I=>ys.length<sizeLine/\Pv (i+1) (ys++[y]) I))
  (hd:∀ys H,Pv n ys H->F ys H):∃W:Nat->Nat->List V->Hp->Prop,(∃m,W 0 m [] H)/\jH caps oH te σ (Bm lo n) F W :=
 tS Pv G (λi ys H hi p=>by
  show if true=true then _ else Pv (i+1) ys H
  rw[if_pos rfl];exact hs i ys H hi p) hd
theorem wb {K:PySem.W.Frag}{a:Addr}{xs:List V}{caps:List (Str×Nat)}{te:TE}{σ:St}{H:Hp}{F:List V->Hp->Prop}(Pv:Nat->List V->Hp->Prop) (G:Pv 0 [] H) (J:∀i ys H,i<=xs.length->Pv i ys H->bV K H a xs)
  (hs:∀i x ys H,xs[i]?=some x->Pv i ys H->te (gz caps σ (some x)) H (λy I=>ys.length<sizeLine/\Pv (i+1) (ys++[y]) I))
  (hd:∀ys H,Pv xs.length ys H->F ys H):∃W:Nat->Nat->List V->Hp->Prop,(∃m,W 0 m [] H)/\jH caps oH te σ (Ft K a) F W :=
 zM Pv G J (λi x ys H hi p=>by
  show if true=true then _ else Pv (i+1) ys H
  rw[if_pos rfl];exact hs i x ys H hi p) hd
theorem d0:bootBuiltins "list" = some (.type "list"):=ao
theorem lP:bootBuiltins "tuple" = some (.type "tuple"):=ao
theorem iS:bootBuiltins "int" = some (.type "int"):=ao
theorem o8:bootBuiltins "dict" = some (.type "dict"):=ao
theorem yn:bootBuiltins "max" = some (.builtin "max"):=ao
theorem cV:bootBuiltins "isinstance" = some (.builtin "isinstance"):=ao
theorem jR:bootBuiltins "sorted" = some (.builtin "sorted"):=ao
section
variable {X:Cx}
inductive yz (x:V) (vs:List V) (H:Hp) (Q:VK):Prop
 |mk (l:Addr) (ns:List Int) (k:Int) (_:x=.ref l) (_:vs=[.int k]) (_:H l=some (.lst (ns.map V.int))) (_:k∈ns) (_:Q (.int (ns.idxOf k:Nat)) H):yz x vs H Q
theorem zm:Cw X "list.index" yz:=by
 intro pins s σ H x vs v us Q I R L h;obtain⟨l,ns,k,rfl,rfl,U,hk,q⟩:=h;cases R;obtain⟨u,rfl,O⟩:=L.one;obtain⟨t,rfl⟩:=O;obtain⟨z,its,n,r,hl,e⟩:=I.lj U;have hi:=intsAre_of r;have J:=hi.length;rw[length_map]at hl z;have hs:sizeLine=16777216:=sizeLine_eq;have G:ns.idxOf k<ns.length:=List.idxOf_lt_length_iff.mpr hk;refine call_meets PySem.F.slot_list_index ⟨_,e,rfl⟩ PySem.F.entry_list_index (PySem.F.args_list_index_2 _ _)
  (SeqAt.list_indexAt l its.toArray n none #[] (.int k t) (isInt k) (ns.idxOf k) (by simpa[J]using G) af ?_ ?_) ⟨e,λy N=>(eq_isInt k t hi y (by simpa using N)).at _ _,⟨.int (ns.idxOf k:Nat),H,I.tok _,⟨_,rfl⟩,q⟩⟩
 .show isInt k its[ns.idxOf k]=true;rw[isInt_at k hi _ af G];simpa using List.getElem_idxOf G
 .intro j S Y;show isInt k its[j]=false;rw[isInt_at k hi j (by simpa using S) af];exact ne_of_lt_idxOf Y _
inductive xM (x:V) (vs:List V) (H:Hp) (Q:VK):Prop
 |mk (l:Addr) (ns:List Int) (k:Int) (_:x=.ref l) (_:vs=[.int k]) (_:H l=some (.lst (ns.map V.int))) (_:Q (.int (ns.count k:Nat)) H):xM x vs H Q
theorem ym:Cw X "list.count" xM:=by
 intro pins s σ H x vs v us Q I F L h;obtain⟨l,ns,k,rfl,rfl,G,q⟩:=h;cases F;obtain⟨u,rfl,J⟩:=L.one;obtain⟨t,rfl⟩:=J;obtain⟨z,its,n,r,N,e⟩:=I.lj G;exact count_list_ints (PySem.IsL.isList e) (intsAre_of r) ⟨.int (ns.count k:Nat),H,I.tok _,⟨_,rfl⟩,q⟩
end
noncomputable def iQ:List V->List V->Bool
 | [],[]=>true
 |x::xs,y::ys=>ly x y&&iQ xs ys
 |_,_=>false
theorem lF:∀{xs ys:List V},xs.length≠ys.length->iQ xs ys=false
 | [],[],h=>absurd rfl h
 | [],_::_,_=>rfl
 |_::_,[],_=>rfl
 |x::xs,y::ys,h=>by
  have F:=lF (xs:=xs) (ys:=ys) λe=>h (by simp[e]);show(ly x y&&iQ xs ys)=false;rw[F,Bool.and_false]
theorem iU:∀{xs ys:List V},xs.length=ys.length->(List.range xs.length).all (λj=>ly (xs.getD j .non) (ys.getD j .non))=iQ xs ys
 | [],[],_=>rfl
 |x::xs,y::ys,h=>by
  have F:=iU (xs:=xs) (ys:=ys) (by simpa using h);rw[length_cons,List.range_succ_eq_map,all_cons,List.all_map];show(ly x y&&_)=(ly x y&&iQ xs ys);rw[<-F];rfl
 | [],_::_,h=>by simp at h
 |_::_,[],h=>by simp at h
theorem iw (xs:List Int):(xs.map V.int).all eh=true:=by
 rw[List.all_map];exact List.all_eq_true.mpr λ_ _=>rfl
section
variable {X:Cx}
inductive EA (K:PySem.W.Frag) (x:V) (y:V) (H:Hp) (Q:VK):Prop
 |mk (p:_) (q:_) (xs:_) (ys:_) (_:x=.ref p) (_:y=.ref q) (_:bE K H p xs) (_:bE K H q ys) (_:xs.all eh=true) (_:ys.all eh=true) (_:Q (.bl (iQ xs ys)) H):EA K x y H Q
theorem BS (J:X.A.units<cLine):kz X (compareOp .Eq) (EA X.K):=by
 intro pins s σ H x y v u Q I rx ry h;obtain⟨p,q,xs,ys,rfl,rfl,hx,hy,fx,fy,L⟩:=h;cases rx;cases ry;obtain⟨its,r,pl,hz⟩:=I.list hx;obtain⟨N,O,S,ad⟩:=I.list hy;have R:=r.length;have ab:=O.length;by_cases e:xs.length=ys.length
 .refine SeqAt.eq_listAt (e:=λj=>ly (xs.getD j .non) (ys.getD j .non)) pl.isList S.isList (by rw[size_toArray,size_toArray];omega) J (λj h1 h2=>?_) ⟨.bl (iQ xs ys),H,I,?_,L⟩
  .have G:j<xs.length:=(by rw[size_toArray]at h1;omega);have F:j<ys.length:=af;obtain⟨a,ea,ra⟩:=r.get (i:=j) (x:=xs[j]) (by simp[G]);obtain⟨b,eb,rb⟩:=O.get (i:=j) (x:=ys[j]) (by simp[F]);obtain⟨_,Y⟩:=List.getElem?_eq_some_iff.mp ea;obtain⟨_,ac⟩:=List.getElem?_eq_some_iff.mp eb;have g1:xs.getD j .non=xs[j]:=(by simp[G]);have U:ys.getD j .non=ys[j]:=(by simp[F]);show SeqAt.EqAt _ _ its.toArray[j] N.toArray[j] (ly (xs.getD j .non) (ys.getD j .non));rw[g1,U];have f1:eh xs[j]=true:=List.all_eq_true.mp fx _ (getElem_mem G);have f2:eh ys[j]=true:=List.all_eq_true.mp fy _ (getElem_mem F);have z:=qd (A:=X.A.in1) (s:=s) ra rb f1 f2;have a1:its.toArray[j]=a:=(by simpa using Y);have a2:N.toArray[j]=b:=(by simpa using ac);rw[a1,a2];exact z
  .show Value.bool _=Value.bool _;rw[size_toArray, <-R,iU e]
 .refine SeqAt.eq_list_lengthsAt pl.isList S.isList ?_ J ⟨.bl (iQ xs ys),H,I,?_,L⟩
  .rw[size_toArray,size_toArray, <-R, <-ab];exact bne_iff_ne.mpr e
  .show Value.bool _=Value.bool _;rw[lF e]
theorem rJ:EX X (Ae X.K):=by
 intro pins s σ H o i ov iv Q I N Y h;obtain⟨p,xs,k,z,rfl,rfl,U,he,q⟩:=h;cases N;obtain⟨t,rfl⟩:=Y;obtain⟨its,r,pl,hz⟩:=I.list U;obtain⟨j,h1,h2,h3,S,R⟩:=oP he;obtain⟨w,L,O⟩:=r.get h2;have hl:=r.length;have hn:=lQ;have J:EP X pins σ Q w s:=⟨z,H,I,O,q⟩;by_cases G:0<=k
 .have F:k.toNat=j:=by
   rw[seqIndex_of G R]at h1;exact Option.some.inj h1
  exact wpAny_getItem_list pl.isList G af (by rw[F];simpa using L) J
 .have F:(k+(its.toArray.size:Int)).toNat=j:=by
   rw[seqIndex_neg af S]at h1;rw[size_toArray, <-hl];exact Option.some.inj h1
  exact wpAny_getItem_list_neg pl.isList af (by rw[size_toArray]<;>omega) af (by rw[F];simpa using L) J
theorem fE:dr X (.builtin "isinstance") (λxs H Q=>∃x n t b,xs=[x,.ty n]/\jF X.K H x t/\kitOne X.K t (.type n)=some b/\Q (.bl b) H):=by
 intro pins s σ H xs us Q I r h;obtain⟨x,n,t,b,rfl,ty,e,q⟩:=h;obtain⟨u,c,rfl,G,F⟩:=vals2 r;obtain rfl:c=Value.type n:=F;exact wC I G ty e λtk=>⟨.bl b,H,I.tok _,rfl,q⟩
end
theorem zg:bootBuiltins "range" = some (.type "range"):=ao
section
variable {X:Cx}
end
end L2
namespace PySem.W
open PySem PySem.Spec PySem.Calls PyProof.Rows Builtin Builtin.ObjectAttr Builtin.Getset_descriptor
section
variable {prog:Program}{w:World}{A:Around}{E:Value->Shared->Prop}{s:Shared}{K:Frag}{x C:Addr}
end
end PySem.W
namespace L2
open PySem PySem.Spec PyProof.Rows PySem.W
section
variable {X:Cx}{pins:List (Addr×Obj)}{σ:St}{H H':Hp}{s s':Shared}
end
section
variable {X:Cx}{e:Expr}{te:TE}{tx:TEX}{t:TS}{ts us:TSX}{st:Stmt}{sts rest:List Stmt}{pos:Pos}
end
section
variable {X:Cx}{k:Nat}{f C:Addr}{fd:FuncData}{ps:List Str}{sp:Sp}{dvs:List V}{ds:List Value}{x m:Str}{p pos apos:Pos}{e o:Expr}{es:List Expr}{ta:TE}{t:TA}
end
section
variable {X:Cx}{pins:List (Addr×Obj)}{σ:St}{H:Hp}{s:Shared}
end
section
variable {X:Cx}{v v2:Expr}{vs:List Expr}{te:TE}{t:TJ}{pos:Pos}
end
section
variable {X:Cx}{C:Addr}{x:Str}{np cpos pos:Pos}{e₀:Expr}{es:List Expr}{t:TA}
end
section
variable {P:Program}{w:World}{K:PySem.W.Frag}{mg:Str->Option Value}{base:Heap}
end
section
variable {X:Cx}{pins:List (Addr×Obj)}{σ:St}{H:Hp}{s:Shared}
end
section
variable {X:Cx}{C:Addr}{i:Nat}{x n:Str}{np hpos pos:Pos}{body suite:List Stmt}{b₀:Stmt}{tb:TSX}{ts:TS}
end
section
variable {X:Cx}{tg:Expr}
end
section
variable {X:Cx}{C:Addr}{x:Str}{np hpos pos:Pos}{body suite:List Stmt}{b₀:Stmt}{tb:TSX}{ts:TS}
end
section
variable {t u r:TS}{D:Ends}{σ:St}{H:Hp}
noncomputable abbrev Le (u F:TS):Prop:=∀D σ H,u D σ H->F D σ H
theorem Le.rfl:Le u u:=λ_ _ _ h=>h
theorem dY {c:TT}(k:∀t' F,Le t t'->Le u F->wO c t' F D σ H):wO c t u D σ H:=k t u Le.rfl Le.rfl
theorem fX {te:TE}{i:Nat}(k:∀Q:V->Hp->Prop,(∀x H1,u D (σ.set i (some x)) H1->Q x H1)->te σ H Q):kC (Ba te (rR i)) u D σ H:=k _ λ_ _ h=>h
theorem FT {te:TE}(k:∀Q:V->Hp->Prop,(∀x H1,D.rt x H1->Q x H1)->te σ H Q):Ct te D σ H:=k _ λ_ _ h=>h
theorem bQ {A B:Hp->Prop}{Q:Bool->Hp->Prop}(e:Q=λb H1=>if b=true then A H1 else B H1):(∀H1,A H1->Q true H1)/\∀H1,B H1->Q false H1:=by
 subst e;exact⟨λ_ h=>dU h,λ_ h=>bu h⟩
theorem bW {c:TT}(k:∀Q:Bool->Hp->Prop,(∀H1,t { D with nx:=r D } σ H1->Q true H1)->(∀H1,r D σ H1->Q false H1)->c σ H Q):kC (wO c t qI) r D σ H:=k _ (bQ rfl).1 (bQ (A:=λH1=>t { D with nx:=r D } σ H1) rfl).2
theorem vq {c:TT}(k:∀Q:Bool->Hp->Prop,(∀H1,t D σ H1->Q true H1)->(∀H1,D.nx σ H1->Q false H1)->c σ H Q):wO c t qI D σ H:=k _ (bQ rfl).1 (bQ (A:=λH1=>t D σ H1) rfl).2
theorem wj {Q:Bool->Hp->Prop}{b:Bool}{H:Hp}(t:b=true->Q true H) (f:¬ b=true->Q false H):Q b H:=by
 cases b
 .exact f (by intro z;cases z)
 .exact t rfl
theorem mz {c:TT}(F:St->Hp->Prop) (mk:(∀σ H,F σ H->r D σ H)->∀Q:Bool->Hp->Prop,(∀H1,t { D with nx:=r D } σ H1->Q true H1)->(∀H1,F σ H1->Q false H1)->c σ H Q) (h:∀σ H,F σ H->r D σ H):kC (wO c t qI) r D σ H:=mk h _ (bQ rfl).1 λH1 p=>(bQ (A:=λH1=>t { D with nx:=r D } σ H1) rfl).2 H1 (h _ _ p)
noncomputable def Ev (te:TE) (σ:St) (H:Hp) (v:V):Prop:=∀Q:V->Hp->Prop,Q v H->te σ H Q
theorem bB {i:Nat}{v:V}(h:σ[i]?=some (some v)):Ev (AM i) σ H v:=λ_ q=>⟨_,h,q⟩
theorem bA {v:V}:Ev (tC v) σ H v:=λ_ q=>q
theorem dR {ta tb:TE}{x y:V}{Q:Bool->Hp->Prop}(a:Ev ta σ H x) (b:Ev tb σ H y) (s:Am x y=true) (n:¬ x=y) (q:Q false H):yb (DF Gv ta tb) σ H Q:=a _ (b _ ⟨s,_,rfl,by rw[decide_eq_false n];exact q⟩)
theorem eqT {ta tb:TE}{x:V}{Q:Bool->Hp->Prop}(a:Ev ta σ H x) (b:Ev tb σ H x) (s:Am x x=true) (q:Q true H):yb (DF Gv ta tb) σ H Q:=a _ (b _ ⟨s,_,rfl,by rw[decide_eq_true rfl];exact q⟩)
theorem share (G:St->Hp->Prop) (mk:∀F,(∀σ H,G σ H->F D σ H)->kC t F D σ H) (h:∀σ H,G σ H->u D σ H):kC t u D σ H:=mk u h
end
section
variable {κ:Type} [DecidableEq κ]
noncomputable def cq (kvs:List (κ×V)) (k:κ):Option V:=(kvs.find? λF=>decide (F.1=k)).map (·.2)
noncomputable def putK (kvs:List (κ×V)) (k:κ) (v:V):List (κ×V):=
 if (kvs.any λF=>decide (F.1=k))=true then kvs.map (λF=>if F.1=k then(F.1,v)else F)else kvs++[(k,v)]
noncomputable def mL (kvs:List (κ×V)) (k:κ):List (κ×V):=kvs.filter λF=>decide (F.1≠k)
theorem cf {p:κ×V}{r:List (κ×V)}{k:κ}(e:p.1=k):cq (p::r) k=some p.2:=by simp[cq,find?_cons,e]
theorem bC {p:κ×V}{r:List (κ×V)}{k:κ}(e:¬ p.1=k):cq (p::r) k=cq r k:=by simp[cq,find?_cons,e]
theorem fC (k:κ):∀kvs:List (κ×V),(kvs.any λF=>decide (F.1=k))=(cq kvs k).isSome
 | []=>rfl
 |p::r=>by
  rw[any_cons];by_cases e:p.1=k
  .simp only[cf e,decide_eq_true e,Bool.true_or,Option.isSome_some]
  .rw[bC e,decide_eq_false e,Bool.false_or];exact fC k r
theorem r6 (k j:κ) (y:V):∀kvs:List (κ×V),cq (kvs.map λF=>if F.1=k then(F.1,y)else F) j=(cq kvs j).map λx=>if j=k then y else x
 | []=>rfl
 |p::r=>by
  have G:=r6 k j y r;rw[map_cons];by_cases h:p.1=k
  .rw[if_pos h];by_cases e:p.1=j
   .rw[cf (p:=(p.1,y)) e,cf e,map_some,if_pos (e.symm.trans h)]
   .rw[bC (p:=(p.1,y)) e,bC e,G]
  .rw[if_neg h];by_cases e:p.1=j
   .rw[cf (p:=p) e,cf e,map_some,if_neg (λz=>h (e.trans z))]
   .rw[bC (p:=p) e,bC e,G]
theorem oe (k j:κ) (y:V):∀kvs:List (κ×V),cq kvs k=none->cq (kvs++[(k,y)]) j=if j=k then some y else cq kvs j
 | [],_=>by
  by_cases e:k=j
  .rw[if_pos e.symm];exact cf (p:=(k,y)) e
  .rw[if_neg (λz=>e z.symm)];exact bC (p:=(k,y)) e
 |p::r,F=>by
  rw[List.cons_append];have G:¬ p.1=k:=λz=>(by rw[cf z]at F;cases F);rw[bC G]at F;have I:=oe k j y r F;by_cases e:p.1=j
  .rw[cf e,cf e,if_neg (λz=>G (e.trans z))]
  .rw[bC e,bC e,I]
theorem rL (kvs:List (κ×V)) (k j:κ) (y:V):cq (putK kvs k y) j=if j=k then some y else cq kvs j:=by
 unfold putK;by_cases a:(kvs.any λF=>decide (F.1=k))=true
 .rw[if_pos a,r6];rw[fC]at a;by_cases e:j=k
  .obtain⟨x,G⟩:=Option.isSome_iff_exists.mp a;rw[if_pos e,e,G,map_some,if_pos rfl]
  .rw[if_neg e];cases cq kvs j with
   |none=>rfl
   |some x=>rw[map_some,if_neg e]
 .rw[if_neg a];refine oe k j y kvs ?_;rw[fC]at a;cases q:cq kvs k with
  |none=>rfl
  |some x=>rw[q]at a;exact(a rfl).elim
theorem dG (kvs:List (κ×V)) (k:κ) (v:V):(putK kvs k v).length<=kvs.length+1:=by
 unfold putK;split
 .rw[length_map];omega
 .rw[length_append,length_cons,length_nil];omega
theorem jB {kvs:List (κ×V)}{k:κ}(v:V) (h:cq kvs k=none):putK kvs k v=kvs++[(k,v)]:=by
 unfold putK;rw[fC,h];exact if_neg av
theorem fm.fN {o:Option V}{u:Option Value}(r:fm o u):o.isSome=u.isSome:=by
 cases o with
 |none=>cases u with
  |none=>rfl
  |some _=>exact(show False from r).elim
 |some _=>cases u with
  |none=>exact(show False from r).elim
  |some _=>rfl
theorem fm.getD {o:Option V}{u:Option Value}{d:V}{d':Value}(r:fm o u) (rd:RelV d d'):RelV (o.getD d) (u.getD d'):=by
 cases o with
 |none=>cases u with
  |none=>exact rd
  |some _=>exact(show False from r).elim
 |some _=>cases u with
  |none=>exact(show False from r).elim
  |some _=>exact r
theorem KV.val {kvs:List (κ×V)}{vs:List (κ×Value)}(r:KV kvs vs) (k:κ):fm (cq kvs k) (valueAt vs k):=by
 unfold KV at r
 induction r with
 |nil=>exact True.intro
 | @cons p q ps G h t I =>
  obtain⟨h1,h2⟩:=h;by_cases e:p.1=k
  .have F:q.1=k:=h1.symm.trans e;have b:valueAt (q::G) k=some q.2:=(by simp[valueAt,find?_cons,F]);rw[cf e,b];exact h2
  .have F:¬ q.1=k:=λz=>e (h1.trans z);have b:valueAt (q::G) k=valueAt G k:=(by simp[valueAt,find?_cons,F]);rw[bC e,b];exact I
theorem KV.any {kvs:List (κ×V)}{vs:List (κ×Value)}(r:KV kvs vs) (k:κ):(kvs.any λF=>decide (F.1=k))=vs.any λF=>decide (F.1=k):=by
 unfold KV at r
 induction r with
 |nil=>rfl
 |cons h t G=>rw[any_cons,any_cons,G,h.1]
theorem KV.C8 {kvs:List (κ×V)}{vs:List (κ×Value)}(r:KV kvs vs) (k:κ) {y:V}{u:Value}(I:RelV y u) :
  KV (kvs.map λF=>if F.1=k then(F.1,y)else F) (vs.map λF=>if F.1=k then(F.1,u)else F):=by
 unfold KV at r ⊢
 induction r with
 |nil=>exact .nil
 | @cons p q ps J h t G =>
  rw[map_cons,map_cons];refine .cons ?_ G;obtain⟨h1,h2⟩:=h;by_cases e:p.1=k
  .rw[if_pos e,if_pos (h1.symm.trans e)];exact⟨h1,I⟩
  .rw[if_neg e,if_neg (λz=>e (h1.trans z))];exact⟨h1,h2⟩
theorem KV.put {kvs:List (κ×V)}{vs:List (κ×Value)}(r:KV kvs vs) (k:κ) {y:V}{u:Value}(F:RelV y u):KV (putK kvs k y) (stored vs k u):=by
 unfold putK stored;rw[r.any k];by_cases e:(vs.any λG=>decide (G.1=k))=true
 .rw[if_pos e,if_pos e];exact r.C8 k F
 .rw[if_neg e,if_neg e];exact Paired.snoc r ⟨rfl,F⟩
theorem KV.drop {kvs:List (κ×V)}{vs:List (κ×Value)}(r:KV kvs vs) (k:κ):KV (mL kvs k) (without vs k):=by
 unfold KV at r ⊢;unfold mL without
 induction r with
 |nil=>exact .nil
 | @cons p q ps I h t F =>
  obtain⟨h1,h2⟩:=h;rw[filter_cons,filter_cons];by_cases e:p.1=k
  .have a:¬ decide (p.1≠k)=true:=(by simp[e]);have b:¬ decide (q.1≠k)=true:=(by simp[h1.symm.trans e]);rw[if_neg a,if_neg b];exact F
  .have G:¬ q.1=k:=λz=>e (h1.trans z);have a:decide (p.1≠k)=true:=(by simp[e]);have b:decide (q.1≠k)=true:=(by simp[G]);rw[if_pos a,if_pos b];exact .cons ⟨h1,h2⟩ F
theorem KV.keys {kvs:List (κ×V)}{vs:List (κ×Value)}(r:KV kvs vs):kvs.map (·.1)=vs.map (·.1):=by
 unfold KV at r
 induction r with
 |nil=>rfl
 |cons h t F=>rw[map_cons,map_cons,F,h.1]
theorem KV.length {kvs:List (κ×V)}{vs:List (κ×Value)}(r:KV kvs vs):kvs.length=vs.length:=Paired.length r
theorem zw (kvs:List (κ×V)) (k:κ):(mL kvs k).length<=kvs.length:=List.length_filter_le _ _
end
theorem iH {P:Program}{w:World}{k:Key}{u:Value}(r:RelV (kV k) u):(br P w).is k u=true:=by
 cases k with
 |inl i=>obtain⟨t,e⟩:=(show ∃t,u=Value.int i t from r);subst e;exact rO P w i t
 |inr x=>obtain⟨t,e⟩:=(show ∃t,u=Value.str x t from r);subst e;exact rG P w x t
theorem oa {P:Program}{w:World}:∀{ks:List Key}{us:List Value},Vals (ks.map kV) us->ItemsAre (br P w) ks us
 | [],_,r=>by rw[map_nil]at r;cases r;exact .nil
 |k::ks,_,r=>by
  rw[map_cons]at r;cases r with
  |cons h t=>exact .cons (iH h) (oa t)
noncomputable abbrev KT (H:Hp):List (List Key×V)->List (List Key×Addr×Value)->Prop:=Paired λp q=>p.1=q.1/\H q.2.1=some (.tup (p.1.map kV))/\RelV p.2 q.2.2
theorem KT.val {H:Hp}{kvs:List (List Key×V)}{xs:List (List Key×Addr×Value)}(r:KT H kvs xs) (k:List Key):fm (cq kvs k) ((atKey xs k).map (·.2)):=by
 induction r with
 |nil=>exact True.intro
 | @cons p q ps G h t I =>
  obtain⟨h1,_,h2⟩:=h;by_cases e:p.1=k
  .have F:q.1=k:=h1.symm.trans e;have b:atKey (q::G) k=some q.2:=(by simp[atKey,find?_cons,F]);rw[cf e,b];exact h2
  .have F:¬ q.1=k:=λz=>e (h1.trans z);have b:atKey (q::G) k=atKey G k:=(by simp[atKey,find?_cons,F]);rw[bC e,b];exact I
theorem KT.C8 {H:Hp}{kvs:List (List Key×V)}{xs:List (List Key×Addr×Value)}(r:KT H kvs xs) (k:List Key) {y:V}{u:Value}(I:RelV y u) :
  KT H (kvs.map λF=>if F.1=k then(F.1,y)else F) (xs.map (putAt k u)):=by
 induction r with
 |nil=>exact .nil
 | @cons p q ps L h t G =>
  rw[map_cons,map_cons];refine .cons ?_ G;obtain⟨h1,h2,J⟩:=h;unfold putAt;by_cases e:p.1=k
  .rw[if_pos e,if_pos (h1.symm.trans e)];exact⟨h1,h2,I⟩
  .rw[if_neg e,if_neg (λz=>e (h1.trans z))];exact⟨h1,h2,J⟩
theorem KT.put {H:Hp}{kvs:List (List Key×V)}{xs:List (List Key×Addr×Value)}(r:KT H kvs xs) (k:List Key) {b:Addr}{y:V}{u:Value}(G:H b=some (.tup (k.map kV))) (F:RelV y u) :
  KT H (putK kvs k y) (storedH xs k b u):=by
 have e:(kvs.any λI=>decide (I.1=k))=(atKey xs k).isSome:=by
  rw[fC,(r.val k).fN,isSome_map]
 unfold putK storedH;rw[e];by_cases q:(atKey xs k).isSome=true
 .rw[if_pos q,if_pos q];exact r.C8 k F
 .rw[if_neg q,if_neg q];exact Paired.snoc r ⟨rfl,G,F⟩
theorem KT.keeps {H H':Hp}{kvs:List (List Key×V)}{xs:List (List Key×Addr×Value)}(r:KT H kvs xs) (F:∀b ys,H b=some (.tup ys)->H' b=some (.tup ys)):KT H' kvs xs :=
 Paired.yW r λ_ _ z=>⟨z.1,F _ _ z.2.1,z.2.2⟩
section
variable {P:Program}{w:World}{H:Hp}{h:Heap}{a:Addr}
theorem BJ {u:HO}(ok:iT P w H h) (e:Rd H a u):bT P w H h a u:=e.ok ok
theorem jd {kvs:List (Key×V)}(ok:iT P w H h) (e:Rd H a (.dK kvs)):kvs.length<=sizeLine/\(a==sysModules)=false/\∃vs,KV kvs vs/\h.DictOf (br P w) a vs :=
 show bT P w H h a (.dK kvs)from BJ ok e
theorem gv {kvs:List (Key×V)}(ok:iT P w H h) (e:H a=some (.dK kvs)):kvs.length<=sizeLine/\(a==sysModules)=false/\∃vs,KV kvs vs/\h.DictOf (br P w) a vs:=jd ok (.inl e)
theorem iV {ks:List Key}(ok:iT P w H h) (e:H a=some (.tup (ks.map kV))):(tupleKind (br P w)).is h ks a:=by
 obtain⟨_,its,r,o,h1,h2,n,F⟩:=(show bT P w H h a (.tup (ks.map kV))from ok a _ e);exact⟨o,its.toArray,n,h1,h2,F,by simpa using oa r⟩
theorem km {kvs:List (List Key×V)}(ok:iT P w H h) (e:Rd H a (.dT kvs)):kvs.length<=sizeLine/\(a==sysModules)=false /\
  ∃xs,KT H kvs xs/\h.DictOfH (tupleKind (br P w)) a xs:=by
 obtain⟨z,y,xs,r,o,es,ep,h1,h2,J,N,L⟩:=(show bT P w H h a (.dT kvs)from BJ ok e);refine⟨z,y,xs,r,o,es,ep,h1,h2,J,N,λx F=>?_,L⟩;have all:∀{l:List (List Key×V)}{m:List (List Key×Addr×Value)},KT H l m->∀x∈m,(tupleKind (br P w)).is h x.1 x.2.1:=by
  intro l m q
  induction q with
  |nil=>intro x F;exact nomatch F
  | @cons p q ps O G t I =>
   intro x F;rcases List.mem_cons.mp F with e|F
   .subst e;exact iV ok (by rw[<-G.1];exact G.2.1)
   .exact I x F
 exact all r x F
theorem DZ {kvs:List (List Key×V)}(ok:iT P w H h) (e:H a=some (.dT kvs)):kvs.length<=sizeLine/\(a==sysModules)=false /\
  ∃xs,KT H kvs xs/\h.DictOfH (tupleKind (br P w)) a xs:=km ok (.inl e)
end
noncomputable def dh (H:Hp) (a:Addr) (y:V) (r:Option V):Prop :=
 (∃kvs k,Rd H a (.dK kvs)/\y=kV k/\r=cq kvs k)\/∃kvs k b,Rd H a (.dT kvs)/\y=.ref b/\H b=some (.tup (k.map kV))/\r=cq kvs k
noncomputable def eO (H:Hp) (a:Addr) (y v:V) (H':Hp):Prop :=
 (∃kvs k,H a=some (.dK kvs)/\y=kV k/\kvs.length<sizeLine/\H'=upd H a (.dK (putK kvs k v))) \/
 ∃kvs k b,H a=some (.dT kvs)/\y=.ref b/\H b=some (.tup (k.map kV))/\kvs.length<sizeLine/\H'=upd H a (.dT (putK kvs k v))
theorem dh.k {H:Hp}{a:Addr}{kvs:List (Key×V)}{k:Key}(e:H a=some (.dK kvs)):dh H a (kV k) (cq kvs k):=.inl ⟨kvs,k,.inl e,rfl,rfl⟩
theorem dh.t {H:Hp}{a b:Addr}{kvs:List (List Key×V)}{k:List Key}(e:H a=some (.dT kvs)) (F:H b=some (.tup (k.map kV))):dh H a (.ref b) (cq kvs k):=.inr ⟨kvs,k,b,.inl e,rfl,F,rfl⟩
theorem eO.k {H:Hp}{a:Addr}{kvs:List (Key×V)}{k:Key}{v:V}(e:H a=some (.dK kvs)) (F:kvs.length<sizeLine):eO H a (kV k) v (upd H a (.dK (putK kvs k v))):=.inl ⟨kvs,k,e,rfl,F,rfl⟩
theorem eO.t {H:Hp}{a b:Addr}{kvs:List (List Key×V)}{k:List Key}{v:V}(e:H a=some (.dT kvs)) (F:H b=some (.tup (k.map kV))) (G:kvs.length<sizeLine) :
  eO H a (.ref b) v (upd H a (.dT (putK kvs k v))):=.inr ⟨kvs,k,b,e,rfl,F,G,rfl⟩
section
variable {X:Cx}{pins:List (Addr×Obj)}{σ:St}{H:Hp}{s:Shared}{a:Addr}{y v:V}{u r:Value}{o:Option V}{A:Around}{E:Value->Shared->Prop}
theorem Inv.big (I:Inv X pins σ H s):sysModules<s.heap.objs.size:=by
 have h:mainGlobals<s.heap.objs.size:=(I.mod.glob.keeps I.bk).lt;exact Nat.lt_trans av h
theorem vS {Q:Value->Shared->Prop}(Y:A.units+1<cLine) (I:Inv X pins σ H s) (g:dh H a y (some v)) (R:RelV y u) (h:∀F s',Inv X pins σ H s'->RelV v F->Q F s') :
  wpAny (model X.prog X.w) A (getItem (.ref a) u) Q E s:=by
 rcases g with⟨kvs,k,e,G,l⟩|⟨kvs,k,b,e,G,U,l⟩
 .subst G;obtain⟨z,hd,vs,J,L⟩:=jd I.bJ e;obtain⟨F,N,O⟩:=fm.some_of (v:=v) (o:=valueAt vs k) (by rw[l];exact J.val k);exact wpAny_getItem_of (iH R) L.mapOf N (h F _ (I.tok _) O)
 .subst G;cases(show u=Value.ref b from R);obtain⟨z,hd,xs,J,L⟩:=km I.bJ e;obtain⟨F,N,O⟩:=fm.some_of (v:=v) (o:=(atKey xs k).map (·.2)) (by rw[l];exact J.val k);obtain⟨p,S,ab⟩:=Option.map_eq_some_iff.mp N;refine wpAny_getItem_heap (tupleKind_room_in1 Y) (iV I.bJ U) L S ?_;rw[ab];exact h F _ (I.tok _) O
theorem Hk {Q:Value->Shared->Prop}(O:A.units+1<cLine) (I:Inv X pins σ H s) (g:dh H a y o) (L:RelV y u) (h:∀s',Inv X pins σ H s'->Q (.bool o.isSome) s') :
  wpAny (model X.prog X.w) A (compareOp .In u (.ref a)) Q E s:=by
 rcases g with⟨kvs,k,e,F,l⟩|⟨kvs,k,b,e,F,N,l⟩
 .subst F;obtain⟨z,hd,vs,G,J⟩:=jd I.bJ e;refine wpAny_in_of (iH L) hd J.mapOf ?_;rw[<-(G.val k).fN, <-l];exact h _ (I.tok _)
 .subst F;cases(show u=Value.ref b from L);obtain⟨z,hd,xs,G,J⟩:=km I.bJ e;refine wpAny_in_heap (tupleKind_room_in1 O) (iV I.bJ N) hd J ?_;have q:=(G.val k).fN;rw[isSome_map]at q;rw[<-q, <-l];exact h _ (I.tok _)
theorem AZ {Q:Value->Shared->Prop}(O:A.units+1<cLine) (I:Inv X pins σ H s) (g:dh H a y o) (L:RelV y u) (h:∀s',Inv X pins σ H s'->Q (.bool (!o.isSome)) s') :
  wpAny (model X.prog X.w) A (compareOp .NotIn u (.ref a)) Q E s:=by
 rcases g with⟨kvs,k,e,F,l⟩|⟨kvs,k,b,e,F,N,l⟩
 .subst F;obtain⟨z,hd,vs,G,J⟩:=jd I.bJ e;refine wpAny_notIn_of (iH L) hd J.mapOf ?_;rw[<-(G.val k).fN, <-l];exact h _ (I.tok _)
 .subst F;cases(show u=Value.ref b from L);obtain⟨z,hd,xs,G,J⟩:=km I.bJ e;refine wpAny_notIn_heap (tupleKind_room_in1 O) (iV I.bJ N) hd J ?_;have q:=(G.val k).fN;rw[isSome_map]at q;rw[<-q, <-l];exact h _ (I.tok _)
theorem ju {h':Heap}{t':Nat}{F:HO}(I:Inv X pins σ H s) (J:Ef (H a)) (hs:Heap.SameBut a s.heap h') (G:∃q,h'.get? a=some q) (new:bT X.prog X.w (upd H a F) h' a F) :
  Inv X pins σ (upd H a F) { s with heap:=h',toks:=t' }:=
 I.write (x:=a) (e:=a) J (.inl rfl) (λb q L z=>(hs.2 b L).trans z) G new
theorem mi {P:Program}{w:World}{H':Hp}{h':Heap}{kvs:List (Key×V)}{vs:List (Key×Value)}(z:kvs.length<=sizeLine) (hd:(a==sysModules)=false) (F:KV kvs vs) (G:h'.DictOf (br P w) a vs) :
  bT P w H' h' a (.dK kvs):=⟨z,hd,vs,F,G⟩
theorem nQ {H':Hp}{Q:Unit->Shared->Prop}(hu:A.units+1<cLine) (I:Inv X pins σ H s) (g:eO H a y v H') (Y:RelV y u) (rv:RelV v r) (h:∀s',Inv X pins σ H' s'->Q () s') :
  wpAny (model X.prog X.w) A (setItem (.ref a) u r) Q E s:=by
 rcases g with⟨kvs,k,e,L,l,S⟩|⟨kvs,k,b,e,L,eb,l,S⟩
 .subst L S;obtain⟨z,hd,vs,F,O⟩:=gv I.bJ e;have N:vs.length<=sizeLine:=(by rw[<-F.length];exact z);have R:(putK kvs k v).length<=sizeLine:=(by have:=dG kvs k v;omega);refine wpAny_setItem_pairs (hsz:=N) (iH Y) O λh' J hs=>h _ ?_;have he:∃q,h'.get? a=some q:=let ⟨q,_,_,G,_⟩:=J;⟨q,G⟩;exact ju I (by rw[e];exact True.intro) hs he (mi R hd (F.put k rv) J)
 .subst L S;cases(show u=Value.ref b from Y);obtain⟨z,hd,xs,F,O⟩:=DZ I.bJ e;have N:xs.length<=sizeLine:=(by rw[<-Paired.length F];exact z);have R:(putK kvs k v).length<=sizeLine:=(by have:=dG kvs k v;omega);refine wpAny_setItem_heap (hsz:=N) (tupleKind_room_in1 hu) (iV I.bJ eb) O λh' J hs=>h _ ?_;obtain⟨q,es,ep,G,h2,h3,h4,_,h5⟩:=J;refine ju I (by rw[e];exact True.intro) hs ⟨q,G⟩ ⟨R,hd,_,(F.put k eb rv).keeps λc ys U=>?_,q,es,ep,G,h2,h3,h4,h5⟩;rw[ah (cH U e (λz=>nomatch z))];exact U
end
section
variable {X:Cx}{pins:List (Addr×Obj)}{σ:St}{H:Hp}{s:Shared}{a:Addr}{kvs:List (Key×V)}{k:Key}{u:Value}{A:Around}{E:Value->Shared->Prop}
theorem E7 {v:V}{J:List Value}{Q:Value->Shared->Prop}(I:Inv X pins σ H s) (e:H a=some (.dK kvs)) (L:RelV (kV k) u) (l:cq kvs k=some v) (S:J=[]\/∃x,J=[x])
  (h:∀G s',Inv X pins σ (upd H a (.dK (mL kvs k))) s'->RelV v G->Q G s'):wpAny (model X.prog X.w) A (call (.builtin "dict.pop") (.ref a::u::J)) Q E s:=by
 obtain⟨z,hd,vs,N,R⟩:=gv I.bJ e;obtain⟨G,hw,Y⟩:=fm.some_of (v:=v) (o:=valueAt vs k) (by rw[<-l];exact N.val k);have hp:(keyPart u).isSome=true:=by
  cases k with
  |inl i=>obtain⟨t,q⟩:=(show ∃t,u=Value.int i t from L);subst q;rfl
  |inr x=>obtain⟨t,q⟩:=(show ∃t,u=Value.str x t from L);subst q;rfl
 have ha:argsOk "dict.pop" ⟨.ref a::u::J,[]⟩:=by
  rcases S with q|⟨x,q⟩
  .subst q;exact PySem.F.args_dict_pop_2 _ _
  .subst q;exact PySem.F.args_dict_pop_3 _ _ _
 refine call_meetsIn PySem.F.slot_dict_pop R.typeIs PySem.F.entry_dict_pop ha (meets_dict_pop_there (br X.prog X.w) a (iH L) J S hp)
  ⟨vs,G,R,by rw[<-N.length];exact z,hw,λh' O hs=>h G _ ?_ Y⟩
 have he:∃q,h'.get? a=some q:=let ⟨q,_,_,U,_⟩:=O;⟨q,U⟩;exact ju I (by rw[e];exact True.intro) hs he (mi (le_trans (zw kvs k) z) hd (N.drop k) O)
theorem DW {Q:Value->Shared->Prop}(I:Inv X pins σ H s) (e:Rd H a (.dK kvs)) (h:∀t s',Inv X pins σ H s'->Q (.int kvs.length t) s'):wpAny (model X.prog X.w) A (call (.builtin "len") [.ref a]) Q E s:=by
 obtain⟨z,hd,vs,F,G⟩:=jd I.bJ e;refine call_len_dict hd G (by rw[<-F.length];rw[sizeLine_eq]at z;omega) ?_;rw[<-F.length];exact h _ _ (I.tok _)
end
noncomputable def Fj (i:Expr):Prop:=∀ov F,subscripted i false ov F=operate [ov,F] (getItem ov F)
theorem Bb {prog:Program}{w:World}{A:Around}{E:Value->Shared->Prop}{s:Shared}{env:Env}{value G:Expr}{pos:Pos}{T id:String}{Q:Value->Shared->Prop}
  (U:typeLookup (.type T) "__getitem__" = pure (some (.builtin id))) (hs:Fj G)
  (h:wpAny (model prog w) A (eval value env) (λo L=>wpAny (model prog w) A (eval G env) (λi F=>F.TypeIs o T/\wpAny (model prog w) A (getItem o i) Q E F) E L) E s) :
  wpAny (model prog w) A (eval (.Subscript value G pos) env) Q E s:=by
 refine Subscript_ (wpAny_mono h (λo L R=>wpAny_mono R (λi F J=>?_) λ_ _ x=>x) λ_ _ x=>x);obtain⟨O,J⟩:=J;unfold subscriptTail;refine wpAny_bind ?_;rw[getitemInPython_of_ne O.not_modules];refine wpAny_bind (wpAny_specialOf O U ?_);have I:wpAny (model prog w) A (subscripted G false o i) (λr N=>wpAny (model prog w) A (letTemporaryGo value o r>>=λ_=>pure r) Q E N) E F:=by
  rw[hs o i];exact wpAny_operating (wpAny_mono J (λr N S=>wpAny_bind (wpAny_letTemporaryGo (wpAny_pure S))) λ_ _ x=>x)
 first
  |exact wpAny_pure (wpAny_bind I)
  |exact wpAny_bind (wpAny_pure (wpAny_bind I))
  |exact wpAny_bind I
theorem qS {X:Cx}{pins:List (Addr×Obj)}{σ:St}{H:Hp}{s:Shared}{a:Addr}{y:V}{o:Option V}(I:Inv X pins σ H s) (g:dh H a y o):s.TypeIs (.ref a) "dict" := by
 rcases g with⟨kvs,k,e,_,_⟩|⟨kvs,k,b,e,_,_,_⟩
 .obtain⟨_,_,vs,_,F⟩:=jd I.bJ e;exact F.typeIs
 .obtain⟨_,_,xs,_,F⟩:=km I.bJ e;exact F.typeIs
inductive zJ (td ty:TE) (Q:VK) (x:V) (y:V) (H2:Hp):Prop
 |mk (a:_) (v:_) (_:x=.ref a) (_:dh H2 a y (some v)) (_:Q v H2):zJ td ty Q x y H2
noncomputable def EZ (td ty:TE):TE:=λσ H Q=>td σ H λx H1=>ty σ H1 λy H2=>zJ td ty Q x y H2
inductive BF (ty td:TE) (Q:VK) (y:V) (x:V) (H2:Hp):Prop
 |mk (a:_) (o:_) (_:x=.ref a) (_:dh H2 a y o) (_:Q (.bl o.isSome) H2):BF ty td Q y x H2
noncomputable def GV (ty td:TE):TE:=λσ H Q=>ty σ H λy H1=>td σ H1 λx H2=>BF ty td Q y x H2
inductive qX (ty td:TE) (Q:VK) (y:V) (x:V) (H2:Hp):Prop
 |mk (a:_) (o:_) (_:x=.ref a) (_:dh H2 a y o) (_:Q (.bl (!o.isSome)) H2):qX ty td Q y x H2
noncomputable def Bj (ty td:TE):TE:=λσ H Q=>ty σ H λy H1=>td σ H1 λx H2=>qX ty td Q y x H2
noncomputable def EM (td ty tv:TE):TS:=λD σ H=>tv σ H λv H1=>td σ H1 λx H2=>ty σ H2 λy G=>xy λa F=>qF (x=.ref a) (eO G a y v F) (D.nx σ F)
section
variable {X:Cx}{o i e value:Expr}{pos pos' tpos:Pos}{td ty tv:TE}
theorem bw (S:X.A.units+1<cLine) (ho:PE X o td) (hi:PE X i ty) (hs:Fj i):PE X (.Subscript o i pos) (EZ td ty):=by
 intro pins s σ H Q I h;refine Bb PySem.F.slot_dict_getitem.lookup hs (bU (ho pins s σ H _ I h) λu O N=>?_);obtain⟨x,H1,R,rx,U⟩:=N;refine bU (hi pins O σ H1 _ R U) λiv s2 ac=>?_;obtain⟨y,H2,G,L,a,v,ex,g,Y⟩:=ac;subst ex;obtain rfl:u=Value.ref a:=rx;exact⟨qS G g,vS S G g L λw' s3 J ab=>⟨v,H2,J,ab,Y⟩⟩
theorem my (U:X.A.units+1<cLine) (hi:PE X i ty) (G:PE X o td):PC X .In i o (GV ty td):=by
 intro pins s σ H Q I h;refine bU (hi pins s σ H _ I h) λiv O S=>?_;obtain⟨y,H1,R,N,Y⟩:=S;refine bU (G pins O σ H1 _ R Y) λu s2 J=>?_;obtain⟨x,H2,I2,F,a,ov,ex,g,q2⟩:=J;subst ex;obtain rfl:u=Value.ref a:=F;exact Hk U I2 g N λs3 L=>⟨.bl ov.isSome,H2,L,rfl,q2⟩
theorem fG (R:X.A.units+1<cLine) (hi:PE X i ty) (G:PE X o td):PC X .NotIn i o (Bj ty td):=by
 intro pins s σ H Q I h;refine bU (hi pins s σ H _ I h) λiv N Y=>?_;obtain⟨y,H1,O,L,S⟩:=Y;refine bU (G pins N σ H1 _ O S) λu s2 ab=>?_;obtain⟨x,H2,U,F,a,ov,ex,g,q2⟩:=ab;subst ex;obtain rfl:u=Value.ref a:=F;exact AZ R U g L λs3 J=>⟨.bl (!ov.isSome),H2,J,rfl,q2⟩
theorem jD (S:X.A.units+1<cLine) (ho:PE X o td) (hi:PE X i ty) (hv:PE X value tv) (hs:swapsWith value (some (.Subscript o i pos')) pos.line X.env=pure false) :
  PS X (.Assign [.Subscript o i pos'] value pos) (EM td ty tv):=by
 intro pins s σ H D I h;refine wpAny_Assign_Subscript (bU (hv pins s σ H _ I h) λr O ab=>?_) hs;obtain⟨v,H1,R,rv,Y⟩:=ab;refine bU (ho pins O σ H1 _ R Y) λu G ac=>?_;obtain⟨x,H2,I2,rx,q2⟩:=ac;refine bU (hi pins G σ H2 _ I2 q2) λiv s3 ad=>?_;obtain⟨y,H3,F,L,a,U,ex,g,J⟩:=ad;subst ex;obtain rfl:u=Value.ref a:=rx;exact nQ S F g L rv λs4 N=>⟨σ,U,N,J⟩
end
theorem rV {P:Program}{w:World}{H:Hp}(h:Heap) (F:sysModules<h.objs.size):bT P w H (h.push { cls:=.type "dict",data:=.dict #[] }) h.objs.size (.dK []):=
 ⟨zero_le _,beq_eq_false_iff_ne.mpr (Ne.symm (ne_of_lt F)),[],.nil,Heap.DictOf.new h⟩
theorem zi {P:Program}{w:World}{H:Hp}(h:Heap) (F:sysModules<h.objs.size):bT P w H (h.push { cls:=.type "dict",data:=.dict #[] }) h.objs.size (.dT []):=
 ⟨zero_le _,beq_eq_false_iff_ne.mpr (Ne.symm (ne_of_lt F)),[],.nil,_, #[],0,Heap.get?_push_size _ rfl,⟨rfl,rfl,rfl⟩,rfl,rfl,nodup_nil⟩
noncomputable def BX:TE:=λ_ H Q=>∀p,H p=none->Q (.ref p) (upd H p (.dK []))
noncomputable def Ck:TE:=λ_ H Q=>∀p,H p=none->Q (.ref p) (upd H p (.dT []))
section
variable {X:Cx}{pos:Pos}
theorem cR:PE X (.Dict [] [] pos) BX:=λpins s σ H Q I h =>
 wpAny_Dict_empty ⟨.ref s.heap.objs.size,_,I.laid (a:=s.heap.objs.size) (o:=.dK []) (t':=s.toks) (λ_ _ q=>Heap.get?_push_of_some _ q) (le_refl _) (rV s.heap I.big),rfl,h _ (I.bJ.fresh (le_refl _))⟩
theorem yE:PE X (.Dict [] [] pos) Ck:=λpins s σ H Q I h =>
 wpAny_Dict_empty ⟨.ref s.heap.objs.size,_,I.laid (a:=s.heap.objs.size) (o:=.dT []) (t':=s.toks) (λ_ _ q=>Heap.get?_push_of_some _ q) (le_refl _) (zi s.heap I.big),rfl,h _ (I.bJ.fresh (le_refl _))⟩
end
noncomputable def uH:List (TE×TE)->St->Hp->(List (V×V)->Hp->Prop)->Prop
 | [],_,H,Q=>Q [] H
 |(tk,tv)::r,σ,H,Q=>tk σ H λx H1=>tv σ H1 λy H2=>uH r σ H2 λps F=>Q ((x,y)::ps) F
noncomputable abbrev VV:List (V×V)->List (Value×Value)->Prop:=Paired λp q=>RelV p.1 q.1/\RelV p.2 q.2
noncomputable def FC (X:Cx) (pos:Pos) (keys:List (Option Expr)) (values:List Expr) (F:List (TE×TE)):Prop :=
 ∀(pins:List (Addr×Obj)) (s:Shared) (σ:St) (H:Hp) (Q:List (V×V)->Hp->Prop),Inv X pins σ H s->uH F σ H Q ->
  wpAny (model X.prog X.w) X.A (evalPairs (pairTrees keys values X.env pos)) (λvs s'=>∃ps H',Inv X pins σ H' s'/\VV ps vs/\Q ps H') X.xe s
theorem Bk {X:Cx}{pos:Pos}:FC X pos [] [] []:=λpins s σ H Q I h=>pairTrees_nil_walk ⟨[],H,I,.nil,h⟩
theorem jh {X:Cx}{pos:Pos}{k v:Expr}{ks:List (Option Expr)}{vs:List Expr}{tk tv:TE}{F:List (TE×TE)}(hk:PE X k tk) (hv:PE X v tv) (G:FC X pos ks vs F) :
  FC X pos (some k::ks) (v::vs) ((tk,tv)::F):=λpins s σ H Q I h =>
 pairTrees_cons_walk (bU (hk pins s σ H _ I h) λu Y ⟨x,H1,U,rx,q1⟩=>bU (hv pins Y σ H1 _ U q1) λw2 N ⟨y,H2,I2,O,q2⟩ =>
  bU (G pins N σ H2 _ I2 q2) λws s3 ab=>by obtain⟨ps,J,L,S,R⟩:=ab;exact⟨(x,y)::ps,J,L,.cons ⟨rx,O⟩ S,R⟩)
noncomputable def jM (kvs I:List (Key×V)):List (Key×V):=I.foldl (λG F=>putK G F.1 F.2) kvs
theorem KV.merge:∀{F:List (Key×V)}{G:List (Key×Value)}{kvs:List (Key×V)}{vs:List (Key×Value)},KV F G->KV kvs vs->KV (jM kvs F) (merged vs G):=by
 intro F G kvs vs r;unfold KV at r
 induction r generalizing kvs vs with
 |nil=>intro q;exact q
 | @cons p q ps L h t I =>
  intro J;have e:KV (putK kvs p.1 p.2) (stored vs q.1 q.2):=by
   have:=J.put p.1 h.2;rw[<-h.1];exact this
  exact I e
theorem iG:∀(F kvs:List (Key×V)),(jM kvs F).length<=kvs.length+F.length
 | [],kvs=>by show kvs.length<=kvs.length+0;omega
 |p::r,kvs=>by
  have h1:=iG r (putK kvs p.1 p.2);have h2:=dG kvs p.1 p.2;show(jM (putK kvs p.1 p.2) r).length<=_;rw[length_cons];omega
theorem lO {P:Program}{w:World}:∀{kvs:List (Key×V)}{ws:List (Value×Value)},VV (kvs.map λG=>(kV G.1,G.2)) ws->∃F,Carries (br P w) ws F/\KV kvs F
 | [],_,r=>by rw[map_nil]at r;cases r;exact⟨[],True.intro,.nil⟩
 |p::kvs,_,r=>by
  rw[map_cons]at r;cases r with
  | @cons a b J bs h t =>
   obtain⟨F,c,q⟩:=lO (P:=P) (w:=w) t;obtain⟨L,I⟩:=b;exact⟨(p.1,I)::F,⟨iH h.1,rfl,c⟩,.cons ⟨rfl,h.2⟩ q⟩
noncomputable def D8 (G:List (TE×TE)):TE:=λσ H Q=>∀p,H p=none->uH G σ (upd H p (.dK [])) λps H2=>H2 p=some (.dK [])/\∃kvs:List (Key×V),ps=kvs.map (λF=>(kV F.1,F.2))/\kvs.length<=15/\Q (.ref p) (upd H2 p (.dK (jM [] kvs)))
theorem Ag {X:Cx}{pos:Pos}{keys:List (Option Expr)}{values:List Expr}{J:List (TE×TE)}(h:FC X pos keys values J) (ac:keys.all (·.isSome)=true) (hl:keys.length=values.length) (L:keys≠[])
  (ab:keys.length<=15):PE X (.Dict keys values pos) (D8 J):=by
 intro pins s σ H Q I q;have hn:=I.bJ.fresh (le_refl s.heap.objs.size);have R:=I.laid (a:=s.heap.objs.size) (o:=.dK []) (h':=s.heap.push { cls:=.type "dict",data:=.dict #[] }) (t':=s.toks) (λ_ _ q=>Heap.get?_push_of_some _ q) (le_refl _) (rV s.heap I.big);refine wpAny_Dict_walk (knd:=br X.prog X.w) ac hl L ab (bU (h pins _ σ _ _ R (q _ hn)) λws s2 ad=>?_);obtain⟨ps,H2,F,O,e,kvs,ep,lk,Y⟩:=ad;subst ep;obtain⟨N,c,rk⟩:=lO (P:=X.prog) (w:=X.w) O;obtain⟨z,hd,am,U,dd⟩:=gv F.bJ e;cases U;refine⟨N,c,dd,λh' G hs=>⟨.ref s.heap.objs.size,_,?_,rfl,Y⟩⟩;have hz:(jM [] kvs).length<=sizeLine:=by
  have h1:=iG kvs [];rw[length_nil]at h1;rw[sizeLine_eq];omega
 have S:∃q,h'.get? s.heap.objs.size=some q:=let ⟨q,_,_,hq,_⟩:=G;⟨q,hq⟩;exact ju F (by rw[e];exact True.intro) hs S (mi hz hd (rk.merge .nil) G)
structure M1 (X:Cx) (o:Expr) (m:Str) (apos:Pos) (e:Expr) (cpos:Pos):Prop where
 base:attributeBase o m X.env (eval o X.env)=eval o X.env
 EU:((backTo cpos (starEach [e] X.env)).all (λx => !x.1)&&(backToKw cpos (keywordEach [] X.env)).all (λx=>x.1.isSome)
  && decide (([e]:List Expr).length+([]:List Keyword).length+(if ([]:List Keyword).isEmpty then 0 else 1)<30))=true
 line:(apos.endLine==cpos.line)=true
 trees:backTo cpos (starEach [e] X.env)=[(false,eval e X.env)]
structure M2 (X:Cx) (o:Expr) (m:Str) (apos:Pos) (e f:Expr) (cpos:Pos):Prop where
 base:attributeBase o m X.env (eval o X.env)=eval o X.env
 EU:((backTo cpos (starEach [e,f] X.env)).all (λx => !x.1)&&(backToKw cpos (keywordEach [] X.env)).all (λx=>x.1.isSome)
  && decide (([e,f]:List Expr).length+([]:List Keyword).length+(if ([]:List Keyword).isEmpty then 0 else 1)<30))=true
 line:(apos.endLine==cpos.line)=true
 trees:backTo cpos (starEach [e,f] X.env)=[(false,eval e X.env),(false,eval f X.env)]
noncomputable def EI (H:Hp) (a:Addr):Prop:=(∃kvs,Rd H a (.dK kvs))\/∃kvs,Rd H a (.dT kvs)
theorem jZ {X:Cx}{pins:List (Addr×Obj)}{σ:St}{H:Hp}{s:Shared}{a:Addr}(I:Inv X pins σ H s) (d:EI H a) :
  s.TypeIs (.ref a) "dict" /\ (∀b,Value.ref a=.ref b->∃F,s.heap.get? b=some F/\F.dict=none)/\(a==sysModules)=false:=by
 rcases d with⟨kvs,e⟩|⟨kvs,e⟩
 .obtain⟨_,hd,vs,_,G⟩:=jd I.bJ e;refine⟨G.typeIs,λb q=>?_,hd⟩;cases q;obtain⟨F,_,_,h1,h2,_⟩:=G;exact⟨F,h1,h2.2.1⟩
 .obtain⟨_,hd,xs,_,G⟩:=km I.bJ e;refine⟨G.typeIs,λb q=>?_,hd⟩;cases q;obtain⟨F,_,_,h1,h2,_⟩:=G;exact⟨F,h1,h2.2.1⟩
section
variable {X:Cx}{pins:List (Addr×Obj)}{σ:St}{H:Hp}{s:Shared}{a:Addr}{y d:V}{u r:Value}{o:Option V}{A:Around}{E:Value->Shared->Prop}
theorem Cq {Q:Value->Shared->Prop}(S:A.units+1<cLine) (I:Inv X pins σ H s) (g:dh H a y o) (N:RelV y u) (h:∀O s',Inv X pins σ H s'->RelV (o.getD .non) O->Q O s') :
  wpAny (model X.prog X.w) A (call (.builtin "dict.get") [.ref a,u]) Q E s:=by
 rcases g with⟨kvs,k,e,J,l⟩|⟨kvs,k,b,e,J,R,l⟩
 .subst J;obtain⟨z,hd,vs,L,G⟩:=jd I.bJ e;refine call_meetsIn slot_dict_get G.typeIs entry_dict_get (PySem.F.args_dict_get_2 _ _) (meets_dict_get (br X.prog X.w) a (iH N) hd) ⟨_,G.mapOf,h _ _ (I.tok _) ?_⟩;rw[l];exact(L.val k).getD rfl
 .subst J;cases(show u=Value.ref b from N);obtain⟨z,hd,xs,L,G⟩:=km I.bJ e;refine call_meetsIn slot_dict_get G.typeIs entry_dict_get (PySem.F.args_dict_get_2 _ _) (meetsH_dict_get (tupleKind (br X.prog X.w)) a b hd) ⟨tupleKind_room_in1 S,k,xs,iV I.bJ R,G,h _ _ (I.tok _) ?_⟩;rw[l];exact(L.val k).getD rfl
theorem Dt {Q:Value->Shared->Prop}(S:A.units+1<cLine) (I:Inv X pins σ H s) (g:dh H a y o) (N:RelV y u) (rd:RelV d r) (h:∀O s',Inv X pins σ H s'->RelV (o.getD d) O->Q O s') :
  wpAny (model X.prog X.w) A (call (.builtin "dict.get") [.ref a,u,r]) Q E s:=by
 rcases g with⟨kvs,k,e,J,l⟩|⟨kvs,k,b,e,J,R,l⟩
 .subst J;obtain⟨z,hd,vs,L,G⟩:=jd I.bJ e;refine call_meetsIn slot_dict_get G.typeIs entry_dict_get (PySem.F.args_dict_get_3 _ _ _) (meets_dict_get_default (br X.prog X.w) a (iH N) hd r) ⟨_,G.mapOf,h _ _ (I.tok _) ?_⟩;rw[l];exact(L.val k).getD rd
 .subst J;cases(show u=Value.ref b from N);obtain⟨z,hd,xs,L,G⟩:=km I.bJ e;refine call_meetsIn slot_dict_get G.typeIs entry_dict_get (PySem.F.args_dict_get_3 _ _ _) (meetsH_dict_get_default (tupleKind (br X.prog X.w)) a b hd r) ⟨tupleKind_room_in1 S,k,xs,iV I.bJ R,G,h _ _ (I.tok _) ?_⟩;rw[l];exact(L.val k).getD rd
end
inductive vi (td ty:TE) (σ:St) (Q:VK) (x:V) (H1:Hp):Prop
 |mk (a:_) (_:x=.ref a) (_:EI H1 a) (_:ty σ H1 λy H2=>∃o,dh H2 a y o/\Q (o.getD .non) H2):vi td ty σ Q x H1
noncomputable def CY (td ty:TE):TE:=λσ H Q=>td σ H λx H1=>vi td ty σ Q x H1
inductive vk (td ty tx:TE) (σ:St) (Q:VK) (x:V) (H1:Hp):Prop
 |mk (a:_) (_:x=.ref a) (_:EI H1 a) (_:ty σ H1 λy H2=>tx σ H2 λz H3=>∃o,dh H3 a y o/\Q (o.getD z) H3):vk td ty tx σ Q x H1
noncomputable def CG (td ty tx:TE):TE:=λσ H Q=>td σ H λx H1=>vk td ty tx σ Q x H1
inductive vN (td ty:TE) (σ:St) (Q:VK) (x:V) (H1:Hp):Prop
 |mk (a:_) (_:x=.ref a) (_:EI H1 a) (_:ty σ H1 λy H2=>∃kvs k v,H2 a=some (.dK kvs)/\y=kV k/\cq kvs k=some v/\Q v (upd H2 a (.dK (mL kvs k)))):vN td ty σ Q x H1
noncomputable def Dp (td ty:TE):TE:=λσ H Q=>td σ H λx H1=>vN td ty σ Q x H1
section
variable {X:Cx}{o e f:Expr}{apos cpos:Pos}{td ty tx:TE}
theorem zT (R:X.A.units+1<cLine) (ho:PE X o td) (O:PE X e ty) (m:M1 X o "get" apos e cpos):PE X (.Call (.Attribute o "get" apos) [e] [] cpos) (CY td ty):=by
 intro pins s σ H Q I h;refine wpAny_Call_method m.base m.EU m.line plainAttrs_dict slot_dict_get PySem.F.type_dict_get (bU (ho pins s σ H _ I h) λu N ac=>?_);obtain⟨x,H1,G,rx,a,ex,d,S⟩:=ac;subst ex;obtain rfl:u=Value.ref a:=rx;obtain⟨Y,t2,_⟩:=jZ G d;refine⟨Y,t2,?_⟩;rw[m.trees];refine Calls.callWith_builtin rfl (Calls.evalArgs_plain (Calls.spliced_cons (bU (O pins N σ H1 _ G S) λiv s2 ad=>?_)));obtain⟨y,H2,U,L,ov,g,q2⟩:=ad;refine Calls.spliced_nil ?_;exact Cq R U g L λw' s3 J ab=>⟨_,H2,J,ab,q2⟩
theorem jo (hu:X.A.units+1<cLine) (ho:PE X o td) (Y:PE X e ty) (hf:PE X f tx) (m:M2 X o "get" apos e f cpos):PE X (.Call (.Attribute o "get" apos) [e,f] [] cpos) (CG td ty tx):=by
 intro pins s σ H Q I h;refine wpAny_Call_method m.base m.EU m.line plainAttrs_dict slot_dict_get PySem.F.type_dict_get (bU (ho pins s σ H _ I h) λu U ab=>?_);obtain⟨x,H1,G,rx,a,ex,d,q1⟩:=ab;subst ex;obtain rfl:u=Value.ref a:=rx;obtain⟨t1,t2,_⟩:=jZ G d;refine⟨t1,t2,?_⟩;rw[m.trees];refine Calls.callWith_builtin rfl (Calls.evalArgs_plain (Calls.spliced_cons (bU (Y pins U σ H1 _ G q1) λiv N ⟨y,H2,I2,O,q2⟩ =>
  Calls.spliced_cons (bU (hf pins N σ H2 _ I2 q2) λfv s3 ⟨z,J,L,rz,ov,g,R⟩=>Calls.spliced_nil ?_))))
 exact Dt hu L g O rz λw' s4 S ac=>⟨_,J,S,ac,R⟩
theorem eg (ho:PE X o td) (S:PE X e ty) (m:M1 X o "pop" apos e cpos):PE X (.Call (.Attribute o "pop" apos) [e] [] cpos) (Dp td ty):=by
 intro pins s σ H Q I h;refine wpAny_Call_method m.base m.EU m.line plainAttrs_dict PySem.F.slot_dict_pop PySem.F.type_dict_pop (bU (ho pins s σ H _ I h) λu R J=>?_);obtain⟨x,H1,G,rx,a,ex,d,U⟩:=J;subst ex;obtain rfl:u=Value.ref a:=rx;obtain⟨t1,t2,_⟩:=jZ G d;refine⟨t1,t2,?_⟩;rw[m.trees];refine Calls.callWith_builtin rfl (Calls.evalArgs_plain (Calls.spliced_cons (bU (S pins R σ H1 _ G U) λiv s2 Y=>?_)));obtain⟨y,H2,I2,O,kvs,k,v,ea,N,l,q2⟩:=Y;refine Calls.spliced_nil ?_;subst N;exact E7 I2 ea O l (.inl rfl) λw' s3 L ab=>⟨v,_,L,ab,q2⟩
end
section
variable {X:Cx}{pins:List (Addr×Obj)}{σ:St}{H:Hp}{s:Shared}{a:Addr}{kvs:List (Key×V)}{A:Around}{E:Value->Shared->Prop}
end
section
variable {X:Cx}{pins:List (Addr×Obj)}{σ:St}{H:Hp}{s:Shared}{a:Addr}{y:V}{u:Value}{A:Around}{E:Value->Shared->Prop}
end
section
variable {X:Cx}
theorem jX:dr X (.builtin "len") (λxs H Q=>∃a kvs,xs=[V.ref a]/\H a=some (.dK kvs)/\Q (.int kvs.length) H):=by
 intro pins s σ H xs us Q I r h;obtain⟨a,kvs,rfl,J,q⟩:=h;obtain⟨u,rfl,F⟩:=vals1 r;cases F;exact DW I (.inl J) λt s' G=>⟨.int kvs.length,H,G,⟨t,rfl⟩,q⟩
end
section
variable {κ:Type} [DecidableEq κ]
theorem gf:∀{l:List κ}{k:κ},l.Nodup->¬ k∈l->(l++[k]).Nodup
 | [],k,_,_=>by simp
 |a::r,k,h,F=>by
  obtain⟨h1,h2⟩:=List.nodup_cons.mp h;show(a::(r++[k])).Nodup;refine List.nodup_cons.mpr ⟨λm=>?_,gf h2 λm=>F (List.mem_cons.mpr (Or.inr m))⟩;rcases List.mem_append.mp m with q|q
  .exact h1 q
  .exact F (List.mem_cons.mpr (Or.inl (List.mem_singleton.mp q).symm))
end
section
variable {X:Cx}{pins:List (Addr×Obj)}{σ:St}{H:Hp}{s:Shared}{a:Addr}{kvs:List (Key×V)}{k:Key}{u r:Value}{d:V}{A:Around}{E:Value->Shared->Prop}
theorem CL {Q:Value->Shared->Prop}(I:Inv X pins σ H s) (e:H a=some (.dK kvs)) (U:RelV (kV k) u) (rd:RelV d r) (hl:kvs.length<sizeLine)
  (h1:∀v L s',cq kvs k=some v->Inv X pins σ H s'->RelV v L->Q L s') (h2:∀s',cq kvs k=none->Inv X pins σ (upd H a (.dK (putK kvs k d))) s'->Q r s') :
  wpAny (model X.prog X.w) A (call (.builtin "dict.setdefault") [.ref a,u,r]) Q E s:=by
 obtain⟨z,hd,vs,G,O⟩:=gv I.bJ e;refine call_meetsIn PySem.F.slot_dict_setdefault O.typeIs PySem.F.entry_dict_setdefault (PySem.F.args_dict_setdefault_3 _ _ _) (kt_meets_setdefault (br X.prog X.w) a (iH U) hd r)
  ⟨vs,O,by rw[<-G.length];exact z,λv J=>?_,λY h' N hs=>?_⟩
 .have q:=G.val k;cases l:cq kvs k with
  |none=>rw[l]at q;rw[fm.none_of q]at J;cases J
  |some y =>
   rw[l]at q;obtain⟨L,R,ab⟩:=fm.some_of q;rw[J]at R;cases R;exact h1 y v _ l (I.tok _) ab
 .have l:cq kvs k=none:=by
   cases l:cq kvs k with
   |none=>rfl
   |some y =>
    have q:=G.val k;rw[l,Y]at q;cases q
  have he:∃q,h'.get? a=some q:=let ⟨q,_,_,S,_⟩:=N;⟨q,S⟩;exact h2 _ l (ju I (by rw[e];exact True.intro) hs he (mi (by have:=dG kvs k d;omega) hd (G.put k rd) N))
end
inductive vx (td ty tx:TE) (σ:St) (Q:VK) (x:V) (H1:Hp):Prop
 |mk (a:_) (_:x=.ref a) (_:EI H1 a) (_:ty σ H1 λy H2=>tx σ H2 λz H3=>∃kvs k,H3 a=some (.dK kvs)/\y=kV k/\kvs.length<sizeLine/\(∀v,cq kvs k=some v->Q v H3)/\(cq kvs k=none->Q z (upd H3 a (.dK (putK kvs k z))))):vx td ty tx σ Q x H1
noncomputable def Dz (td ty tx:TE):TE:=λσ H Q=>td σ H λx H1=>vx td ty tx σ Q x H1
section
variable {X:Cx}{o e f:Expr}{apos cpos:Pos}{td ty tx:TE}
theorem ze (ho:PE X o td) (he:PE X e ty) (hf:PE X f tx) (m:M2 X o "setdefault" apos e f cpos):PE X (.Call (.Attribute o "setdefault" apos) [e,f] [] cpos) (Dz td ty tx):=by
 intro pins s σ H Q I h;refine wpAny_Call_method m.base m.EU m.line plainAttrs_dict PySem.F.slot_dict_setdefault PySem.F.type_dict_setdefault (bU (ho pins s σ H _ I h) λu s1 ab=>?_);obtain⟨x,H1,J,rx,a,ex,d,q1⟩:=ab;subst ex;obtain rfl:u=Value.ref a:=rx;obtain⟨t1,t2,_⟩:=jZ J d;refine⟨t1,t2,?_⟩;rw[m.trees];refine Calls.callWith_builtin rfl (Calls.evalArgs_plain (Calls.spliced_cons (bU (he pins s1 σ H1 _ J q1) λiv S ⟨y,H2,I2,U,q2⟩ =>
  Calls.spliced_cons (bU (hf pins S σ H2 _ I2 q2) λfv s3 ⟨z,H3,O,L,kvs,k,ea,R,hl,Y,q4⟩=>Calls.spliced_nil ?_))))
 subst R;exact CL O ea U L hl (λv w' N l G ac=>⟨v,_,G,ac,Y v l⟩) λN l G=>⟨z,_,G,L,q4 l⟩
end
section
variable {X:Cx}{pins:List (Addr×Obj)}{σ:St}{H:Hp}{s:Shared}{a:Addr}{o:Obj}{u:HO}{kvs:List (Key×V)}
theorem Inv.swap {w:HO}(I:Inv X pins σ H s) (h:H a=some u) (h1:∀o G,X.H₀ a≠some (.frz o G)) (h2:∀xs,u≠.tup xs) (S:∀ps,u≠.tbl ps) (h4:∀x,u≠.own x) (new:bT X.prog X.w (upd H a w) s.heap a w):Inv X pins σ (upd H a w) s:=by
 have F:∀b,H b=none->b≠a:=λb q z=>(by rw[z,h]at q;cases q);refine⟨I.ok,I.os,I.bare,⟨I.base.keep,I.base.slot,λb o q N Y=>?_,I.base.there,λb xs q=>?_,λb o G q=>?_,λb ps q=>?_⟩,I.loc,I.cell,?_,λy c q=>?_,λp O=>?_,λb v q=>?_,I.len⟩
 .have z:=I.base.free b o q N Y;rw[ah (F b z)];exact z
 .have z:=I.base.qe b xs q;rw[ah (λe=>h2 xs (by rw[e,h]at z;exact Option.some.inj z))];exact z
 .have z:=I.base.mR b o G q;rw[ah (λe=>h1 o G (by rw[<-e];exact q))];exact z
 .obtain⟨U,z⟩:=I.base.p8 b ps q;exact⟨U,by rw[ah (λe=>S _ (by rw[e,h]at z;exact Option.some.inj z))];exact z⟩
 .rw[ah (F _ I.free)];exact I.free
 .rw[ah (F _ (I.gy y c q))];exact I.gy y c q
 .obtain⟨a1,J,R⟩:=I.pin p O;exact⟨a1,by rw[ah (F _ J)];exact J,R⟩
 .by_cases L:b=a
  .subst L;rw[ae]at q;cases q;exact new
  .rw[ah L]at q;exact(I.bJ b v q).p9 (λ_ _ _ z=>z) (λc z=>by rw[ah (λe=>h4 b (by rw[e,h]at z;exact Option.some.inj z))];exact z) λc xs z=>by rw[ah (λe=>h2 xs (by rw[e,h]at z;exact Option.some.inj z))];exact z
theorem Inv.freeze (I:Inv X pins σ H s) (h:H a=some (.dK kvs)) (F:s.heap.get? a=some o) (h1:∀o G,X.H₀ a≠some (.frz o G)):Inv X pins σ (upd H a (.frz o (.dK kvs))) s :=
 I.swap h h1 (λ_ z=>nomatch z) (λ_ z=>nomatch z) (λ_ z=>nomatch z) ⟨F,(show bT X.prog X.w H s.heap a (.dK kvs)from I.bJ a _ h)⟩
theorem Inv.Ce (I:Inv X pins σ H s) (h:H a=some (.frz o (.dK kvs))) (h1:∀o F,X.H₀ a≠some (.frz o F)):Inv X pins σ (upd H a (.dK kvs)) s :=
 I.swap h h1 (λ_ z=>nomatch z) (λ_ z=>nomatch z) (λ_ z=>nomatch z) (show bT X.prog X.w H s.heap a (.frz o (.dK kvs))from I.bJ a _ h).2
end
noncomputable def xw (o:Obj):Nat:=match o.data with
 |.dict _ ep=>ep
 |_=>0
noncomputable def Dg (a:Addr) (o:Obj) (kvs:List (Key×V)):It :=
 ⟨λi H=>H a=some (.frz o (.dK kvs))/\i<kvs.length,λi H x H'=>H'=H/\∃k v,kvs[i]?=some (k,v)/\x=kV k,λi H=>H a=some (.frz o (.dK kvs))/\kvs.length<=i⟩
theorem qz {P:Program}{w:World}{k:Key}{u:Value}(h:(br P w).is k u=true):RelV (kV k) u:=by
 rcases cm (show lN k u=true from h)with⟨i,t,rfl,rfl⟩|⟨x,t,rfl,rfl⟩
 .exact⟨t,rfl⟩
 .exact⟨t,rfl⟩
theorem jN {P:Program}{w:World}{H:Hp}{h:Heap}{a:Addr}{o:Obj}{kvs:List (Key×V)}(ok:iT P w H h) (e:H a=some (.frz o (.dK kvs))):(a==sysModules)=false/\∃vs,KV kvs vs/\h.DictAt (br P w) a vs (xw o):=by
 obtain⟨F,_,hd,vs,r,o',es,ep,h1,h2,G,J⟩:=(show bT P w H h a (.frz o (.dK kvs))from ok a _ e);rw[F]at h1;cases h1;have I:xw o=ep:=(by unfold xw;rw[G]);exact⟨hd,vs,r,o,es,F,h2,by rw[I];exact G,J⟩
theorem wF {P:Program}{w:World}{K:PySem.W.Frag}{tg:Expr}(a F:Addr) (aB:a≠F) (o:Obj) (kvs:List (Key×V)):Turn P w K tg (Dg a o kvs) [F] F (λi h=>h.IsKeyIter F a i kvs.length (xw o)) where
 mem:=by simp
 obj:=λi h st b G=>by
  have e:b=F:=(by simpa using G);subst e;obtain⟨ob,h1,_,N⟩:=st;exact⟨ob,h1,λv z=>by rw[N]at z;cases z⟩
 keep:=λi h h' st k=>st.at λo e=>k F (by simp) o e
 item:=by
  intro X L hw hK hc i pins s σ H E I J st hg;subst L hw hK;obtain⟨ab,ac⟩:=hg;obtain⟨f0,S,f2,O,R,f5⟩:=J F (by simp);obtain⟨hd,vs,r,U⟩:=jN I.bJ ab;have Y:=r.length;obtain⟨⟨k,x⟩,hx⟩:∃p,vs[i]?=some p:=⟨vs[i]'af,by simp⟩;have as:∃v,kvs[i]?=some (k,v):=by
   have hi:i<kvs.length:=ac;refine⟨(kvs[i]).2,?_⟩;have e:=r.keys;have e1:(kvs.map (·.1))[i]?=(vs.map (·.1))[i]?:=(by rw[e]);rw[getElem?_map,getElem?_map,hx,getElem?_eq_getElem hi]at e1;have e2:kvs[i].1=k:=Option.some.inj e1;rw[getElem?_eq_getElem hi, <-e2]
  obtain⟨v,hv⟩:=as;rw[Y]at st ⊢;refine wpAny_pyNext_dict_item st U hx λaT h' ap ad am=>?_;have I1:Inv X pins σ H { s with heap:=h',toks:=s.toks }:=I.turned (λb o G e=>(am.2 b G).trans e) f0 S O R f5;obtain⟨ob,h1,h2,N⟩:=id ad;exact⟨_,rfl,nX (s:={ s with heap:=h' }) (n := "dict_keyiterator") h1 h2 N av ⟨kV k,H,I1,qz ap,⟨rfl,k,v,hv,rfl⟩,ad,λb G=>(J b G).1⟩⟩
 done:=by
  intro X L hw hK hc i pins s σ H E I J st hg;subst L hw hK;obtain⟨ab,ac⟩:=hg;obtain⟨f0,S,f2,O,R,f5⟩:=J F (by simp);obtain⟨hd,vs,r,U⟩:=jN I.bJ ab;have Y:=r.length;rw[Y]at st;exact wpAny_pyNext_dict_end (I.ok.hd hc) st U (by simp;omega) λh' eb=>⟨rfl,I.turned (t':=s.toks) (λb o G e=>eb b o G e) f0 S O R f5⟩
 self:=λ_ _ _ _ _ st h=>wpAny_pyIter_keyiter st h
noncomputable def DU (H₀:Hp) (td:TE):TI:=λσ H R=>td σ H λx H1=>xy λa kvs=>DH (x=.ref a) (H1 a=some (.dK kvs)) ((∀o F,H₀ a≠some (.frz o F))) (∀o,R (Dg a o kvs) (upd H1 a (.frz o (.dK kvs))))
section
variable {X:Cx}{tg:Expr}
theorem vc {l:Expr}{td:TE}(hl:PE X l td):PI X tg l (DU X.H₀ td):=by
 intro pins s σ H R I h;refine bU (hl pins s σ H _ I h) λv F O=>?_;obtain⟨x,H1,L,S,a,kvs,e,N,hn,q⟩:=O;subst e;cases S;obtain⟨_,hd,vs,U,dd⟩:=gv L.bJ N;obtain⟨G,es,ep,h1,h2,Y,h4⟩:=id dd;have J:=L.freeze N h1 hn;have lt:a<F.heap.objs.size:=Heap.lt_size h1;have da:F.heap.DictAt (br X.prog X.w) a vs (xw G):=⟨G,es,h1,h2,by unfold xw;rw[Y],h4⟩;refine wpAny_pyIter_dict hd da ?_;refine⟨F.heap.objs.size,[F.heap.objs.size],_,Dg a G kvs,_,rfl,J.kept (t':=F.toks) λb o e=>Heap.get?_push_of_some _ e,wF a _ (ne_of_lt lt) G kvs,⟨_,Heap.get?_push_size _ rfl,rfl,?_⟩,λb hb=>?_,q G⟩
 .rw[U.length];rfl
 .have e:b=F.heap.objs.size:=(by simpa using hb);subst e;exact J.js (le_refl _) (J.bJ.fresh (le_refl _))
noncomputable def Ex (H₀:Hp) (t:TS):TS:=λD σ H=>t { D with
 nx:=λG H'=>∃a o kvs,H' a=some (.frz o (.dK kvs))/\(∀o F,H₀ a≠some (.frz o F))/\D.nx G (upd H' a (.dK kvs))
 rt:=λv H'=>∃a o kvs,H' a=some (.frz o (.dK kvs))/\(∀o F,H₀ a≠some (.frz o F))/\D.rt v (upd H' a (.dK kvs)) } σ H
theorem kO {st:Stmt}{t:TS}(h:PS X st t):PS X st (Ex X.H₀ t):=by
 intro pins s σ H D I q;refine bU (h pins s σ H _ I q) λf O F=>?_;cases f with
 |next =>
  obtain⟨G,H',L,a,o,kvs,N,J,q'⟩:=F;exact⟨G,_,L.Ce N J,q'⟩
 |ret u =>
  obtain⟨v,G,H',L,r,a,o,kvs,N,J,q'⟩:=F;exact⟨v,G,_,L.Ce N J,r,q'⟩
 |brk=>exact F
 |cont=>exact F
end
theorem zC {a:Addr}{o:Obj}{kvs:List (Key×V)}{g:TG}{tb:TS}{D:Ends}{σ:St}{H:Hp}(Pv:Nat->St->Hp->Prop) (L:Pv 0 σ H) (S:∀i σ H,i<=kvs.length->Pv i σ H->H a=some (.frz o (.dK kvs)))
  (hs:∀i k v σ H,kvs[i]?=some (k,v)->Pv i σ H->g (kV k) σ H λG H2=>tb { D with nx:=Pv (i+1),ct:=Pv (i+1),bk:=D.nx } G H2) (hd:∀σ H,Pv kvs.length σ H->D.nx σ H) :
  ∃W:Nat->Nat->St->Hp->Prop,(∃m,W 0 m σ H)/\∀i m σ H,W i m σ H ->
   ((Dg a o kvs).stop i H/\D.nx σ H)\/((Dg a o kvs).go i H/\∃N:St->Hp->Prop,(∀F H',N F H'->∃I,I<m/\W (i+1) I F H')/\∀x H',(Dg a o kvs).Ak i H x H'->g x σ H' λG H2=>tb { D with nx:=N,ct:=N,bk:=D.nx } G H2):=by
 refine⟨λi m σ H=>m=kvs.length-i/\i<=kvs.length/\Pv i σ H,⟨kvs.length,by simp,zero_le _,L⟩,?_⟩;rintro i m σ H ⟨rfl,hi,p⟩;have q:=S i σ H hi p;by_cases J:i<kvs.length
 .refine .inr ⟨⟨q,J⟩,Pv (i+1),λF H' R=>⟨kvs.length-(i+1),af,rfl,J,R⟩,λx H' y=>?_⟩;obtain⟨e,k,v,O,ex⟩:=y;subst e ex;exact hs i k v σ _ O p
 .have e:i=kvs.length:=af;subst e;exact .inl ⟨⟨q,le_refl _⟩,hd σ H p⟩
section
variable {X:Cx}
end
noncomputable def CH (lo st:Int) (n:Nat):It:=⟨λi _=>i<n,λi H x H'=>H'=H/\x=.int (lo+i*st),λi _=>n<=i⟩
theorem qP {P:Program}{w:World}{K:PySem.W.Frag}{tg:Expr}(F:Addr) (lo st:Int) (n:Nat):Turn P w K tg (CH lo st n) [F] F (λi h=>IsRangeIter h F (lo+(i:Nat)*st) ((n:Int)-(i:Nat)) st) where
 mem:=by simp
 obj:=λi h st b G=>by
  have e:b=F:=(by simpa using G);subst e;exact⟨_,st,λv z=>by
   have z':Data.fields _=Data.cell v:=z;cases z'⟩
 keep:=λi h h' st k=>k F (by simp) _ st
 item:=by
  intro X L hw hK N i pins s σ H E I J R hg;subst L hw hK;obtain⟨Y,U,f2,O,S,f5⟩:=J F (by simp);have W:=Walks.range (prog:=X.prog) (w:=X.w) (I.ok.hd N) F lo st n;refine W.item i s _ _ hg R λv h' tk hv ab kk=>?_;obtain⟨t,rfl⟩:=hv;have I1:Inv X pins σ H { s with heap:=h',toks:=tk }:=I.turned (λb o G e=>kk b o (by simpa using G) e) Y U O S f5;exact⟨_,rfl,nX (s:={ s with heap:=h',toks:=tk }) (n := "range_iterator") ab rfl rfl av ⟨.int (lo+i*st),H,I1,⟨t,rfl⟩,⟨rfl,rfl⟩,ab,λb G=>(J b G).1⟩⟩
 done:=by
  intro X L hw hK N i pins s σ H E I J R hg;subst L hw hK;obtain⟨Y,U,f2,O,S,f5⟩:=J F (by simp);exact wpAny_pyNext_range_end (I.ok.hd N) R (by have:n<=i:=hg;omega) λh' eb=>⟨rfl,I.turned (t':=s.toks) (λb o G e=>eb b o G e) Y U O S f5⟩
 self:=λ_ _ _ _ _ st h=>wpAny_pyIter_rangeiter st h
noncomputable def EE (ta:TA):TI:=λσ H R=>ta σ H λvs H1=>∃(i j st:Int) (n:Nat),vs=[.int i,.int j,.int st]/\Builtin.Range.small i j st=true/\Builtin.Range.rangeSize i j st=(n:Int)/\st≠0/\Builtin.divisionGoesByPylong (j-i) st=false/\R (CH i st n) H1
section
variable {X:Cx}{tg:Expr}
theorem xc {a b c:Expr}{ta:TA}{p pos:Pos}(hg:Gl X "range") (hm:X.mg "range" = none) (ha:PA X [a,b,c] ta) (hs:starEach [a,b,c] X.env=[(false,eval a X.env),(false,eval b X.env),(false,eval c X.env)]:=by rfl) (N:starEach [b,c] X.env=[(false,eval b X.env),(false,eval c X.env)]:=by rfl) :
  PI X tg (.Call (.Name "range" p) [a,b,c] [] pos) (EE ta):=by
 intro pins s σ H R I h;refine Call_ (gW I hg hm boot_range (PyProof.Rows.callWith_type1 (bU (ha pos pins s σ H _ I h) λus G ⟨vs,H1,I1,S,J⟩=>?_) (by rw[hs,N]) (by rw[N];rfl)));obtain⟨i,j,st,n,e,J,q2,U,q4,q⟩:=J;subst e;cases S with
 |cons r F =>
  cases F with
  |cons Y F =>
   cases F with
   |cons ab F =>
    cases F;obtain⟨t,rfl⟩:=r;obtain⟨t',rfl⟩:=Y;obtain⟨ac,rfl⟩:=ab;refine call_range_3 U ?_ (.inl q4);refine wpAny_pyIter_range (IsRange.new ..) J ?_;have L:Inv X pins σ H1 { G with heap:=G.heap.push { cls:=.type "range",data:=.fields #[.int i t,.int j t',.int st ac] },toks:=G.toks }:=I1.kept λb o e=>Heap.get?_push_of_some _ e;refine⟨_,[_],_,_,H1,rfl,L.kept (t':=G.toks) λb o e=>Heap.get?_push_of_some _ e,qP _ i st n,?_,λb hb=>?_,q⟩
    .have e1:i+((0:Nat):Int)*st=i:=(by simp);have O:(n:Int)-((0:Nat):Int)=Builtin.Range.rangeSize i j st:=(by rw[q2];omega);show IsRangeIter _ _ (i+((0:Nat):Int)*st) ((n:Int)-((0:Nat):Int)) st;rw[e1,O];exact Heap.get?_push_size _ rfl
    .have e:=List.mem_singleton.mp hb;subst e;exact L.js (le_refl _) (L.bJ.fresh (le_refl _))
end
theorem zP (K:PySem.W.Frag):kitOne K (.type "int") (.type "tuple")=some false:=by with_unfolding_all rfl
theorem xZ (K:PySem.W.Frag):kitOne K (.type "int") (.type "list")=some false:=by with_unfolding_all rfl
theorem yI (K:PySem.W.Frag):kitOne K (.type "int") (.type "dict")=some false:=by with_unfolding_all rfl
theorem zD (K:PySem.W.Frag):kitOne K (.type "str") (.type "tuple")=some false:=by with_unfolding_all rfl
theorem y7 (K:PySem.W.Frag):kitOne K (.type "str") (.type "list")=some false:=by with_unfolding_all rfl
theorem zH (K:PySem.W.Frag):kitOne K (.type "str") (.type "dict")=some false:=by with_unfolding_all rfl
theorem yS (K:PySem.W.Frag):kitOne K (.type "NoneType") (.type "tuple")=some false:=by with_unfolding_all rfl
theorem zL (K:PySem.W.Frag):kitOne K (.type "NoneType") (.type "list")=some false:=by with_unfolding_all rfl
theorem yt (K:PySem.W.Frag):kitOne K (.type "NoneType") (.type "dict")=some false:=by with_unfolding_all rfl
theorem DA (K:PySem.W.Frag):kitOne K (.type "tuple") (.type "tuple")=some true:=rfl
end L2
namespace Srt
open PySem PyProof.Rows
structure SI (a₀:Array Keyed) (st:SortSt):Prop where
 perm:(arrOf st).Perm a₀
 kind:kindOf st=oneType'
 failed:failedOf st=none
structure Ks (a₀:Array Keyed):Prop where
 ik:IntKeys a₀
 nd:(a₀.toList.map λp=>numOf p.1).Nodup
noncomputable def j8 (xs:Array Keyed) (lo hi:Nat):Prop:=∀i j,lo<=i->i<=j->j<hi->K xs i<=K xs j
theorem SI.size {a₀:Array Keyed}{st:SortSt}(h:SI a₀ st):(arrOf st).size=a₀.size:=h.perm.size_eq
theorem uW {a₀ xs:Array Keyed}(I:xs.Perm a₀) (k:Ks a₀) {i:Nat}(hi:i<xs.size):∃t q,xs[i]?=some (.int (K xs i) t,q):=by
 have J:xs[i]∈a₀.toList:=(Array.perm_iff_toList_perm.mp I).mem_iff.mp (by simp);obtain⟨n,t,G⟩:=k.ik _ J;have e:xs[i]?=some xs[i]:=getElem?_pos _ i hi;have F:xs[i]=(.int n t,xs[i].2):=Prod.ext G rfl;refine⟨t,xs[i].2,?_⟩;unfold K;rw[e,F];rfl
theorem key_ne {a₀ xs:Array Keyed}(J:xs.Perm a₀) (k:Ks a₀) {i j:Nat}(hi:i<j) (F:j<xs.size):K xs i≠K xs j:=by
 have I:=(Array.perm_iff_toList_perm.mp J).map λp:Keyed=>numOf p.1;have G:(xs.toList.map λp=>numOf p.1).Nodup:=I.nodup_iff.mpr k.nd;have h1:i<xs.size:=af;have a:=List.pairwise_iff_getElem.mp G i j (by simpa using h1) (by simpa using F) hi;unfold K;rw[getElem?_pos xs i h1,getElem?_pos xs j F];simpa using a
theorem SI.setArr {a₀:Array Keyed}{st:SortSt}(h:SI a₀ st) {xs:Array Keyed}(F:xs.Perm (arrOf st)):SI a₀ (setArr st xs):=⟨F.trans h.perm,h.kind,h.failed⟩
section
variable {prog:Program}{w:World}{A:Around}{E:Value->Shared->Prop}{s:Shared}{a₀:Array Keyed}
theorem qg {st:SortSt}{x y:Keyed}{a b:Int}{t u:Tok}{Q:Option Bool->SortSt->Prop}(I:kindOf st=oneType') (G:x.1=.int a t) (F:y.1=.int b u) (h:Q (some (decide (a<b))) st) :
  wpS (model prog w) A E s (lt' x y) Q st:=by
 rw[lt'_eq];refine wpS_bind (wpS_get ?_);rw[I,keyLt'_oneType,G,F];exact wpS_bind (wpS_lift (wpAny_attempt (oneLt_int ⟨rfl,wpS_pure h⟩)))
theorem bt {st:SortSt}{xs:Array Keyed}{i:Nat}{p:Keyed}{Q:Keyed->SortSt->Prop}(hi:xs[i]?=some p) (h:Q p st):wpS (model prog w) A E s (elem' xs i) Q st:=by
 rw[elem'_eq,hi];exact wpS_pure h
theorem nY {st:SortSt}{i j:Nat}{Q:Option Bool->SortSt->Prop}(S:SI a₀ st) (k:Ks a₀) (hi:i<a₀.size) (I:j<a₀.size) (h:Q (some (decide (K (arrOf st) i<K (arrOf st) j))) st) :
  wpS (model prog w) A E s (ltAt' i j) Q st:=by
 obtain⟨t,p,G⟩:=uW S.perm k (by rw[S.size];exact hi);obtain⟨u,q,F⟩:=uW S.perm k (by rw[S.size];exact I);exact wpS_ltAt S.kind G F h
structure Cut (a₀:Array Keyed) (st st':SortSt) (lo:Nat):Prop where
 S:SI a₀ st'
 pre:∀i,i<lo->(arrOf st')[i]?=(arrOf st)[i]?
 pend:pendingOf st'=pendingOf st
theorem xQ {st:SortSt}{lo nrem:Nat}{Q:Option Nat->SortSt->Prop}(S:SI a₀ st) (k:Ks a₀) (hn:lo+nrem<=a₀.size) (h1:1<=nrem)
  (h:∀m F,Cut a₀ st F lo->1<=m->m<=nrem->j8 (arrOf F) lo (lo+m)->Q (some m) F):wpS (model prog w) A E s (countRun' lo nrem) Q st:=by
 rw[countRun'_eq];refine wpS_bind (wpS_mono (wpS_forRange (I:=λx c F=>qF (F=st) (c=(none,x)) (j8 (arrOf st) lo (lo+x))) (Q:=λc F=>F=st/\∃n,c=(none,n)/\1<=n/\n<=nrem/\j8 (arrOf st) lo (lo+n)/\(n=nrem\/K (arrOf st) (lo+n)<K (arrOf st) (lo+n-1))) ?_ ?_ ?_) ?_)
 .rintro x c F Y ac ⟨rfl,rfl,hs⟩;dsimp only;refine wpS_bind (nY S k af af ?_);by_cases c:K (arrOf F) (lo+x)<K (arrOf F) (lo+x-1)
  .simp only[c,decide_true,if_true];exact wpS_pure ⟨rfl,x,rfl,Y,af,hs,.inr c⟩
  .simp only[c,decide_false,Bool.false_eq_true,if_false];refine wpS_pure ⟨rfl,rfl,λi j hi L O=>?_⟩;by_cases z:j<lo+x
   .exact hs i j hi L z
   .by_cases R:i=j
    .rw[R];exact Int.le_refl _
    .have:=hs i (lo+x-1) hi af af;have N:j=lo+x:=af;rw[N];lia
 .rintro c F ⟨rfl,rfl,hs⟩;rw[show max 1 nrem=nrem by lia]at hs ⊢;exact⟨rfl,nrem,rfl,h1,le_refl _,hs,.inl rfl⟩
 .exact⟨rfl,rfl,λi j hi L O=>by rw[show i=j by lia];exact Int.le_refl _⟩
 .rintro c F ⟨rfl,n,rfl,n1,n2,hs,ad⟩;dsimp only;by_cases e:n=nrem
  .rw[if_pos (by simpa using e)];exact wpS_pure (h n F ⟨S,λ_ _=>rfl,rfl⟩ n1 n2 hs)
  .rw[if_neg (by simpa using e)];have ap:=ad.resolve_left e;by_cases g:n>1
   .rw[if_pos g];refine wpS_bind (nY S k af af ?_);have r:K (arrOf F) lo<K (arrOf F) (lo+n-1):=by
     have a:=hs lo (lo+n-1) (le_refl _) af (by omega +splitNatSub);have b:=key_ne S.perm k (i:=lo) (j:=lo+n-1) (by omega +splitNatSub) (by rw[S.size];lia);lia
    simp only[r,decide_true,if_true];exact wpS_pure (h n F ⟨S,λ_ _=>rfl,rfl⟩ n1 n2 hs)
   .rw[if_neg g];have e1:n=1:=af;subst e1;refine wpS_bind (wpS_lift (wpAny_rule ⟨rfl,?_⟩));have am:∀i j,lo<=i->i<=j->j<lo+2->K (arrOf F) j<=K (arrOf F) i:=λi j hi L O=>by
     by_cases z:i=j
     .rw[z];exact Int.le_refl _
     .have ei:i=lo:=af;have N:j=lo+1:=af;rw[ei,N];exact Int.le_of_lt ap
    refine wpS_bind (wpS_mono (wpS_forRange (I:=λx c G=>qF (G=F) (c=(none,x,0)) (∀i j,lo<=i->i<=j->j<lo+x->K (arrOf F) j<=K (arrOf F) i)) (Q:=λc G=>G=F/\∃n,c=(none,n,0)/\2<=n/\n<=nrem/\∀i j,lo<=i->i<=j->j<lo+n->K (arrOf F) j<=K (arrOf F) i) ?_ ?_ ?_) ?_)
    .rintro x c G Y ac ⟨rfl,rfl,hd⟩;dsimp only;refine wpS_bind (nY S k af af ?_);by_cases c:K (arrOf G) (lo+x)<K (arrOf G) (lo+x-1)
     .simp only[c,decide_true,if_true];rw[if_neg af];refine wpS_pure ⟨rfl,rfl,λi j hi L O=>?_⟩;by_cases z:j<lo+x
      .exact hd i j hi L z
      .by_cases R:i=j
       .rw[R];exact Int.le_refl _
       .have:=hd i (lo+x-1) hi af af;have N:j=lo+x:=af;rw[N];lia
     .simp only[c,decide_false,Bool.false_eq_true,if_false];refine wpS_bind (nY S k af af ?_);have r:K (arrOf G) (lo+x-1)<K (arrOf G) (lo+x):=by
       have b:=key_ne S.perm k (i:=lo+x-1) (j:=lo+x) (by omega +splitNatSub) (by rw[S.size];lia);lia
      simp only[r,decide_true,if_true];exact wpS_pure ⟨rfl,x,rfl,Y,af,hd⟩
    .rintro c G ⟨rfl,rfl,hd⟩;rw[show max (1+1) nrem=nrem by lia]at hd ⊢;exact⟨rfl,nrem,rfl,af,le_refl _,hd⟩
    .exact⟨rfl,rfl,am⟩
    .rintro c G ⟨rfl,n,rfl,m1,m2,hd⟩;dsimp only;rw[if_neg af];refine wpS_bind (wpS_reverse ?_);have hsz:lo+n<=(arrOf G).size:=(by rw[S.size];lia);have S3:=S.setArr (mirror_perm (arrOf G) lo (lo+n) ((lo+n-lo)/2));have C3:Cut a₀ G (setArr G (mirror (arrOf G) lo (lo+n) ((lo+n-lo)/2))) lo:=by
      refine⟨S3,λi hi=>?_,rfl⟩;show(mirror (arrOf G) lo (lo+n) ((lo+n-lo)/2))[i]?=_;rw[getElem?_mirror_all hsz,if_neg af]
     have ab:j8 (arrOf (setArr G (mirror (arrOf G) lo (lo+n) ((lo+n-lo)/2)))) lo (lo+n):=λi j hi L O=>by
      show K (mirror (arrOf G) lo (lo+n) ((lo+n-lo)/2)) i<=K (mirror (arrOf G) lo (lo+n) ((lo+n-lo)/2)) j;rw[K_mirror hsz,K_mirror hsz,if_pos af,if_pos af];exact hd _ _ (by omega +splitNatSub) (by omega +splitNatSub) (by omega +splitNatSub)
     generalize setArr G (mirror (arrOf G) lo (lo+n) ((lo+n-lo)/2))=U at S3 C3 ab ⊢;refine wpS_bind (wpS_mono (wpS_forRange (I:=λx c J=>qF (J=U) (c=(none,x)) (j8 (arrOf U) lo (lo+x))) (Q:=λc J=>J=U/\∃m,c=(none,m)/\1<=m/\m<=nrem/\j8 (arrOf U) lo (lo+m)) ?_ ?_ ?_) ?_)
     .rintro x c J Y ac ⟨rfl,rfl,hs⟩;dsimp only;refine wpS_bind (nY S3 k af af ?_);by_cases c:K (arrOf J) (lo+x)<K (arrOf J) (lo+x-1)
      .simp only[c,decide_true,if_true];exact wpS_pure ⟨rfl,x,rfl,af,af,hs⟩
      .simp only[c,decide_false,Bool.false_eq_true,if_false];refine wpS_pure ⟨rfl,rfl,λi j hi L O=>?_⟩;by_cases z:j<lo+x
       .exact hs i j hi L z
       .by_cases R:i=j
        .rw[R];exact Int.le_refl _
        .have:=hs i (lo+x-1) hi af af;have N:j=lo+x:=af;rw[N];lia
     .rintro c J ⟨rfl,rfl,hs⟩;rw[show max n nrem=nrem by lia]at hs ⊢;exact⟨rfl,nrem,rfl,h1,le_refl _,hs⟩
     .exact⟨rfl,rfl,ab⟩
     .rintro c J ⟨rfl,m,rfl,q1,q2,hs⟩;exact wpS_pure (h m J C3 q1 q2 hs)
theorem yP {st:SortSt}{lo n ok:Nat}{Q:Bool->SortSt->Prop}(S:SI a₀ st) (k:Ks a₀) (hn:lo+n<=a₀.size) (h1:1<=ok) (bJ:ok<=n) (hs:j8 (arrOf st) lo (lo+ok))
  (h:∀F,Cut a₀ st F lo->j8 (arrOf F) lo (lo+n)->Q true F):wpS (model prog w) A E s (binarySort' lo n ok) Q st:=by
 rw[binarySort'_eq];refine wpS_bind (wpS_mono (wpS_forRange (I:=λx c F=>qF (c=(none,())) (Cut a₀ st F lo) (j8 (arrOf F) lo (lo+x))) (Q:=λc F=>qF (c=(none,())) (Cut a₀ st F lo) (j8 (arrOf F) lo (lo+n))) ?_ ?_ ?_) ?_)
 .rintro x c F as aB ⟨rfl,C,J⟩;have U:lo+x<(arrOf F).size:=(by rw[C.S.size];lia);refine wpS_bind (wpS_mono (wpS_forRange (I:=λy c G=>G=F/\∃l r,c=(none,l,r)/\l<=r/\r<=x/\r-l<=x-y/\(∀i,lo<=i->i<lo+l->K (arrOf F) i<=K (arrOf F) (lo+x))/\∀i,lo+r<=i->i<lo+x->K (arrOf F) (lo+x)<K (arrOf F) i)
   (Q:=λc G=>G=F/\∃l,c=(none,l,l)/\l<=x/\(∀i,lo<=i->i<lo+l->K (arrOf F) i<=K (arrOf F) (lo+x))/\∀i,lo+l<=i->i<lo+x->K (arrOf F) (lo+x)<K (arrOf F) i) ?_ ?_ ?_) ?_)
  .rintro y c G am ap ⟨rfl,l,r,rfl,lr,R,hm,N,L⟩;dsimp only;by_cases g:l>=r
   .rw[if_pos g];obtain rfl:l=r:=af;exact wpS_pure ⟨rfl,l,rfl,R,N,L⟩
   .rw[if_neg g];refine wpS_bind (nY C.S k af af ?_);by_cases c:K (arrOf G) (lo+x)<K (arrOf G) (lo+(l+r)/2)
    .simp only[c,decide_true,if_true];refine wpS_pure ⟨rfl,l,(l+r)/2,rfl,af,af,by omega +splitNatSub,N,λi hi ac=>?_⟩;have:=J (lo+(l+r)/2) i af hi (by omega +splitNatSub);lia
    .simp only[c,decide_false,Bool.false_eq_true,if_false];refine wpS_pure ⟨rfl,(l+r)/2+1,r,rfl,af,by omega +splitNatSub,by omega +splitNatSub,λi hi ac=>?_,L⟩;have:=J i (lo+(l+r)/2) hi af af;lia
  .rintro c G ⟨rfl,l,r,rfl,lr,R,hm,N,L⟩;obtain rfl:l=r:=af;exact⟨rfl,l,rfl,R,N,L⟩
  .exact⟨rfl,0,x,rfl,af,af,af,λi hi ab=>by lia,λi hi ab=>by lia⟩
  .rintro c G ⟨rfl,l,rfl,lx,N,L⟩;dsimp only;rw[moveDown'_eq];refine wpS_bind (wpS_modify (wpS_pure ⟨rfl,⟨C.S.setArr (bubble_perm _ _ _),λi hi=>?_,C.pend⟩,λi j hi ad hj=>?_⟩))
   .show(bubble (arrOf G) (lo+x) (lo+x-(lo+l)))[i]?=_;rw[getElem?_bubble U _ (by omega +splitNatSub),if_neg (by omega +splitNatSub),if_neg (by omega +splitNatSub)];exact C.pre i hi
   .show K (bubble (arrOf G) (lo+x) (lo+x-(lo+l))) i<=K (bubble (arrOf G) (lo+x) (lo+x-(lo+l))) j;rw[K_bubble U af,K_bubble U af,show lo+x-(lo+x-(lo+l))=lo+l by lia];by_cases c1:i=lo+l
    .rw[if_pos c1];by_cases O:j=lo+l
     .rw[if_pos O];exact Int.le_refl _
     .rw[if_neg O,if_pos af];have:=L (j-1) af af;lia
    .rw[if_neg c1];by_cases O:j=lo+l
     .rw[if_pos O,if_neg af];exact N i hi af
     .rw[if_neg O];by_cases c3:lo+l<i/\i<=lo+x
      .rw[if_pos c3,if_pos af];exact J _ _ af (by omega +splitNatSub) (by omega +splitNatSub)
      .rw[if_neg c3];by_cases Y:lo+l<j/\j<=lo+x
       .rw[if_pos Y];exact J _ _ (by omega +splitNatSub) af af
       .rw[if_neg Y];exact J _ _ (by omega +splitNatSub) (by omega +splitNatSub) af
 .rintro c F ⟨rfl,C,J⟩;rw[show max (max ok 1) n=n by lia]at J;exact⟨rfl,C,J⟩
 .rw[show max ok 1=ok by lia];exact⟨rfl,⟨S,λ_ _=>rfl,rfl⟩,hs⟩
 .rintro c F ⟨rfl,C,J⟩;exact wpS_pure (h F C J)
end
noncomputable def Ao:Bool->Keyed->Array Keyed->Nat->Nat->Nat->StateT SortSt Sem (Option Nat):=sortPriv% PySem.Builtin.gallop
noncomputable def fA (left:Bool) (a:Int) (xs:Array Keyed) (base i:Nat):Bool:=if left then decide (K xs (base+i)<a)else !decide (a<K xs (base+i))
section
variable {prog:Program}{w:World}{A:Around}{E:Value->Shared->Prop}{s:Shared}{a₀:Array Keyed}
noncomputable def oY (left:Bool) (F:Keyed) (xs:Array Keyed) (base i:Nat):StateT SortSt Sem (Option Bool):=
 bind (elem' xs (base+i)) λx=>ite (left=true) (lt' x F) (bind (lt' F x) λr=>pure (Option.map (λb => !b) r))
theorem B9 {st:SortSt}{left:Bool}{F:Keyed}{a:Int}{t u:Tok}{q:Value}{xs:Array Keyed}{base i:Nat}{Q:Option Bool->SortSt->Prop}(I:kindOf st=oneType') (G:F.1=.int a t) (J:xs[base+i]?=some (.int (K xs (base+i)) u,q))
  (h:Q (some (fA left a xs base i)) st):wpS (model prog w) A E s (oY left F xs base i) Q st:=by
 unfold oY;refine wpS_bind (bt J ?_);unfold fA at h;cases left with
 |true=>exact qg I rfl G h
 |false=>exact wpS_bind (qg I G rfl (wpS_pure h))
theorem gY {left:Bool}{a:Int}{xs:Array Keyed}{base n i j:Nat}(hs:j8 xs base (base+n)) (F:i<=j) (G:j<n) (h:fA left a xs base j=true):fA left a xs base i=true:=by
 have:=hs (base+i) (base+j) af af af;unfold fA at h ⊢;cases left with
 |true =>
  have z:K xs (base+j)<a:=of_decide_eq_true h;exact decide_eq_true af
 |false =>
  have z:¬ a<K xs (base+j):=of_decide_eq_false (by simpa using h);show(!decide (a<K xs (base+i)))=true;rw[decide_eq_false af];rfl
theorem ix {left:Bool}{a:Int}{xs:Array Keyed}{base n i j:Nat}(hs:j8 xs base (base+n)) (F:i<=j) (G:j<n) (h:fA left a xs base i=false):fA left a xs base j=false:=by
 cases e:fA left a xs base j with
 |false=>rfl
 |true=>rw[gY hs F G e]at h;cases h
theorem dE {st:SortSt}{left:Bool}{ad:Keyed}{a:Int}{t:Tok}{xs:Array Keyed}{base n hint:Nat}{Q:Option Nat->SortSt->Prop}(hk:kindOf st=oneType') (aB:ad.1=.int a t) (hx:∀i,i<n->∃t q,xs[base+i]?=some (.int (K xs (base+i)) t,q))
  (hs:j8 xs base (base+n)) (hh:hint<n) (h:∀r,r<=n->(∀i,i<r->fA left a xs base i=true)->(∀i,r<=i->i<n->fA left a xs base i=false)->Q (some r) st) :
  wpS (model prog w) A E s (Ao left ad xs base n hint) Q st:=by
 have B:∀{i:Nat}{Q:Option Bool->SortSt->Prop},i<n->Q (some (fA left a xs base i)) st->wpS (model prog w) A E s (oY left ad xs base i) Q st:=λhi q=>by
  obtain⟨u,v,e⟩:=hx _ hi;exact B9 hk aB e q
 refine wpS_bind (B hh ?_);cases c:fA left a xs base hint with
 |true =>
  dsimp only;rw[if_pos rfl];refine wpS_bind (wpS_mono (wpS_forRange (I:=λx c F=>F=st/\∃l o,c=(none,l,o)/\l<o/\x+1<=o/\hint+l<n/\fA left a xs base (hint+l)=true) (Q:=λc F=>F=st/\∃l o,c=(none,l,o)/\l<o/\hint+l<n/\fA left a xs base (hint+l)=true/\(n-hint<=o\/(hint+o<n/\fA left a xs base (hint+o)=false))) ?_ ?_ ?_) ?_)
  .rintro x c F am as ⟨rfl,l,o,rfl,lo,xo,R,J⟩;dsimp only;by_cases g:o>=n-hint
   .rw[if_pos g];exact wpS_pure ⟨rfl,l,o,rfl,lo,R,J,.inl g⟩
   .rw[if_neg g];refine wpS_bind (B (i:=hint+o) af ?_);cases S:fA left a xs base (hint+o)with
    |true=>exact wpS_pure ⟨rfl,o,2*o+1,rfl,af,af,af,S⟩
    |false=>exact wpS_pure ⟨rfl,l,o,rfl,lo,R,J,.inr ⟨af,S⟩⟩
  .rintro c F ⟨rfl,l,o,rfl,lo,xo,R,J⟩;exact⟨rfl,l,o,rfl,lo,R,J,.inl af⟩
  .exact⟨rfl,0,1,rfl,af,af,hh,c⟩
  .rintro c F ⟨rfl,l,o,rfl,lo,R,J,ac⟩;dsimp only;have f1:∀i,i<hint+l+1->fA left a xs base i=true:=λi hi=>gY hs (j:=hint+l) af R J;have f2:∀i,hint+min o (n-hint)<=i->i<n->fA left a xs base i=false:=λi hi U=>by
    rcases ac with g|⟨g1,g2⟩
    .omega +splitNatSub
    .exact ix hs (i:=hint+o) af U g2
   have Y:hint+l+1<=hint+min o (n-hint):=(by omega +splitNatSub);have f4:hint+min o (n-hint)<=n:=(by omega +splitNatSub);generalize hint+l+1=ab at f1 Y ⊢;generalize hint+min o (n-hint)=ap at f2 Y f4 ⊢;refine wpS_bind (wpS_mono (wpS_forRange (I:=λx c L=>L=F/\∃l r,c=(none,l,r)/\l<=r/\r<=n/\r-l<=n-x/\(∀i,i<l->fA left a xs base i=true)/\∀i,r<=i->i<n->fA left a xs base i=false) (Q:=λc L=>L=F/\∃r,c=(none,r,r)/\r<=n/\(∀i,i<r->fA left a xs base i=true)/\∀i,r<=i->i<n->fA left a xs base i=false) ?_ ?_ ?_) ?_)
   .rintro x c L am as ⟨rfl,l,r,rfl,lr,N,hm,O,G⟩;dsimp only;by_cases g:l>=r
    .rw[if_pos g];obtain rfl:l=r:=af;exact wpS_pure ⟨rfl,l,rfl,N,O,G⟩
    .rw[if_neg g];refine wpS_bind (B (i:=l+(r-l)/2) af ?_);cases S:fA left a xs base (l+(r-l)/2)with
     |true=>exact wpS_pure ⟨rfl,l+(r-l)/2+1,r,rfl,af,N,by omega +splitNatSub,λi hi=>gY hs (j:=l+(r-l)/2) af af S,G⟩
     |false=>exact wpS_pure ⟨rfl,l,l+(r-l)/2,rfl,af,af,af,O,λi hi U=>ix hs hi U S⟩
   .rintro c L ⟨rfl,l,r,rfl,lr,N,hm,O,G⟩;obtain rfl:l=r:=af;exact⟨rfl,l,rfl,N,O,G⟩
   .exact⟨rfl,ab,ap,rfl,Y,f4,af,f1,f2⟩
   .rintro c L ⟨rfl,r,rfl,N,O,G⟩;exact wpS_pure (h r N O G)
 |false =>
  dsimp only;rw[if_neg av];refine wpS_bind (wpS_mono (wpS_forRange (I:=λx c F=>F=st/\∃l o,c=(none,l,o)/\l<o/\x+1<=o/\l<=hint/\fA left a xs base (hint-l)=false) (Q:=λc F=>F=st/\∃l o,c=(none,l,o)/\l<o/\l<=hint/\fA left a xs base (hint-l)=false/\(hint+1<=o\/(o<=hint/\fA left a xs base (hint-o)=true))) ?_ ?_ ?_) ?_)
  .rintro x c F am as ⟨rfl,l,o,rfl,lo,xo,R,J⟩;dsimp only;by_cases g:o>=hint+1
   .rw[if_pos g];exact wpS_pure ⟨rfl,l,o,rfl,lo,R,J,.inl g⟩
   .rw[if_neg g];refine wpS_bind (B (i:=hint-o) af ?_);cases S:fA left a xs base (hint-o)with
    |true=>exact wpS_pure ⟨rfl,l,o,rfl,lo,R,J,.inr ⟨af,S⟩⟩
    |false=>exact wpS_pure ⟨rfl,o,2*o+1,rfl,af,af,af,S⟩
  .rintro c F ⟨rfl,l,o,rfl,lo,xo,R,J⟩;exact⟨rfl,l,o,rfl,lo,R,J,.inl af⟩
  .exact⟨rfl,0,1,rfl,af,af,zero_le _,c⟩
  .rintro c F ⟨rfl,l,o,rfl,lo,R,J,ac⟩;dsimp only;have f1:∀i,i<hint+1-min o (hint+1)->fA left a xs base i=true:=λi hi=>by
    rcases ac with g|⟨g1,g2⟩
    .omega +splitNatSub
    .exact gY hs (j:=hint-o) (by omega +splitNatSub) (by omega +splitNatSub) g2
   have f2:∀i,hint-l<=i->i<n->fA left a xs base i=false:=λi hi U=>ix hs hi U J;have Y:hint+1-min o (hint+1)<=hint-l:=(by omega +splitNatSub);have f4:hint-l<=n:=af;generalize hint+1-min o (hint+1)=ab at f1 Y ⊢;generalize hint-l=ap at f2 Y f4 ⊢;refine wpS_bind (wpS_mono (wpS_forRange (I:=λx c L=>L=F/\∃l r,c=(none,l,r)/\l<=r/\r<=n/\r-l<=n-x/\(∀i,i<l->fA left a xs base i=true)/\∀i,r<=i->i<n->fA left a xs base i=false) (Q:=λc L=>L=F/\∃r,c=(none,r,r)/\r<=n/\(∀i,i<r->fA left a xs base i=true)/\∀i,r<=i->i<n->fA left a xs base i=false) ?_ ?_ ?_) ?_)
   .rintro x c L am as ⟨rfl,l,r,rfl,lr,N,hm,O,G⟩;dsimp only;by_cases g:l>=r
    .rw[if_pos g];obtain rfl:l=r:=af;exact wpS_pure ⟨rfl,l,rfl,N,O,G⟩
    .rw[if_neg g];refine wpS_bind (B (i:=l+(r-l)/2) af ?_);cases S:fA left a xs base (l+(r-l)/2)with
     |true=>exact wpS_pure ⟨rfl,l+(r-l)/2+1,r,rfl,af,N,by omega +splitNatSub,λi hi=>gY hs (j:=l+(r-l)/2) af af S,G⟩
     |false=>exact wpS_pure ⟨rfl,l,l+(r-l)/2,rfl,af,af,af,O,λi hi U=>ix hs hi U S⟩
   .rintro c L ⟨rfl,l,r,rfl,lr,N,hm,O,G⟩;obtain rfl:l=r:=af;exact⟨rfl,l,rfl,N,O,G⟩
   .exact⟨rfl,ab,ap,rfl,Y,f4,af,f1,f2⟩
   .rintro c L ⟨rfl,r,rfl,N,O,G⟩;exact wpS_pure (h r N O G)
end
noncomputable def le (p q:Keyed):Prop:=numOf p.1<=numOf q.1
structure Up (a:Array Keyed):Prop where
 ik:IntKeys a
 up:a.toList.Pairwise le
theorem Up.at {a:Array Keyed}(u:Up a) {i:Nat}(hi:i<a.size):∃t q,a[i]?=some (.int (K a i) t,q):=by
 obtain⟨n,t,G⟩:=u.ik a[i] (by simp);have e:a[i]?=some a[i]:=getElem?_pos _ i hi;have F:a[i]=(.int n t,a[i].2):=Prod.ext G rfl;refine⟨t,a[i].2,?_⟩;unfold K;rw[e,F];rfl
theorem Up.Fp {a:Array Keyed}(u:Up a):j8 a 0 a.size:=λi j _ G F=>by
 by_cases e:i=j
 .rw[e];exact Int.le_refl _
 .have hi:i<a.size:=af;have z:=List.pairwise_iff_getElem.mp u.up i j (by simpa using hi) (by simpa using F) af;rw[K_eq hi,K_eq F];simpa[le]using z
theorem j8.sub {a:Array Keyed}{lo hi G F:Nat}(h:j8 a lo hi) (h1:lo<=G) (h2:F<=hi):j8 a G F:=λi j hi I J=>h i j af I af
structure MI (a b out:Array Keyed) (ia ib:Nat):Prop where
 la:ia<=a.size
 lb:ib<=b.size
 pm:(out.toList++a.toList.drop ia++b.toList.drop ib).Perm (a.toList++b.toList)
 up:out.toList.Pairwise le
 ba:∀p∈out.toList,∀q∈a.toList.drop ia,le p q
 bb:∀p∈out.toList,∀q∈b.toList.drop ib,le p q
theorem MI.sz {a b out:Array Keyed}{F G:Nat}(m:MI a b out F G):out.size+(a.size-F)+(b.size-G)=a.size+b.size:=by
 have:=m.pm.length_eq;simp at this;lia
theorem MI.qK {a b out O:Array Keyed}{F N:Nat}(m:MI a b out F N) (S:Up a) {k:Nat}(U:F+k<=a.size) (J:O.toList=out.toList++(a.toList.drop F).take k) (h:∀p∈(a.toList.drop F).take k,∀q∈b.toList.drop N,le p q):MI a b O (F+k) N:=by
 have hd:a.toList.drop (F+k)=(a.toList.drop F).drop k:=(by rw[List.drop_drop]);have L:(a.toList.drop F).Pairwise le:=S.up.sublist (drop_sublist _ _);have R:=L;rw[<-take_append_drop k (a.toList.drop F)]at R;obtain⟨Y,p2,p3⟩:=List.pairwise_append.mp R;refine⟨U,m.lb,?_,?_,λp I q G=>?_,λp I q G=>?_⟩
 .rw[J,hd,append_assoc out.toList,take_append_drop];exact m.pm
 .rw[J,pairwise_append];exact⟨m.up,Y,λp L q G=>m.ba p L q (List.mem_of_mem_take G)⟩
 .rw[hd]at G;rw[J]at I;rcases List.mem_append.mp I with z|z
  .exact m.ba p z q (List.mem_of_mem_drop G)
  .exact p3 p z q G
 .rw[J]at I;rcases List.mem_append.mp I with z|z
  .exact m.bb p z q G
  .exact h p z q G
theorem MI.qO {a b out O:Array Keyed}{N F:Nat}(m:MI a b out N F) (Y:Up b) {k:Nat}(S:F+k<=b.size) (J:O.toList=out.toList++(b.toList.drop F).take k) (h:∀p∈(b.toList.drop F).take k,∀q∈a.toList.drop N,le p q):MI a b O N (F+k):=by
 have hd:b.toList.drop (F+k)=(b.toList.drop F).drop k:=(by rw[List.drop_drop]);have L:(b.toList.drop F).Pairwise le:=Y.up.sublist (drop_sublist _ _);have R:=L;rw[<-take_append_drop k (b.toList.drop F)]at R;obtain⟨U,p2,p3⟩:=List.pairwise_append.mp R;refine⟨m.la,S,?_,?_,λp I q G=>?_,λp I q G=>?_⟩
 .refine List.Perm.trans ?_ m.pm;rw[J,hd];have e:b.toList.drop F=(b.toList.drop F).take k++(b.toList.drop F).drop k:=(take_append_drop _ _).symm
  conv=>rhs;rw[e]
  generalize (b.toList.drop F).take k=T;generalize (b.toList.drop F).drop k=D;rw[append_assoc,append_assoc,append_assoc];refine List.Perm.append_left _ ?_;rw[<-append_assoc, <-append_assoc];exact List.Perm.append_right _ perm_append_comm
 .rw[J,pairwise_append];exact⟨m.up,U,λp L q G=>m.bb p L q (List.mem_of_mem_take G)⟩
 .rw[J]at I;rcases List.mem_append.mp I with z|z
  .exact m.ba p z q G
  .exact h p z q G
 .rw[hd]at G;rw[J]at I;rcases List.mem_append.mp I with z|z
  .exact m.bb p z q (List.mem_of_mem_drop G)
  .exact p3 p z q G
noncomputable def Good (a b R:Array Keyed):Prop:=R.toList.Perm (a.toList++b.toList)/\R.toList.Pairwise le
theorem dF {a:Array Keyed}{i:Nat}{q:Keyed}(h:q∈a.toList.drop i):∃j,i<=j/\j<a.size/\numOf q.1=K a j:=by
 obtain⟨n,F,e⟩:=List.mem_iff_getElem.mp h;have G:i+n<a.size:=by
  rw[length_drop]at F;simp at F;omega +splitNatSub
 refine⟨i+n,af,G,?_⟩;rw[K_eq G, <-e,List.getElem_drop];simp
theorem dD {a:Array Keyed}{i k:Nat}{q:Keyed}(h:q∈(a.toList.drop i).take k):∃j,j<k/\i+j<a.size/\numOf q.1=K a (i+j):=by
 obtain⟨n,F,e⟩:=List.mem_iff_getElem.mp h;rw[length_take,length_drop]at F;simp at F;have G:i+n<a.size:=(by omega +splitNatSub);refine⟨n,by omega +splitNatSub,G,?_⟩;rw[K_eq G, <-e,getElem_take,List.getElem_drop];simp
theorem MI.gx {a b out:Array Keyed}{F G:Nat}(m:MI a b out F G) (O:Up a) (Y:Up b) (hi:F<a.size) {p:Keyed}(I:a[F]?=some p) (h:∀j,G<=j->j<b.size->K a F<=K b j):MI a b (out.push p) (F+1) G:=by
 have ep:a[F]=p:=(by rw[getElem?_pos a F hi]at I;exact Option.some.inj I);refine m.qK O (k:=1) af ?_ λx S q J=>?_
 .rw[toList_push,drop_eq_getElem_cons (by simpa using hi)];simp[ep]
 .obtain⟨j,U,_,e⟩:=dD S;obtain⟨L,h2,R,N⟩:=dF J;have:j=0:=af;subst this;show numOf x.1<=numOf q.1;rw[e,N];exact h L h2 R
theorem MI.kr {a b out:Array Keyed}{G F:Nat}(m:MI a b out G F) (U:Up a) (R:Up b) (hi:F<b.size) {p:Keyed}(I:b[F]?=some p) (h:∀j,G<=j->j<a.size->K b F<=K a j):MI a b (out.push p) G (F+1):=by
 have ep:b[F]=p:=(by rw[getElem?_pos b F hi]at I;exact Option.some.inj I);refine m.qO R (k:=1) af ?_ λx S q J=>?_
 .rw[toList_push,drop_eq_getElem_cons (by simpa using hi)];simp[ep]
 .obtain⟨j,Y,_,e⟩:=dD S;obtain⟨L,h2,O,N⟩:=dF J;have:j=0:=af;subst this;show numOf x.1<=numOf q.1;rw[e,N];exact h L h2 O
theorem rC {a:Array Keyed}{i k:Nat}:(a.extract i (i+k)).toList=(a.toList.drop i).take k:=by
 rw[toList_extract,List.extract_eq_take_drop];congr 1;lia
theorem jG {a:Array Keyed}{i:Nat}:(a.extract i a.size).toList=a.toList.drop i:=by
 rw[toList_extract,List.extract_eq_take_drop];refine take_of_length_le ?_;rw[length_drop];simp
theorem MI.nH {a b out:Array Keyed}{G F:Nat}(m:MI a b out G F) (J:Up a) (h:F=b.size):Good a b (out++a.extract G a.size++b.extract F b.size):=by
 have e:(out++a.extract G a.size++b.extract F b.size).toList=out.toList++a.toList.drop G++b.toList.drop F:=by
  rw[toList_append,toList_append,jG,jG]
 refine⟨by rw[e];exact m.pm,?_⟩;rw[e,h,List.drop_of_length_le (l:=b.toList) (by simp),append_nil,pairwise_append];exact⟨m.up,J.up.sublist (drop_sublist _ _),λp L q I=>m.ba p L q I⟩
theorem MI.last {a b out:Array Keyed}{F G:Nat}(m:MI a b out F G) (O:Up a) (S:Up b) (hi:F+1=a.size) (h:∀j,G<=j->j<b.size->K b j<=K a F):Good a b (out++b.extract G b.size++a.extract F a.size):=by
 have e:(out++b.extract G b.size++a.extract F a.size).toList=out.toList++b.toList.drop G++a.toList.drop F:=by
  rw[toList_append,toList_append,jG,jG]
 refine⟨?_,?_⟩
 .rw[e];refine List.Perm.trans ?_ m.pm;rw[append_assoc,append_assoc];exact List.Perm.append_left _ perm_append_comm
 .rw[e,pairwise_append,pairwise_append];refine⟨⟨m.up,S.up.sublist (drop_sublist _ _),λp J q I=>m.bb p J q I⟩,O.up.sublist (drop_sublist _ _),λp J q I=>?_⟩;rcases List.mem_append.mp J with z|z
  .exact m.ba p z q I
  .obtain⟨j,h1,h2,R⟩:=dF z;obtain⟨L,U,Y,N⟩:=dF I;have:L=F:=af;subst this;show numOf p.1<=numOf q.1;rw[R,N];exact h j h1 h2
theorem MI.C6 {a b out:Array Keyed}{F G:Nat}(m:MI a b out F G) (N:Up a) {k:Nat}(S:F+k<=a.size) (h:∀i j,i<k->G<=j->j<b.size->K a (F+i)<=K b j):MI a b (out++a.extract F (F+k)) (F+k) G :=
 m.qK N S (by rw[toList_append,rC]) λp O q I=>by
  obtain⟨j,h1,h2,R⟩:=dD O;obtain⟨J,U,Y,L⟩:=dF I;show numOf p.1<=numOf q.1;rw[R,L];exact h j J h1 U Y
theorem MI.zh {a b out:Array Keyed}{G F:Nat}(m:MI a b out G F) (U:Up b) {k:Nat}(R:F+k<=b.size) (h:∀i j,i<k->G<=j->j<a.size->K b (F+i)<=K a j):MI a b (out++b.extract F (F+k)) G (F+k):=
 m.qO U R (by rw[toList_append,rC]) λp N q I=>by
  obtain⟨j,h1,h2,O⟩:=dD N;obtain⟨J,S,Y,L⟩:=dF I;show numOf p.1<=numOf q.1;rw[O,L];exact h j J h1 S Y
theorem zb {a:Int}{xs:Array Keyed}{base n r:Nat}(G:∀i,i<r->fA false a xs base i=true) (F:∀i,r<=i->i<n->fA false a xs base i=false):(∀i,i<r->K xs (base+i)<=a)/\∀j,base+r<=j->j<base+n->a<K xs j:=by
 refine⟨λi hi=>?_,λj J I=>?_⟩
 .have:=G i hi;unfold fA at this;simpa using this
 .have:=F (j-base) af af;unfold fA at this;rw[show base+(j-base)=j by lia]at this;simpa using this
theorem rS {a:Int}{xs:Array Keyed}{base n r:Nat}(G:∀i,i<r->fA true a xs base i=true) (F:∀i,r<=i->i<n->fA true a xs base i=false):(∀i,i<r->K xs (base+i)<a)/\∀j,base+r<=j->j<base+n->a<=K xs j:=by
 refine⟨λi hi=>?_,λj J I=>?_⟩
 .have:=G i hi;unfold fA at this;simpa using this
 .have:=F (j-base) af af;unfold fA at this;rw[show base+(j-base)=j by lia]at this;simpa using this
theorem MI.grow {a b out O:Array Keyed}{G J I B:Nat}(m:MI a b out G J) (F:MI a b O I B) (h1:G<=I) (h2:J<=B):out.size<=O.size:=by
 have L:=m.sz;have N:=F.sz;have:=F.la;have:=F.lb;lia
noncomputable def yN:Array Keyed->Array Keyed->StateT SortSt Sem (Array Keyed):=sortPriv% PySem.Builtin.mergeLo
structure si (st st':SortSt):Prop where
 arr:arrOf st'=arrOf st
 kind:kindOf st'=kindOf st
 failed:failedOf st'=failedOf st
 pend:pendingOf st'=pendingOf st
section
variable {prog:Program}{w:World}{A:Around}{E:Value->Shared->Prop}{s:Shared}{a₀:Array Keyed}
theorem aP {α:Type}{c:Prop} [Decidable c] {m n:StateT SortSt Sem α}{Q:α->SortSt->Prop}{st:SortSt}(h1:c->wpS (model prog w) A E s m Q st) (h2:¬ c->wpS (model prog w) A E s n Q st):wpS (model prog w) A E s (if c then m else n) Q st:=by
 by_cases z:c
 .rw[if_pos z];exact h1 z
 .rw[if_neg z];exact h2 z
noncomputable def C4:Nat->StateT SortSt Sem Unit:=sortPriv% PySem.Builtin.setMinGallop
theorem vO {G st:SortSt}{g:Nat}{Q:Unit->SortSt->Prop}(k:si G st) (h:∀F,si G F->Q () F):wpS (model prog w) A E s (C4 g) Q st :=
 wpS_modify (h _ ⟨k.arr,k.kind,k.failed,k.pend⟩)
theorem uA {st:SortSt}{a b:Array Keyed}{Q:Array Keyed->SortSt->Prop}(hk:kindOf st=oneType') (J:Up a) (L:Up b) (na:1<=a.size) (nb:1<=b.size) (h0:K b 0<K a 0) (hl:∀j,j<b.size->K b j<K a (a.size-1))
  (h:∀R ab,Good a b R->si st ab->Q R ab):wpS (model prog w) A E s (yN a b) Q st:=by
 refine wpS_bind (wpS_lift (wpAny_rule ⟨rfl,?_⟩));obtain⟨t0,q0,e0⟩:=L.at (i:=0) af;refine wpS_bind (bt e0 ?_);have sa:=J.Fp;have sb:=L.Fp;have M0:MI a b #[(Value.int (K b 0) t0,q0)] 0 1:=by
  have M:MI a b #[] 0 0:=⟨zero_le _,zero_le _,by simp,List.Pairwise.nil,(λp hp=>by cases hp),(λp hp=>by cases hp)⟩;exact M.kr J L af e0 λj _ hj=>by
   have:=sa 0 j af af hj;omega
 refine aP (λg=>?_) (λg=>?_)
 .exact wpS_pure (h _ _ (M0.nH J (by simpa using g)) ⟨rfl,rfl,rfl,rfl⟩)
 have g1:¬ 1=b.size:=(by simpa using g);refine aP (λg=>?_) (λg=>?_)
 .have g':0+1=a.size:=(by simpa using g);refine wpS_pure (h _ _ (M0.last J L g' λj _ hj=>?_) ⟨rfl,rfl,rfl,rfl⟩);have:=hl j hj;rw[<-g']at this;exact Int.le_of_lt this
 have g2:¬ 0+1=a.size:=(by simpa using g);refine wpS_bind (wpS_get ?_);refine wpS_bind (wpS_mono (wpS_forRange (I:=λx c ab=>Fz λout F G mg=>wo (c=(none,out,F,G,mg)) (MI a b out F G) (F+1<a.size) (G<b.size) (x+1<=out.size) (si st ab)) (Q:=λc ab=>∃R,qF (Good a b R) (c.1=some R) (si st ab)) ?_ ?_ ?_) ?_)
 .rintro x c aT bm bv ⟨out,F,G,mg,rfl,M,la,S,lo,K1⟩;refine wpS_bind (wpS_mono (wpS_forRange (I:=λy c ab=>zX λO F G ac bc=>wo (c=(none,O,F,G,ac,bc)) (MI a b O F G) (F+1<a.size) (G<b.size) (out.size+y<=O.size) (si st ab))
   (Q:=λc ab=>si st ab/\((∃R,Good a b R/\c.1=some R)\/(zX λO F G ac bc=>Ca (c=(none,O,F,G,ac,bc)) (MI a b O F G) (F+1<a.size) (G<b.size) (out.size+1<=O.size)))) ?_ ?_ ?_) ?_)
  .rintro y c aB ba bb ⟨O,F,G,ac,bc,rfl,M,la,S,a6,K2⟩;have bi:kindOf aB=oneType':=K2.kind.trans hk;obtain⟨tb,qb,eb⟩:=L.at S;obtain⟨ta,qa,ea⟩:=J.at (i:=F) af;refine wpS_bind (bt eb (wpS_bind (bt ea (wpS_bind (qg bi rfl rfl ?_)))));by_cases c:K b G<K a F
   .rw[decide_eq_true c];refine wpS_bind (bt eb ?_);have M2:=M.kr J L S eb λj h1 h2=>by
     have:=sa F j af h1 h2;omega
    refine aP (λg=>?_) (λg=>?_)
    .exact wpS_pure ⟨K2,.inl ⟨_,M2.nH J (by simpa using g),rfl⟩⟩
    .have g':¬ G+1=b.size:=(by simpa using g);have sz:(O.push (Value.int (K b G) tb,qb)).size=O.size+1:=size_push ..;refine aP (λg=>?_) (λg=>?_)
     .exact wpS_pure ⟨K2,.inr ⟨O.push (Value.int (K b G) tb,qb),F,G+1,_,_,rfl,M2,la,af,af⟩⟩
     .exact wpS_pure ⟨O.push (Value.int (K b G) tb,qb),F,G+1,_,_,rfl,M2,la,af,af,K2⟩
   .rw[decide_eq_false c];refine wpS_bind (bt ea ?_);have M2:=M.gx J L af ea λj h1 h2=>by
     have:=sb G j af h1 h2;omega
    refine aP (λg=>?_) (λg=>?_)
    .have g':F+1+1=a.size:=(by simpa using g);refine wpS_pure ⟨K2,.inl ⟨_,M2.last J L g' (λj h1 h2=>?_),rfl⟩⟩;have:=hl j h2;rw[show a.size-1=F+1 by omega]at this;exact Int.le_of_lt this
    .have g':¬ F+1+1=a.size:=(by simpa using g);have sz:(O.push (Value.int (K a F) ta,qa)).size=O.size+1:=size_push ..;refine aP (λg=>?_) (λg=>?_)
     .exact wpS_pure ⟨K2,.inr ⟨O.push (Value.int (K a F) ta,qa),F+1,G,_,_,rfl,M2,af,S,af⟩⟩
     .exact wpS_pure ⟨O.push (Value.int (K a F) ta,qa),F+1,G,_,_,rfl,M2,af,S,af,K2⟩
  .rintro c aB ⟨O,F,G,ac,bc,rfl,M,la,S,a6,K2⟩;exact⟨K2,.inr ⟨_,_,_,_,_,rfl,M,la,S,af⟩⟩
  .exact⟨out,F,G,_,_,rfl,M,la,S,af,K1⟩
  .rintro c aB ⟨K2,⟨R,hR,e⟩|⟨O,F,G,ac,bc,rfl,M,la,S,a6⟩⟩
   .obtain⟨c1,c2⟩:=c;cases e;exact wpS_pure ⟨R,hR,rfl,K2⟩
   .refine wpS_bind (wpS_lift (wpAny_rule ⟨rfl,?_⟩));refine wpS_bind (wpS_mono (wpS_forRange (I:=λy c ab=>Eg λam F G mg ac bc=>wo (c=(none,am,F,G,mg,ac,bc)) (MI a b am F G) (F+1<a.size) (G<b.size) (O.size<=am.size) (si st ab))
     (Q:=λc ab=>si st ab/\((∃R,Good a b R/\c.1=some R)\/(Eg λam F G mg ac bc=>Ca (c=(none,am,F,G,mg,ac,bc)) (MI a b am F G) (F+1<a.size) (G<b.size) (O.size<=am.size)))) ?_ ?_ ?_) ?_)
    .rintro y c a4 ba bb ⟨am,F,G,a5,ac,bc,rfl,M,la,S,ap,K3⟩;refine aP (λg=>?_) (λg=>?_)
     all_goals
      refine wpS_bind (vO K3 λa7 U=>?_);have a2:kindOf a7=oneType':=U.kind.trans hk;obtain⟨tb,qb,eb⟩:=L.at S;refine wpS_bind (bt eb (wpS_bind (dE (base:=F) (n:=a.size-F) (hint:=0) a2 rfl (λi hi=>J.at af) (sa.sub (zero_le _) af) af λr hr r1 r2=>?_)));obtain⟨R1,R2⟩:=zb r1 r2;rw[show F+(a.size-F)=a.size by omega]at R2;have bx:F+r<a.size:=by
       by_cases z:F+r<a.size
       .exact z
       .have a1:=R1 (a.size-1-F) af;rw[show F+(a.size-1-F)=a.size-1 by omega]at a1;have:=hl G S;omega
      have M1:=M.C6 J (k:=r) af λi j hi h1 h2=>Int.le_trans (R1 i hi) (sb G j (zero_le _) h1 h2);refine aP (λg2=>?_) (λg2=>?_)
      .refine aP (λg3=>?_) (λg3=>?_)
       .have g':F+r+1=a.size:=(by simpa using g3);refine wpS_pure ⟨U,.inl ⟨_,M1.last J L g' (λj h1 h2=>?_),rfl⟩⟩;have:=hl j h2;rw[show a.size-1=F+r by omega]at this;exact Int.le_of_lt this
       .have bn:¬ F+r+1=a.size:=(by simpa using g3);refine aP (λg4=>?_) (λg4=>?_)
        .have g':F+r=a.size:=(by simpa using g4);omega
        .clear g4;have M2:=M1.kr J L S eb λj h1 h2=>Int.le_of_lt (R2 j af h2);refine wpS_bind (bt eb ?_);refine aP (λg5=>wpS_pure ⟨U,.inl ⟨_,M2.nH J (by simpa using g5),rfl⟩⟩) (λg5=>?_);have bd:¬ G+1=b.size:=(by simpa using g5);obtain⟨ta,qa,ea⟩:=J.at (i:=F+r) af;refine wpS_bind (bt ea (wpS_bind (dE (base:=G+1) (n:=b.size-(G+1)) (hint:=0) a2 rfl (λi hi=>L.at af) (sb.sub (zero_le _) af) af λr' be as a0=>?_)));obtain⟨T1,T2⟩:=rS as a0;rw[show G+1+(b.size-(G+1))=b.size by omega]at T2;have M3:=M2.zh L (k:=r') af λi j hi h1 h2=>Int.le_of_lt (Int.lt_of_lt_of_le (T1 i hi) (sa _ j (zero_le _) h1 h2));refine aP (λg6=>?_) (λg6=>?_)
         .refine aP (λg7=>wpS_pure ⟨U,.inl ⟨_,M3.nH J (by simpa using g7),rfl⟩⟩) (λg7=>?_);have bl:¬ G+1+r'=b.size:=(by simpa using g7);refine wpS_bind (bt ea ?_);have N:=M3.gx J L af ea λj h1 h2=>T2 j af h2;refine aP (λY=>?_) (λY=>?_)
          .have ad:F+r+1+1=a.size:=(by simpa using Y);refine wpS_pure ⟨U,.inl ⟨_,N.last J L ad (λj h1 h2=>?_),rfl⟩⟩;have:=hl j h2;rw[show a.size-1=F+r+1 by omega]at this;exact Int.le_of_lt this
          .have ad:¬ F+r+1+1=a.size:=(by simpa using Y);refine aP (λg9=>wpS_pure ⟨U,.inr ⟨_,F+r+1,G+1+r',_,_,_,rfl,N,af,af,le_trans ap (M.grow N af af)⟩⟩) (λg9=>wpS_pure ⟨_,F+r+1,G+1+r',_,_,_,rfl,N,af,af,le_trans ap (M.grow N af af),U⟩)
         .have a3:r'=0:=af;subst a3;refine wpS_bind (bt ea ?_);have N:=M2.gx J L af ea λj h1 h2=>T2 j af h2;refine aP (λY=>?_) (λY=>?_)
          .have ad:F+r+1+1=a.size:=(by simpa using Y);refine wpS_pure ⟨U,.inl ⟨_,N.last J L ad (λj h1 h2=>?_),rfl⟩⟩;have:=hl j h2;rw[show a.size-1=F+r+1 by omega]at this;exact Int.le_of_lt this
          .have ad:¬ F+r+1+1=a.size:=(by simpa using Y);refine aP (λg9=>wpS_pure ⟨U,.inr ⟨_,F+r+1,G+1,_,_,_,rfl,N,af,af,le_trans ap (M.grow N af af)⟩⟩) (λg9=>wpS_pure ⟨_,F+r+1,G+1,_,_,_,rfl,N,af,af,le_trans ap (M.grow N af af),U⟩)
      .have r0:r=0:=af;subst r0;have M2:=M.kr J L S eb λj h1 h2=>Int.le_of_lt (R2 j af h2);refine wpS_bind (bt eb ?_);refine aP (λg5=>wpS_pure ⟨U,.inl ⟨_,M2.nH J (by simpa using g5),rfl⟩⟩) (λg5=>?_);have bd:¬ G+1=b.size:=(by simpa using g5);obtain⟨ta,qa,ea⟩:=J.at (i:=F) af;refine wpS_bind (bt ea (wpS_bind (dE (base:=G+1) (n:=b.size-(G+1)) (hint:=0) a2 rfl (λi hi=>L.at af) (sb.sub (zero_le _) af) af λr' be as a0=>?_)));obtain⟨T1,T2⟩:=rS as a0;rw[show G+1+(b.size-(G+1))=b.size by omega]at T2;have M3:=M2.zh L (k:=r') af λi j hi h1 h2=>Int.le_of_lt (Int.lt_of_lt_of_le (T1 i hi) (sa _ j (zero_le _) h1 h2));refine aP (λg6=>?_) (λg6=>?_)
       .refine aP (λg7=>wpS_pure ⟨U,.inl ⟨_,M3.nH J (by simpa using g7),rfl⟩⟩) (λg7=>?_);have bl:¬ G+1+r'=b.size:=(by simpa using g7);refine wpS_bind (bt ea ?_);have N:=M3.gx J L af ea λj h1 h2=>T2 j af h2;refine aP (λY=>?_) (λY=>?_)
        .have ad:F+1+1=a.size:=(by simpa using Y);refine wpS_pure ⟨U,.inl ⟨_,N.last J L ad (λj h1 h2=>?_),rfl⟩⟩;have:=hl j h2;rw[show a.size-1=F+1 by omega]at this;exact Int.le_of_lt this
        .have ad:¬ F+1+1=a.size:=(by simpa using Y);refine aP (λg9=>wpS_pure ⟨U,.inr ⟨_,F+1,G+1+r',_,_,_,rfl,N,af,af,le_trans ap (M.grow N af af)⟩⟩) (λg9=>wpS_pure ⟨_,F+1,G+1+r',_,_,_,rfl,N,af,af,le_trans ap (M.grow N af af),U⟩)
       .have a3:r'=0:=af;subst a3;refine wpS_bind (bt ea ?_);have N:=M2.gx J L af ea λj h1 h2=>T2 j af h2;refine aP (λY=>?_) (λY=>?_)
        .have ad:F+1+1=a.size:=(by simpa using Y);refine wpS_pure ⟨U,.inl ⟨_,N.last J L ad (λj h1 h2=>?_),rfl⟩⟩;have:=hl j h2;rw[show a.size-1=F+1 by omega]at this;exact Int.le_of_lt this
        .have ad:¬ F+1+1=a.size:=(by simpa using Y);refine aP (λg9=>wpS_pure ⟨U,.inr ⟨_,F+1,G+1,_,_,_,rfl,N,af,af,le_trans ap (M.grow N af af)⟩⟩) (λg9=>wpS_pure ⟨_,F+1,G+1,_,_,_,rfl,N,af,af,le_trans ap (M.grow N af af),U⟩)
    .rintro c a4 ⟨am,F,G,a5,ac,bc,rfl,M,la,S,ap,K3⟩;exact⟨K3,.inr ⟨_,_,_,_,_,_,rfl,M,la,S,ap⟩⟩
    .exact⟨O,F,G,_,_,_,rfl,M,la,S,le_refl _,K2⟩
    .rintro c a4 ⟨K3,⟨R,hR,e⟩|⟨am,F,G,a5,ac,bc,rfl,M,la,S,ap⟩⟩
     .obtain⟨c1,c2⟩:=c;cases e;exact wpS_pure ⟨R,hR,rfl,K3⟩
     .refine wpS_bind (vO K3 λa7 U=>?_);exact wpS_pure ⟨am,F,G,_,rfl,M,la,S,af,U⟩
 .rintro c aT ⟨out,F,G,mg,rfl,M,la,S,lo,K1⟩;exfalso;have:=M.sz;omega
 .exact⟨_,_,_,_,rfl,M0,af,af,le_refl _,⟨rfl,rfl,rfl,rfl⟩⟩
 .rintro c aT ⟨R,hR,e,K1⟩;obtain⟨c1,c2⟩:=c;cases e;exact wpS_pure (h R aT hR K1)
end
noncomputable def seg (a:Array Keyed) (k n:Nat):List Keyed:=(a.toList.drop k).take (n-k)
theorem hX {a:Array Keyed}{k n:Nat}(h:k<=n):a.toList.take n=a.toList.take k++seg a k n:=by
 unfold seg;have e:a.toList.take k=(a.toList.take n).take k:=(by rw[List.take_take,min_eq_left h]);rw[e, <-List.drop_take,take_append_drop]
theorem kH {a:Array Keyed}{k n:Nat}{q:Keyed}(h:q∈seg a k n):∃j,k<=j/\j<n/\j<a.size/\numOf q.1=K a j:=by
 obtain⟨j,h1,h2,e⟩:=dD h;exact⟨k+j,af,af,h2,e⟩
theorem kG {a:Array Keyed}{n:Nat}{q:Keyed}(h:q∈a.toList.take n):∃j,j<n/\j<a.size/\numOf q.1=K a j:=by
 have:q∈(a.toList.drop 0).take n:=(by rw[List.drop_zero];exact h);obtain⟨j,h1,h2,e⟩:=dD this;rw[zero_add]at h2 e;exact⟨j,h1,h2,e⟩
theorem gc {a:Array Keyed}{k n:Nat}:(a.extract k n).toList=seg a k n:=by
 unfold seg;rw[toList_extract,List.extract_eq_take_drop]
theorem kU {a:Array Keyed}{n:Nat}:(a.extract 0 n).toList=a.toList.take n:=by
 rw[toList_extract,List.extract_eq_take_drop];simp
theorem vG {a:Array Keyed}{k:Nat}(h:k<a.size):seg a k (k+1)=[a[k]]:=by
 unfold seg;rw[drop_eq_getElem_cons (by simpa using h)];simp
structure MH (a b out:Array Keyed) (na nb:Nat):Prop where
 la:na<=a.size
 lb:nb<=b.size
 pm:(a.toList.take na++b.toList.take nb++out.toList.reverse).Perm (a.toList++b.toList)
 up:out.toList.reverse.Pairwise le
 ab:∀p∈a.toList.take na,∀q∈out.toList,le p q
 bb:∀p∈b.toList.take nb,∀q∈out.toList,le p q
theorem MH.sz {a b out:Array Keyed}{F G:Nat}(m:MH a b out F G):out.size+F+G=a.size+b.size:=by
 have:=m.pm.length_eq;have h1:=m.la;have h2:=m.lb;simp at this;omega
theorem MH.grow {a b out O:Array Keyed}{F G I B:Nat}(m:MH a b out F G) (J:MH a b O I B) (h1:I<=F) (h2:B<=G):out.size<=O.size:=by
 have L:=m.sz;have N:=J.sz;omega
theorem kY {out:Array Keyed}{l r:List Keyed}{q:Keyed}(h:out.toList.reverse=l++r.reverse) (F:q∈out.toList):q∈l\/q∈r:=by
 have:q∈out.toList.reverse:=List.mem_reverse.mpr F;rw[h]at this;rcases List.mem_append.mp this with z|z
 .exact .inl z
 .exact .inr (List.mem_reverse.mp z)
theorem MH.qK {a b out R:Array Keyed}{F J k:Nat}(m:MH a b out F J) (ua:Up a) (hk:k<=F) (N:R.toList.reverse=seg a k F++out.toList.reverse) (h:∀i j,i<J->i<b.size->k<=j->j<F->K b i<=K a j):MH a b R k J:=by
 have O:=hX (a:=a) hk;have L:(a.toList.take F).Pairwise le:=ua.up.sublist (take_sublist _ _);rw[O]at L;obtain⟨p1,p2,p3⟩:=List.pairwise_append.mp L;have ac:=m.la;refine⟨af,m.lb,?_,?_,λp I q G=>?_,λp I q G=>?_⟩
 .refine List.Perm.trans ?_ m.pm;rw[N,O];generalize seg a k F=T;generalize a.toList.take k=D;generalize b.toList.take J=B;rw[append_assoc,append_assoc,append_assoc];refine List.Perm.append_left _ ?_;rw[<-append_assoc, <-append_assoc];exact List.Perm.append_right _ perm_append_comm
 .rw[N,pairwise_append];refine⟨p2,m.up,λp L q G=>m.ab p ?_ q (List.mem_reverse.mp G)⟩;rw[O];exact mem_append_right _ L
 .rcases kY N G with z|z
  .exact p3 p I q z
  .refine m.ab p ?_ q z;rw[O];exact mem_append_left _ I
 .rcases kY N G with z|z
  .obtain⟨i,i1,S,e1⟩:=kG I;obtain⟨j,j1,U,j3,Y⟩:=kH z;show numOf p.1<=numOf q.1;rw[e1,Y];exact h i j i1 S j1 U
  .exact m.bb p I q z
theorem MH.qO {a b out R:Array Keyed}{O F k:Nat}(m:MH a b out O F) (ub:Up b) (hk:k<=F) (L:R.toList.reverse=seg b k F++out.toList.reverse) (h:∀i j,i<O->i<a.size->k<=j->j<F->K a i<=K b j):MH a b R O k:=by
 have N:=hX (a:=b) hk;have J:(b.toList.take F).Pairwise le:=ub.up.sublist (take_sublist _ _);rw[N]at J;obtain⟨p1,p2,p3⟩:=List.pairwise_append.mp J;have ac:=m.lb;refine⟨m.la,af,?_,?_,λp I q G=>?_,λp I q G=>?_⟩
 .refine List.Perm.trans ?_ m.pm;rw[L,N];generalize seg b k F=T;generalize b.toList.take k=D;generalize a.toList.take O=B;rw[append_assoc,append_assoc,append_assoc]
 .rw[L,pairwise_append];refine⟨p2,m.up,λp J q G=>m.bb p ?_ q (List.mem_reverse.mp G)⟩;rw[N];exact mem_append_right _ J
 .rcases kY L G with z|z
  .obtain⟨i,i1,S,e1⟩:=kG I;obtain⟨j,j1,U,j3,Y⟩:=kH z;show numOf p.1<=numOf q.1;rw[e1,Y];exact h i j i1 S j1 U
  .exact m.ab p I q z
 .rcases kY L G with z|z
  .exact p3 p I q z
  .refine m.bb p ?_ q z;rw[N];exact mem_append_left _ I
theorem MH.gx {a b out:Array Keyed}{F G:Nat}(m:MH a b out F G) (J:Up a) (R:1<=F) {p:Keyed}(I:a[F-1]?=some p) (h:∀i,i<G->i<b.size->K b i<=K a (F-1)):MH a b (out.push p) (F-1) G:=by
 have N:=m.la;have hi:F-1<a.size:=af;have ep:a[F-1]=p:=(by rw[getElem?_pos a _ hi]at I;exact Option.some.inj I);refine m.qK J af ?_ λi j h1 h2 L O=>?_
 .have:=vG hi;rw[show F-1+1=F by omega]at this;rw[this,toList_push,reverse_append,ep];rfl
 .rw[show j=F-1 by omega];exact h i h1 h2
theorem MH.kr {a b out:Array Keyed}{G F:Nat}(m:MH a b out G F) (J:Up b) (R:1<=F) {p:Keyed}(I:b[F-1]?=some p) (h:∀i,i<G->i<a.size->K a i<=K b (F-1)):MH a b (out.push p) G (F-1):=by
 have L:=m.lb;have hi:F-1<b.size:=af;have ep:b[F-1]=p:=(by rw[getElem?_pos b _ hi]at I;exact Option.some.inj I);refine m.qO J af ?_ λi j h1 h2 N O=>?_
 .have:=vG hi;rw[show F-1+1=F by omega]at this;rw[this,toList_push,reverse_append,ep];rfl
 .rw[show j=F-1 by omega];exact h i h1 h2
theorem MH.C6 {a b out:Array Keyed}{F G k:Nat}(m:MH a b out F G) (J:Up a) (I:k<=F) (h:∀i j,i<G->i<b.size->k<=j->j<F->K b i<=K a j):MH a b (out++(a.extract k F).reverse) k G :=
 m.qK J I (by rw[toList_append,reverse_append,toList_reverse,List.reverse_reverse,gc]) h
theorem MH.zh {a b out:Array Keyed}{G F k:Nat}(m:MH a b out G F) (J:Up b) (I:k<=F) (h:∀i j,i<G->i<a.size->k<=j->j<F->K a i<=K b j):MH a b (out++(b.extract k F).reverse) G k :=
 m.qO J I (by rw[toList_append,reverse_append,toList_reverse,List.reverse_reverse,gc]) h
theorem MH.done {a b out:Array Keyed}{F G:Nat}(m:MH a b out F G) (N:Up a) (L:Up b) (h:F=0\/G=0):Good a b (a.extract 0 F++b.extract 0 G++out.reverse):=by
 have e:(a.extract 0 F++b.extract 0 G++out.reverse).toList=a.toList.take F++b.toList.take G++out.toList.reverse:=by
  rw[toList_append,toList_append,kU,kU,toList_reverse]
 refine⟨by rw[e];exact m.pm,?_⟩;rw[e];rcases h with h|h
 .rw[h,take_zero,List.nil_append,pairwise_append];exact⟨L.up.sublist (take_sublist _ _),m.up,λp J q I=>m.bb p J q (List.mem_reverse.mp I)⟩
 .rw[h,take_zero,append_nil,pairwise_append];exact⟨N.up.sublist (take_sublist _ _),m.up,λp J q I=>m.ab p J q (List.mem_reverse.mp I)⟩
theorem MH.first {a b out:Array Keyed}{I F:Nat}(m:MH a b out I F) (O:Up a) (S:Up b) (hn:F=1) (h:∀j,j<a.size->K b 0<=K a j):Good a b (b.extract 0 F++a.extract 0 I++out.reverse):=by
 have e:(b.extract 0 F++a.extract 0 I++out.reverse).toList=b.toList.take F++a.toList.take I++out.toList.reverse:=by
  rw[toList_append,toList_append,kU,kU,toList_reverse]
 refine⟨?_,?_⟩
 .rw[e];exact(List.Perm.append_right _ perm_append_comm).trans m.pm
 .rw[e,pairwise_append,pairwise_append];refine⟨⟨S.up.sublist (take_sublist _ _),O.up.sublist (take_sublist _ _),λp J q G=>?_⟩,m.up,λp J q G=>?_⟩
  .obtain⟨i,Y,U,R⟩:=kG J;obtain⟨j,j1,L,N⟩:=kG G;show numOf p.1<=numOf q.1;rw[R,N,show i=0 by omega];exact h j L
  .rcases List.mem_append.mp J with z|z
   .exact m.bb p z q (List.mem_reverse.mp G)
   .exact m.ab p z q (List.mem_reverse.mp G)
noncomputable def zj:Array Keyed->Array Keyed->StateT SortSt Sem (Array Keyed):=sortPriv% PySem.Builtin.mergeHi
section
variable {prog:Program}{w:World}{A:Around}{E:Value->Shared->Prop}{s:Shared}{a₀:Array Keyed}
theorem ui {st:SortSt}{a b:Array Keyed}{Q:Array Keyed->SortSt->Prop}(hk:kindOf st=oneType') (J:Up a) (L:Up b) (G:1<=a.size) (F:1<=b.size) (h0:K b 0<K a 0) (hl:∀j,j<b.size->K b j<K a (a.size-1))
  (h:∀R ab,Good a b R->si st ab->Q R ab):wpS (model prog w) A E s (zj a b) Q st:=by
 refine wpS_bind (wpS_lift (wpAny_rule ⟨rfl,?_⟩));have sa:=J.Fp;have sb:=L.Fp;have as:∀j,j<a.size->K b 0<=K a j:=λj hj=>by
  have:=sa 0 j (zero_le _) (zero_le _) hj;omega
 obtain⟨t0,q0,e0⟩:=J.at (i:=a.size-1) (by omega +splitNatSub);refine wpS_bind (bt e0 ?_);have M0:MH a b #[(Value.int (K a (a.size-1)) t0,q0)] (a.size-1) b.size:=by
  have M:MH a b #[] a.size b.size:=⟨le_refl _,le_refl _,(by rw[take_of_length_le (l:=a.toList) (by simp),take_of_length_le (l:=b.toList) (by simp)];simp),List.Pairwise.nil,(λp _ q hq=>by cases hq),(λp _ q hq=>by cases hq)⟩;exact M.gx J G e0 λi h1 h2=>Int.le_of_lt (hl i h2)
 refine aP (λg=>wpS_pure (h _ _ (M0.done J L (.inl (by simpa using g))) ⟨rfl,rfl,rfl,rfl⟩)) (λg=>?_);have g1:¬ a.size-1=0:=(by simpa using g);refine aP (λg=>wpS_pure (h _ _ (M0.first J L (by simpa using g) as) ⟨rfl,rfl,rfl,rfl⟩)) (λg=>?_);have g2:¬ b.size=1:=(by simpa using g);refine wpS_bind (wpS_get ?_);refine wpS_bind (wpS_mono (wpS_forRange (I:=λx c ab=>Fz λG F out mg=>wo (c=(none,G,F,out,mg)) (MH a b out G F) (1<=G) (2<=F) (x+1<=out.size) (si st ab)) (Q:=λc ab=>∃R,qF (Good a b R) (c.1=some R) (si st ab)) ?_ ?_ ?_) ?_)
 .rintro x c a1 bz bJ ⟨G,F,out,mg,rfl,M,la,lb,lo,K1⟩;refine wpS_bind (wpS_mono (wpS_forRange (I:=λy c ab=>zX λG F S ac bc=>wo (c=(none,G,F,S,ac,bc)) (MH a b S G F) (1<=G) (2<=F) (out.size+y<=S.size) (si st ab))
   (Q:=λc ab=>si st ab/\((∃R,Good a b R/\c.1=some R)\/(zX λG F S ac bc=>Ca (c=(none,G,F,S,ac,bc)) (MH a b S G F) (1<=G) (2<=F) (out.size+1<=S.size)))) ?_ ?_ ?_) ?_)
  .rintro y c a0 bb bd ⟨G,F,S,ac,bc,rfl,M,la,lb,a7,K2⟩;have bn:kindOf a0=oneType':=K2.kind.trans hk;have lA:=M.la;have lB:=M.lb;obtain⟨tb,qb,eb⟩:=L.at (i:=F-1) af;obtain⟨ta,qa,ea⟩:=J.at (i:=G-1) af;refine wpS_bind (bt eb (wpS_bind (bt ea (wpS_bind (qg bn rfl rfl ?_)))));by_cases c:K b (F-1)<K a (G-1)
   .rw[decide_eq_true c];refine wpS_bind (bt ea ?_);have M2:=M.gx J (by omega +splitNatSub) ea λi h1 h2=>Int.le_of_lt (Int.lt_of_le_of_lt (sb i (F-1) (zero_le _) af af) c);refine aP (λg=>wpS_pure ⟨K2,.inl ⟨_,M2.done J L (.inl (by simpa using g)),rfl⟩⟩) (λg=>?_);have g':¬ G-1=0:=(by simpa using g);have sz:(S.push (Value.int (K a (G-1)) ta,qa)).size=S.size+1:=size_push ..;exact aP (λg=>wpS_pure ⟨K2,.inr ⟨G-1,F,S.push (Value.int (K a (G-1)) ta,qa),_,_,rfl,M2,af,lb,af⟩⟩) (λg=>wpS_pure ⟨G-1,F,S.push (Value.int (K a (G-1)) ta,qa),_,_,rfl,M2,af,lb,af,K2⟩)
   .rw[decide_eq_false c];refine wpS_bind (bt eb ?_);have M2:=M.kr L af eb λi h1 h2=>Int.le_trans (sa i (G-1) (zero_le _) af af) (Int.not_lt.mp c);refine aP (λg=>wpS_pure ⟨K2,.inl ⟨_,M2.first J L (by simpa using g) as,rfl⟩⟩) (λg=>?_);have g':¬ F-1=1:=(by simpa using g);have sz:(S.push (Value.int (K b (F-1)) tb,qb)).size=S.size+1:=size_push ..;exact aP (λg=>wpS_pure ⟨K2,.inr ⟨G,F-1,S.push (Value.int (K b (F-1)) tb,qb),_,_,rfl,M2,la,af,af⟩⟩) (λg=>wpS_pure ⟨G,F-1,S.push (Value.int (K b (F-1)) tb,qb),_,_,rfl,M2,la,af,af,K2⟩)
  .rintro c a0 ⟨G,F,S,ac,bc,rfl,M,la,lb,a7,K2⟩;exact⟨K2,.inr ⟨G,F,S,_,_,rfl,M,la,lb,af⟩⟩
  .exact⟨G,F,out,_,_,rfl,M,la,lb,af,K1⟩
  .rintro c a0 ⟨K2,⟨R,hR,e⟩|⟨G,F,S,ac,bc,rfl,M,la,lb,a7⟩⟩
   .obtain⟨c1,c2⟩:=c;cases e;exact wpS_pure ⟨R,hR,rfl,K2⟩
   .refine wpS_bind (wpS_lift (wpAny_rule ⟨rfl,?_⟩));refine wpS_bind (wpS_mono (wpS_forRange (I:=λy c ab=>Eg λG F ad mg ac bc=>wo (c=(none,G,F,ad,mg,ac,bc)) (MH a b ad G F) (1<=G) (2<=F) (S.size<=ad.size) (si st ab))
     (Q:=λc ab=>si st ab/\((∃R,Good a b R/\c.1=some R)\/(Eg λG F ad mg ac bc=>Ca (c=(none,G,F,ad,mg,ac,bc)) (MH a b ad G F) (1<=G) (2<=F) (S.size<=ad.size)))) ?_ ?_ ?_) ?_)
    .rintro y c a5 bb bd ⟨G,F,ad,a6,ac,bc,rfl,M,la,lb,am,K3⟩;refine aP (λg=>?_) (λg=>?_)
     all_goals
      refine wpS_bind (vO K3 λba O=>?_);have a3:kindOf ba=oneType':=O.kind.trans hk;have lA:=M.la;have lB:=M.lb;obtain⟨tb,qb,eb⟩:=L.at (i:=F-1) af;refine wpS_bind (bt eb (wpS_bind (dE (base:=0) (n:=G) (hint:=G-1) a3 rfl (λi hi=>J.at af) (sa.sub (zero_le _) af) af λr hr r1 r2=>?_)));obtain⟨R1,R2⟩:=zb r1 r2;simp only[zero_add]at R1 R2;have M1:=M.C6 J (k:=r) (by omega +splitNatSub) λi j h1 h2 h3 h4=>Int.le_of_lt (Int.lt_of_le_of_lt (sb i (F-1) (zero_le _) af af) (R2 j h3 h4));refine aP (λg2=>?_) (λg2=>?_)
      .refine aP (λg3=>wpS_pure ⟨O,.inl ⟨_,M1.done J L (.inl (by simpa using g3)),rfl⟩⟩) (λg3=>?_);have bI:¬ r=0:=(by simpa using g3);have M2:=M1.kr L af eb λi h1 h2=>R1 i (by omega +splitNatSub);refine wpS_bind (bt eb ?_);refine aP (λg5=>wpS_pure ⟨O,.inl ⟨_,M2.first J L (by simpa using g5) as,rfl⟩⟩) (λg5=>?_);have be:¬ F-1=1:=(by simpa using g5);obtain⟨ta,qa,ea⟩:=J.at (i:=r-1) af;refine wpS_bind (bt ea (wpS_bind (dE (base:=0) (n:=F-1) (hint:=F-1-1) a3 rfl (λi hi=>L.at af) (sb.sub (zero_le _) af) af λY bl aB a2=>?_)));obtain⟨T1,T2⟩:=rS aB a2;simp only[zero_add]at T1 T2;have M3:=M2.zh L (k:=Y) (by omega +splitNatSub) λi j h1 h2 h3 h4=>Int.le_trans (sa i (r-1) (zero_le _) af af) (T2 j h3 h4);refine aP (λg6=>?_) (λg6=>?_)
       .refine aP (λg7=>wpS_pure ⟨O,.inl ⟨_,M3.first J L (by simpa using g7) as,rfl⟩⟩) (λg7=>?_);have bv:¬ Y=1:=(by simpa using g7);refine aP (λap=>wpS_pure ⟨O,.inl ⟨_,M3.done J L (.inr (by simpa using ap)),rfl⟩⟩) (λap=>?_);have bi:¬ Y=0:=(by simpa using ap);refine wpS_bind (bt ea ?_);have N:=M3.gx J af ea λi h1 h2=>Int.le_of_lt (T1 i (by omega +splitNatSub));refine aP (λU=>wpS_pure ⟨O,.inl ⟨_,N.done J L (.inl (by simpa using U)),rfl⟩⟩) (λU=>?_);have aT:¬ r-1=0:=(by simpa using U);exact aP (λg9=>wpS_pure ⟨O,.inr ⟨r-1,Y,_,_,_,_,rfl,N,af,af,le_trans am (M.grow N af af)⟩⟩) (λg9=>wpS_pure ⟨r-1,Y,_,_,_,_,rfl,N,af,af,le_trans am (M.grow N af af),O⟩)
       .have bm:¬ F-1-Y>0:=g6;have a4:Y=F-1:=af;subst a4;refine wpS_bind (bt ea ?_);have N:=M2.gx J af ea λi h1 h2=>Int.le_of_lt (T1 i (by omega +splitNatSub));refine aP (λU=>wpS_pure ⟨O,.inl ⟨_,N.done J L (.inl (by simpa using U)),rfl⟩⟩) (λU=>?_);have aT:¬ r-1=0:=(by simpa using U);exact aP (λg9=>wpS_pure ⟨O,.inr ⟨r-1,F-1,_,_,_,_,rfl,N,af,af,le_trans am (M.grow N af af)⟩⟩) (λg9=>wpS_pure ⟨r-1,F-1,_,_,_,_,rfl,N,af,af,le_trans am (M.grow N af af),O⟩)
      .have bx:¬ G-r>0:=g2;have r0:r=G:=af;subst r0;have M2:=M.kr L af eb λi h1 h2=>R1 i (by omega +splitNatSub);refine wpS_bind (bt eb ?_);refine aP (λg5=>wpS_pure ⟨O,.inl ⟨_,M2.first J L (by simpa using g5) as,rfl⟩⟩) (λg5=>?_);have be:¬ F-1=1:=(by simpa using g5);obtain⟨ta,qa,ea⟩:=J.at (i:=r-1) af;refine wpS_bind (bt ea (wpS_bind (dE (base:=0) (n:=F-1) (hint:=F-1-1) a3 rfl (λi hi=>L.at af) (sb.sub (zero_le _) af) af λY bl aB a2=>?_)));obtain⟨T1,T2⟩:=rS aB a2;simp only[zero_add]at T1 T2;have M3:=M2.zh L (k:=Y) (by omega +splitNatSub) λi j h1 h2 h3 h4=>Int.le_trans (sa i (r-1) (zero_le _) af af) (T2 j h3 h4);refine aP (λg6=>?_) (λg6=>?_)
       .refine aP (λg7=>wpS_pure ⟨O,.inl ⟨_,M3.first J L (by simpa using g7) as,rfl⟩⟩) (λg7=>?_);have bv:¬ Y=1:=(by simpa using g7);refine aP (λap=>wpS_pure ⟨O,.inl ⟨_,M3.done J L (.inr (by simpa using ap)),rfl⟩⟩) (λap=>?_);have bi:¬ Y=0:=(by simpa using ap);refine wpS_bind (bt ea ?_);have N:=M3.gx J (by omega +splitNatSub) ea λi h1 h2=>Int.le_of_lt (T1 i (by omega +splitNatSub));refine aP (λU=>wpS_pure ⟨O,.inl ⟨_,N.done J L (.inl (by simpa using U)),rfl⟩⟩) (λU=>?_);have aT:¬ r-1=0:=(by simpa using U);exact aP (λg9=>wpS_pure ⟨O,.inr ⟨r-1,Y,_,_,_,_,rfl,N,af,af,le_trans am (M.grow N af af)⟩⟩) (λg9=>wpS_pure ⟨r-1,Y,_,_,_,_,rfl,N,af,af,le_trans am (M.grow N af af),O⟩)
       .have bm:¬ F-1-Y>0:=g6;have a4:Y=F-1:=af;subst a4;refine wpS_bind (bt ea ?_);have N:=M2.gx J (by omega +splitNatSub) ea λi h1 h2=>Int.le_of_lt (T1 i (by omega +splitNatSub));refine aP (λU=>wpS_pure ⟨O,.inl ⟨_,N.done J L (.inl (by simpa using U)),rfl⟩⟩) (λU=>?_);have aT:¬ r-1=0:=(by simpa using U);exact aP (λg9=>wpS_pure ⟨O,.inr ⟨r-1,F-1,_,_,_,_,rfl,N,af,af,le_trans am (M.grow N af af)⟩⟩) (λg9=>wpS_pure ⟨r-1,F-1,_,_,_,_,rfl,N,af,af,le_trans am (M.grow N af af),O⟩)
    .rintro c a5 ⟨G,F,ad,a6,ac,bc,rfl,M,la,lb,am,K3⟩;exact⟨K3,.inr ⟨G,F,ad,_,_,_,rfl,M,la,lb,am⟩⟩
    .exact⟨G,F,S,_,_,_,rfl,M,la,lb,le_refl _,K2⟩
    .rintro c a5 ⟨K3,⟨R,hR,e⟩|⟨G,F,ad,a6,ac,bc,rfl,M,la,lb,am⟩⟩
     .obtain⟨c1,c2⟩:=c;cases e;exact wpS_pure ⟨R,hR,rfl,K3⟩
     .refine wpS_bind (vO K3 λba O=>?_);exact wpS_pure ⟨G,F,ad,_,rfl,M,la,lb,af,O⟩
 .rintro c a1 ⟨G,F,out,mg,rfl,M,la,lb,lo,K1⟩;exfalso;have:=M.sz;omega
 .exact⟨_,_,_,_,rfl,M0,af,af,le_refl _,⟨rfl,rfl,rfl,rfl⟩⟩
 .rintro c a1 ⟨R,hR,e,K1⟩;obtain⟨c1,c2⟩:=c;cases e;exact wpS_pure (h R a1 hR K1)
end
noncomputable def putAll (a:Array Keyed) (o n:Nat) (l:List Keyed):Array Keyed:=(l.zipIdx n).foldl (λa (p,j)=>a.setIfInBounds (o+j) p) a
theorem iO (o:Nat):∀(l:List Keyed) (n:Nat) (a:Array Keyed),o+n+l.length<=a.size->∀i,(putAll a o n l)[i]?=if o+n<=i/\i<o+n+l.length then l[i-(o+n)]? else a[i]?
 | [],n,a,_,i=>by
  rw[if_neg (by rw[length_nil];omega)];rfl
 |p::l,n,a,h,i=>by
  rw[length_cons]at h;show(putAll (a.setIfInBounds (o+n) p) o (n+1) l)[i]?=_;rw[iO o l (n+1) _ (by rw[Array.size_setIfInBounds];omega),length_cons,Array.getElem?_setIfInBounds];by_cases c:o+(n+1)<=i/\i<o+(n+1)+l.length
  .rw[if_pos c,if_pos af,show i-(o+n)=(i-(o+(n+1)))+1 by omega];simp
  .rw[if_neg c];by_cases d:o+n=i
   .rw[if_pos d,if_pos af,if_pos af, <-d];simp
   .rw[if_neg d,if_neg af]
theorem rK {a:Array Keyed}{o:Nat}{l:List Keyed}(h:o+l.length<=a.size):(putAll a o 0 l).toList=a.toList.take o++l++a.toList.drop (o+l.length):=by
 apply List.ext_getElem?;intro i;have e:=iO o l 0 a af i;rw[getElem?_toList,e,append_assoc];by_cases F:i<o
 .rw[if_neg af,List.getElem?_append_left (by rw[length_take];simp;omega),List.getElem?_take];simp[F]
 .rw[List.getElem?_append_right (by rw[length_take];omega)];have G:(a.toList.take o).length=o:=(by rw[length_take];simp;omega);rw[G];by_cases I:i<o+l.length
  .rw[if_pos af,List.getElem?_append_left af];rfl
  .rw[if_neg af,List.getElem?_append_right af,List.getElem?_drop,getElem?_toList];congr 1;omega
theorem sf {a:Array Keyed}{lo hi i:Nat}(h:i<hi-lo) (hs:hi<=a.size):K (a.extract lo hi) i=K a (lo+i):=by
 refine K_congr ?_;rw[Array.getElem?_extract];rw[if_pos af]
theorem mN {a:Array Keyed}{lo hi:Nat}(hs:hi<=a.size):(a.extract lo hi).size=hi-lo:=by
 rw[Array.size_extract];omega
theorem zu {a₀ a:Array Keyed}(J:a.Perm a₀) (k:Ks a₀) {lo hi:Nat}(hs:hi<=a.size) (h:j8 a lo hi):Up (a.extract lo hi):=by
 refine⟨λp I=>k.ik p ((Array.perm_iff_toList_perm.mp J).mem_iff.mp ?_),List.pairwise_iff_getElem.mpr λi j R N S=>?_⟩
 .rw[gc]at I;exact List.mem_of_mem_drop (List.mem_of_mem_take I)
 .have sz:=mN (a:=a) (lo:=lo) hs;have O:i<(a.extract lo hi).size:=(by rw[<-length_toList];exact R);have L:j<(a.extract lo hi).size:=(by rw[<-length_toList];exact N);have G:=K_eq O;have F:=K_eq L;rw[sf af hs]at G F;have z:=h (lo+i) (lo+j) af af af;rw[G,F]at z;simpa[le]using z
theorem parts {a:Array Keyed}{lo mid hi:Nat}(h1:lo<=mid) (h2:mid<=hi):a.toList=a.toList.take lo++(seg a lo mid++seg a mid hi)++a.toList.drop hi:=by
 have G:=hX (a:=a) h1;have F:=hX (a:=a) h2;rw[<-append_assoc, <-G, <-F,take_append_drop]
theorem vy {a R:Array Keyed}{lo mid hi:Nat}(h1:lo<=mid) (h2:mid<=hi) (h3:hi<=a.size) (G:Good (a.extract lo mid) (a.extract mid hi) R) :
  R.size=hi-lo/\(putAll a lo 0 R.toList).Perm a/\(∀i,¬ (lo<=i/\i<hi)->(putAll a lo 0 R.toList)[i]?=a[i]?)/\j8 (putAll a lo 0 R.toList) lo hi/\∀i,lo<=i->i<hi->∃j,lo<=j/\j<hi/\K (putAll a lo 0 R.toList) i=K a j:=by
 obtain⟨I,g2⟩:=G;have sz:R.size=hi-lo:=by
  have:=I.length_eq;simp only[length_append,length_toList]at this;rw[mN af,mN h3]at this;omega
 have hl:R.toList.length=hi-lo:=(by rw[length_toList];exact sz);have get:=iO lo R.toList 0 a af;have J:∀i,lo<=i->i<hi->∃(h:i-lo<R.size),K (putAll a lo 0 R.toList) i=numOf (R[i-lo]).1:=λi Y N=>by
  have S:i-lo<R.size:=af;refine⟨S,?_⟩;have e:=get i;rw[if_pos af]at e;unfold K;rw[e,getElem?_toList,Nat.add_zero,getElem?_pos R (i-lo) S]
 refine⟨sz,?_,λi hi=>?_,λi j hi ab hj=>?_,λi Y N=>?_⟩
 .rw[Array.perm_iff_toList_perm,rK af]
  conv=>rhs;rw[parts (a:=a) h1 h2]
  rw[hl,show lo+(hi-lo)=hi by omega];refine List.Perm.append_right _ (List.Perm.append_left _ ?_);rw[<-gc, <-gc];exact I
 .rw[get i,if_neg af]
 .obtain⟨O,F⟩:=J i hi af;obtain⟨a2,e2⟩:=J j af hj;rw[F,e2];by_cases z:i=j
  .subst z;exact Int.le_refl _
  .have:=List.pairwise_iff_getElem.mp g2 (i-lo) (j-lo) (by simpa using O) (by simpa using a2) af;simpa[le]using this
 .obtain⟨O,F⟩:=J i Y N;have hm:R[i-lo]∈(a.extract lo mid).toList++(a.extract mid hi).toList:=I.mem_iff.mp (by simp);rw[F];rcases List.mem_append.mp hm with z|z
  .rw[gc]at z;obtain⟨j,U,L,j3,e⟩:=kH z;exact⟨j,U,af,e⟩
  .rw[gc]at z;obtain⟨j,U,L,j3,e⟩:=kH z;exact⟨j,af,L,e⟩
structure B1 (a₀:Array Keyed) (st st':SortSt) (i lo n:Nat) (pw:Nat):Prop where
 S:SI a₀ st'
 out:∀j,¬ (lo<=j/\j<lo+n)->(arrOf st')[j]?=(arrOf st)[j]?
 up:j8 (arrOf st') lo (lo+n)
 pend:pendingOf st'=((pendingOf st).setIfInBounds i (lo,n,pw)).eraseIdxIfInBounds (i+1)
section
variable {prog:Program}{w:World}{A:Around}{E:Value->Shared->Prop}{s:Shared}{a₀:Array Keyed}
theorem CD {st x:SortSt}{Q:PUnit->SortSt->Prop}(h:Q ⟨⟩ x):wpS (model prog w) A E s (set x:StateT SortSt Sem PUnit) Q st:=by
 unfold wpS;rw[StateT.run_set];exact wpAny_pure ⟨rfl,h⟩
theorem xY {st:SortSt}{i F I pw nb ad:Nat}{Q:Bool->SortSt->Prop}(S:SI a₀ st) (k:Ks a₀) (h1:(pendingOf st)[i]?=some (F,I,pw)) (h2:(pendingOf st)[i+1]?=some (F+I,nb,ad)) (n1:1<=I) (n2:1<=nb) (hsz:F+I+nb<=a₀.size)
  (Y:j8 (arrOf st) F (F+I)) (U:j8 (arrOf st) (F+I) (F+I+nb)) (h:∀ac,B1 a₀ st ac i F (I+nb) pw->Q true ac):wpS (model prog w) A E s (mergeAt' i) Q st:=by
 refine wpS_bind (wpS_get ?_);have hs:=S.size;have ka:∀{j:Nat},j<(arrOf st).size->∃t q,(arrOf st)[j]?=some (.int (K (arrOf st) j) t,q):=λhj=>uW S.perm k hj;rw[h1,h2];refine wpS_bind (CD ?_);obtain⟨tb,qb,eb⟩:=ka (j:=F+I) af;refine wpS_bind (bt eb (wpS_bind (dE (base:=F) (n:=I) (hint:=0) S.kind rfl (λi hi=>ka af) Y af λr hr r1 r2=>?_)));obtain⟨R1,R2⟩:=zb r1 r2;refine aP (λg=>?_) (λg=>?_)
 .have g':I-r=0:=(by simpa using g);refine wpS_pure (h _ ⟨⟨S.perm,S.kind,S.failed⟩,λ_ _=>rfl,λi j hi L hj=>?_,rfl⟩);show K (arrOf st) i<=K (arrOf st) j;by_cases c1:j<F+I
  .exact Y i j hi L c1
  .by_cases N:i<F+I
   .have O:=R1 (i-F) af;rw[show F+(i-F)=i by omega]at O;exact Int.le_trans O (U (F+I) j (le_refl _) af af)
   .exact U i j af L af
 have g':¬ I-r=0:=(by simpa using g);obtain⟨ta,qa,ea⟩:=ka (j:=F+r+(I-r)-1) af;refine wpS_bind (bt ea (wpS_bind (dE (base:=F+I) (n:=nb) (hint:=nb-1) S.kind rfl (λi hi=>ka af) U af λJ aB am ap=>?_)));obtain⟨T1,T2⟩:=rS am ap;refine aP (λg=>?_) (λg=>?_)
 .have as:J=0:=(by simpa using g);refine wpS_pure (h _ ⟨⟨S.perm,S.kind,S.failed⟩,λ_ _=>rfl,λi j hi L hj=>?_,rfl⟩);show K (arrOf st) i<=K (arrOf st) j;by_cases c1:j<F+I
  .exact Y i j hi L c1
  .by_cases N:i<F+I
   .exact Int.le_trans (Y i (F+r+(I-r)-1) hi af af) (T2 j af af)
   .exact U i j af L af
 have g2:¬ J=0:=(by simpa using g);have ux:Up ((arrOf st).extract (F+r) (F+I)):=zu S.perm k af λi j hi L hj=>Y i j af L hj;have uy:Up ((arrOf st).extract (F+I) (F+I+J)):=zu S.perm k af λi j hi L hj=>U i j hi L af;have sx:((arrOf st).extract (F+r) (F+I)).size=I-r:=(by rw[mN af];omega);have sy:((arrOf st).extract (F+I) (F+I+J)).size=J:=(by rw[mN af];omega);have x0:K ((arrOf st).extract (F+I) (F+I+J)) 0<K ((arrOf st).extract (F+r) (F+I)) 0:=by
  rw[sf af af,sf af af];exact R2 (F+r) (le_refl _) af
 have xl:∀j,j<((arrOf st).extract (F+I) (F+I+J)).size->K ((arrOf st).extract (F+I) (F+I+J)) j<K ((arrOf st).extract (F+r) (F+I)) (((arrOf st).extract (F+r) (F+I)).size-1):=λj hj=>by
  rw[sf af af,sf af af,sx,show F+r+(I-r-1)=F+r+(I-r)-1 by omega];exact T1 j af
 refine aP (λg=>?_) (λg=>?_)
 .refine wpS_bind (uA S.kind ux uy (by rw[sx];omega) (by rw[sy];omega) x0 xl λR stC G KC=>?_);obtain⟨z1,z2,z3,z4,z5⟩:=vy (a:=arrOf st) (lo:=F+r) (mid:=F+I) (hi:=F+I+J) af af af G;refine wpS_bind (wpS_modify (wpS_bind (wpS_get (wpS_pure ?_))));have hf:failedOf stC=none:=KC.failed.trans S.failed;have hc:arrOf stC=arrOf st:=KC.arr;show Q (failedOf stC).isNone (SortSt.mk' (kindOf stC) (putAll (arrOf stC) (F+r) 0 R.toList) (pendingOf stC) (gallopOf stC) (failedOf stC));rw[hf,hc];refine h _ ⟨⟨z2.trans S.perm,KC.kind.trans S.kind,rfl⟩,λj hj=>z3 j af,λi j hi L hj=>?_,KC.pend⟩;show K (putAll (arrOf st) (F+r) 0 R.toList) i<=K (putAll (arrOf st) (F+r) 0 R.toList) j;have out:∀i,¬ (F+r<=i/\i<F+I+J)->K (putAll (arrOf st) (F+r) 0 R.toList) i=K (arrOf st) i:=λi hi=>K_congr (z3 i hi);by_cases c1:i<F+r
  .rw[out i af];have ab:∀j,F+r<=j->j<F+I+nb->K (arrOf st) i<=K (arrOf st) j:=λj h1 h2=>by
    by_cases c:j<F+I
    .exact Y i j hi af c
    .have O:=R1 (i-F) af;rw[show F+(i-F)=i by omega]at O;exact Int.le_trans O (U (F+I) j (le_refl _) af h2)
   by_cases N:F+r<=j/\j<F+I+J
   .obtain⟨j',q1,q2,e⟩:=z5 j N.1 N.2;rw[e];exact ab j' q1 af
   .rw[out j N];by_cases c3:j<F+r
    .exact Y i j hi L af
    .exact ab j af af
  .by_cases N:i<F+I+J
   .by_cases c3:j<F+I+J
    .exact z4 i j af L c3
    .rw[out j af];obtain⟨i',q1,q2,e⟩:=z5 i af N;rw[e];by_cases c4:i'<F+I
     .have O:=T2 j af af;exact Int.le_trans (Y i' (F+r+(I-r)-1) af af af) O
     .exact U i' j af af af
   .rw[out i af,out j af];exact U i j af L af
 .refine wpS_bind (ui S.kind ux uy (by rw[sx];omega) (by rw[sy];omega) x0 xl λR stC G KC=>?_);obtain⟨z1,z2,z3,z4,z5⟩:=vy (a:=arrOf st) (lo:=F+r) (mid:=F+I) (hi:=F+I+J) af af af G;refine wpS_bind (wpS_modify (wpS_bind (wpS_get (wpS_pure ?_))));have hf:failedOf stC=none:=KC.failed.trans S.failed;have hc:arrOf stC=arrOf st:=KC.arr;show Q (failedOf stC).isNone (SortSt.mk' (kindOf stC) (putAll (arrOf stC) (F+r) 0 R.toList) (pendingOf stC) (gallopOf stC) (failedOf stC));rw[hf,hc];refine h _ ⟨⟨z2.trans S.perm,KC.kind.trans S.kind,rfl⟩,λj hj=>z3 j af,λi j hi L hj=>?_,KC.pend⟩;show K (putAll (arrOf st) (F+r) 0 R.toList) i<=K (putAll (arrOf st) (F+r) 0 R.toList) j;have out:∀i,¬ (F+r<=i/\i<F+I+J)->K (putAll (arrOf st) (F+r) 0 R.toList) i=K (arrOf st) i:=λi hi=>K_congr (z3 i hi);by_cases c1:i<F+r
  .rw[out i af];have ab:∀j,F+r<=j->j<F+I+nb->K (arrOf st) i<=K (arrOf st) j:=λj h1 h2=>by
    by_cases c:j<F+I
    .exact Y i j hi af c
    .have O:=R1 (i-F) af;rw[show F+(i-F)=i by omega]at O;exact Int.le_trans O (U (F+I) j (le_refl _) af h2)
   by_cases N:F+r<=j/\j<F+I+J
   .obtain⟨j',q1,q2,e⟩:=z5 j N.1 N.2;rw[e];exact ab j' q1 af
   .rw[out j N];by_cases c3:j<F+r
    .exact Y i j hi L af
    .exact ab j af af
  .by_cases N:i<F+I+J
   .by_cases c3:j<F+I+J
    .exact z4 i j af L c3
    .rw[out j af];obtain⟨i',q1,q2,e⟩:=z5 i af N;rw[e];by_cases c4:i'<F+I
     .have O:=T2 j af af;exact Int.le_trans (Y i' (F+r+(I-r)-1) af af af) O
     .exact U i' j af af af
   .rw[out i af,out j af];exact U i j af L af
end
noncomputable def Chain (xs:Array Keyed):Nat->List (Nat×Nat×Nat)->Nat->Prop
 |s,[],e=>s=e
 |s,(t,n,_)::r,e=>t=s/\1<=n/\j8 xs s (s+n)/\Chain xs (s+n) r e
theorem Chain.le {xs:Array Keyed}:∀{s:Nat}{l:List (Nat×Nat×Nat)}{e:Nat},Chain xs s l e->s+l.length<=e
 |s,[],e,h=>Nat.le_of_eq h
 |s,(t,n,p)::r,e,⟨_,h2,_,F⟩=>by
  have:=Chain.le F;rw[length_cons];omega
theorem Chain.app {xs:Array Keyed}:∀{s:Nat}{l F:List (Nat×Nat×Nat)}{e:Nat},Chain xs s (l++F) e↔∃m,Chain xs s l m/\Chain xs m F e
 |s,[],F,e=>⟨λh=>⟨s,rfl,h⟩,λ⟨m,h1,h2⟩=>by rw[show s=m from h1];exact h2⟩
 |s,(t,n,p)::r,F,e=>by
  constructor
  .rintro⟨h1,h2,G,L⟩;obtain⟨m,I,J⟩:=Chain.app.mp L;exact⟨m,⟨h1,h2,G,I⟩,J⟩
  .rintro⟨m,⟨h1,h2,G,I⟩,J⟩;exact⟨h1,h2,G,Chain.app.mpr ⟨m,I,J⟩⟩
theorem j8.congr {xs ys:Array Keyed}{lo hi:Nat}(h:j8 xs lo hi) (e:∀i,lo<=i->i<hi->ys[i]?=xs[i]?):j8 ys lo hi:=λi j hi G F=>by
 rw[K_congr (e i hi af),K_congr (e j af F)];exact h i j hi G F
theorem Chain.congr {xs ys:Array Keyed}:∀{s:Nat}{l:List (Nat×Nat×Nat)}{e:Nat},Chain xs s l e->(∀i,s<=i->i<e->ys[i]?=xs[i]?)->Chain ys s l e
 |s,[],e,h,_=>h
 |s,(t,n,p)::r,e,⟨h1,h2,G,F⟩,q=>by
  have:=Chain.le F;exact⟨h1,h2,G.congr λi a b=>q i a af,F.congr λi a b=>q i af b⟩
structure RI (a₀:Array Keyed) (st:SortSt) (lo:Nat):Prop where
 S:SI a₀ st
 ch:Chain (arrOf st) 0 (pendingOf st).toList lo
 le:lo<=a₀.size
theorem C0 {α:Type}{l:List α}{i:Nat}(h:i+1<l.length):∃F x y G,l=F++x::y::G/\F.length=i:=by
 refine⟨l.take i,l[i],l[i+1],l.drop (i+2),?_,?_⟩
 .rw[<-drop_eq_getElem_cons af, <-drop_eq_getElem_cons af,take_append_drop]
 .rw[length_take];omega
theorem oh {p:Array (Nat×Nat×Nat)}{F G:List (Nat×Nat×Nat)}{x y z:Nat×Nat×Nat}{i:Nat}(h:p.toList=F++x::y::G) (hi:F.length=i):((p.setIfInBounds i z).eraseIdxIfInBounds (i+1)).toList=F++z::G:=by
 obtain⟨l⟩:=p;subst h;subst hi;simp;rw[List.eraseIdx_append_of_length_le af];simp
theorem AA {c:Bool}{n:Nat}(h:¬ n<=1):(if c=true then n-2-1 else n-2)+1<n:=by
 cases c
 .rw[if_neg av];omega
 .rw[if_pos rfl];omega
theorem uJ {α F:Type}{l:List α}{i:Nat}{f:α->α}{g:α->F}(h:∀x,g (f x)=g x):(l.modify i f).map g=l.map g:=by
 apply List.ext_getElem?;intro j;rw[getElem?_map,getElem?_map,List.getElem?_modify];cases l[j]? with
 |none=>rfl
 |some x =>
  by_cases c:i=j
  .simp[c,h]
  .simp[c]
theorem Chain.same {xs:Array Keyed}:∀{s:Nat}{l F:List (Nat×Nat×Nat)}{e:Nat},Chain xs s l e->F.map (λx=>(x.1,x.2.1))=l.map (λx=>(x.1,x.2.1))->Chain xs s F e
 |s,[],F,e,h,q=>by
  cases F with
  |nil=>exact h
  |cons x r=>cases q
 |s,(t,n,p)::r,F,e,⟨h1,h2,J,R⟩,q=>by
  cases F with
  |nil=>cases q
  |cons x S =>
   obtain⟨t',L,U⟩:=x;rw[map_cons,map_cons]at q;obtain⟨N,O⟩:=List.cons.inj q;obtain⟨G,I⟩:=Prod.mk.inj N;have G:t'=t:=G;have I:L=n:=I;subst G;subst I;exact⟨h1,h2,J,R.same O⟩
theorem RI.push {a₀:Array Keyed}{st:SortSt}{lo n p:Nat}(R:RI a₀ st lo) (F:1<=n) (G:lo+n<=a₀.size) (u:j8 (arrOf st) lo (lo+n)):RI a₀ (setPending st ((pendingOf st).push (lo,n,p))) (lo+n):=by
 refine⟨⟨R.S.perm,R.S.kind,R.S.failed⟩,?_,G⟩;show Chain (arrOf st) 0 ((pendingOf st).push (lo,n,p)).toList (lo+n);rw[toList_push];exact Chain.app.mpr ⟨lo,R.ch,rfl,F,u,rfl⟩
theorem RI.last {a₀:Array Keyed}{st:SortSt}{lo:Nat}(R:RI a₀ st lo) {f:Nat×Nat×Nat->Nat×Nat×Nat}(F:∀x,((f x).1,(f x).2.1)=(x.1,x.2.1)) (i:Nat):RI a₀ (setPending st ((pendingOf st).modify i f)) lo:=by
 refine⟨⟨R.S.perm,R.S.kind,R.S.failed⟩,?_,R.le⟩;show Chain (arrOf st) 0 ((pendingOf st).modify i f).toList lo;refine R.ch.same ?_;rw[Array.toList_modify];exact uJ F
section
variable {prog:Program}{w:World}{A:Around}{E:Value->Shared->Prop}{s:Shared}{a₀:Array Keyed}
theorem iJ {st:SortSt}{lo i:Nat}{Q:Bool->SortSt->Prop}(R:RI a₀ st lo) (k:Ks a₀) (hi:i+1<(pendingOf st).size)
  (h:∀I,RI a₀ I lo->(∀j,lo<=j->(arrOf I)[j]?=(arrOf st)[j]?)->(pendingOf I).size+1=(pendingOf st).size->Q true I):wpS (model prog w) A E s (mergeAt' i) Q st:=by
 obtain⟨Y,x,y,l2,e,L⟩:=C0 (l:=(pendingOf st).toList) (i:=i) (by simpa using hi);obtain⟨F,G,N⟩:=x;obtain⟨sb,J,U⟩:=y;have ch:=R.ch;rw[e]at ch;obtain⟨m,c1,e1,n1,u1,e2,n2,u2,c2⟩:=Chain.app.mp ch;subst e1;subst e2;have b1:=c1.le;have b2:=c2.le;have ab:=R.le;have g1:(pendingOf st)[i]?=some (F,G,N):=by
  rw[<-getElem?_toList,e, <-L];simp
 have g2:(pendingOf st)[i+1]?=some (F+G,J,U):=by
  rw[<-getElem?_toList,e, <-L];simp
 refine xY R.S k g1 g2 n1 n2 af u1 u2 λI M=>h I ⟨M.S,?_,R.le⟩ (λj O=>M.out j af) ?_
 .rw[M.pend,oh e L];refine Chain.app.mpr ⟨F,c1.congr λj _ O=>M.out j af,rfl,af,M.up,?_⟩;rw[show F+(G+J)=F+G+J by omega];exact c2.congr λj O _=>M.out j af
 .have p1:(pendingOf I).toList.length=(Y++(F,G+J,N)::l2).length:=(by rw[M.pend,oh e L]);have p2:(pendingOf st).toList.length=(Y++(F,G,N)::(F+G,J,U)::l2).length:=(by rw[e]);simp only[length_toList,length_append,length_cons]at p1 p2;omega
theorem xg {st:SortSt}{Q:Unit->SortSt->Prop}(k:Ks a₀) (S:SI a₀ st) (hp:pendingOf st = #[]) (h2:2<=a₀.size) (h:∀N,(arrOf N).Perm a₀->failedOf N=none->SortedTo (arrOf N) a₀.size->Q () N):wpS (model prog w) A E s sortRuns' Q st:=by
 rw[sortRuns'_eq];refine wpS_bind (wpS_get ?_);have hsz:=S.size;have a1:(arrOf st).size=a₀.size:=hsz;dsimp only;rw[hsz];refine wpS_bind (wpS_mono (wpS_forRange (I:=λx c N=>∃lo,qF (c=(none,lo)) (RI a₀ N lo) (x<=lo)) (Q:=λc N=>c=(none,a₀.size)/\RI a₀ N a₀.size) ?_ ?_ ?_) ?_)
 .rintro x c a3 aT a0 ⟨lo,rfl,R,hx⟩;have ac:=R.le;refine aP (λg=>?_) (λg=>?_)
  .have g':a₀.size<=lo:=g;obtain rfl:lo=a₀.size:=af;exact wpS_pure ⟨rfl,R⟩
  have g':¬ a₀.size<=lo:=g;refine wpS_bind (xQ R.S k (lo:=lo) (nrem:=a₀.size-lo) af af λm G C m1 m2 us=>?_);dsimp only;refine aP (λgm=>?_) (λgm=>?_)
  .refine wpS_bind (wpS_lift (wpAny_rule ⟨rfl,?_⟩));generalize hf:min (a₀.size-lo) (minRun' a₀.size a₀.size 0)=n;refine wpS_bind (yP C.S k (lo:=lo) (n:=n) (ok:=m) af m1 af us λab C3 ad=>?_);have Y:RI a₀ ab lo:=⟨C3.S,by
    rw[C3.pend,C.pend];exact R.ch.congr λi _ hi=>(C3.pre i hi).trans (C.pre i hi),R.le⟩
   refine wpS_bind (wpS_get ?_);cases e:(pendingOf ab).back? with
   |none=>exact wpS_bind (wpS_modify (wpS_pure ⟨lo+n,rfl,Y.push af af ad,af⟩))
   |some t =>
    obtain⟨s1,O,p1⟩:=t;refine wpS_bind (wpS_mono (wpS_forRange (I:=λy c F=>qF (c=(none,())) (RI a₀ F lo) (∀j,lo<=j->(arrOf F)[j]?=(arrOf ab)[j]?)) (Q:=λc F=>qF (c=(none,())) (RI a₀ F lo) (∀j,lo<=j->(arrOf F)[j]?=(arrOf ab)[j]?)) ?_ ?_ ?_) ?_)
    .rintro y c F as aB ⟨rfl,J,L⟩;refine wpS_bind (wpS_get ?_);by_cases g:(pendingOf F).size>1
     .rw[if_pos g,getElem?_pos (pendingOf F) ((pendingOf F).size-2) af];refine aP (λ_=>wpS_pure ⟨rfl,J,L⟩) (λ_=>?_);exact wpS_bind (iJ J k af λam R5 o5 _=>wpS_pure ⟨rfl,R5,λj U=>(o5 j U).trans (L j U)⟩)
     .rw[if_neg g];exact wpS_pure ⟨rfl,J,L⟩
    .exact λc F q=>q
    .exact⟨rfl,Y,λ_ _=>rfl⟩
    .rintro c F ⟨rfl,J,L⟩;refine wpS_bind (wpS_modify (wpS_bind (wpS_modify (wpS_pure ⟨lo+n,rfl,?_,af⟩))));exact RI.push (J.last (f:=λx=>(x.fst,x.2.fst,power' a₀.size (2*s1+O) (2*s1+O+O+n) a₀.size)) (λx=>rfl) _) af af (ad.congr λi h1 _=>L i h1)
  .have Y:RI a₀ G lo:=⟨C.S,by
    rw[C.pend];exact R.ch.congr λi _ hi=>C.pre i hi,R.le⟩
   refine wpS_bind (wpS_get ?_);cases e:(pendingOf G).back? with
   |none=>exact wpS_bind (wpS_modify (wpS_pure ⟨lo+m,rfl,Y.push af af us,af⟩))
   |some t =>
    obtain⟨s1,O,p1⟩:=t;refine wpS_bind (wpS_mono (wpS_forRange (I:=λy c F=>qF (c=(none,())) (RI a₀ F lo) (∀j,lo<=j->(arrOf F)[j]?=(arrOf G)[j]?)) (Q:=λc F=>qF (c=(none,())) (RI a₀ F lo) (∀j,lo<=j->(arrOf F)[j]?=(arrOf G)[j]?)) ?_ ?_ ?_) ?_)
    .rintro y c F as aB ⟨rfl,J,L⟩;refine wpS_bind (wpS_get ?_);by_cases g:(pendingOf F).size>1
     .rw[if_pos g,getElem?_pos (pendingOf F) ((pendingOf F).size-2) af];refine aP (λ_=>wpS_pure ⟨rfl,J,L⟩) (λ_=>?_);exact wpS_bind (iJ J k af λam R5 o5 _=>wpS_pure ⟨rfl,R5,λj U=>(o5 j U).trans (L j U)⟩)
     .rw[if_neg g];exact wpS_pure ⟨rfl,J,L⟩
    .exact λc F q=>q
    .exact⟨rfl,Y,λ_ _=>rfl⟩
    .rintro c F ⟨rfl,J,L⟩;refine wpS_bind (wpS_modify (wpS_bind (wpS_modify (wpS_pure ⟨lo+m,rfl,?_,af⟩))));exact RI.push (J.last (f:=λx=>(x.fst,x.2.fst,power' a₀.size (2*s1+O) (2*s1+O+O+m) a₀.size)) (λx=>rfl) _) af af (us.congr λi h1 _=>L i h1)
 .rintro c N ⟨lo,rfl,R,hx⟩;have:=R.le;obtain rfl:lo=a₀.size:=af;exact⟨rfl,R⟩
 .exact⟨0,rfl,⟨S,by rw[hp];rfl,zero_le _⟩,le_refl _⟩
 .rintro c N ⟨rfl,R⟩;dsimp only;refine wpS_bind (wpS_mono (wpS_forRange (I:=λx c G=>qF (c=(none,())) (RI a₀ G a₀.size) ((pendingOf G).size+x<=a₀.size)) (Q:=λc G=>qF (c=(none,())) (RI a₀ G a₀.size) ((pendingOf G).size<=1)) ?_ ?_ ?_) ?_)
  .rintro x c G aT a0 ⟨rfl,R2,ac⟩;refine wpS_bind (wpS_get ?_);refine aP (λg=>wpS_pure ⟨rfl,R2,g⟩) (λg=>?_);refine wpS_bind (iJ R2 k ?_ λab Y _ a2=>?_)
   .exact AA g
   .exact wpS_pure ⟨rfl,Y,af⟩
  .rintro c G ⟨rfl,R2,ac⟩;exact⟨rfl,R2,af⟩
  .refine⟨rfl,R,?_⟩;have:=R.ch.le;simpa using this
  .rintro c G ⟨rfl,R2,ac⟩;refine wpS_pure (h G R2.S.perm R2.S.failed ?_);have ch:=R2.ch;cases e:(pendingOf G).toList with
   |nil =>
    rw[e]at ch;have:0=a₀.size:=ch;omega
   |cons x r =>
    have hr:r=[]:=by
     have z:(pendingOf G).toList.length=r.length+1:=(by rw[e];rfl);rw[length_toList]at z;exact List.length_eq_zero_iff.mp af
    subst hr;obtain⟨t,n,p⟩:=x;rw[e]at ch;obtain⟨_,_,u,e2⟩:=ch;have e3:0+n=a₀.size:=e2;rw[e3]at u;exact λi j ap U=>u i j (zero_le _) ap U
end
theorem Fm {vs:List Value}{ns:List Int}(F:IntsAre vs ns) (G:ns.Nodup):Ks (pairsOf vs):=by
 refine⟨F.intKeys,?_⟩;have e:((pairsOf vs).toList.map λp=>numOf p.1)=ns:=by
  rw[pairsOf_toList, <-F.nums]
  conv=>rhs;rw[<-List.map_fst_zip (l₁:=vs) (l₂:=vs) (le_refl _)]
  rw[map_map];rfl
 rw[e];exact G
section
variable {prog:Program}{w:World}{A:Around}{E:Value->Shared->Prop}{s:Shared}
theorem nK {a:Addr}{vs:List Value}{ns:List Int}{n:Nat}{P:Fin->Shared->Prop}(N:s.heap.get? a=some (seqObj "list" vs.toArray n)) (R:IntsAre vs ns) (hn:ns.Nodup) (hz:vs.length<=1000)
  (k:∀(out:Array Value) (ns':List Int),IntsAre out.toList ns'->ns'.Perm ns->ns'.Pairwise (· <= ·)->P (.done (.ret .none)) { s with heap:=sortedHeap s.heap a vs out }):wpAny (model prog w) A (Builtin.«list.sort» ⟨[.ref a],[]⟩) P E s:=by
 have lz:sizeLine=16777216:=sizeLine_eq;rw[list_sort_plain];have lt:=Heap.lt_size N;refine wpAny_bind (listItems_at N rfl (wpAny_bind (listUpdate_at N rfl ?_ (by simp only[size_toArray];omega))));obtain⟨ep,S⟩:∃ep,(s.heap.update a (Obj.mapSeq λ_ => #[])).get? a=some (seqObj "list" #[] ep):=⟨_,get?_update_seq N λ_ => #[]⟩;refine wpAny_bind (seqEpoch_at S rfl (wpAny_bind (wpAny_newTuple (wpAny_bind (wpAny_newList (wpAny_holding ?_))))));have at2:(((s.heap.update a (Obj.mapSeq λ_ => #[])).push (seqObj "tuple" vs.toArray 0)).push (seqObj "list" #[] 0)).get? a=some (seqObj "list" #[] ep):=by
  have l1:a<((s.heap.update a (Obj.mapSeq λ_ => #[])).push (seqObj "tuple" vs.toArray 0)).objs.size:=(by rw[size_push',Heap.size_update];exact lt_succ_of_lt lt);rw[Heap.get?_push_ne _ _ _ (ne_of_lt l1),Heap.get?_push_ne _ _ _ (by rw[Heap.size_update];exact ne_of_lt lt)];exact S
 have done:∀F:SortSt,(arrOf F).Perm (pairsOf vs)->SortedTo (arrOf F) (pairsOf vs).size->P (.done (.ret .none)) { s with heap:=sortedHeap s.heap a vs ((arrOf F).map (·.2)) }:=λF J L=>by
  obtain⟨ns',w1,w2,w3⟩:=sorted_out R J L;exact k _ ns' w1 w2 w3
 show wpAny (model prog w) A _ P E { s with heap:=((s.heap.update a (Obj.mapSeq λ_ => #[])).push (seqObj "tuple" vs.toArray 0)).push (seqObj "list" #[] 0) };dsimp only;by_cases two:vs.toArray.size<2
 .rw[if_pos two,if_pos two];refine wpAny_bind (wpAny_pure ?_);rw[StateT.run_pure];refine wpAny_bind (wpAny_pure (wpAny_bind (seqEpoch_at at2 rfl (wpAny_bind (listUpdate_at at2 rfl ?_ (zero_le _) ?_)))))
  .simp only[bne_self_eq_false,Bool.false_eq_true,if_false];refine wpAny_pure (done (SortSt.mk' general' (vs.toArray.zip vs.toArray) #[] 7 none) (Array.Perm.refl _) λi j ab U=>?_);rw[pairsOf_size]at U;rw[size_toArray]at two;rw[show i=j by omega];exact Int.le_refl _
  .show(Array.map (λx:Keyed=>x.2) (vs.toArray.zip vs.toArray)).size<=sizeLine+1;rw[Array.size_map];show(pairsOf vs).size<=sizeLine+1;rw[pairsOf_size];omega
 .rw[if_neg two,if_neg two];rw[size_toArray]at two;obtain⟨I,v2,G,rfl⟩:∃I v2 G,vs=I::v2::G:=by
   match vs,two with
   | [],z=>exact absurd av z
   | [_],z=>exact absurd (by rw[length_singleton];decide) z
   |I::v2::G,_=>exact⟨I,v2,G,rfl⟩
  rw[keyKind_ints R];have Y:=xg (prog:=prog) (w:=w) (A:=A) (E:=E) (s:={ s with heap:=((s.heap.update a (Obj.mapSeq λ_ => #[])).push (seqObj "tuple" (I::v2::G).toArray 0)).push (seqObj "list" #[] 0) }) (Fm R hn)
   (st:=SortSt.mk' oneType' (pairsOf (I::v2::G)) #[] 7 none) (Q:=λ_ F=>qF ((arrOf F).Perm (pairsOf (I::v2::G))) (failedOf F=none) (SortedTo (arrOf F) (pairsOf (I::v2::G)).size)) ⟨Array.Perm.refl _,rfl,rfl⟩ rfl (by rw[pairsOf_size];omega) λF J L O=>⟨J,L,O⟩
  refine wpAny_bind (wpAny_pure (wpAny_bind (wpAny_mono Y ?_ λ_ _ e=>e)));rintro⟨⟨⟩,F⟩ s' ⟨rfl,J,L,O⟩;dsimp only;refine wpAny_bind (seqEpoch_at at2 rfl (wpAny_bind (listUpdate_at at2 rfl ?_ (zero_le _) ?_)))
  .rw[L];simp only[bne_self_eq_false,Bool.false_eq_true,if_false];exact wpAny_pure (done F J O)
  .show(Array.map (λx:Keyed=>x.2) (arrOf F)).size<=sizeLine+1;rw[Array.size_map,J.size_eq,pairsOf_size];omega
theorem uv {l:Addr}{vs:List Value}{ns:List Int}{Q:Value->Shared->Prop}(J:s.heap.IsList l vs.toArray) (N:IntsAre vs ns) (L:ns.Nodup) (I:vs.length<=1000)
  (k:∀(out:Array Value) (ns':List Int),IntsAre out.toList ns'->ns'.Perm ns->ns'.Pairwise (· <= ·)->Q (.ref (s.heap.objs.size+1)) { s with heap:=sortedAll s.heap vs out }):wpAny (model prog w) A (call (.builtin "sorted") [.ref l]) Q E s:=by
 have U:sizeLine=16777216:=sizeLine_eq;refine Calls.call_function_entry kind_sorted plain_sorted entry_sorted (args_sorted1 _) ?_;refine wpAny_bind (m:=checkCount "sorted" 1 1 _) (wpAny_pure (wpAny_bind (collect_list J (wpAny_bind (wpAny_newList ?_)) af)));have G:((s.heap.push (seqObj "list" #[] 0)).update s.heap.objs.size (Obj.mapSeq (· ++ vs.toArray))).objs.size=s.heap.objs.size+1:=(by rw[Heap.size_update,size_push']);have F:=Heap.get?_push_size ((s.heap.push (seqObj "list" #[] 0)).update s.heap.objs.size (Obj.mapSeq (· ++ vs.toArray))) (o:=seqObj "list" vs.toArray 0) rfl;rw[G]at F;show wpAny _ _ _ _ _ { s with heap:=((s.heap.push (seqObj "list" #[] 0)).update s.heap.objs.size (Obj.mapSeq (· ++ vs.toArray))).push (seqObj "list" vs.toArray 0) };rw[G];refine wpAny_bind (wpAny_holding (wpAny_call_entry slot_list_sort ⟨_,F,rfl⟩ entry_list_sort (nK F N L I λout ns' O S R=>⟨_,rfl,wpAny_pure ⟨_,rfl,k out ns' O S R⟩⟩) (args_list_sort _)))
end
theorem vF:∀{vs:List Value}{ns:List Int},vs.length=ns.length->(∀(j:Nat) (v:Value),vs[j]?=some v->∃(m:Int) (t:Tok),ns[j]?=some m/\v=.int m t)->IntsAre vs ns
 | [],[],_,_=>.nil
 |v::vs,n::ns,F,h=>by
  obtain⟨m,t,e,rfl⟩:=h 0 v rfl;cases e;exact .cons n t (vF (by simpa using F) λj u G=>by simpa using h (j+1) u (by simpa using G))
 | [],_::_,F,_=>by simp at F
 |_::_,[],F,_=>by simp at F
section
variable {prog:Program}{w:World}{A:Around}{E:Value->Shared->Prop}{s:Shared}{T:String}{r d:Addr}{n:Nat}{P:Nat->Value->Prop}{OK:Heap->Prop}
theorem sH {ns:List Int}{Q:Value->Shared->Prop}(S:KdlSrc prog w T r d n P OK) (hh:A.handled=none) (O:OK s.heap) (L:∀(i:Nat) (v:Value),P i v->∃(m:Int) (t:Tok),ns[i]?=some m/\v=.int m t) (hl:ns.length=n) (Y:ns.Nodup) (hz:n<=1000)
  (k:∀(h1 h':Heap) (tk:Nat) (out:Array Value) (ns':List Int) (e:Nat),(∀b o,s.heap.get? b=some o->h1.get? b=some o)->(∀b o,h1.get? b=some o->h'.get? b=some o)->h'.get? h1.objs.size=some (seqObj "list" out e)->IntsAre out.toList ns'->ns'.Perm ns->ns'.Pairwise (· <= ·)->Q (.ref h1.objs.size) { s with heap:=h',toks:=tk }) :
  wpAny (model prog w) A (call (.builtin "sorted") [.ref r]) Q E s:=by
 have lz:sizeLine=16777216:=sizeLine_eq;refine Calls.call_function_entry kind_sorted plain_sorted entry_sorted (args_sorted1 _) ?_;refine wpAny_bind (m:=checkCount "sorted" 1 1 _) (wpAny_pure (wpAny_bind (PySem.W.kdu_collect (A:=A.in1) S hh O af λh1 tk F N J=>?_)));have ln:F.toList.length=n:=(by rw[length_toList];exact J.1);refine wpAny_bind (wpAny_newList ?_ af);have hI:IntsAre F.toList ns:=vF af λj v e=>L j v (J.2 j v (by rw[<-getElem?_toList];exact e));have G:=Heap.get?_push_size h1 (o:=seqObj "list" F.toList.toArray 0) rfl;show wpAny _ _ _ _ _ { s with heap:=h1.push (seqObj "list" F.toList.toArray 0),toks:=tk };refine wpAny_bind (wpAny_holding (wpAny_call_entry slot_list_sort ⟨_,G,rfl⟩ entry_list_sort (nK G hI Y af λout ns' U w2 w3=>⟨_,rfl,wpAny_pure ⟨_,rfl,?_⟩⟩) (args_list_sort _)));obtain⟨e,R⟩:=sortedHeap_at (vs:=F.toList) (out:=out) G;refine k h1 _ tk out ns' e N (λb o I=>?_) R U w2 w3;have lt:=Heap.lt_size I;rw[sortedHeap_old (ne_of_lt lt) (by rw[size_push'];exact lt_succ_of_lt lt),Heap.get?_push_ne _ _ _ (ne_of_lt lt)];exact I
end
end Srt
namespace L2
open PySem PySem.Spec PyProof.Rows
section
variable {X:Cx}
theorem pV:dr X (.builtin "sorted") (λxs H Q=>∃(p:Addr) (ns:List Int),xs=[.ref p]/\bE X.K H p (ns.map V.int)/\ns.Nodup/\ns.length<=1000/\∀(l:Addr) (ns':List Int),H l=none->ns'.Perm ns->ns'.Pairwise (· <= ·)->Q (.ref l) (upd H l (.lst (ns'.map V.int)))):=by
 intro pins s σ H xs us Q I r h;obtain⟨p,ns,rfl,L,J,hn,q⟩:=h;obtain⟨u,rfl,R⟩:=vals1 r;cases R;obtain⟨its,G,pl,hz⟩:=I.list L;have U:=intsAre_of G;have S:=G.length;rw[length_map]at S;refine Srt.uv pl.isList U J af λout ns' Y F N=>?_;obtain⟨e,O⟩:=sortedAll_at s.heap its out;have hs:sizeLine=16777216:=sizeLine_eq;refine⟨.ref (s.heap.objs.size+1),_,I.laid (t':=s.toks) (λb o e=>sortedAll_old e) (le_succ _) (show bT X.prog X.w _ _ _ (.lst (ns'.map V.int))from⟨by rw[length_map,F.length_eq];omega,out.toList,e,ij Y,by simpa using O⟩),rfl,q _ ns' (I.bJ.fresh (le_succ _)) F N⟩
end
end L2
namespace Srt
open PySem PyProof.Rows
theorem rf {prog:Program}{w:World}{A:Around}{I:Addr}{fp wr:List Addr}{G:Array GenState->Array GenState->Prop}{n:Nat}{P:Nat->Value->Prop}{St:Nat->Shared->Prop}(W:WalksS prog w A I fp wr G n P St) (m:Nat) (J:Nat->Value->Prop) :
  WalksS prog w A I fp wr G (m+n) (λj v=>(j<m/\J j v)\/(m<=j/\P (j-m) v)) (λi s=>m<=i/\St (i-m) s) where
 sub:=W.sub
 grefl:=W.grefl
 gtrans:=W.gtrans
 frame:=λi s h' tk st O R=>⟨st.1,W.frame (i-m) s h' tk st.2 O R⟩
 item:=λi s Q E hi st h=>W.item (i-m) s Q E (by have:=st.1;omega) st.2 λv s' L F N=>h v s' (.inr ⟨st.1,L⟩) ⟨by have:=st.1;omega,by rw[show i+1-m=i-m+1 by have:=st.1;omega];exact F⟩ N
 done:=λs Q E st h=>W.done s Q E (by have:=st.2;rwa [show m+n-m=n by omega]at this) h
 self:=λi s Q E st h=>W.self (i-m) s Q E st.2 h
section
variable {prog:Program}{w:World}{A:Around}{s:Shared}{T:String}{r d:Addr}{n:Nat}{P:Nat->Value->Prop}{OK:Heap->Prop}
theorem tZ {R:Result->Shared->Prop}(Z:KdlSrc prog w T r d n P OK) (hh:A.handled=none) (U:OK s.heap) (S:Addr) (sr:S≠r) (sd:S≠d) (res:Value) (G:Array Value) (c:Nat) (hS:s.heap.get? S=some { cls:=.type "list",data:=.seq G c }) (hz:G.size+n<sizeLine)
  (k:∀h' tk L J,(∀b o,b≠S->s.heap.get? b=some o->h'.get? b=some o)->h'.get? S=some { cls:=.type "list",data:=.seq L J }->ItemsOf (λj v=>(j<G.size/\G[j]?=some v)\/(G.size<=j/\P (j-G.size) v)) L (G.size+n)->R (.ok (.ret res)) { s with heap:=h',toks:=tk }) :
  wpAny (model prog w) A.in1 (Builtin.List.listExtendWith (.ref S) (.ref r) res) (λap s'=>match ap with|.done f=>R (.ok f) s' |.again J=>J.quiet=true/\codeAny (model prog w) A J R s') (λe s'=>R (.error e) s') s:=by
 have nI:S≠s.heap.objs.size:=ne_of_lt (Heap.lt_size hS);obtain⟨oI,St,as,W,ad⟩:=Z.iter A.in1 s hh U;have ab:S∉[s.heap.objs.size,d]:=λz=>by
  rcases List.mem_cons.mp z with e|z
  .exact nI e
  .exact sd (List.mem_singleton.mp z)
 have am:∀(h:Heap) (c1 tk:Nat),St 0 h->(∀b o,b≠S->s.heap.get? b=some o->h.get? b=some o)->h.get? S=some { cls:=.type "list",data:=.seq G c1 } ->
   codeAny (model prog w) A (.builtin "list.extend.loop" ⟨[.ref S,.ref s.heap.objs.size,res],[]⟩) R { s with heap:=h,toks:=tk }:=by
  intro h c1 tk q0 N O;have WS:=rf W.toS G.size λj v=>G[j]?=some v;refine codeAny_extend_loopS WS (le_of_lt hz) S ab res n G.size _ G c1 af af ⟨le_refl _,by rw[Nat.sub_self];exact q0⟩ O ⟨rfl,λj v e=>.inl ⟨?_,e⟩⟩ λs' L J mv e1 e2=>?_
  .exact(Array.getElem?_eq_some_iff.mp e).1
  .rw[Moved.eq_with mv];refine k s'.heap s'.toks L J (λb o I e=>mv.heap b o (λz=>?_) (N b o I e)) e1 e2;rcases List.mem_cons.mp z with z|z
   .exact I z
   .exact lt_irrefl _ (List.mem_singleton.mp z▸Heap.lt_size e)
 unfold Builtin.List.listExtendWith;refine wpAny_bind (wpAny_typeOf (T:=T) (Z.type s U) ?_);have ns:Builtin.List.listSameRef (.ref S) (.ref r)=false:=(by simp[Builtin.List.listSameRef,sr]);simp only[ns,Z.notList,Z.notTuple,Bool.or_false,Bool.false_eq_true,if_false];refine wpAny_bind (as _ _ ?_);have Y:=Heap.get?_push_of_some oI hS;refine wpAny_bind (wpAny_holding (Z.hint _ _ _ _ (Z.keep _ _ U λb _ o e=>Heap.get?_push_of_some _ e) ?_));refine wpAny_ite_split (λ_=>?_) (λ_=>wpAny_pure ⟨plainId_quiet PySem.F.plain_extend_loop _,am _ c _ ad (λb o _ e=>Heap.get?_push_of_some _ e) Y⟩);refine wpAny_bind (wpAny_rule (wpAny_bind ?_));show wpAny _ _ (updateSeq S (·.push .none)>>=λ_=>updateSeq S (·.pop)) _ _ _;have N:=PySem.IsL.update Y (·.push Value.none);have O:=PySem.IsL.update N (·.pop);have ep:(G.push Value.none).pop=G:=Array.pop_push ..;refine wpAny_bind (wpAny_updateSeq Y rfl (wpAny_updateSeq N rfl (wpAny_pure ⟨plainId_quiet PySem.F.plain_extend_loop _,?_⟩) ?_ ?_) ?_ ?_)
 .rw[ep]at O;refine am _ _ _ (W.frame 0 _ _ ad λb I o e=>?_) (λb o I e=>?_) O
  .have ac:b≠S:=λz=>ab (z▸I);exact(Heap.get?_update_other _ _ (Ne.symm ac)).trans ((Heap.get?_update_other _ _ (Ne.symm ac)).trans e)
  .exact(Heap.get?_update_other _ _ (Ne.symm I)).trans ((Heap.get?_update_other _ _ (Ne.symm I)).trans (Heap.get?_push_of_some _ e))
 .show(G.push Value.none).size<=sizeLine;rw[size_push];omega
 .show((G.push Value.none).pop).size<=sizeLine+1;rw[ep];omega
 .omega
 .show(G.push Value.none).size<=sizeLine+1;rw[size_push];omega
end
end Srt
namespace L2
open PySem PySem.Spec PyProof.Rows
theorem p5:∀{xs:List V}{vs:List Value},xs.length=vs.length->(∀(j:Nat) (x:V) (v:Value),xs[j]?=some x->vs[j]?=some v->RelV x v)->Vals xs vs
 | [],[],_,_=>.nil
 |x::xs,v::vs,F,h=>.cons (h 0 x v rfl rfl) (p5 (by simpa using F) λj a b I G=>h (j+1) a b (by simpa using I) (by simpa using G))
 | [],_::_,F,_=>by simp at F
 |_::_,[],F,_=>by simp at F
section
variable {X:Cx}
inductive qG (x:V) (vs:List V) (H:Hp) (Q:VK):Prop
 |mk (l:_) (d:_) (xs:_) (kvs:_) (_:x=.ref l) (_:vs=[.ref d]) (_:H l=some (.lst xs)) (_:H d=some (.dK kvs)) (_:xs.length+kvs.length<sizeLine) (_:Q .non (upd H l (.lst (xs++kvs.map λkv=>kV kv.1)))):qG x vs H Q
theorem ud (hc:X.calm=true):Cw X "list.extend" qG:=by
 intro pins s σ H x vs v us Q I rx rv h;obtain⟨l,d,xs,kvs,rfl,rfl,O,hD,hz,q⟩:=h;cases rx;obtain⟨u,rfl,ru⟩:=rv.one;cases ru;obtain⟨z,its,n,r,hl,e⟩:=I.lj O;obtain⟨_,hd,vs,Y,dd⟩:=gv I.bJ hD;obtain⟨ep,ab⟩:=dd.dictAt;have ad:=Y.length;have U:l≠d:=λz=>(by rw[z,hD]at O;cases O);refine wpAny_call (codeAny_call_builtin PySem.F.slot_list_extend.plain PySem.F.entry_list_extend (PySem.F.slot_list_extend.check _ _ _ _ _ _ _ _ ⟨_,e,rfl⟩ (PySem.F.args_list_extend_2 _ _) ?_));show wpAny _ _ (Builtin.List.listExtendWith (.ref l) (.ref d) .none) _ _ s;refine Srt.tZ (R:=λr s'=>match r with|.ok (.ret v)=>EP X pins σ Q v s' |.ok _=>False|.error e=>X.xe e s') (kdl_dict (knd:=br X.prog X.w) (kvs:=vs) (ep:=ep) hd) (I.ok.hd hc) ab l U U .none its.toArray n e (by rw[size_toArray];omega) λh' tk J c' k1 k2 k3=>⟨.non,_,?_,rfl,q⟩;obtain⟨sz,it⟩:=k3;have sz:J.size=its.length+vs.length:=(by rw[sz,size_toArray]);refine I.write (x:=l) (e:=l) (by rw[O];exact trivial) (.inl rfl) k1 ⟨_,k2⟩ (show bT X.prog X.w _ _ _ (.lst _)from⟨?_,J.toList,c',p5 ?_ λj x v G hv=>?_,by simpa using k2⟩)
 .rw[length_append,length_map];omega
 .have al:J.toList.length=J.size:=length_toList;rw[length_append,length_map];omega
 .have ac:J[j]?=some v:=(by rw[<-getElem?_toList];exact hv);rcases it j v ac with⟨S,N⟩|⟨S,N⟩
  .rw[size_toArray]at S;rw[List.getElem?_append_left af]at G;obtain⟨b,eb,rb⟩:=r.get G;have:its[j]?=some v:=(by simpa using N);rw[this]at eb;cases eb;exact rb
  .rw[size_toArray]at S N;obtain⟨k,y,e1,e2⟩:=N;rw[List.getElem?_append_right af,getElem?_map]at G;have L:(vs.map (·.1))[j-its.length]?=some k:=(by rw[getElem?_map,e1];rfl);rw[<-Y.keys,getElem?_map]at L;rw[show j-xs.length=j-its.length by omega]at G;cases e4:kvs[j-its.length]? with
   |none=>rw[e4]at L;cases L
   |some kv =>
    rw[e4]at L G;obtain rfl:kv.1=k:=Option.some.inj L;obtain rfl:kV kv.1=x:=Option.some.inj G;exact qz e2
noncomputable def Gg (K:PySem.W.Frag):R2:=λx y H Q=>∃p q xs ys,x=.ref p/\y=.ref q/\bV K H p xs/\bV K H q ys/\xs.all eh=true/\ys.all eh=true/\Q (.bl (iQ xs ys)) H
theorem ny:∀{xs ys:List V},((List.range (min xs.length ys.length)).all (λj=>ly (xs.getD j .non) (ys.getD j .non))&&xs.length==ys.length)=iQ xs ys:=by
 intro xs ys;by_cases e:xs.length=ys.length
 .rw[e,Nat.min_self,beq_self_eq_true,Bool.and_true, <-iU e,e]
 .rw[lF e,beq_eq_false_iff_ne.mpr e,Bool.and_false]
theorem uu (hu:X.A.units<cLine):kz X (compareOp .Eq) (Gg X.K):=by
 intro pins s σ H x y v u Q I rx ry h;obtain⟨p,q,xs,ys,rfl,rfl,hx,S,fx,fy,hq⟩:=h;cases rx;cases ry;obtain⟨its,r,pl,hz⟩:=I.tuple hx;obtain⟨J,L,ac,ad⟩:=I.tuple S;have hl:=r.length;have Y:=L.length;refine SeqAt.eq_tupleAt (e:=λj=>ly (xs.getD j .non) (ys.getD j .non)) pl ac hu (λj h1 h2=>?_) ⟨.bl (iQ xs ys),H,I,?_,hq⟩
 .rw[size_toArray]at h1 h2;have G:j<xs.length:=af;have F:j<ys.length:=af;obtain⟨a,ea,ra⟩:=r.get (i:=j) (x:=xs[j]) (by simp[G]);obtain⟨b,eb,U⟩:=L.get (i:=j) (x:=ys[j]) (by simp[F]);obtain⟨_,O⟩:=List.getElem?_eq_some_iff.mp ea;obtain⟨_,ab⟩:=List.getElem?_eq_some_iff.mp eb;have g1:xs.getD j .non=xs[j]:=(by simp[G]);have N:ys.getD j .non=ys[j]:=(by simp[F]);show SeqAt.EqAt _ _ its.toArray[j] J.toArray[j] (ly (xs.getD j .non) (ys.getD j .non));have a1:its.toArray[j]=a:=(by simpa using O);have R:J.toArray[j]=b:=(by simpa using ab);rw[g1,N,a1,R];exact qd ra U (List.all_eq_true.mp fx _ (getElem_mem G)) (List.all_eq_true.mp fy _ (getElem_mem F))
 .show Value.bool _=Value.bool _;rw[size_toArray,size_toArray, <-hl, <-Y,ny]
end
section
variable {X:Cx}{pins:List (Addr×Obj)}{σ:St}{H:Hp}{s:Shared}
end
section
variable {X:Cx}
end
end L2
namespace PySem
open PySem.Sem (wp)
section
variable {prog:Program}{w:World}{A:Around}{E:Value->Shared->Prop}{h:Heap}{g:Array GenState}{d:Drawn}{t:Nat}{os:OsState}{a:Addr}{its:Array Value}{n:Nat}
end
open PyProof.Rows
namespace F
end F
section
variable {prog:Program}{w:World}{K:Type} [DecidableEq K] {knd:KeyKind prog w K}{A:Around}{E:Value->Shared->Prop}
end
end PySem
namespace L2
open PySem PySem.Spec PyProof.Rows
section
variable {X:Cx}{scope:Scope}{cl:List (Str×Addr)}{t:Str×Str}{caps:List (Str×Nat)}{pins:List (Addr×Obj)}{σ:St}{H:Hp}{s:Shared}{C:Addr}{fp:List Addr}
end
section
variable {X:Cx}{scope:Scope}{cl:List (Str×Addr)}{t:Str×Str}{caps:List (Str×Nat)}{elt iter:Expr}{ifs:List Expr}{px pos:Pos}{es:List Expr}{kx:Nat}{g:TG}{wi:TI}{tt:TT}{te:TE}
end
theorem Di:bootBuiltins "zip" = some (.type "zip"):=ao
theorem pA:bootBuiltins "enumerate" = some (.type "enumerate"):=ao
theorem yx:bootBuiltins "all" = some (.builtin "all"):=ao
theorem BZ:bootBuiltins "min" = some (.builtin "min"):=ao
section
variable {X:Cx}{pins:List (Addr×Obj)}{σ:St}{H:Hp}{s:Shared}{h':Heap}
theorem Inv.jb {t':Nat}{ch:List Addr}(I:Inv X pins σ H s) (k:∀b o,b∉ch->s.heap.get? b=some o->h'.get? b=some o) (G:∀b∈ch,fQ X pins H b):Inv X pins σ H { s with heap:=h',toks:=t' }:=by
 have J:∀b u,H b=some u->b∉ch:=λb u e z=>(by rw[(G b z).1]at e;cases e);refine I.step (g':=s.gens) (d':=s.drawn) (ch:=ch) (λb U=>?_) (λb o _ _ F e _=>k b o F e) (λb o _ _ F e _=>⟨o.slots,k b o F e⟩) (λ_ _ _ _ n=>n)
  (λb o F e=>⟨o,k b o F e⟩) (λ_ _ e=>e) (λ_ _ _ e=>e) (λb ps e=>⟨#[],by rw[e];simp⟩) (λm R=>?_) (λb u e=>?_) I.bare
 .obtain⟨_,N,f2,S,L,Y⟩:=G b U;exact⟨S,N,L,Y⟩
 .obtain⟨o,es,ep,O,r⟩:=R;exact⟨o,es,ep,k _ o (λz=>(G _ z).2.1 rfl) O,r⟩
 .refine(I.bJ b u e).p9 (λc v F q=>k c v ?_ q) (λ_ q=>q) λ_ _ q=>q;rcases F with z|z
  .rw[z];exact J b u e
  .exact J c _ z
theorem Inv.tL {D:Addr}{ys:List V}{its:List Value}(I:Inv X pins σ H s) (f:fQ X pins H D) (e:IsTup s.heap D its.toArray) (r:Vals ys its) (L:ys.length<=sizeLine) :
  Inv X pins σ (upd H D (.tup ys)) s:=by
 obtain⟨G,O,Y,S,N,U⟩:=f;obtain⟨J,g,d,tk,os⟩:=s;refine I.step (g':=g) (d':=d) (t':=tk) (h':=J) (ch:=[D]) (λb F=>?_) (λb o _ _ _ e _=>e) (λb o _ _ _ e _=>⟨o.slots,e⟩) (λb o F _ n=>?_) (λb o _ e=>⟨o,e⟩) (λb xs q=>?_) (λb o u q=>?_) (λb ps q=>⟨#[],?_⟩) (λm R=>R) (λb u q=>?_) I.bare
 .have z:b=D:=(by simpa using F);subst z;exact⟨S,O,N,U⟩
 .rw[ah (λz=>F (by simp[z]))];exact n
 .rw[ah (aq q G)];exact q
 .rw[ah (aq q G)];exact q
 .rw[ah (aq q G),q];simp
 .by_cases F:b=D
  .subst F;rw[ae]at q;cases q;exact⟨L,its,r,e⟩
  .rw[ah F]at q;exact(I.bJ b u q).p9 (λ_ _ _ z=>z) (λc z=>by rw[ah (aq z G)];exact z) λc xs z=>by rw[ah (aq z G)];exact z
end
noncomputable def Ek (K:PySem.W.Frag) (F G:Addr):It :=
 ⟨λi H=>∃xs ys x y,bE K H F xs/\bE K H G ys/\xs[i]?=some x/\ys[i]?=some y,
  λi H v H'=>∃T x y,v=.ref T/\H T=none/\H'=upd H T (.tup [x,y])/\(∀xs,bE K H F xs->xs[i]?=some x)/\∀ys,bE K H G ys->ys[i]?=some y,
  λi H=>∃xs ys,bE K H F xs/\bE K H G ys/\(xs.length<=i\/ys.length<=i)⟩
noncomputable def HQ (z TI TO G F I J:Addr) (i:Nat) (h:Heap):Prop:=IsZip h z TI TO .none/\IsPair h TI (.ref G) (.ref F)/\(∃a b,IsPair h TO a b)/\h.IsListIter G I i/\h.IsListIter F J i
theorem uL:2<=sizeLine:=by rw[sizeLine_eq];decide
theorem y4 {P:Program}{w:World}{K:PySem.W.Frag}{es:List Expr}{kx:Nat}{px:Pos}{z TI TO O J l1 l2:Addr}(D:ZipApart z TI TO O J l1 l2):Turn P w K (.Tuple es kx px) (Ek K l1 l2) [z,TI,TO,O,J] z (HQ z TI TO O J l1 l2) where
 mem:=by simp
 obj:=by
  rintro i h ⟨N,G,⟨a,b',R⟩,h1,h2⟩ b F;simp only[mem_cons,not_mem_nil,or_false]at F;rcases F with rfl|rfl|rfl|rfl|rfl
  .exact⟨_,N,λv q=>by cases(show Data.fields _=Data.cell v from q)⟩
  .exact⟨_,G,λv q=>by cases(show Data.seq _ _=Data.cell v from q)⟩
  .exact⟨_,R,λv q=>by cases(show Data.seq _ _=Data.cell v from q)⟩
  .obtain⟨o,e,c,d⟩:=h1;exact⟨o,e,λv q=>by rw[d]at q;cases q⟩
  .obtain⟨o,e,c,d⟩:=h2;exact⟨o,e,λv q=>by rw[d]at q;cases q⟩
 keep:=λi h h' ⟨N,G,⟨a,b,R⟩,h1,h2⟩ k=>⟨k z (by simp) _ N,k TI (by simp) _ G,⟨a,b,k TO (by simp) _ R⟩,h1.at λo e=>k O (by simp) o e,h2.at λo e=>k J (by simp) o e⟩
 item:=by
  intro X hP hw hK hc i pins s σ H E I S st hg;subst hP hw hK;obtain⟨N,G,⟨a,b,R⟩,h1,h2⟩:=st;obtain⟨xs,ys,x,y,Y,q2,e1,e2⟩:=hg;obtain⟨am,ac,p1,_⟩:=I.list Y;obtain⟨ap,ab,p2,_⟩:=I.list q2;obtain⟨u1,a4,as⟩:=ac.get e1;obtain⟨u2,aT,a0⟩:=ab.get e2;have f4:∀b∈[z,TO,O,J],fQ X pins H b:=λb F=>S b (by simp only[mem_cons,not_mem_nil,or_false]at F ⊢;rcases F with h|h|h|h<;>simp[h]);refine wpAny_pyNext_zip_item D N G R h1 h2 p1.isList p2.isList (x:=u1) (y:=u2) (by simpa using a4) (by simpa using aT) λh' z' aB a1 a2 pT sz kk=>?_;have I1:Inv X pins σ H { s with heap:=h' }:=I.jb (t':=s.toks) (ch:=[z,TO,O,J]) (λb o F e=>kk b o (λq=>F (by simp[q])) (λq=>F (by simp[q])) (λq=>F (by simp[q])) (λq=>F (by simp[q])) e) f4;refine⟨_,rfl,wpAny_letOwnedTupleGo_zip z' λU z2 L=>?_⟩;replace L:Heap.SameBut z h' U:=L;have I2:Inv X pins σ H { s with heap:=U }:=I1.jb (s:={ s with heap:=h' }) (h':=U) (t':=s.toks) (ch:=[z]) (λb o F e=>(L.2 b (λq=>F (by simp[q]))).trans e) λb F=>S b (by simp only[mem_singleton]at F;simp[F]);have fT:fQ X pins H s.heap.objs.size:=I.js (le_refl _) (I.bJ.fresh (le_refl _));have nz:s.heap.objs.size≠z:=ne_of_gt (Heap.lt_size N);have a3:IsPair U s.heap.objs.size u1 u2:=L.extBut _ _ nz pT;have I3:Inv X pins σ (upd H s.heap.objs.size (.tup [x,y])) { s with heap:=U }:=I2.tL (its:=[u1,u2]) fT ⟨_,a3,rfl,_,rfl⟩ (.cons as (.cons a0 .nil)) uL;refine⟨.ref s.heap.objs.size,_,I3,rfl,⟨_,x,y,rfl,fT.1,rfl,λzs ad=>by rw[I.ja ad Y];exact e1,λzs ad=>by rw[I.ja ad q2];exact e2⟩,⟨z2,L.extBut _ _ D.TIz (kk _ _ D.TIz D.TITO D.TIi1 D.TIi2 G),⟨_,_,L.extBut _ _ D.TOz aB⟩,a1.extBut L.extBut D.i1z,a2.extBut L.extBut D.i2z⟩,λb F=>?_⟩;have nb:b≠s.heap.objs.size:=by
   intro q;simp only[mem_cons,not_mem_nil,or_false]at F;obtain⟨o1,g1,_⟩:=h1;obtain⟨o2,g2,_⟩:=h2;rcases F with e|e|e|e|e<;>rw[e]at q
   .exact nz q.symm
   .exact ne_of_lt (Heap.lt_size G) q
   .exact ne_of_lt (Heap.lt_size R) q
   .exact ne_of_lt (Heap.lt_size g1) q
   .exact ne_of_lt (Heap.lt_size g2) q
  rw[ah nb];exact(S b F).1
 done:=by
  intro X hP hw hK hc i pins s σ H E I S st hg;subst hP hw hK;obtain⟨N,G,⟨a,b,R⟩,h1,h2⟩:=st;obtain⟨xs,ys,Y,q2,e⟩:=hg;obtain⟨am,ac,p1,_⟩:=I.list Y;obtain⟨ap,ab,p2,_⟩:=I.list q2;have a5:=ac.length;have a6:=ab.length;have f4:∀b∈[z,TO,O,J],fQ X pins H b:=λb F=>S b (by simp only[mem_cons,not_mem_nil,or_false]at F ⊢;rcases F with h|h|h|h<;>simp[h]);refine wpAny_pyNext_zip_end (I.ok.hd hc) D N G R h1 h2 p1.isList p2.isList (e.elim (λe=>.inl (by simp;omega)) λe=>.inr (by simp;omega)) λh' kk=>⟨rfl,I.jb (t':=s.toks) (ch:=[z,TO,O,J]) (λb o F e=>kk b o (λq=>F (by simp[q])) (λq=>F (by simp[q])) (λq=>F (by simp[q])) (λq=>F (by simp[q])) e) f4⟩
 self:=λ_ _ _ _ _ st h=>wpAny_pyIter_zip st.1 h
section
variable {X:Cx}
noncomputable def Gz (K:PySem.W.Frag) (ta:TA):TI:=λσ H R=>ta σ H λvs H1=>xy λF G=>DH (vs=[.ref F,.ref G]) ((∃xs,bE K H1 F xs)) ((∃ys,bE K H1 G ys)) (R (Ek K F G) H1)
theorem BO {es:List Expr}{kx:Nat}{px:Pos}{a b:Expr}{ta:TA}{p pos:Pos}(hg:Gl X "zip") (hm:X.mg "zip" = none) (ha:PA X [a,b] ta) (hs:starEach [a,b] X.env=[(false,eval a X.env),(false,eval b X.env)]:=by rfl) (O:starEach [b] X.env=[(false,eval b X.env)]:=by rfl) :
  PI X (.Tuple es kx px) (.Call (.Name "zip" p) [a,b] [] pos) (Gz X.K ta):=by
 intro pins s σ H R I h;refine Call_ (gW I hg hm Di (PyProof.Rows.callWith_type1 (bU (ha pos pins s σ H _ I h) λus F ⟨vs,H1,G,r1,q1⟩=>?_) (by rw[hs,O]) (by rw[O];rfl)));obtain⟨J,S,rfl,⟨xs,g1⟩,⟨ys,g2⟩,q⟩:=q1;obtain⟨u1,u2,rfl,e1,Y⟩:=vals2 r1;obtain rfl:u1=Value.ref J:=e1;obtain rfl:u2=Value.ref S:=Y;obtain⟨aB,aT,U,_⟩:=G.list g1;obtain⟨a0,a1,p2,_⟩:=G.list g2;have ap:J<F.heap.objs.size:=let ⟨_,e,_⟩:=U.isList;Heap.lt_size e;have as:S<F.heap.objs.size:=let ⟨_,e,_⟩:=p2.isList;Heap.lt_size e;refine call_zip_2 U.isList p2.isList λh' N ab am ad ac hsz hk=>?_;refine wpAny_pyIter_zip N ?_;refine⟨F.heap.objs.size+4,[F.heap.objs.size+4,F.heap.objs.size+2,F.heap.objs.size+3,F.heap.objs.size,F.heap.objs.size+1],_,_,H1,rfl,G.kept (t':=F.toks) hk,y4 (zipApart_new ap as),⟨N,ab,⟨_,_,am⟩,ad,ac⟩,λb L=>?_,q⟩;have le:F.heap.objs.size<=b:=by
  simp only[mem_cons,not_mem_nil,or_false]at L;rcases L with e|e|e|e|e<;>rw[e]<;>first|exact le_refl _|exact Nat.le_add_right _ _
 exact G.js le (G.bJ.fresh le)
noncomputable def DT (K:PySem.W.Frag) (l:Addr):It :=
 ⟨λi H=>∃xs x,bE K H l xs/\xs[i]?=some x,
  λi H v H'=>∃T x,v=.ref T/\H T=none/\H'=upd H T (.tup [.int i,x])/\∀xs,bE K H l xs->xs[i]?=some x,
  λi H=>∃xs,bE K H l xs/\xs.length<=i⟩
noncomputable def HW (e F l:Addr) (i:Nat) (h:Heap):Prop:=(∃G,IsEnum h e F i G)/\h.IsListIter F l i
theorem wR {P:Program}{w:World}{K:PySem.W.Frag}{es:List Expr}{kx:Nat}{px:Pos}{e J l:Addr}(D:e≠J):Turn P w K (.Tuple es kx px) (DT K l) [e,J] e (HW e J l) where
 mem:=by simp
 obj:=by
  rintro i h ⟨⟨O,G⟩,h1⟩ b F;simp only[mem_cons,not_mem_nil,or_false]at F;rcases F with rfl|rfl
  .exact⟨_,G,λv q=>by cases(show Data.fields _=Data.cell v from q)⟩
  .obtain⟨o,e,c,d⟩:=h1;exact⟨o,e,λv q=>by rw[d]at q;cases q⟩
 keep:=λi h h' ⟨⟨O,G⟩,h1⟩ k=>⟨⟨O,k e (by simp) _ G⟩,h1.at λo q=>k J (by simp) o q⟩
 item:=by
  intro X U hw Y hc i pins s σ H E I N st hg;subst U hw Y;obtain⟨⟨O,G⟩,h1⟩:=st;obtain⟨xs,x,R,e1⟩:=hg;obtain⟨ac,ab,p1,_⟩:=I.list R;obtain⟨u1,ap,ad⟩:=ab.get e1;refine wpAny_pyNext_enum_item G h1 p1.isList (x:=u1) (by simpa using ap) D λh' eo a1 pT sz kk=>?_;have I1:Inv X pins σ H { s with heap:=h',toks:=s.toks+1 }:=I.jb (t':=s.toks+1) (ch:=[e,J]) (λb o F q=>kk b o (λz=>F (by simp[z])) (λz=>F (by simp[z])) q) N;refine⟨_,rfl,wpAny_letOwnedTupleGo_enum eo λS e2 L=>?_⟩;replace L:Heap.SameBut e h' S:=L;have I2:Inv X pins σ H { s with heap:=S,toks:=s.toks+1 }:=I1.jb (s:={ s with heap:=h',toks:=s.toks+1 }) (h':=S) (t':=s.toks+1) (ch:=[e]) (λb o F q=>(L.2 b (λz=>F (by simp[z]))).trans q) λb F=>N b (by simp only[mem_singleton]at F;simp[F]);have fT:fQ X pins H s.heap.objs.size:=I.js (le_refl _) (I.bJ.fresh (le_refl _));have ne:s.heap.objs.size≠e:=ne_of_gt (Heap.lt_size G);have am:=L.extBut _ _ ne pT;have I3:Inv X pins σ (upd H s.heap.objs.size (.tup [.int i,x])) { s with heap:=S,toks:=s.toks+1 }:=I2.tL (its:=[.int i s.toks,u1]) fT ⟨_,am,rfl,_,rfl⟩ (.cons ⟨_,rfl⟩ (.cons ad .nil)) uL;refine⟨.ref s.heap.objs.size,_,I3,rfl,⟨_,x,rfl,fT.1,rfl,λzs as=>by rw[I.ja as R];exact e1⟩,⟨⟨u1,?_⟩,a1.extBut L.extBut (Ne.symm D)⟩,λb F=>?_⟩
  .have ec:((i+1:Nat):Int)=(i:Int)+1:=(by push_cast;rfl);rw[ec];exact e2
  .have nb:b≠s.heap.objs.size:=by
    intro q;simp only[mem_cons,not_mem_nil,or_false]at F;obtain⟨o1,g1,_⟩:=h1;rcases F with z|z<;>rw[z]at q
    .exact ne q.symm
    .exact ne_of_lt (Heap.lt_size g1) q
   rw[ah nb];exact(N b F).1
 done:=by
  intro X U hw Y hc i pins s σ H E I N st hg;subst U hw Y;obtain⟨⟨O,G⟩,h1⟩:=st;obtain⟨xs,R,e1⟩:=hg;obtain⟨ac,ab,p1,_⟩:=I.list R;have aB:=ab.length;obtain⟨f0,f1,f2,f3,f4,f5⟩:=N J (by simp);exact wpAny_pyNext_enum_end (I.ok.hd hc) G h1 p1.isList (by simp;omega) λh' eb=>⟨rfl,I.turned (t':=s.toks) (λb o F q=>eb b o F q) f0 f1 f3 f4 f5⟩
 self:=λ_ _ _ _ _ st h=>let ⟨⟨_,G⟩,_⟩:=st;wpAny_pyIter_enum G h
noncomputable def D9 (K:PySem.W.Frag) (ta:TA):TI:=λσ H R=>ta σ H λvs H1=>∃l,vs=[.ref l]/\(∃xs,bE K H1 l xs)/\R (DT K l) H1
theorem AF {es:List Expr}{kx:Nat}{px:Pos}{a:Expr}{ta:TA}{p pos:Pos}(hg:Gl X "enumerate") (U:X.mg "enumerate" = none) (ha:PA X [a] ta) (hs:starEach [a] X.env=[(false,eval a X.env)]:=by rfl) :
  PI X (.Tuple es kx px) (.Call (.Name "enumerate" p) [a] [] pos) (D9 X.K ta):=by
 intro pins s σ H R I h;refine Call_ (gW I hg U pA (PyProof.Rows.callWith_type1 (bU (ha pos pins s σ H _ I h) λus F Y=>?_) hs rfl));obtain⟨vs,H1,G,N,S⟩:=Y;obtain⟨l,rfl,⟨xs,O⟩,q⟩:=S;obtain⟨u1,rfl,e1⟩:=vals1 N;obtain rfl:u1=Value.ref l:=e1;obtain⟨ab,ac,p1,_⟩:=G.list O;refine call_enumerate_list p1.isList λh' J hi hsz hk=>?_;refine wpAny_pyIter_enum J ?_;refine⟨F.heap.objs.size+1,[F.heap.objs.size+1,F.heap.objs.size],_,_,H1,rfl,G.kept (t':=F.toks) hk,wR (l:=l) (Nat.succ_ne_self _),⟨⟨_,J⟩,hi⟩,λb L=>?_,q⟩;have le:F.heap.objs.size<=b:=by
  simp only[mem_cons,not_mem_nil,or_false]at L;rcases L with e|e<;>rw[e]<;>first|exact le_refl _|exact Nat.le_add_right _ _
 exact G.js le (G.bJ.fresh le)
theorem qv:∀{bs:List Bool}{its:List Value},Vals (bs.map V.bl) its->its=bs.map Value.bool
 | [],_,.nil=>rfl
 |b::bs,_,.cons r t=>by rw[qv t,show _=Value.bool b from r];rfl
theorem nA (Y:X.calm=true):dr X (.builtin "all") (λxs H Q=>∃(l:Addr) (bs:List Bool),xs=[.ref l]/\bE X.K H l (bs.map V.bl)/\Q (.bl (bs.all id)) H):=by
 intro pins s σ H xs us Q I r h;obtain⟨l,bs,rfl,hl,q⟩:=h;obtain⟨u,rfl,ru⟩:=vals1 r;obtain rfl:u=Value.ref l:=ru;obtain⟨its,S,p,_⟩:=I.list hl;have R:=qv S;subst R;have G:=p.isList;have ab:l<s.heap.objs.size:=let ⟨_,e,_⟩:=G;Heap.lt_size e;refine call_all_walk (wpAny_pyIter_list G ?_);refine⟨s.heap.objs.size,[s.heap.objs.size,l],[s.heap.objs.size],(bs.map Value.bool).toArray.size,_,_,λi=>(bs[i]?).getD true,rfl,Walks.list (A:=X.A.in1) (I.ok.hd Y) _ l (ne_of_lt ab) (bs.map Value.bool).toArray,
  ⟨⟨_,Heap.get?_push_size _ rfl,rfl,rfl⟩,G.push _⟩,λi v s' Q' E' N L=>?_,λh' tk hk=>?_⟩
 .have O:(bs.map Value.bool).toArray[i]?=some v:=N;have F:(bs.map Value.bool)[i]?=some v:=(by simpa using O);rw[getElem?_map]at F;cases J:bs[i]? with
  |none=>rw[J]at F;cases F
  |some b =>
   rw[J]at F;have U:Value.bool b=v:=Option.some.inj F;subst U;simp only[J,getD_some]at L;exact wpAny_truthy_bool L
 .have e:((List.range (bs.map Value.bool).toArray.size).all λi=>(bs[i]?).getD true)=bs.all id:=by
   rw[size_toArray,length_map];exact LSm.range_all bs
  rw[e];exact⟨.bl _,H,I.kept (LSm.kept_iter hk),rfl,q⟩
end
theorem ye {K:PySem.W.Frag}{a:Addr}{xs:List V}{g:TG}{tb:TS}{D:Ends}{σ:St}{H:Hp}(Pv:Nat->St->Hp->Prop) (O:Pv 0 σ H) (Y:∀i σ H,i<=xs.length->Pv i σ H->bE K H a xs)
  (hs:∀i x σ H T,xs[i]?=some x->H T=none->Pv i σ H->g (.ref T) σ (upd H T (.tup [.int i,x])) λI H2=>tb { D with nx:=Pv (i+1),ct:=Pv (i+1),bk:=D.nx } I H2) (hd:∀σ H,Pv xs.length σ H->D.nx σ H) :
  ∃W:Nat->Nat->St->Hp->Prop,(∃m,W 0 m σ H)/\∀i m σ H,W i m σ H ->
   ((DT K a).stop i H/\D.nx σ H)\/((DT K a).go i H/\∃N:St->Hp->Prop,(∀F H',N F H'->∃J,J<m/\W (i+1) J F H')/\∀x H',(DT K a).Ak i H x H'->g x σ H' λI H2=>tb { D with nx:=N,ct:=N,bk:=D.nx } I H2):=by
 refine⟨λi m σ H=>m=xs.length-i/\i<=xs.length/\Pv i σ H,⟨xs.length,by simp,zero_le _,O⟩,?_⟩;rintro i m σ H ⟨rfl,hi,p⟩;have G:=Y i σ H hi p;by_cases L:i<xs.length
 .refine .inr ⟨⟨xs,xs[i],G,by simp[L]⟩,Pv (i+1),λF H' S=>⟨xs.length-(i+1),af,rfl,L,S⟩,?_⟩;rintro v H' ⟨T,x,rfl,U,rfl,R⟩;exact hs i x σ H T (R xs G) U p
 .have e:i=xs.length:=af;subst e;exact .inl ⟨⟨xs,G,le_refl _⟩,hd σ H p⟩
section
variable {X:Cx}
theorem jn (hc:X.calm=true):dr X (.builtin "sorted") (λxs H Q=>∃(a:Addr) (kvs:List (Key×V)) (ns:List Int),xs=[.ref a]/\H a=some (.dK kvs)/\kvs.map (·.1)=ns.map Sum.inl/\ns.Nodup/\ns.length<=1000 /\
  ∀(l:Addr) (ns':List Int),H l=none->ns'.Perm ns->ns'.Pairwise (· <= ·)->Q (.ref l) (upd H l (.lst (ns'.map V.int)))):=by
 intro pins s σ H xs us Q I r h;obtain⟨a,kvs,ns,rfl,ha,hk,ab,hn,q⟩:=h;obtain⟨u,rfl,ru⟩:=vals1 r;cases ru;obtain⟨_,hd,vs,Y,dd⟩:=gv I.bJ ha;obtain⟨ep,S⟩:=dd.dictAt;have N:vs.map (·.1)=ns.map Sum.inl:=(by rw[<-Y.keys];exact hk);have ll:ns.length=vs.length:=by
  have:=congrArg List.length N;simpa using this.symm
 have hs:sizeLine=16777216:=sizeLine_eq;refine Srt.sH (kdl_dict (knd:=br X.prog X.w) (kvs:=vs) (ep:=ep) (d:=a) hd) (I.ok.hd hc) S (ns:=ns) (λi w' hw=>?_) ll ab af λh1 h' tk out ns' e R k2 he a1 G U=>?_
 .obtain⟨k,x,e1,O⟩:=hw;have F:(vs.map (·.1))[i]?=some k:=(by rw[getElem?_map,e1];rfl);rw[N,getElem?_map]at F;cases L:ns[i]? with
  |none=>rw[L]at F;cases F
  |some m =>
   rw[L]at F;obtain rfl:Sum.inl m=k:=Option.some.inj F;obtain⟨t,rfl⟩:=qz O;exact⟨m,t,rfl,rfl⟩
 .have J:Inv X pins σ H { s with heap:=h1,toks:=tk }:=I.kept R;exact⟨.ref h1.objs.size,_,J.laid (t':=tk) k2 (le_refl _) (show bT X.prog X.w _ _ _ (.lst (ns'.map V.int))from⟨by rw[length_map,G.length_eq];omega,out.toList,e,ij a1,by simpa using he⟩),rfl,q _ ns' (J.bJ.fresh (le_refl _)) G U⟩
inductive vH (H₀:Hp) (t:TE) (Q:VK) (v:V) (H':Hp):Prop
 |mk (a:_) (o:_) (kvs:_) (_:H' a=some (.frz o (.dK kvs))) (_:(∀o u',H₀ a≠some (.frz o u'))) (_:Q v (upd H' a (.dK kvs))):vH H₀ t Q v H'
noncomputable def B5 (H₀:Hp) (t:TE):TE:=λσ H Q=>t σ H λv H'=>vH H₀ t Q v H'
theorem vQ {e:Expr}{t:TE}(h:PE X e t):PE X e (B5 X.H₀ t):=by
 intro pins s σ H Q I q;refine bU (h pins s σ H _ I q) λu N F=>?_;obtain⟨v,H',J,r,a,o,kvs,L,G,q'⟩:=F;exact⟨v,_,J.Ce L G,r,q'⟩
end
theorem k7:entryFor table "dict_itemiterator.__iter__" = some Builtin.«dict_keyiterator.__iter__» :=
 entryFor_alias (id' := "dict_keyiterator.__iter__") (by kernel_rfl) (by first|rfl|decide +kernel|(unfold String.splitOn;simp +decide [String.splitOnAux])) ao (by kernel_rfl)
theorem gA {prog:Program}{w:World}{A:Around}{E:Value->Shared->Prop}{s:Shared}{G d:Addr}{i n ep:Nat}{ok ov:Value}{Q:Value->Shared->Prop}(J:IsItemIter s.heap G d i n ep ok ov) (h:Q (.ref G) s):wpAny (model prog w) A (pyIter (.ref G)) Q E s:=by
 have I:s.TypeIs (.ref G) "dict_itemiterator" := ⟨_,J,rfl⟩;refine wpAny_pyIter_slot I PySem.F.slot_dict_itemiterator_iter (wpAny_call_entry PySem.F.slot_dict_itemiterator_iter I k7 ?_ (PySem.F.args_dict_itemiterator_iter_1 _));show wpAny _ _ (ret (.ref G)) _ _ s;exact wpAny_pure ⟨_,rfl,"dict_itemiterator",_,I,PySem.F.slot_dict_itemiterator_next.lookup,h⟩
noncomputable def DG (a:Addr) (o:Obj) (kvs:List (Key×V)):It :=
 ⟨λi H=>H a=some (.frz o (.dK kvs))/\i<kvs.length,λi H x H'=>∃T k v,x=.ref T/\H T=none/\kvs[i]?=some (k,v)/\H'=upd H T (.tup [kV k,v]),λi H=>H a=some (.frz o (.dK kvs))/\kvs.length<=i⟩
theorem yX:∀{kvs:List (Key×V)}{vs:List (Key×Value)},Paired (λ(p:Key×V) (q:Key×Value)=>p.1=q.1/\RelV p.2 q.2) kvs vs->∀{i:Nat},i<kvs.length->∃k v x,kvs[i]?=some (k,v)/\vs[i]?=some (k,x)/\RelV v x
 |_,_,.nil,_,h=>by simp at h
 |p::_,J::_,.cons q _,0,_=>⟨p.1,p.2,J.2,rfl,by rw[q.1];rfl,q.2⟩
 |_::_,_::_,.cons _ t,i+1,h=>by
  obtain⟨k,v,x,I,F,G⟩:=yX t (i:=i) (by simpa using h);exact⟨k,v,x,by simpa using I,by simpa using F,G⟩
theorem Bs {kvs:List (Key×V)}{vs:List (Key×Value)}(r:KV kvs vs) {i:Nat}(hi:i<kvs.length):∃k v x,kvs[i]?=some (k,v)/\vs[i]?=some (k,x)/\RelV v x:=yX r hi
theorem uS {P:Program}{w:World}{K:PySem.W.Frag}{es:List Expr}{kx:Nat}{px:Pos}(a G:Addr) (aB:a≠G) (o:Obj) (kvs:List (Key×V)):Turn P w K (.Tuple es kx px) (DG a o kvs) [G] G (λi h=>∃ok ov,IsItemIter h G a i kvs.length (xw o) ok ov) where
 mem:=by simp
 obj:=λi h st b F=>by
  have e:b=G:=(by simpa using F);subst e;obtain⟨ok,ov,st⟩:=st;exact⟨_,st,λv q=>by cases(show Data.fields _=Data.cell v from q)⟩
 keep:=λi h h' st k=>let ⟨ok,ov,st⟩:=st;⟨ok,ov,k G (by simp) _ st⟩
 item:=by
  intro X hP hw hK hc i pins s σ H E I O st hg;subst hP hw hK;obtain⟨ac,ad⟩:=hg;obtain⟨Y,N,f2,S,L,R⟩:=O G (by simp);obtain⟨hd,vs,r,da⟩:=jN I.bJ ac;have ab:=r.length;obtain⟨k,v,x,e1,e2,e3⟩:=Bs r ad;obtain⟨ok,ov,st⟩:=st;rw[ab]at st ⊢;refine wpAny_pyNext_items_item st da e2 λam h' as ho hT hsz hk=>?_;have I1:Inv X pins σ H { s with heap:=h',toks:=s.toks }:=I.turned (λb o F e=>hk b o F e) Y N S L R;refine⟨_,rfl,wpAny_letOwnedTupleGo_items ho λU e4 J=>?_⟩;replace J:Heap.SameBut G h' U:=J;have I2:Inv X pins σ H { s with heap:=U,toks:=s.toks }:=I1.turned (s:={ s with heap:=h',toks:=s.toks }) (h':=U) (t':=s.toks) (λb o F e=>(J.2 b F).trans e) Y N S L R;have fT:fQ X pins H s.heap.objs.size:=I.js (le_refl _) (I.bJ.fresh (le_refl _));have ne:s.heap.objs.size≠G:=ne_of_gt (Heap.lt_size st);have ap:=J.extBut _ _ ne hT;have I3:Inv X pins σ (upd H s.heap.objs.size (.tup [kV k,v])) { s with heap:=U,toks:=s.toks }:=I2.tL (its:=[am,x]) fT ⟨_,ap,rfl,_,rfl⟩ (.cons (qz as) (.cons e3 .nil)) uL;refine⟨.ref s.heap.objs.size,_,I3,rfl,⟨_,k,v,rfl,fT.1,e1,rfl⟩,⟨_,_,e4⟩,λb F=>?_⟩;have nb:b≠s.heap.objs.size:=λq=>ne (by rw[<-q];simpa using F);rw[ah nb];exact(O b F).1
 done:=by
  intro X hP hw hK hc i pins s σ H E I O st hg;subst hP hw hK;obtain⟨ac,ad⟩:=hg;obtain⟨Y,N,f2,S,L,R⟩:=O G (by simp);obtain⟨hd,vs,r,da⟩:=jN I.bJ ac;have ab:=r.length;obtain⟨ok,ov,st⟩:=st;rw[ab]at st;exact wpAny_pyNext_items_end (I.ok.hd hc) st da (by simp;omega) λh' eb=>⟨rfl,I.turned (t':=s.toks) (λb o F e=>eb b o F e) Y N S L R⟩
 self:=λ_ _ _ _ _ st h=>by
  obtain⟨ok,ov,st⟩:=st;exact gA st h
section
variable {X:Cx}
noncomputable def Dx (H₀:Hp) (td:TE):TI:=λσ H R=>td σ H λx H1=>xy λa kvs=>DH (x=.ref a) (H1 a=some (.dK kvs)) ((∀o F,H₀ a≠some (.frz o F))) (∀o,R (DG a o kvs) (upd H1 a (.frz o (.dK kvs))))
theorem lT {es:List Expr}{kx:Nat}{px:Pos}{o:Expr}{apos cpos:Pos}{td:TE}(ho:PE X o td) (ab:attributeBase o "items" X.env (eval o X.env)=eval o X.env:=by rfl) (ac:(apos.endLine==cpos.line)=true:=by rfl):PI X (.Tuple es kx px) (.Call (.Attribute o "items" apos) [] [] cpos) (Dx X.H₀ td):=by
 intro pins s σ H R I h;refine wpAny_Call_method0_late ab ac (bU (ho pins s σ H _ I h) λu G as=>?_);obtain⟨x,H1,O,rx,a,kvs,ex,L,hn,q⟩:=as;subst ex;obtain rfl:u=Value.ref a:=rx;obtain⟨t1,t2,hd⟩:=jZ O (.inl ⟨kvs,.inl L⟩);obtain⟨_,_,vs,aT,Y⟩:=gv O.bJ L;refine⟨"dict","dict.items",plainAttrs_dict,PySem.F.slot_dict_items,PySem.F.type_dict_items,t1,t2,Calls.callWith_builtin rfl (PySem.evalArgs_none ?_)⟩;refine call_meetsIn PySem.F.slot_dict_items Y.typeIs PySem.F.entry_dict_items (PySem.F.args_dict_items_1 _) (meets_dict_items (br X.prog X.w) a hd) ⟨⟨vs,Y⟩,?_⟩;have nw:=Heap.get?_push_size G.heap (o:={ cls:=.type "dict_items",data:=.fields #[.ref a] }) rfl;have U:Inv X pins σ H1 { G with heap:=G.heap.push { cls:=.type "dict_items",data:=.fields #[.ref a] },toks:=G.toks }:=O.kept λb o e=>Heap.get?_push_of_some _ e;obtain⟨_,aB,ap,am,zY⟩:=gv U.bJ L;obtain⟨J,ad,ep,S,g2,g3,g4⟩:=id zY;have N:=U.freeze L S hn;have lt:a<(G.heap.push { cls:=.type "dict_items",data:=.fields #[.ref a] }).objs.size:=Heap.lt_size S;have da:(G.heap.push { cls:=.type "dict_items",data:=.fields #[.ref a] }).DictAt (br X.prog X.w) a ap (xw J):=⟨J,ad,S,g2,by unfold xw;rw[g3],g4⟩;refine wpAny_pyIter_items ⟨_,nw,rfl,rfl⟩ da ?_;refine⟨(G.heap.push { cls:=.type "dict_items",data:=.fields #[.ref a] }).objs.size,[(G.heap.push { cls:=.type "dict_items",data:=.fields #[.ref a] }).objs.size],_,DG a J kvs,_,rfl,N.kept (t':=G.toks) λb o e=>Heap.get?_push_of_some _ e,uS a _ (ne_of_lt lt) J kvs,⟨.none,.none,?_⟩,λb hb=>?_,q J⟩
 .rw[am.length];exact Heap.get?_push_size _ rfl
 .have e:b=(G.heap.push { cls:=.type "dict_items",data:=.fields #[.ref a] }).objs.size:=(by simpa using hb);subst e;exact N.js (le_refl _) (N.bJ.fresh (le_refl _))
end
noncomputable def Fn (a:Addr) (o:Obj) (kvs:List (Key×V)):It :=
 ⟨λi H=>H a=some (.frz o (.dK kvs))/\i<kvs.length,λi H x H'=>H'=H/\∃k,kvs[i]?=some (k,x),λi H=>H a=some (.frz o (.dK kvs))/\kvs.length<=i⟩
theorem wW {P:Program}{w:World}{K:PySem.W.Frag}{tg:Expr}(a F:Addr) (as:a≠F) (o:Obj) (kvs:List (Key×V)):Turn P w K tg (Fn a o kvs) [F] F (λi h=>h.IsValIter F a i kvs.length (xw o)) where
 mem:=by simp
 obj:=λi h st b G=>by
  have e:b=F:=(by simpa using G);subst e;obtain⟨L,h1,_,J⟩:=st;exact⟨L,h1,λv z=>by rw[J]at z;cases z⟩
 keep:=λi h h' ⟨L,h1,h2,J⟩ k=>⟨L,k F (by simp) _ h1,h2,J⟩
 item:=by
  intro X O hw hK hc i pins s σ H E I N st hg;subst O hw hK;obtain⟨ac,ad⟩:=hg;obtain⟨f0,U,f2,R,S,f5⟩:=N F (by simp);obtain⟨hd,vs,r,Y⟩:=jN I.bJ ac;have ab:=r.length;obtain⟨k,v,x,e1,e2,e3⟩:=Bs r ad;rw[ab]at st ⊢;refine wpAny_pyNext_values_item st Y e2 λh' am ap=>?_;have I1:Inv X pins σ H { s with heap:=h',toks:=s.toks }:=I.turned (λb o G e=>(ap.2 b G).trans e) f0 U R S f5;obtain⟨L,h1,h2,J⟩:=id am;exact⟨_,rfl,nX (s:={ s with heap:=h' }) (n := "dict_valueiterator") h1 h2 J av ⟨v,H,I1,e3,⟨rfl,k,e1⟩,am,λb G=>(N b G).1⟩⟩
 done:=by
  intro X O hw hK hc i pins s σ H E I N st hg;subst O hw hK;obtain⟨ac,ad⟩:=hg;obtain⟨f0,U,f2,R,S,f5⟩:=N F (by simp);obtain⟨hd,vs,r,Y⟩:=jN I.bJ ac;have ab:=r.length;rw[ab]at st;exact wpAny_pyNext_values_end (I.ok.hd hc) st Y (by simp;omega) λh' eb=>⟨rfl,I.turned (t':=s.toks) (λb o G e=>eb b o G e) f0 U R S f5⟩
 self:=λ_ _ _ _ _ st h=>wpAny_pyIter_valiter st h
section
variable {X:Cx}{tg:Expr}
noncomputable def Et (H₀:Hp) (td:TE):TI:=λσ H R=>td σ H λx H1=>xy λa kvs=>DH (x=.ref a) (H1 a=some (.dK kvs)) ((∀o F,H₀ a≠some (.frz o F))) (∀o,R (Fn a o kvs) (upd H1 a (.frz o (.dK kvs))))
theorem Ai {o:Expr}{apos cpos:Pos}{td:TE}(ho:PE X o td) (ab:attributeBase o "values" X.env (eval o X.env)=eval o X.env:=by rfl) (ac:(apos.endLine==cpos.line)=true:=by rfl):PI X tg (.Call (.Attribute o "values" apos) [] [] cpos) (Et X.H₀ td):=by
 intro pins s σ H R I h;refine wpAny_Call_method0_late ab ac (bU (ho pins s σ H _ I h) λu G ap=>?_);obtain⟨x,H1,O,rx,a,kvs,ex,L,hn,q⟩:=ap;subst ex;obtain rfl:u=Value.ref a:=rx;obtain⟨t1,t2,hd⟩:=jZ O (.inl ⟨kvs,.inl L⟩);obtain⟨_,_,vs,aT,Y⟩:=gv O.bJ L;refine⟨"dict","dict.values",plainAttrs_dict,PySem.F.slot_dict_values,PySem.F.type_dict_values,t1,t2,Calls.callWith_builtin rfl (PySem.evalArgs_none ?_)⟩;refine call_meetsIn PySem.F.slot_dict_values Y.typeIs PySem.F.entry_dict_values (PySem.F.args_dict_values_1 _) (meets_dict_values (br X.prog X.w) a hd) ⟨⟨vs,Y⟩,?_⟩;have nw:=Heap.get?_push_size G.heap (o:={ cls:=.type "dict_values",data:=.fields #[.ref a] }) rfl;have U:Inv X pins σ H1 { G with heap:=G.heap.push { cls:=.type "dict_values",data:=.fields #[.ref a] },toks:=G.toks }:=O.kept λb o e=>Heap.get?_push_of_some _ e;obtain⟨_,aB,as,am,zY⟩:=gv U.bJ L;obtain⟨J,ad,ep,S,g2,g3,g4⟩:=id zY;have N:=U.freeze L S hn;have lt:a<(G.heap.push { cls:=.type "dict_values",data:=.fields #[.ref a] }).objs.size:=Heap.lt_size S;have da:(G.heap.push { cls:=.type "dict_values",data:=.fields #[.ref a] }).DictAt (br X.prog X.w) a as (xw J):=⟨J,ad,S,g2,by unfold xw;rw[g3],g4⟩;refine wpAny_pyIter_values ⟨_,nw,rfl,rfl⟩ da ?_;refine⟨(G.heap.push { cls:=.type "dict_values",data:=.fields #[.ref a] }).objs.size,[(G.heap.push { cls:=.type "dict_values",data:=.fields #[.ref a] }).objs.size],_,Fn a J kvs,_,rfl,N.kept (t':=G.toks) λb o e=>Heap.get?_push_of_some _ e,wW a _ (ne_of_lt lt) J kvs,?_,λb hb=>?_,q J⟩
 .rw[am.length];exact⟨_,Heap.get?_push_size _ rfl,rfl,rfl⟩
 .have e:b=(G.heap.push { cls:=.type "dict_values",data:=.fields #[.ref a] }).objs.size:=(by simpa using hb);subst e;exact N.js (le_refl _) (N.bJ.fresh (le_refl _))
end
end L2
namespace Srt
open PySem PyProof.Rows
section
variable {prog:Program}{w:World}{A:Around}{E:Value->Shared->Prop}{s:Shared}{a₀:Array Keyed}
end
section
variable {prog:Program}{w:World}{A:Around}{E:Value->Shared->Prop}{s:Shared}
end
section
variable {prog:Program}{w:World}{A:Around}{E:Value->Shared->Prop}{s:Shared}{T:String}{r d:Addr}{n:Nat}{P:Nat->Value->Prop}{OK:Heap->Prop}
end
end Srt
namespace L2
open PySem PySem.Spec PyProof.Rows
section
variable {X:Cx}
end
end L2
namespace Sp
open PySem PySem.StrLaws PySem.Builtin PySem.Builtin.Str
end Sp
namespace L2
open PySem PySem.Spec PyProof.Rows PySem.Builtin PySem.Builtin.Str
section
variable {X:Cx}
theorem mI (N:X.calm=true):dr X (.builtin "sum") (λxs H Q=>∃(p:Addr) (ns:List Int),xs=[.ref p]/\bE X.K H p (ns.map V.int)/\Q (.int ns.sum) H):=by
 intro pins s σ H xs us Q I r h;obtain⟨p,ns,rfl,J,q⟩:=h;obtain⟨u,rfl,R⟩:=vals1 r;cases R;obtain⟨its,S,pl,U⟩:=I.list J;have G:=intsAre_of S;have O:=G.numsOf;obtain⟨ys,e⟩:=G.allInts.items;have F:=pl.isList;rw[e]at F;refine sum_intListG (I.ok.hd N) F λh' tk t' L=>?_;have hs:preSum (numAt ys) ys.size=ns.sum:=by
  rw[preSum_eq,take_of_length_le (by simp), <-nums_intItems, <-e];rw[show its.toArray.toList=its from rfl,O]
 exact⟨.int ns.sum,H,I.kept L,⟨_,by rw[hs]⟩,q⟩
end
section
variable {X:Cx}
theorem xh:dr X (.type "range") (λxs H Q=>∃i j:Int,xs=[.int i,.int j]/\∀p,H p=none->Q (.ref p) (upd H p (.rng i j))):=by
 intro pins s σ H xs us Q I r h;obtain⟨i,j,rfl,q⟩:=h;obtain⟨u,F,rfl,⟨t,rfl⟩,⟨t',rfl⟩⟩:=vals2 r;refine call_range_2 ⟨.ref s.heap.objs.size,_,I.laid (λb o e=>Heap.get?_push_of_some _ e) (le_refl _) ?_,rfl,q _ (I.bJ.fresh (le_refl _))⟩;exact⟨_,_,_,Heap.get?_push_size s.heap rfl⟩
end
section
variable {X:Cx}
noncomputable def vf (K:PySem.W.Frag):List V->Hp->VK->Prop:=λxs H Q=>∃p ys,xs=[.ref p]/\(bE K H p ys\/bV K H p ys)/\Q (.int (ys.length:Nat)) H
theorem xa:dr X (.builtin "len") (vf X.K):=bG
end
section
variable {X:Cx}
theorem mj (L:X.calm=true):dr X (.type "list") (λxs H Q=>∃(p:Addr) (i:Int) (n:Nat),xs=[.ref p]/\H p=some (.rng i (i+n))/\n<=1000 /\ -1000<=i/\i<=1000/\∀l,H l=none->Q (.ref l) (upd H l (.lst ((List.range n).map λk:Nat=>V.int (i+k))))):=by
 intro pins s σ H xs us Q I r h;obtain⟨p,i,n,rfl,J,hn,i0,i1,q⟩:=h;obtain⟨u,rfl,N⟩:=vals1 r;cases N;have hs:sizeLine=16777216:=sizeLine_eq;obtain⟨t,u,v,e⟩:=(show bT X.prog X.w H s.heap p (.rng i (i+n))from I.bJ p _ J);refine call_list_range (n:=n) (I.ok.hd L) e (small_one af af af af) (by rw[rangeSize_one];split<;>omega) af λh' tk F O S e' R=>?_;have rv:Vals ((List.range n).map λk:Nat=>V.int (i+k)) F.toList:=by
  obtain⟨h1,h2⟩:=R;refine p5 ?_ λj x v G Y=>?_
  .rw[length_map,length_range];simpa using h1.symm
  .rw[getElem?_map]at G;obtain⟨k,U,rfl⟩:=Option.map_eq_some_iff.mp G;have ab:k=j:=by
    have:=List.getElem?_eq_some_iff.mp U;obtain⟨_,e⟩:=this;simpa using e.symm
   obtain⟨t,e⟩:=h2 j v (by simpa using Y);exact⟨t,by rw[e,ab];congr 1;omega⟩
 refine⟨.ref s.heap.objs.size,_,I.laid S (le_refl _) (show bT X.prog X.w _ h' _ (.lst ((List.range n).map λk:Nat=>V.int (i+k)))from⟨by rw[length_map,length_range];omega,F.toList,O,rv,by simpa using e'⟩),rfl,q _ (I.bJ.fresh (le_refl _))⟩
end
theorem tE {a:Addr}{o:Obj}{kvs:List (Key×V)}{caps:List (Str×Nat)}{te:TE}{σ:St}{H:Hp}{G:List V->Hp->Prop}(Pv:Nat->List V->Hp->Prop) (J:Pv 0 [] H)
  (R:∀i zs H,i<=kvs.length->Pv i zs H->H a=some (.frz o (.dK kvs)))
  (hs:∀i k v zs H,kvs[i]?=some (k,v)->Pv i zs H->te (gz caps σ (some (kV k))) H (λz L=>zs.length<sizeLine/\Pv (i+1) (zs++[z]) L))
  (hd:∀zs H,Pv kvs.length zs H->G zs H):∃W:Nat->Nat->List V->Hp->Prop,(∃m,W 0 m [] H)/\jH caps oH te σ (Dg a o kvs) G W:=by
 refine⟨λi m zs H=>m=kvs.length-i/\i<=kvs.length/\Pv i zs H,⟨kvs.length,by simp,zero_le _,J⟩,?_⟩;rintro i m zs H ⟨rfl,hi,p⟩;have I:=R i zs H hi p;by_cases F:i<kvs.length
 .refine .inr ⟨⟨I,F⟩,Pv (i+1),λS H' N=>⟨kvs.length-(i+1),af,rfl,F,N⟩,?_⟩;rintro x H' ⟨rfl,k,v,O,rfl⟩;unfold oH;dsimp only;rw[if_pos rfl];exact hs i k v zs _ O p
 .have e:i=kvs.length:=af;subst e;exact .inl ⟨⟨I,le_refl _⟩,hd zs H p⟩
theorem pS {caps:List (Str×Nat)}{te:TE}{σ:St}{H:Hp}{lo st:Int}{n:Nat}{G:List V->Hp->Prop}(Pv:Nat->List V->Hp->Prop) (I:Pv 0 [] H)
  (hs:∀i ys H,i<n->Pv i ys H->te (gz caps σ (some (.int (lo+i*st)))) H (λy J=>ys.length<sizeLine/\Pv (i+1) (ys++[y]) J))
  (hd:∀ys H,Pv n ys H->G ys H):∃W:Nat->Nat->List V->Hp->Prop,(∃m,W 0 m [] H)/\jH caps oH te σ (CH lo st n) G W:=by
 refine⟨λi m ys H=>m=n-i/\i<=n/\Pv i ys H,⟨n,by simp,zero_le _,I⟩,?_⟩;rintro i m ys H ⟨rfl,hi,p⟩;by_cases F:i<n
 .refine .inr ⟨F,Pv (i+1),λN H' L=>⟨n-(i+1),af,rfl,F,L⟩,λx H' y=>?_⟩;obtain⟨e,y⟩:=y;subst e y;unfold oH;dsimp only;rw[if_pos rfl];exact hs i ys _ F p
 .have e:i=n:=af;subst e;exact .inl ⟨le_refl _,hd ys H p⟩
theorem Aa {K:PySem.W.Frag}{a b:Addr}{xs ys:List V}{g:TG}{tb:TS}{D:Ends}{σ:St}{H:Hp}(Pv:Nat->St->Hp->Prop) (R:Pv 0 σ H) (he:xs.length=ys.length)
  (hl:∀i σ H,i<=xs.length->Pv i σ H->bE K H a xs/\bE K H b ys)
  (hs:∀i x y σ H T,xs[i]?=some x->ys[i]?=some y->H T=none->Pv i σ H->g (.ref T) σ (upd H T (.tup [x,y])) λJ H2=>tb { D with nx:=Pv (i+1),ct:=Pv (i+1),bk:=D.nx } J H2)
  (hd:∀σ H,Pv xs.length σ H->D.nx σ H) :
  ∃W:Nat->Nat->St->Hp->Prop,(∃m,W 0 m σ H)/\∀i m σ H,W i m σ H ->
   ((Ek K a b).stop i H/\D.nx σ H)\/((Ek K a b).go i H/\∃N:St->Hp->Prop,(∀F H',N F H'->∃L,L<m/\W (i+1) L F H')/\∀x H',(Ek K a b).Ak i H x H'->g x σ H' λJ H2=>tb { D with nx:=N,ct:=N,bk:=D.nx } J H2):=by
 refine⟨λi m σ H=>m=xs.length-i/\i<=xs.length/\Pv i σ H,⟨xs.length,by simp,zero_le _,R⟩,?_⟩;rintro i m σ H ⟨rfl,hi,p⟩;obtain⟨G,I⟩:=hl i σ H hi p;by_cases O:i<xs.length
 .have U:i<ys.length:=af;refine .inr ⟨⟨xs,ys,xs[i],ys[i],G,I,by simp[O],by simp[U]⟩,Pv (i+1),λF H' p'=>⟨xs.length-(i+1),af,rfl,O,p'⟩,?_⟩;rintro v H' ⟨T,x,y,rfl,hT,rfl,Y,S⟩;exact hs i x y σ H T (Y _ G) (S _ I) hT p
 .have e:i=xs.length:=af;subst e;exact .inl ⟨⟨xs,ys,G,I,.inl (le_refl _)⟩,hd σ H p⟩
inductive Md (P:Program) (w:World) (K:PySem.W.Frag) (mg:Str->Option Value) (base:Heap) (cx:vI) (k:Nat) (C:Addr) (m:Str) (sp:Sp):Prop
 |mk (f:Addr) (fd:FuncData) (ps:List Str) (_:bj P w K mg base cx k f fd ps sp) (_:Binds K fd ps []) (_:Meth K C m f):Md P w K mg base cx k C m sp
inductive Df (P:Program) (w:World) (K:PySem.W.Frag) (mg:Str->Option Value) (base:Heap) (cx:vI) (k:Nat) (x:Str) (sp:Sp):Prop
 |mk (f:Addr) (fd:FuncData) (ps:List Str) (_:bj P w K mg base cx k f fd ps sp) (_:Binds K fd ps []) (_:mg x=some (.ref f)) (_:keepIn K (.ref f)=true):Df P w K mg base cx k x sp
section
variable {X:Cx}{CX:vI}{k j:Nat}{C:Addr}{sp:Sp}{E:XK}{x m:Str}{p pos apos:Pos}{e o:Expr}{es:List Expr}{ta:TE}{t:TA}
theorem pm {pl:Sem Bool}(G:PE X o ta) (c:qE X.K C) (F:Md X.prog X.w X.K X.mg X.base CX k C m sp) (I:dC j X.A) (R:Passes CX X E) (O:PA X (e::es) t) (S:k<=j:=by decide)
  (N:starEach (e::es) X.env=(false,eval e X.env)::starEach es X.env:=by rfl) (J:(backTo pos (starEach es X.env)).any (·.1)=false:=by rfl)
  (L:eval (.Call (.Attribute o m apos) (e::es) [] pos) X.env=(do
   let ov <-eval o X.env
   standAt apos.atName
   let (f,first) <-holding [ov] (getMethod ov m pl)
   callWith pos f first (backTo pos (starEach (e::es) X.env)) (backToKw pos (keywordEach [] X.env))):=by rfl) :
  PE X (.Call (.Attribute o m apos) (e::es) [] pos) (u9 C m sp [] E ta t):=by
 obtain⟨f,fd,_,g,b,q⟩:=F;exact AN G c q g (I.mono S) b .nil R O N J L
theorem uo {pl:Sem Bool}(G:PE X o ta) (c:qE X.K C) (F:Md X.prog X.w X.K X.mg X.base CX k C m sp) (I:dC j X.A) (J:Passes CX X E) (L:k<=j:=by decide)
  (N:eval (.Call (.Attribute o m apos) [] [] pos) X.env=(do
   let ov <-eval o X.env
   standAt apos.atName
   let (f,first) <-holding [ov] (getMethod ov m pl)
   callWith pos f first (backTo pos (starEach [] X.env)) (backToKw pos (keywordEach [] X.env))):=by rfl) :
  PE X (.Call (.Attribute o m apos) [] [] pos) (u9 C m sp [] E ta z9):=by
 obtain⟨f,fd,_,g,b,q⟩:=F;exact yq G c q g (I.mono L) b .nil J N
theorem pc (F:Df X.prog X.w X.K X.mg X.base CX k x sp) (I:dC j X.A) (O:Passes CX X E) (L:PA X (e::es) t) (hg:Gl X x:=by rfl) (R:k<=j:=by decide)
  (N:(x==("__debug__" : Str))=false:=by decide) (G:starEach (e::es) X.env=(false,eval e X.env)::starEach es X.env:=by rfl) (J:(backTo pos (starEach es X.env)).any (·.1)=false:=by rfl) :
  PE X (.Call (.Name x p) (e::es) [] pos) (Br sp [] E t):=by
 obtain⟨f,fd,_,g,b,q,r⟩:=F;exact Bc g (I.mono R) hg q r b .nil O L N G J
end
end L2
namespace St
open PySem L2
noncomputable def top (i:Nat):Stmt:=PySem.Challenge.pw_ownroom_k14_shared_and_alone.main.body.getD i (.Pass ⟨0,0,0,0⟩)
noncomputable abbrev mD:Stmt:=inClass (top 10) 0
noncomputable abbrev zf:Stmt:=inClass (top 10) 1
noncomputable abbrev zq:Stmt:=inClass (top 10) 3
noncomputable abbrev xC:Stmt:=inClass (top 10) 2
noncomputable abbrev y8:Stmt:=inClass (top 10) 7
noncomputable abbrev tR:Stmt:=inClass (top 10) 4
noncomputable abbrev tH:Stmt:=inClass (top 10) 5
noncomputable abbrev BW:Stmt:=inClass (top 10) 6
noncomputable abbrev oM:Stmt:=inClass (top 10) 8
theorem kc:¬ (("owners" : Str) = "contents"):=ao
noncomputable def jC (ow co:Addr):List (Str×V):=bo "contents" (.ref co) (bo "owners" (.ref ow) [])
theorem ed (ow co:Addr):(jC ow co).lookup ("owners" : Str)=some (.ref ow):=by
 unfold jC;rw[aD,if_neg kc,aD,if_pos rfl]
theorem qA (ow co:Addr):(jC ow co).lookup ("contents" : Str)=some (.ref co):=by
 unfold jC;rw[aD,if_pos rfl]
theorem aY (ow co:Addr) {m:Str}(h1:¬ m = "contents") (h2:¬ m = "owners"):(jC ow co).lookup m=none:=by
 unfold jC;rw[aD,if_neg h1,aD,if_neg h2]
 all_goals rfl
noncomputable def dJ (H:Hp) (M:Addr->Prop):V->Option (List Int)->Prop
 |.non,none=>True
 |.ref a,some ns=>¬ M a/\H a=some (.lst (ns.map V.int))
 |_,_=>False
structure aQ (C:Addr) (H:Hp) (M:Addr->Prop) (p ow co:Addr) (os:List Int) (pg:List (Option (List Int))):Prop where
 ob:∃dx,H p=some (.ins C dx (jC ow co))
 hw:H ow=some (.lst (os.map V.int))
 hc:∃cs,H co=some (.lst cs)/\Paired (dJ H M) cs pg
noncomputable def Off (B:Addr->Prop) (H H':Hp):Prop:=∀b o,H b=some o->¬ B b->H' b=some o
theorem dJ.off {B M:Addr->Prop}{H H':Hp}(h:Off B H H') (F:∀b,B b->M b):∀{v:V}{x:Option (List Int)},dJ H M v x->dJ H' M v x
 |.non,none,_=>trivial
 |.ref a,some ns,⟨h1,h2⟩=>⟨h1,h a _ h2 λz=>h1 (F a z)⟩
theorem ic {B M:Addr->Prop}{H H':Hp}(h:Off B H H') (F:∀b,B b->M b) {cs:List V}{pg:List (Option (List Int))}(q:Paired (dJ H M) cs pg):Paired (dJ H' M) cs pg :=
 Paired.yW q λ_ _ z=>z.off h F
theorem lU {α G:Type}{F:α->G->Prop}:∀{xs:List α}{ys:List G}{i:Nat}{y:G},Paired F xs ys->ys[i]?=some y->∃x,xs[i]?=some x/\F x y
 |_,_,_,_,.nil,e=>by simp at e
 |_,_,0,_,.cons r _,e=>by simp at e;subst e;exact⟨_,rfl,r⟩
 |_,_,i+1,y,.cons _ t,e=>by
  obtain⟨u,h1,h2⟩:=lU (i:=i) (y:=y) t (by simpa using e);exact⟨u,by simpa using h1,h2⟩
theorem iP {α G:Type}{F:α->G->Prop}{x:α}{y:G}(r:F x y):∀{xs:List α}{ys:List G}(i:Nat),Paired F xs ys->Paired F (xs.set i x) (ys.set i y)
 |_,_,_,.nil=>.nil
 |_,_,0,.cons _ t=>.cons r t
 |_,_,i+1,.cons q t=>.cons q (iP r i t)
theorem mr {α G:Type}{F:α->G->Prop}{x:α}{y:G}(r:F x y):∀n:Nat,Paired F (replicate n x) (replicate n y)
 |0=>.nil
 |n+1=>.cons r (mr r n)
structure Txt (K:PySem.W.Frag) (mg:Str->Option Value) (C:Addr):Prop where
 cl:qE K C
 nO:cX K C "owners"
 nC:cX K C "contents"
 len:mg "len" = none
 list:mg "list" = none
 pc:∃u,mg "PAGE_CELLS" = some u/\RelV (.int 8) u
inductive gM (C:Addr) (vs:List V) (H:Hp) (Q:VK) (e3:XK):Prop
 |mk (p dx:Addr) (n:Nat) (_:vs=[.ref p,.int n]) (_:n<=60) (_:H p=some (.ins C dx [])) (_:∀(ow co:Addr) (H':Hp),H ow=none->H co=none->ow≠co->(∀M,aQ C H' M p ow co (replicate n 0) (replicate n none))->Off (· = p) H H'->Q .non H'):gM C vs H Q e3
noncomputable def dN (os:List Int) (n:Int):Int:=if n<0\/(os.length:Int)<=n then 0 else os.getD n.toNat 0
theorem kW {os:List Int}{n:Int}(h:dN os n≠0):0<=n/\n.toNat<os.length/\n<os.length/\n=(n.toNat:Int):=by
 unfold dN at h;by_cases z:n<0\/(os.length:Int)<=n
 .rw[if_pos z]at h;exact absurd rfl h
 .omega
theorem sX {os:List Int}{j:Nat}(h:j<os.length):dN os (j:Int)=os.getD j 0:=by
 unfold dN;rw[if_neg af];simp
inductive gg (C:Addr) (vs:List V) (H:Hp) (Q:VK) (e3:XK):Prop
 |mk (p ow co:Addr) (M:Addr->Prop) (os:List Int) (pg:List (Option (List Int))) (n:Int) (_:vs=[.ref p,.int n]) (_:aQ C H M p ow co os pg) (_:os.length<=60) (_:Q (.int (dN os n)) H):gg C vs H Q e3
inductive fL (C:Addr) (vs:List V) (H:Hp) (Q:VK) (e3:XK):Prop
 |mk (p ow co:Addr) (M:Addr->Prop) (os:List Int) (pg:List (Option (List Int))) (n:Int) (_:vs=[.ref p,.int n]) (_:aQ C H M p ow co os pg) (_:os.length<=60) (_:dN os n≠0) (_:Q .non H):fL C vs H Q e3
inductive t6 (C:Addr) (vs:List V) (H:Hp) (Q:VK) (e3:XK):Prop
 |mk (p ow co:Addr) (M:Addr->Prop) (os:List Int) (pg:List (Option (List Int))) (_:vs=[.ref p]) (_:aQ C H M p ow co os pg) (_:M ow) (_:M co) (_:(∀b,M b->H b≠none)) (_:ow≠co) (_:os.length=pg.length) (_:os.length<=60) (_:(¬ (0:Int)∈os->Q .non H)) (_:((0:Int)∈os->∀H',aQ C H' M p ow co (os.set (os.idxOf 0) 1) (pg.set (os.idxOf 0) (some (replicate 8 0)))->Off (λb=>b=ow\/b=co) H H'->Q (.int (os.idxOf 0:Nat)) H')):t6 C vs H Q e3
inductive pE (C:Addr) (vs:List V) (H:Hp) (Q:VK) (e3:XK):Prop
 |mk (p ow co:Addr) (M:Addr->Prop) (os:List Int) (pg:List (Option (List Int))) (n:Int) (_:vs=[.ref p,.int n]) (_:aQ C H M p ow co os pg) (_:M ow) (_:M co) (_:ow≠co) (_:os.length<=60) (_:dN os n≠0) (_:∀H',aQ C H' M p ow co (os.set n.toNat (dN os n-1)) pg->Off (λb=>b=ow\/b=co) H H'->Q .non H'):pE C vs H Q e3
inductive pX (C:Addr) (vs:List V) (H:Hp) (Q:VK) (e3:XK):Prop
 |mk (p ow co:Addr) (M:Addr->Prop) (os:List Int) (pg:List (Option (List Int))) (n:Int) (_:vs=[.ref p,.int n]) (_:aQ C H M p ow co os pg) (_:M ow) (_:M co) (_:ow≠co) (_:os.length<=60) (_:dN os n≠0) (_:∀H',aQ C H' M p ow co (os.set n.toNat (dN os n+1)) pg->Off (λb=>b=ow\/b=co) H H'->Q .non H'):pX C vs H Q e3
inductive oy (C:Addr) (vs:List V) (H:Hp) (Q:VK) (e3:XK):Prop
 |mk (p ow co:Addr) (M:Addr->Prop) (os:List Int) (pg:List (Option (List Int))) (_:vs=[.ref p]) (_:aQ C H M p ow co os pg) (_:Q (.int (os.count 0:Nat)) H):oy C vs H Q e3
inductive kE (C:Addr) (vs:List V) (H:Hp) (Q:VK) (e3:XK):Prop
 |mk (p ow co:Addr) (M:Addr->Prop) (os:List Int) (pg:List (Option (List Int))) (n:Int) (ns:List Int) (_:vs=[.ref p,.int n]) (_:aQ C H M p ow co os pg) (_:os.length<=60) (_:dN os n≠0) (_:pg[n.toNat]?=some (some ns)) (_:∀l,H l=none->Q (.ref l) (upd H l (.lst (ns.map V.int)))):kE C vs H Q e3
inductive vE (K:PySem.W.Frag) (C:Addr) (vs:List V) (H:Hp) (Q:VK) (e3:XK):Prop
 |mk (p ow co c:Addr) (M:Addr->Prop) (os:List Int) (pg:List (Option (List Int))) (n:Int) (ns:List Int) (_:vs=[.ref p,.int n,.ref c]) (_:aQ C H M p ow co os pg) (_:M ow) (_:M co) (_:(∀b,M b->H b≠none)) (_:ow≠co) (_:os.length=pg.length) (_:os.length<=60) (_:dN os n≠0) (_:bE K H c (ns.map V.int)) (_:∀H',aQ C H' M p ow co os (pg.set n.toNat (some ns))->Off (λb=>b=ow\/b=co) H H'->Q .non H'):vE K C vs H Q e3
section
variable {P:Program}{w:World}{K:PySem.W.Frag}{mg:Str->Option Value}{base:Heap}
theorem rep1 {α:Type}(x:α) (n:Nat):(replicate n [x]).flatten=replicate n x:=by
 induction n with
 |zero=>rfl
 |succ n F=>rw[replicate_succ,flatten_cons,F,replicate_succ];rfl
theorem FR:aA ["self","many"] ["self","many"] (ar mD):=L2.bD
theorem ou {f C:Addr}{fd:FuncData}(F:cQ K "__init__" "Store.__init__" mD f fd) (T:Txt K mg C):bj P w K mg base aW 1 f fd ["self","many"] (gM C):=by
 refine F.ok FR (λvs H Q E h=>?_) (λa0 A outer s H vs Q E hr h=>?_)
 .obtain⟨p,dx,n,rfl,_⟩:=h;rfl
 .obtain⟨p,dx,n,rfl,hn,O,k⟩:=h;refine⟨_,ag (eT (pv 0) (az lS (ck (aa ak ai)) (pv 1)) rfl) (aj (eT (pv 0) (az lS (ck (aa lK ai)) (pv 1)) rfl)),?_⟩;have hs:sizeLine=16777216:=sizeLine_eq;refine⟨av,λL ad=>?_⟩;have aB:p≠L:=aq O ad;refine⟨_,rfl,L,n,_,rfl,rfl,ae,af,af,by rw[length_singleton];omega,λow J=>?_⟩;have am:ow≠L:=λz=>(by rw[z,ae]at J;cases J);rw[ah am]at J;have R:p≠ow:=aq O J;refine⟨_,rfl,p,C,dx,[],rfl,by rw[ah R,ah aB];exact O,T.cl,T.nO,av,?_⟩;refine⟨av,λN I=>?_⟩;have ab:N≠p:=λz=>(by rw[z,ae]at I;cases I);rw[ah ab]at I;have ac:N≠ow:=λz=>(by rw[z,ae]at I;cases I);rw[ah ac]at I;have aT:N≠L:=λz=>(by rw[z,ae]at I;cases I);rw[ah aT]at I;refine⟨_,rfl,N,n,_,rfl,rfl,ae,af,af,by rw[length_singleton];omega,λco G=>?_⟩;have ap:co≠N:=λz=>(by rw[z,ae]at G;cases G);rw[ah ap]at G;have U:co≠p:=λz=>(by rw[z,ae]at G;cases G);rw[ah U]at G;have S:co≠ow:=λz=>(by rw[z,ae]at G;cases G);rw[ah S]at G;have as:co≠L:=λz=>(by rw[z,ae]at G;cases G);rw[ah as]at G;refine⟨_,rfl,p,C,dx,_,rfl,by rw[ah (Ne.symm U),ah (Ne.symm ab),ae],T.cl,T.nC,by show 1<1000;decide,?_⟩;rw[show((n:Int)).toNat=n by omega,rep1,rep1];refine k ow co _ J G (Ne.symm S) (λM=>⟨⟨dx,ae⟩,?_,⟨_,?_,mr (show dJ _ M .non none from trivial) n⟩⟩) λb o e hb=>?_
  .rw[ah (Ne.symm R),ah (Ne.symm S),ah (Ne.symm ac),ah (Ne.symm R),ae,List.map_replicate]
  .rw[ah U,ae]
  .have Y:b≠p:=hb;rw[ah Y,ah (aq e G),ah (aq e I),ah Y,ah (aq e J),ah (aq e ad)];exact e
theorem Fu:aA ["self","n"] ["self","n"] (ar tR):=L2.bD
theorem zO {f C:Addr}{fd:FuncData}(F:cQ K "count" "Store.count" tR f fd) (T:Txt K mg C):bj P w K mg base aW 1 f fd ["self","n"] (gg C):=by
 refine F.ok Fu (λvs H Q E h=>?_) (λN A outer s H vs Q E L h=>?_)
 .obtain⟨p,ow,co,M,os,pg,n,rfl,_⟩:=h;rfl
 .obtain⟨p,ow,co,M,os,pg,n,rfl,S,O,k⟩:=h;obtain⟨⟨dx,h1⟩,J,_⟩:=id S;refine⟨_,ag (aR (fM (aC gu (pv 1) ak (aG _)) (fw (aC Eu (pv 1) (aV bG (by rfl) T.len boot_len (aa (aK (pv 0) rfl) ai)) (aG _)))).pt (aj (aE ak)) aF)
   (aj (aE (aX cg (aK (pv 0) rfl) (pv 1) (λ_ _=>rfl)))),?_⟩
  refine⟨_,rfl,_,_,rfl,rfl,_,rfl,?_⟩;refine iD (λc=>?_) (λc=>?_)
  .refine dU ?_;have I:n<0:=(by simpa using c);unfold dN at k;rw[if_pos (.inl I)]at k;exact k
  .have I:¬ n<0:=(by simpa using c);refine⟨_,rfl,_,rfl,p,C,dx,_,_,rfl,h1,T.cl,T.nO,ed _ _,ow,_,rfl,.inl (bE.of J),_,_,rfl,rfl,_,rfl,?_⟩;refine iD (λd=>?_) (λd=>?_)
   .have d':(os.length:Int)<=n:=(by simpa using d);unfold dN at k;rw[if_pos (.inr d')]at k;exact k
   .have d':¬ (os.length:Int)<=n:=(by simpa using d);obtain⟨j,rfl⟩:∃j:Nat,n=j:=⟨n.toNat,af⟩;have G:j<os.length:=af;rw[sX G]at k;refine⟨_,rfl,p,C,dx,_,_,rfl,h1,T.cl,T.nO,ed _ _,_,rfl,ow,_,j,.int (os.getD j 0),rfl,rfl,bE.of J,ie ?_,k⟩;rw[getElem?_map,getElem?_eq_getElem G];simp[G]
theorem Ib:aA ["self","n"] ["self","n"] (ar oM):=L2.bD
theorem wL {f C:Addr}{fd:FuncData}(F:cQ K "refuse_free" "Store.refuse_free" oM f fd) (T:Txt K mg C) (L:Md P w K mg base aW 1 C "count" (gg C)) :
  bj P w K mg base aW 2 f fd ["self","n"] (fL C):=by
 refine F.ok Ib (λvs H Q E h=>?_) (λN A outer s H vs Q E G h=>?_)
 .obtain⟨p,ow,co,M,os,pg,n,rfl,_⟩:=h;rfl
 .obtain⟨p,ow,co,M,os,pg,n,rfl,S,J,I,k⟩:=h;obtain⟨⟨dx,h1⟩,O,_⟩:=id S;refine⟨_,aj (aR (aC bS (pm (pv 0) T.cl L G aw (aa (pv 1) ai)) ak (aG _)) (cU) aF),?_⟩;refine⟨_,rfl,p,dx,_,rfl,h1,aY _ _ ao ao,_,rfl,p,ow,co,M,os,pg,n,rfl,S,J,rfl,_,rfl,?_⟩;refine iD (λc=>?_) (λc=>?_)
  .exact absurd (by simpa using c) I
  .exact k
theorem Fw:aA ["self","n"] ["self","n"] (ar zq):=L2.bD
theorem fJ {H:Hp}{M:Addr->Prop}{a:Addr}{o:HO}{cs:List V}{pg:List (Option (List Int))}(F:M a) (q:Paired (dJ H M) cs pg):Paired (dJ (upd H a o) M) cs pg :=
 ic (B:=(· = a)) (λb u e G=>by rw[ah (show b≠a from G)];exact e) (λb z=>by rw[show b=a from z];exact F) q
theorem ke {H:Hp}{M:Addr->Prop}{a:Addr}{o:HO}{cs:List V}{pg:List (Option (List Int))}(F:H a=none) (q:Paired (dJ H M) cs pg):Paired (dJ (upd H a o) M) cs pg :=
 ic (B:=λ_=>False) (λb u e _=>by rw[ah (aq e F)];exact e) (λb z=>z.elim) q
theorem ip {H:Hp}{p a C dx:Addr}{fs:List (Str×V)}{xs:List V}(h:H p=some (.ins C dx fs)) (h':H a=some (.lst xs)):p≠a:=cH h h' (by intro z;cases z)
theorem z8 {f C:Addr}{fd:FuncData}(F:cQ K "less" "Store.less" zq f fd) (T:Txt K mg C) (GG:Md P w K mg base aW 2 C "refuse_free" (fL C)) :
  bj P w K mg base aW 3 f fd ["self","n"] (pE C):=by
 refine F.ok Fw (λvs H Q E h=>?_) (λac A outer s H vs Q E L h=>?_)
 .obtain⟨p,ow,co,M,os,pg,n,rfl,_⟩:=h;rfl
 .obtain⟨p,ow,co,M,os,pg,n,rfl,S,R,mc,O,hl,J,k⟩:=h;obtain⟨⟨dx,h1⟩,I,cs,ab,N⟩:=id S;refine⟨_,ag (aM (pm (pv 0) T.cl GG L aw (aa (pv 1) ai)))
   (aj (u4 (aK (pv 0) rfl) (pv 1) (rJ) ak Cs set_list)),?_⟩
  refine⟨_,rfl,p,dx,_,rfl,h1,aY _ _ ao ao,_,rfl,p,ow,co,M,os,pg,n,rfl,S,hl,J,?_⟩;obtain⟨h0,G,hn,Y⟩:=kW J;generalize n.toNat=j at *;subst Y;refine⟨_,rfl,p,C,dx,_,_,rfl,h1,T.cl,T.nO,ed _ _,_,rfl,ow,_,j,.int (os.getD j 0),rfl,rfl,bE.of I,ie (by rw[getElem?_map,getElem?_eq_getElem G];simp[G]),_,_,rfl,rfl,ow,_,j,j,rfl,rfl,I,?_,?_⟩
  .unfold u7;rw[length_map,if_pos af,if_pos af];simp
  .rw[sX G]at k;refine k _ ⟨⟨dx,by rw[ah (ip h1 I)];exact h1⟩,?_,⟨cs,by rw[ah (Ne.symm O)];exact ab,fJ R N⟩⟩ λb o e U=>?_
   .rw[ae,map_set]
   .rw[ah (λz=>U (.inl z))];exact e
theorem HE:aA ["self","n"] ["self","n"] (ar tH):=L2.bD
theorem yy {f C:Addr}{fd:FuncData}(F:cQ K "cells" "Store.cells" tH f fd) (T:Txt K mg C) (Y:Md P w K mg base aW 2 C "refuse_free" (fL C)) :
  bj P w K mg base aW 3 f fd ["self","n"] (kE C):=by
 refine F.ok HE (λvs H Q E h=>?_) (λab A outer s H vs Q E I h=>?_)
 .obtain⟨p,ow,co,M,os,pg,n,ns,rfl,_⟩:=h;rfl
 .obtain⟨p,ow,co,M,os,pg,n,ns,rfl,S,R,G,hg,k⟩:=h;obtain⟨⟨dx,h1⟩,hw,cs,N,J⟩:=id S;refine⟨_,ag (aM (pm (pv 0) T.cl Y I aw (aa (pv 1) ai)))
   (aj (aE (bK cO (by rfl) T.list d0 (aa (aX cg (aK (pv 0) rfl) (pv 1) (λ_ _=>rfl)) ai)))),?_⟩
  refine⟨_,rfl,p,dx,_,rfl,h1,aY _ _ ao ao,_,rfl,p,ow,co,M,os,pg,n,rfl,S,R,G,?_⟩;obtain⟨h0,hj,hn,L⟩:=kW G;generalize n.toNat=j at *;subst L;obtain⟨v,O,cv⟩:=lU J hg;obtain⟨a,rfl,U⟩:∃a,v=.ref a/\H a=some (.lst (ns.map V.int)):=by
   cases v with
   |ref a=>exact⟨a,rfl,cv.2⟩
   |_=>exact False.elim cv
  refine⟨_,rfl,p,C,dx,_,_,rfl,h1,T.cl,T.nC,qA _ _,_,rfl,co,cs,j,_,rfl,rfl,bE.of N,ie O,a,_,rfl,.inl (bE.of U),k⟩
theorem EV:aA ["self","n","cells"] ["self","n","cells"] (ar BW):=L2.bD
theorem iR {α G:Type}{F:α->G->Prop}:∀{xs:List α}{ys:List G},Paired F xs ys->xs.length=ys.length
 |_,_,.nil=>rfl
 |_,_,.cons _ t=>by rw[length_cons,length_cons,iR t]
theorem CJ {f C:Addr}{fd:FuncData}(F:cQ K "put" "Store.put" BW f fd) (T:Txt K mg C) (GG:Md P w K mg base aW 2 C "refuse_free" (fL C)) :
  bj P w K mg base aW 3 f fd ["self","n","cells"] (vE K C):=by
 refine F.ok EV (λvs H Q E h=>?_) (λab A outer s H vs Q E R h=>?_)
 .obtain⟨p,ow,co,c,M,os,pg,n,ns,rfl,_⟩:=h;rfl
 .obtain⟨p,ow,co,c,M,os,pg,n,ns,rfl,S,mw,mc,mt,U,ad,hl,N,hq,k⟩:=h;obtain⟨⟨dx,h1⟩,O,cs,J,L⟩:=id S;refine⟨_,ag (aM (pm (pv 0) T.cl GG R aw (aa (pv 1) ai)))
   (aj (cF (bK cO (by rfl) T.list d0 (aa (pv 2) ai)) (dA (aK (pv 0) rfl) (pv 1) set_list))),?_⟩
  refine⟨_,rfl,p,dx,_,rfl,h1,aY _ _ ao ao,_,rfl,p,ow,co,M,os,pg,n,rfl,S,hl,N,?_⟩;obtain⟨h0,hj,hn,en⟩:=kW N;generalize n.toNat=j at *;subst en;have ac:=iR L;refine⟨_,rfl,c,_,rfl,.inl hq,λl I=>?_⟩;have G:∀{b:Addr}{o:HO},H b=some o->b≠l:=λe=>aq e I;refine⟨_,rfl,p,C,dx,_,_,rfl,by rw[ah (G h1)];exact h1,T.cl,T.nC,qA _ _,_,rfl,co,cs,j,j,rfl,rfl,by rw[ah (G J)];exact J,?_,?_⟩
  .unfold u7;rw[if_pos af,if_pos af];simp
  .have hM:¬ M l:=λz=>mt l z I;refine k _ ⟨⟨dx,by rw[ah (ip h1 J),ah (G h1)];exact h1⟩,by rw[ah U,ah (G O)];exact O,⟨_,ae,fJ mc (iP ⟨hM,ae⟩ j (ke I L))⟩⟩ λb o e Y=>?_;rw[ah (λz=>Y (.inr z)),ah (G e)];exact e
theorem HA:aA ["self","n"] ["self"] (ar zf):=L2.bD
theorem HV (os:List Int):BG (.int 0) (os.map V.int)=decide ((0:Int)∈os):=by
 unfold BG;rw[List.any_map,Bool.eq_iff_iff,List.any_eq_true,decide_eq_true_iff];constructor
 .rintro⟨x,G,e⟩;have F:x=0:=by
   have:(x==(0:Int))=true:=e;simpa using this
  subst F;exact G
 .intro h;exact⟨0,h,rfl⟩
theorem AL {f C:Addr}{fd:FuncData}(F:cQ K "take" "Store.take" zf f fd) (T:Txt K mg C):bj P w K mg base aW 1 f fd ["self"] (t6 C):=by
 refine F.ok HA (λvs H Q E h=>?_) (λab A outer s H vs Q E hr h=>?_)
 .obtain⟨p,ow,co,M,os,pg,rfl,_⟩:=h;rfl
 .obtain⟨p,ow,co,M,os,pg,rfl,S,mw,mc,mt,Y,ad,hl,k0,k1⟩:=h;obtain⟨⟨dx,h1⟩,I,cs,O,U⟩:=id S;obtain⟨u8,m8,r8⟩:=T.pc;have hs:sizeLine=16777216:=sizeLine_eq;refine⟨_,ag (aR (aC fZ ak (aK (pv 0) rfl) (by with_unfolding_all rfl)) (aj (aE lK)) aF)
   (ag (aL (i:=1) HA.nd rfl (Or.inl rfl) (gK plainAttrs_list PySem.F.slot_list_index PySem.F.type_list_index zm (aK (pv 0) rfl) (aa ak ai)))
   (ag (cF ak (dA (aK (pv 0) rfl) (pv 1) set_list))
   (ag (cF (az lS (ck (aa ak ai)) (cj (by rfl) m8 r8)) (dA (aK (pv 0) rfl) (pv 1) set_list))
   (aj (aE (pv 1)))))),?_⟩
  refine⟨_,rfl,p,C,dx,_,_,rfl,h1,T.cl,T.nO,ed _ _,ow,_,rfl,.inl (bE.of I),rfl,iw _,_,rfl,?_⟩;show if (!BG (.int 0) (os.map V.int))=true then _ else _
  rw[HV];by_cases c:(0:Int)∈os
  .rw[decide_eq_true c];refine bu ?_;have hj:os.idxOf 0<os.length:=List.idxOf_lt_length_iff.mpr c;have ac:=iR U;refine⟨_,rfl,p,C,dx,_,_,rfl,h1,T.cl,T.nO,ed _ _,.inl ⟨rfl,_,bE.of I⟩,ow,os,0,rfl,rfl,I,c,?_⟩;have k2:=k1 c;generalize os.idxOf 0=j at *;refine⟨_,rfl,p,C,dx,_,_,rfl,h1,T.cl,T.nO,ed _ _,_,rfl,ow,_,j,j,rfl,rfl,I,?_,?_⟩
   .unfold u7;rw[length_map,if_pos af,if_pos af];simp
   .refine⟨av,λl N=>?_⟩;have lw:l≠ow:=λz=>(by rw[z,ae]at N;cases N);rw[ah lw]at N;refine⟨l,8,_,rfl,rfl,ae,af,af,by rw[length_singleton];omega,λq G=>?_⟩;have R:q≠l:=λz=>(by rw[z,ae]at G;cases G);rw[ah R]at G;have qw:q≠ow:=λz=>(by rw[z,ae]at G;cases G);rw[ah qw]at G;have L:∀{b:Addr}{o:HO},H b=some o->b≠l:=λe=>aq e N;have J:∀{b:Addr}{o:HO},H b=some o->b≠q:=λe=>aq e G;refine⟨_,rfl,p,C,dx,_,_,rfl,by rw[ah (J h1),ah (L h1),ah (ip h1 I)];exact h1,T.cl,T.nC,qA _ _,_,rfl,co,cs,j,j,rfl,rfl,by rw[ah (J O),ah (L O),ah (Ne.symm Y)];exact O,?_,?_⟩
    .unfold u7;rw[if_pos af,if_pos af];simp
    .refine⟨_,rfl,?_⟩;have hM:¬ M q:=λz=>mt q z G;refine k2 _ ⟨⟨dx,by rw[ah (ip h1 O),ah (J h1),ah (L h1),ah (ip h1 I)];exact h1⟩,?_,⟨_,ae,fJ mc (iP ⟨hM,by rw[ae];rfl⟩ j (ke (by rw[ah R,ah qw];exact G) (ke (by rw[ah lw];exact N) (fJ mw U))))⟩⟩ λb o e hb=>?_
     .rw[ah Y,ah (J I),ah (L I),ae,map_set]
     .rw[ah (λz=>hb (.inr z)),ah (J e),ah (L e),ah (λz=>hb (.inl z))];exact e
  .rw[decide_eq_false c];exact k0 c
theorem Ga:aA ["self","n"] ["self","n"] (ar xC):=L2.bD
theorem AY {f C:Addr}{fd:FuncData}(F:cQ K "more" "Store.more" xC f fd) (T:Txt K mg C) (GG:Md P w K mg base aW 2 C "refuse_free" (fL C)) :
  bj P w K mg base aW 3 f fd ["self","n"] (pX C):=by
 refine F.ok Ga (λvs H Q E h=>?_) (λac A outer s H vs Q E L h=>?_)
 .obtain⟨p,ow,co,M,os,pg,n,rfl,_⟩:=h;rfl
 .obtain⟨p,ow,co,M,os,pg,n,rfl,S,R,mc,O,hl,J,k⟩:=h;obtain⟨⟨dx,h1⟩,I,cs,ab,N⟩:=id S;refine⟨_,ag (aM (pm (pv 0) T.cl GG L aw (aa (pv 1) ai)))
   (aj (u4 (aK (pv 0) rfl) (pv 1) (rJ) ak Dk set_list)),?_⟩
  refine⟨_,rfl,p,dx,_,rfl,h1,aY _ _ ao ao,_,rfl,p,ow,co,M,os,pg,n,rfl,S,hl,J,?_⟩;obtain⟨h0,G,hn,Y⟩:=kW J;generalize n.toNat=j at *;subst Y;refine⟨_,rfl,p,C,dx,_,_,rfl,h1,T.cl,T.nO,ed _ _,_,rfl,ow,_,j,.int (os.getD j 0),rfl,rfl,bE.of I,ie (by rw[getElem?_map,getElem?_eq_getElem G];simp[G]),_,_,rfl,rfl,ow,_,j,j,rfl,rfl,I,?_,?_⟩
  .unfold u7;rw[length_map,if_pos af,if_pos af];simp
  .rw[sX G]at k;refine k _ ⟨⟨dx,by rw[ah (ip h1 I)];exact h1⟩,?_,⟨cs,by rw[ah (Ne.symm O)];exact ab,fJ R N⟩⟩ λb o e U=>?_
   .rw[ae,map_set]
   .rw[ah (λz=>U (.inl z))];exact e
theorem Gj:aA ["self"] ["self"] (ar y8):=L2.bD
theorem zZ {f C:Addr}{fd:FuncData}(F:cQ K "free" "Store.free" y8 f fd) (T:Txt K mg C):bj P w K mg base aW 1 f fd ["self"] (oy C):=by
 refine F.ok Gj (λvs H Q E h=>?_) (λJ A outer s H vs Q E I h=>?_)
 .obtain⟨p,ow,co,M,os,pg,rfl,_⟩:=h;rfl
 .obtain⟨p,ow,co,M,os,pg,rfl,S,k⟩:=h;obtain⟨⟨dx,h1⟩,G,_⟩:=id S;refine⟨_,aj (aE (gK plainAttrs_list PySem.F.slot_list_count PySem.F.type_list_count ym (aK (pv 0) rfl) (aa ak ai))),?_⟩;exact⟨_,rfl,p,C,dx,_,_,rfl,h1,T.cl,T.nO,ed _ _,.inl ⟨rfl,_,bE.of G⟩,ow,os,0,rfl,rfl,G,k⟩
end
end St
namespace Tb
open PySem L2
noncomputable def top (i:Nat):Stmt:=PySem.Challenge.pw_ownroom_k14_shared_and_alone.main.body.getD i (.Pass ⟨0,0,0,0⟩)
noncomputable abbrev vJ:Stmt:=top 29
noncomputable abbrev mD:Stmt:=inClass (top 30) 0
noncomputable abbrev Cn:Stmt:=inClass (top 30) 1
noncomputable abbrev Dq:Stmt:=inClass (top 30) 2
noncomputable abbrev uE:Stmt:=inClass (top 30) 3
noncomputable abbrev tO:Stmt:=inClass (top 30) 4
theorem au {H:Hp}{l:Addr}{X:HO}(h:H l=none):bf H (upd H l X):=λb o e=>by rw[ah (aq e h)];exact e
noncomputable def Off (B:Addr->Prop) (H H':Hp):Prop:=∀b o,H b=some o->¬ B b->H' b=some o
section
variable {α:Type}
noncomputable def look (l:List (Int×α)) (k:Int):Option α:=(l.find? λx=>decide (x.1=k)).map (·.2)
noncomputable def dk (f:α->V) (l:List (Int×α)):List (Key×V):=l.map λx=>(Sum.inl x.1,f x.2)
noncomputable def aS (l:List (Int×α)) (k:Int) (a:α):List (Int×α):=l.map λx=>if x.1=k then(k,a)else x
noncomputable def a9 (l:List (Int×α)) (k:Int):List (Int×α):=l.filter λx=>decide (x.1≠k)
theorem gE (k:Int):look ([]:List (Int×α)) k=none:=rfl
theorem aN (x:Int×α) (l:List (Int×α)) (k:Int):look (x::l) k=if x.1=k then some x.2 else look l k:=by
 unfold look;rw[find?_cons];by_cases h:x.1=k
 .rw[decide_eq_true h,if_pos h];rfl
 .rw[decide_eq_false h,if_neg h]
theorem cN (f:α->V) (k:Int):∀l:List (Int×α),cq (dk f l) (Sum.inl k)=(look l k).map f
 | []=>rfl
 |x::l=>by
  have F:=cN f k l;show cq ((Sum.inl x.1,f x.2)::dk f l) (Sum.inl k)=_;rw[aN];by_cases h:x.1=k
  .rw[if_pos h,cf (by rw[h])];rfl
  .rw[if_neg h,bC (λe=>h (Sum.inl.inj e)),F]
theorem ay {l:List (Int×α)}{k:Int}{a:α}(h:look l k=some a):(k,a)∈l:=by
 unfold look at h;obtain⟨x,F,e⟩:=Option.map_eq_some_iff.mp h;have h1:=List.mem_of_find?_eq_some F;have h2:x.1=k:=(by simpa using List.find?_some F);rw[<-h2, <-e];exact h1
theorem cn {l:List (Int×α)}{k:Int}(h:look l k=none):¬ k∈l.map (·.1):=by
 unfold look at h;rw[Option.map_eq_none_iff,List.find?_eq_none]at h;rintro m;obtain⟨x,F,e⟩:=List.mem_map.mp m;exact h x F (decide_eq_true e)
theorem bZ {l:List (Int×α)}{k:Int}{a:α}(J:(l.map (·.1)).Nodup) (h:(k,a)∈l):look l k=some a:=by
 induction l with
 |nil=>cases h
 |cons x l G =>
  rw[aN];obtain⟨F,I⟩:=List.nodup_cons.mp (show(x.1::l.map (·.1)).Nodup from J);rcases List.mem_cons.mp h with e|m
  .rw[<-e,if_pos rfl]
  .have:¬ x.1=k:=λe=>F (e▸List.mem_map.mpr ⟨_,m,rfl⟩);rw[if_neg this];exact G I m
theorem B7 (f:α->V) (l:List (Int×α)) (k:Int):((dk f l).any λF=>decide (F.1=Sum.inl k))=(look l k).isSome:=by
 rw[fC,cN];cases look l k<;>rfl
theorem cA {f:α->V}{l:List (Int×α)}{k:Int}{a:α}(h:look l k=none):putK (dk f l) (Sum.inl k) (f a)=dk f (l++[(k,a)]):=by
 rw[jB _ (by rw[cN,h];rfl)];unfold dk;rw[map_append];rfl
theorem gL {f:α->V}{l:List (Int×α)}{k:Int}{a b:α}(h:look l k=some b):putK (dk f l) (Sum.inl k) (f a)=dk f (aS l k a):=by
 unfold putK;rw[if_pos (by rw[B7,h];rfl)];unfold dk aS;rw[map_map,map_map];congr 1;funext x;show(if (Sum.inl x.1:Key)=Sum.inl k then((Sum.inl x.1:Key),f a)else(Sum.inl x.1,f x.2))=((Sum.inl (if x.1=k then(k,a)else x).1:Key),f (if x.1=k then(k,a)else x).2);by_cases e:x.1=k
 .rw[if_pos (by rw[e]),if_pos e,e]
 .rw[if_neg (λz=>e (Sum.inl.inj z)),if_neg e]
theorem eB (f:α->V) (l:List (Int×α)) (k:Int):mL (dk f l) (Sum.inl k)=dk f (a9 l k):=by
 unfold mL dk a9;rw[List.filter_map];congr 1;congr 1;funext x;show decide (¬ (Sum.inl x.1:Key)=Sum.inl k)=decide (¬ x.1=k);by_cases e:x.1=k
 .rw[e];simp
 .simp[e]
theorem bN {l:List (Int×α)}{k:Int}{a:α}(j:Int) (h:look l k=none):look (l++[(k,a)]) j=if j=k then some a else look l j:=by
 induction l with
 |nil =>
  show look [(k,a)] j=_;rw[aN,gE];by_cases e:j=k
  .rw[if_pos e,if_pos e.symm]
  .rw[if_neg e,if_neg (Ne.symm e)]
 |cons x l G =>
  rw[aN]at h;by_cases e:x.1=k
  .rw[if_pos e]at h;cases h
  .rw[if_neg e]at h;show look (x::(l++[(k,a)])) j=_;rw[aN,aN,G h];by_cases F:x.1=j
   .rw[if_pos F,if_pos F,if_neg (λz=>e (F.trans z))]
   .rw[if_neg F,if_neg F]
theorem bR {l:List (Int×α)}{k:Int}{a b:α}(j:Int) (h:look l k=some b):look (aS l k a) j=if j=k then some a else look l j:=by
 induction l with
 |nil=>cases h
 |cons x l G =>
  rw[aN]at h;show look ((if x.1=k then(k,a)else x)::aS l k a) j=_;by_cases e:x.1=k
  .rw[if_pos e,aN,aN];by_cases F:j=k
   .rw[if_pos F.symm,if_pos F]
   .rw[if_neg (Ne.symm F),if_neg F,if_neg (λz=>F (z.symm.trans e))];clear G h
    induction l with
    |nil=>rfl
    |cons y l G =>
     show look ((if y.1=k then(k,a)else y)::aS l k a) j=_;by_cases I:y.1=k
     .rw[if_pos I,aN,aN,if_neg (Ne.symm F),if_neg (λz=>F (z.symm.trans I)),G]
     .rw[if_neg I,aN,aN,G]
  .rw[if_neg e]at h;rw[if_neg e,aN,aN,G h];by_cases F:x.1=j
   .rw[if_pos F,if_pos F,if_neg (λz=>e (F.trans z))]
   .rw[if_neg F,if_neg F]
theorem cw (l:List (Int×α)) (k j:Int):look (a9 l k) j=if j=k then none else look l j:=by
 induction l with
 |nil =>
  show look [] j=if j=k then none else look [] j
  rw[gE];split<;>rfl
 |cons x l G =>
  unfold a9 at *;rw[filter_cons];by_cases e:x.1=k
  .rw[if_neg (by simp[e]),G,aN];by_cases F:j=k
   .rw[if_pos F,if_pos F]
   .rw[if_neg F,if_neg F,if_neg (λz=>F (z.symm.trans e))]
  .rw[if_pos (by simp[e]),aN,aN,G];by_cases F:x.1=j
   .rw[if_pos F,if_pos F,if_neg (λz=>e (F.trans z))]
   .rw[if_neg F,if_neg F]
theorem eU (l:List (Int×α)) (k:Int) (a:α):(aS l k a).map (·.1)=l.map (·.1):=by
 unfold aS;rw[map_map];congr 1;funext x;show(if x.1=k then(k,a)else x).1=x.1;by_cases e:x.1=k
 .rw[if_pos e,e]
 .rw[if_neg e]
theorem jf (l:List (Int×α)) (k:Int):(a9 l k).map (·.1)=(l.map (·.1)).filter λx=>decide (x≠k):=by
 unfold a9;rw[List.filter_map];rfl
theorem gi (l:List (Int×α)) (k:Int) (a:α):(aS l k a).length=l.length:=by unfold aS;rw[length_map]
theorem mem_set {l:List (Int×α)}{k:Int}{a:α}{x:Int×α}(h:x∈aS l k a):x=(k,a)\/(x∈l/\x.1≠k):=by
 unfold aS at h;obtain⟨y,F,e⟩:=List.mem_map.mp h;by_cases c:y.1=k
 .rw[if_pos c]at e;exact .inl e.symm
 .rw[if_neg c]at e;subst e;exact .inr ⟨F,c⟩
theorem bX {l:List (Int×α)}{k:Int}{x:Int×α}(h:x∈a9 l k):x∈l/\x.1≠k:=by
 unfold a9 at h;obtain⟨h1,h2⟩:=List.mem_filter.mp h;exact⟨h1,of_decide_eq_true h2⟩
theorem cu (f:α->V) (l:List (Int×α)):(dk f l).length=l.length:=by unfold dk;rw[length_map]
theorem kS {l:List (Int×α)}{k:Int}{a:α}(L:(l.map (·.1)).Nodup) (h:look l k=some a):(a9 l k).length+1=l.length:=by
 induction l with
 |nil=>cases h
 |cons x l G =>
  obtain⟨F,I⟩:=List.nodup_cons.mp (show(x.1::l.map (·.1)).Nodup from L);rw[aN]at h;unfold a9 at *;rw[filter_cons];by_cases e:x.1=k
  .rw[if_neg (by simp[e])];have:l.filter (λx=>decide (x.1≠k))=l:=by
    rw[filter_eq_self];intro y J;have:y.1≠k:=λz=>F (by rw[e, <-z];exact List.mem_map.mpr ⟨_,J,rfl⟩);simpa using this
   rw[this,length_cons]
  .rw[if_neg e]at h;rw[if_pos (by simpa using e),length_cons,length_cons,G I h]
end
noncomputable abbrev sh:=List (Int×(Addr×List V))
noncomputable abbrev iW:=List (Int×(Addr×sh))
noncomputable def fS:Addr×List V->V:=λx=>.ref x.1
noncomputable def fF:Addr×sh->V:=λx=>.ref x.1
noncomputable def xF:V->Bool
 |.int _=>true
 |.str _=>true
 |_=>false
noncomputable def lL (xs:List V):Bool:=xs.all xF&&decide (xs.length<1000)
theorem AV {xs:List V}(h:lL xs=true):xs.all xF=true:=(Bool.and_eq_true_iff.mp h).1
theorem Aj {xs:List V}(h:lL xs=true):xs.length<1000:=of_decide_eq_true (Bool.and_eq_true_iff.mp h).2
noncomputable def jC (fs:Addr):List (Str×V):=bo "first_step" (.ref fs) []
theorem j5 (fs:Addr):(jC fs).lookup ("first_step" : Str)=some (.ref fs):=by
 unfold jC;rw[aD,if_pos rfl]
theorem aY (fs:Addr) {m:Str}(h:¬ m = "first_step"):(jC fs).lookup m=none:=by
 unfold jC;rw[aD,if_neg h]
 all_goals rfl
structure gw (H:Hp) (k:Int) (sec:sh):Prop where
 ht:∀y∈sec,H y.2.1=some (.tup y.2.2)/\lL y.2.2=true/\y.1/8=k/\0<=y.1/\y.1<64
 ns:(sec.map (·.1)).Nodup
 ne:sec≠[]
structure TabAt (C:Addr) (H:Hp) (p fs:Addr) (tb:iW):Prop where
 ob:∃dx,H p=some (.ins C dx (jC fs))
 hf:H fs=some (.dK (dk fF tb))
 hd:∀x∈tb,H x.2.1=some (.dK (dk fS x.2.2))
 hs:∀x∈tb,gw H x.1 x.2.2
 nk:(tb.map (·.1)).Nodup
 na:∀x∈tb,∀y∈tb,x.2.1=y.2.1->x.1=y.1
 nf:∀x∈tb,x.2.1≠fs
noncomputable def c6 (tb:iW) (q:Int):Option (List V):=(look tb (q/8)).bind λx=>(look x.2 q).map (·.2)
noncomputable def eD (fs:Addr) (tb:iW):Addr->Prop:=λb=>b=fs\/∃x∈tb,b=x.2.1
theorem gw.keep {H H':Hp}{k:Int}{F:sh}(S:gw H k F) (h:∀b xs,H b=some (.tup xs)->H' b=some (.tup xs)):gw H' k F :=
 ⟨λy G=>⟨h _ _ (S.ht y G).1,(S.ht y G).2⟩,S.ns,S.ne⟩
theorem TabAt.same {C:Addr}{H H':Hp}{p fs:Addr}{tb:iW}(T:TabAt C H p fs tb) (s:bf H H'):TabAt C H' p fs tb:=by
 obtain⟨⟨dx,h1⟩,h2,J,N,L,I,G⟩:=T;exact⟨⟨dx,s _ _ h1⟩,s _ _ h2,λx F=>s _ _ (J x F),λx F=>(N x F).keep λb xs e=>s _ _ e,L,I,G⟩
theorem TabAt.put {C:Addr}{H H':Hp}{p fs d:Addr}{tb:iW}{k:Int}{G sec':sh}(T:TabAt C H p fs tb) (L:look tb k=some (d,G)) (o:Off (· = d) H H') (hd:H' d=some (.dK (dk fS sec'))) (S:gw H' k sec'):TabAt C H' p fs (aS tb k (d,sec')):=by
 obtain⟨⟨dx,h1⟩,h2,U,h4,Y,R,N⟩:=T;have J:=ay L;have ab:=U _ J;have O:∀x∈tb,x.1≠k->x.2.1≠d:=λx F hk e=>hk (R x F _ J e);have same:dk fF (aS tb k (d,sec'))=dk fF tb:=by
  have e:=gL (f:=fF) (a:=(d,sec')) L;rw[<-e];have e2:=gL (f:=fF) (a:=(d,G)) L;have e3:fF (d,sec')=fF (d,G):=rfl;rw[e3,e2];unfold dk aS;rw[map_map];refine map_congr_left λx F=>?_;show((Sum.inl (if x.1=k then(k,(d,G))else x).1:Key),fF (if x.1=k then(k,(d,G))else x).2)=(Sum.inl x.1,fF x.2);by_cases c:x.1=k
  .rw[if_pos c,c];have:look tb k=some x.2:=bZ Y (by rw[<-c];exact F);rw[L]at this;rw[<-Option.some.inj this]
  .rw[if_neg c]
 refine⟨⟨dx,o _ _ h1 (cH h1 ab (by intro z;cases z))⟩,by rw[same];exact o _ _ h2 (Ne.symm (N _ J)),λx F=>?_,λx F=>?_,by rw[eU];exact Y,λx F y I e=>?_,λx F=>?_⟩
 .rcases mem_set F with rfl|⟨F,c⟩
  .exact hd
  .exact o _ _ (U x F) (O x F c)
 .rcases mem_set F with rfl|⟨F,c⟩
  .exact S
  .exact(h4 x F).keep λb xs e=>o _ _ e (cH e ab (by intro z;cases z))
 .rcases mem_set F with rfl|⟨F,c⟩<;>rcases mem_set I with rfl|⟨I,c'⟩
  .rfl
  .exact absurd e.symm (O y I c')
  .exact absurd e (O x F c)
  .exact R x F y I e
 .rcases mem_set F with rfl|⟨F,c⟩
  .exact(N _ J:d≠fs)
  .exact N x F
theorem TabAt.add {C:Addr}{H H':Hp}{p fs d:Addr}{tb:iW}{k:Int}{sec':sh}(T:TabAt C H p fs tb) (U:look tb k=none) (I:H d=none) (o:Off (· = fs) H H') (Y:H' fs=some (.dK (dk fF (tb++[(k,(d,sec'))])))) (hd:H' d=some (.dK (dk fS sec'))) (S:gw H' k sec') :
  TabAt C H' p fs (tb++[(k,(d,sec'))]):=by
 obtain⟨⟨dx,h1⟩,h2,N,h4,h5,R,J⟩:=T;have L:∀x∈tb,x.2.1≠d:=λx F=>aq (N x F) I;have O:d≠fs:=λe=>(by rw[e,h2]at I;cases I);refine⟨⟨dx,o _ _ h1 (cH h1 h2 (by intro z;cases z))⟩,Y,λx F=>?_,λx F=>?_,?_,λx F y G e=>?_,λx F=>?_⟩
 .rcases List.mem_append.mp F with F|F
  .exact o _ _ (N x F) (J x F)
  .rw[List.mem_singleton.mp F];exact hd
 .rcases List.mem_append.mp F with F|F
  .exact(h4 x F).keep λb xs e=>o _ _ e (cH e h2 (by intro z;cases z))
  .rw[List.mem_singleton.mp F];exact S
 .rw[map_append];exact gf h5 (cn U)
 .rcases List.mem_append.mp F with F|F<;>rcases List.mem_append.mp G with G|G
  .exact R x F y G e
  .rw[List.mem_singleton.mp G]at e;exact absurd e (L x F)
  .rw[List.mem_singleton.mp F]at e;exact absurd e.symm (L y G)
  .rw[List.mem_singleton.mp F,List.mem_singleton.mp G]
 .rcases List.mem_append.mp F with F|F
  .exact J x F
  .rw[List.mem_singleton.mp F];exact O
theorem TabAt.del {C:Addr}{H H':Hp}{p fs d:Addr}{tb:iW}{k:Int}{O:sh}(T:TabAt C H p fs tb) (S:look tb k=some (d,O)) (o:Off (λb=>b=d\/b=fs) H H') (U:H' fs=some (.dK (dk fF (a9 tb k)))):TabAt C H' p fs (a9 tb k):=by
 obtain⟨⟨dx,h1⟩,h2,L,h4,Y,J,G⟩:=T;have N:=ay S;have I:=L _ N;refine⟨⟨dx,o _ _ h1 λz=>z.elim (cH h1 I (by intro z;cases z)) (cH h1 h2 (by intro z;cases z))⟩,U,λx F=>?_,λx F=>?_,?_,λx F y R e=>J x (bX F).1 y (bX R).1 e,λx F=>G x (bX F).1⟩
 .obtain⟨F,c⟩:=bX F;exact o _ _ (L x F) λz=>z.elim (λe=>c (J x F _ N e)) (G x F)
 .obtain⟨F,c⟩:=bX F;exact(h4 x F).keep λb xs e=>o _ _ e λz=>z.elim (cH e I (by intro z;cases z)) (cH e h2 (by intro z;cases z))
 .rw[jf];exact Y.filter _
theorem zW:∀(n:Nat) (a:Int) (l:List Int),l.Nodup->(∀x∈l,a<=x/\x<a+n)->l.length<=n
 |0,a,l,_,h=>by
  cases l with
  |nil=>exact le_refl _
  |cons x r=>have:=h x mem_cons_self;omega
 |n+1,a,l,F,h=>by
  have I:=zW n a (l.filter λx=>decide (x≠a+n)) (F.filter _) λx N=>by
   obtain⟨h1,h2⟩:=List.mem_filter.mp N;have S:=h x h1;have R:x≠a+n:=of_decide_eq_true h2;omega
  have e:(l.filter λx=>decide (x≠a+n)).length+1>=l.length:=by
   clear I h
   induction l with
   |nil=>simp
   |cons x r O =>
    obtain⟨G,J⟩:=List.nodup_cons.mp F;rw[filter_cons];by_cases c:x=a+n
    .rw[if_neg (by simp[c])];have:r.filter (λx=>decide (x≠a+n))=r:=by
      rw[filter_eq_self];intro y L;have:y≠a+n:=λe=>G (by rw[c, <-e];exact L);simpa using this
     rw[this];simp
    .rw[if_pos (by simpa using c)];have:=O J;rw[length_cons,length_cons];omega
  omega
theorem gw.len {H:Hp}{k:Int}{F:sh}(S:gw H k F):F.length<=64:=by
 have:=zW 64 0 (F.map (·.1)) S.ns λx I=>by
  obtain⟨y,G,rfl⟩:=List.mem_map.mp I;have:=S.ht y G;omega
 rwa [length_map]at this
theorem TabAt.kb {C:Addr}{H:Hp}{p fs:Addr}{tb:iW}(T:TabAt C H p fs tb):∀x∈tb,0<=x.1/\x.1<8:=λx F=>by
 have S:=T.hs x F;cases e:x.2.2 with
 |nil=>exact absurd e S.ne
 |cons y r =>
  have:=S.ht y (by rw[e];exact mem_cons_self);omega
theorem TabAt.len {C:Addr}{H:Hp}{p fs:Addr}{tb:iW}(T:TabAt C H p fs tb):tb.length<=8:=by
 have:=zW 8 0 (tb.map (·.1)) T.nk λx G=>by
  obtain⟨y,F,rfl⟩:=List.mem_map.mp G;have:=T.kb y F;omega
 rwa [length_map]at this
theorem TabAt.u3 {C:Addr}{H:Hp}{p fs:Addr}{tb:iW}(T:TabAt C H p fs tb) {q:Int}(h:c6 tb q≠none):0<=q/\q<64:=by
 unfold c6 at h;cases e:look tb (q/8)with
 |none=>rw[e]at h;exact absurd rfl h
 |some a =>
  rw[e,bind_some]at h;cases F:look a.2 q with
  |none=>rw[F]at h;exact absurd rfl h
  |some b =>
   have:=(T.hs _ (ay e)).ht _ (ay F);omega
end Tb
namespace L2
open PySem PySem.Spec PyProof.Rows
section
variable {X:Cx}
theorem nW {α F:Type}(f:α->F):∀(l:List α) (i:Nat),(l.map f).eraseIdx i=(l.eraseIdx i).map f
 | [],_=>rfl
 |_::_,0=>rfl
 |a::l,i+1=>by
  show f a::(l.map f).eraseIdx i=f a::(l.eraseIdx i).map f;rw[nW f l i]
inductive vP (x:V) (vs:List V) (H:Hp) (Q:VK):Prop
 |mk (l:Addr) (ns:List Int) (k:Int) (_:x=.ref l) (_:vs=[.int k]) (_:H l=some (.lst (ns.map V.int))) (_:k∈ns) (_:Q .non (upd H l (.lst ((ns.erase k).map V.int)))):vP x vs H Q
theorem nG:Cw X "list.remove" vP:=by
 intro pins s σ H x vs v us Q I Y R h;obtain⟨l,ns,k,rfl,rfl,J,L,q⟩:=h;cases Y;obtain⟨u,rfl,U⟩:=R.one;obtain⟨t,rfl⟩:=U;obtain⟨z,its,n,r,N,e⟩:=I.lj J;have hi:=intsAre_of r;have O:=hi.length;have ad:=N;rw[length_map]at N z;have hs:sizeLine=16777216:=sizeLine_eq;have G:ns.idxOf k<ns.length:=List.idxOf_lt_length_iff.mpr L;refine call_meets slot_list_remove ⟨_,e,rfl⟩ PySem.F.entry_list_remove (PySem.F.args_list_remove_2 _ _)
  (MeetsSeq.list_remove l its.toArray n (.int k t) (isInt k) (λy S=>eq_isInt k t hi y (by simpa using S)) (ns.idxOf k) (by simpa[O]using G) ?_ ?_ (by rw[size_toArray];omega)) ⟨e,?_⟩
 .show isInt k its[ns.idxOf k]=true;rw[isInt_at k hi _ af G];simpa using List.getElem_idxOf G
 .intro j ab ac;show isInt k its[j]=false;rw[isInt_at k hi j (by simpa using ab) af];exact ne_of_lt_idxOf ac _
 .refine⟨.non,_,I.Bi (its':=its.eraseIdx (ns.idxOf k)) J e ?_ ?_ ?_,?_,q⟩
  .show its.toArray.eraseIdxIfInBounds _=(its.eraseIdx _).toArray;rw[List.eraseIdxIfInBounds_toArray]
  .rw[List.erase_eq_eraseIdx_of_idxOf rfl, <-nW];exact r.eraseIdx _
  .rw[length_map];have:=List.length_erase_of_mem L;omega
  .trivial
end
noncomputable def iA (K:PySem.W.Frag) (H:Hp) (a:Addr) (xs:List V):Prop:=H a=some (.tup xs)\/bV K (λ_=>none) a xs
theorem iA.sq {K:PySem.W.Frag}{H:Hp}{a:Addr}{xs:List V}(h:iA K H a xs):bV K H a xs:=by
 rcases h with h|h
 .exact bV.of h
 .rcases h with h|h
  .rcases h with h|⟨o,h⟩
   .cases h
   .cases h
  .exact .inr h
theorem iA.keep {K:PySem.W.Frag}{H H':Hp}{a:Addr}{xs:List V}(h:iA K H a xs) (s:∀o,H a=some o->H' a=some o):iA K H' a xs:=by
 rcases h with h|h
 .exact .inl (s _ h)
 .exact .inr h
theorem iA.off {K:PySem.W.Frag}{H H':Hp}{a:Addr}{xs:List V}(h:iA K H a xs) (s:H a=some (.tup xs)->H' a=some (.tup xs)):iA K H' a xs:=by
 rcases h with h|h
 .exact .inl (s h)
 .exact .inr h
theorem wu {X:Cx}:dr X (.builtin "isinstance") (λxs H Q=>(∃x n t b,xs=[x,.ty n]/\jF X.K H x t/\kitOne X.K t (.type n)=some b/\Q (.bl b) H)\/∃a ys,xs=[.ref a,.ty "tuple"]/\bV X.K H a ys/\Q (.bl true) H):=by
 intro pins s σ H xs us Q I r h;rcases h with h|⟨a,ys,rfl,F,q⟩
 .exact fE pins s σ H xs us Q I r h
 .obtain⟨u,c,rfl,J,G⟩:=vals2 r;obtain rfl:c=Value.type "tuple" := G;cases(show u=Value.ref a from J);obtain⟨its,_,⟨o,h1,h2,_⟩,_⟩:=I.tuple F;exact kia_one kitx_tuple I.jV ⟨o,h1,h2⟩ (DA _) (λz=>nomatch z) λtk=>⟨.bl true,H,I.tok _,rfl,q⟩
end L2
namespace Tb
open PySem L2
structure yp (mg:Str->Option Value):Prop where
 CN:mg "isinstance" = none
 tuple:mg "tuple" = none
 list:mg "list" = none
 dict:mg "dict" = none
 len:mg "len" = none
 sorted:mg "sorted" = none
noncomputable def xX:V->Bool
 |.int _=>true
 |.str _=>true
 |.non=>true
 |_=>false
inductive oE (vs:List V) (H:Hp) (Q:VK) (e3:XK):Prop
 |mk (v:_) (_:vs=[v]) (_:xX v=true) (_:Q v H):oE vs H Q e3
noncomputable def uN (K:PySem.W.Frag):Sp:=λvs H Q _=>(∃v,vs=[v]/\xX v=true/\Q v H)\/∃(a:Addr) (xs:List V),vs=[.ref a]/\iA K H a xs/\lL xs=true/\∀H' l,bf H H'->H l=none->H' l=some (.tup xs)->Q (.ref l) H'
theorem AE:∀{v:V},xF v=true->xX v=true
 |.int _,_=>rfl
 |.str _,_=>rfl
section
variable {P:Program}{w:World}{K:PySem.W.Frag}{mg:Str->Option Value}{base:Heap}
theorem Fu:aA ["value","copied","key"] ["value"] (ar vJ):=L2.bD
theorem xD {f:Addr}{fd:FuncData}(F:cQ K "own_copy" "own_copy" vJ f fd) (T:yp mg):bj P w K mg base aW 1 f fd ["value"] oE:=by
 refine F.ok Fu (λvs H Q E h=>?_) (λJ A outer s H vs Q E I h=>?_)
 .obtain⟨v,rfl,_⟩:=h;rfl
 .obtain⟨v,rfl,G,k⟩:=h;refine⟨_,(ag (aR (gp (aV fE (by rfl) T.CN cV (aa (pv 0) (aa (hV (v:=.ty "tuple") (by rfl) T.tuple lP rfl) ai)))) (aj dQ) aF)
   (ag (aR (gp (aV fE (by rfl) T.CN cV (aa (pv 0) (aa (hV (v:=.ty "list") (by rfl) T.list d0 rfl) ai)))) (aj dQ) aF)
   (ag (aR (gp (aV fE (by rfl) T.CN cV (aa (pv 0) (aa (hV (v:=.ty "dict") (by rfl) T.dict o8 rfl) ai)))) (ag dQ
   (ag dQ
   (aj dQ))) aF)
   (aj (aE (pv 0)))))),?_⟩
  cases v with
  |int i=>exact⟨_,rfl,.int i,"tuple",_,false,rfl,.int i,zP _,false,rfl,bu ⟨_,rfl,.int i,"list",_,false,rfl,.int i,xZ _,false,rfl,bu ⟨_,rfl,.int i,"dict",_,false,rfl,.int i,yI _,false,rfl,bu ⟨_,rfl,k⟩⟩⟩⟩
  |str i=>exact⟨_,rfl,.str i,"tuple",_,false,rfl,.str i,zD _,false,rfl,bu ⟨_,rfl,.str i,"list",_,false,rfl,.str i,y7 _,false,rfl,bu ⟨_,rfl,.str i,"dict",_,false,rfl,.str i,zH _,false,rfl,bu ⟨_,rfl,k⟩⟩⟩⟩
  |non=>exact⟨_,rfl,.non,"tuple",_,false,rfl,.non,yS _,false,rfl,bu ⟨_,rfl,.non,"list",_,false,rfl,.non,zL _,false,rfl,bu ⟨_,rfl,.non,"dict",_,false,rfl,.non,yt _,false,rfl,bu ⟨_,rfl,k⟩⟩⟩⟩
  |_=>cases G
theorem Ad {f:Addr}{fd:FuncData}(F:cQ K "own_copy" "own_copy" vJ f fd) (T:yp mg) (Y:Df P w K mg base aW 1 "own_copy" oE):bj P w K mg base aW 2 f fd ["value"] (uN K):=by
 refine F.ok Fu (λvs H Q E h=>?_) (λac A outer s H vs Q E O h=>?_)
 .rcases h with⟨v,rfl,_⟩|⟨a,xs,rfl,_⟩
  .rfl
  .rfl
 .refine⟨_,(ag (aR (gp (aV wu (by rfl) T.CN cV (aa (pv 0) (aa (hV (v:=.ty "tuple") (by rfl) T.tuple lP rfl) ai)))) (aj (aE (bK mW (by rfl) T.tuple lP (aa (gZ (cl:=[]) (caps:=[]) ⟨rfl,ao,ao,rfl,by kernel_rfl,by intro p I;simp at I,by kernel_rfl,by intro p I;simp at I,ao⟩ rfl (CW (pv 0)) (λ_ _ _ _=>gk) (λ_ _ _ _=>(pc Y O aw (aa (pv 0) ai)))) ai)))) aF)
   (ag (aR (gp (aV fE (by rfl) T.CN cV (aa (pv 0) (aa (hV (v:=.ty "list") (by rfl) T.list d0 rfl) ai)))) (aj dQ) aF)
   (ag (aR (gp (aV fE (by rfl) T.CN cV (aa (pv 0) (aa (hV (v:=.ty "dict") (by rfl) T.dict o8 rfl) ai)))) (ag dQ
   (ag dQ
   (aj dQ))) aF)
   (aj (aE (pv 0)))))),?_⟩
  rcases h with⟨v,rfl,hv,k⟩|⟨a,xs,rfl,L,N,k⟩
  .cases v with
   |int i=>exact⟨_,rfl,.inl ⟨.int i,"tuple",_,false,rfl,.int i,zP _,false,rfl,bu ⟨_,rfl,.int i,"list",_,false,rfl,.int i,xZ _,false,rfl,bu ⟨_,rfl,.int i,"dict",_,false,rfl,.int i,yI _,false,rfl,bu ⟨_,rfl,k⟩⟩⟩⟩⟩
   |str i=>exact⟨_,rfl,.inl ⟨.str i,"tuple",_,false,rfl,.str i,zD _,false,rfl,bu ⟨_,rfl,.str i,"list",_,false,rfl,.str i,y7 _,false,rfl,bu ⟨_,rfl,.str i,"dict",_,false,rfl,.str i,zH _,false,rfl,bu ⟨_,rfl,k⟩⟩⟩⟩⟩
   |non=>exact⟨_,rfl,.inl ⟨.non,"tuple",_,false,rfl,.non,yS _,false,rfl,bu ⟨_,rfl,.non,"list",_,false,rfl,.non,zL _,false,rfl,bu ⟨_,rfl,.non,"dict",_,false,rfl,.non,yt _,false,rfl,bu ⟨_,rfl,k⟩⟩⟩⟩⟩
   |_=>cases hv
  .have hs:sizeLine=16777216:=sizeLine_eq;have hx:=AV N;have hn:=Aj N;refine⟨_,rfl,.inr ⟨a,xs,rfl,L.sq,true,rfl,dU ?_⟩⟩;refine⟨_,rfl,a,rfl,⟨xs,L.sq⟩,?_⟩;refine wb (xs:=xs) (λi ys H'=>H'=H/\ys=xs.take i) ⟨rfl,rfl⟩ (λi ys H' _ p=>by rw[p.1];exact L.sq) (λi x ys H' hi p=>?_) (λys H' p l hl=>?_)
   .obtain⟨rfl,rfl⟩:=p;obtain⟨ab,U⟩:=List.getElem?_eq_some_iff.mp hi;refine⟨_,rfl,x,rfl,AE (List.all_eq_true.mp hx x (U▸getElem_mem ab)),?_,rfl,?_⟩
    .rw[length_take];omega
    .rw[List.take_succ,hi];rfl
   .obtain⟨rfl,rfl⟩:=p;rw[take_length];refine⟨l,xs,rfl,.inl ⟨bE.of ae,λJ G=>?_⟩⟩;have R:J≠l:=λz=>(by rw[z,ae]at G;cases G);have S:H' J=none:=(by rw[ah R]at G;exact G);exact k _ J ((au hl).trans (au G)) S ae
end
structure Txt (K:PySem.W.Frag) (mg:Str->Option Value) (C:Addr):Prop where
 cl:qE K C
 nF:cX K C "first_step"
 sp:∃u,mg "STEP_PAGES" = some u/\RelV (.int 8) u
noncomputable def DV (H:Hp) (v:V):Option (List V)->Prop
 |none=>v=.non
 |some xs=>∃t,v=.ref t/\H t=some (.tup xs)
inductive gM (C:Addr) (vs:List V) (H:Hp) (Q:VK) (e3:XK):Prop
 |mk (p dx:Addr) (_:vs=[.ref p]) (_:H p=some (.ins C dx [])) (_:∀(fs:Addr) (H':Hp),H fs=none->TabAt C H' p fs []->Off (· = p) H H'->Q .non H'):gM C vs H Q e3
inductive lu (C:Addr) (vs:List V) (H:Hp) (Q:VK) (e3:XK):Prop
 |mk (p fs:Addr) (tb:iW) (q:Int) (_:vs=[.ref p,.int q]) (_:TabAt C H p fs tb) (_:∀H' v,bf H H'->DV H' v (c6 tb q)->Q v H'):lu C vs H Q e3
inductive qR (K:PySem.W.Frag) (C:Addr) (vs:List V) (H:Hp) (Q:VK) (e3:XK):Prop
 |mk (p fs t:Addr) (tb:iW) (q:Int) (xs:List V) (_:vs=[.ref p,.int q,.ref t]) (_:TabAt C H p fs tb) (_:0<=q) (_:q<64) (_:iA K H t xs) (_:lL xs=true) (_:∀H' tb',TabAt C H' p fs tb'->(∀j,c6 tb' j=if j=q then some xs else c6 tb j)->Off (eD fs tb) H H'->(∀b,eD fs tb' b->eD fs tb b\/H b=none)->Q .non H'):qR K C vs H Q e3
inductive oW (C:Addr) (vs:List V) (H:Hp) (Q:VK) (e3:XK):Prop
 |mk (p fs:Addr) (tb:iW) (q:Int) (_:vs=[.ref p,.int q]) (_:TabAt C H p fs tb) (_:∀H' tb',TabAt C H' p fs tb'->(∀j,c6 tb' j=if j=q then none else c6 tb j)->(tb'.length=tb.length\/tb'.length+1=tb.length)->Off (eD fs tb) H H'->(∀b,eD fs tb' b->eD fs tb b\/H b=none)->Q .non H'):oW C vs H Q e3
noncomputable def fq (tb:iW):List Int:=tb.flatMap λx=>x.2.2.map (·.1)
inductive eJ (C:Addr) (vs:List V) (H:Hp) (Q:VK) (e3:XK):Prop
 |mk (p fs:Addr) (tb:iW) (_:vs=[.ref p]) (_:TabAt C H p fs tb) (_:∀H' l (ns:List Int),bf H H'->H l=none->H' l=some (.lst (ns.map V.int))->ns.Perm (fq tb)->ns.Pairwise (· <= ·)->Q (.ref l) H'):eJ C vs H Q e3
theorem rY {C:Addr}{H:Hp}{p fs:Addr}{tb:iW}(T:TabAt C H p fs tb) (q:Int):q∈fq tb↔c6 tb q≠none:=by
 unfold fq;rw[List.mem_flatMap];constructor
 .rintro⟨x,I,J⟩;obtain⟨y,G,rfl⟩:=List.mem_map.mp J;have S:=T.hs x I;unfold c6;rw[(S.ht y G).2.2.1,bZ T.nk I,bind_some,bZ S.ns G];simp
 .intro h;unfold c6 at h;cases e:look tb (q/8)with
  |none=>rw[e]at h;exact absurd rfl h
  |some a =>
   rw[e,bind_some]at h;cases F:look a.2 q with
   |none=>rw[F]at h;exact absurd rfl h
   |some b=>exact⟨_,ay e,List.mem_map.mpr ⟨_,ay F,rfl⟩⟩
theorem jg {C:Addr}{H:Hp}{p fs:Addr}{tb:iW}(T:TabAt C H p fs tb):(fq tb).Nodup:=by
 have hs:=T.hs;have S:=T.nk;clear T
 induction tb with
 |nil=>exact nodup_nil
 |cons x r N =>
  obtain⟨L,O⟩:=List.nodup_cons.mp (show(x.1::r.map (·.1)).Nodup from S);show(x.2.2.map (·.1)++fq r).Nodup;rw[List.nodup_append];refine⟨(hs x mem_cons_self).ns,N (λy F=>hs y (mem_cons_of_mem _ F)) O,λa ha b G e=>L ?_⟩;obtain⟨y,F,rfl⟩:=List.mem_map.mp ha;obtain⟨z,I,G⟩:=List.mem_flatMap.mp G;obtain⟨J,U,rfl⟩:=List.mem_map.mp G;have a1:=((hs x mem_cons_self).ht y F).2.2.1;have R:=((hs z (mem_cons_of_mem _ I)).ht J U).2.2.1;have Y:y.1=J.1:=e;rw[<-a1,Y,R];exact List.mem_map.mpr ⟨z,I,rfl⟩
theorem q8 {C:Addr}{H:Hp}{p fs:Addr}{tb:iW}(T:TabAt C H p fs tb) (i:Nat):(fq (tb.take i)).length<=64:=by
 have h1:(fq tb).length<=64:=zW 64 0 (fq tb) (jg T) λx F=>by
  have:=T.u3 ((rY T x).mp F);omega
 have h2:(fq (tb.take i)).length<=(fq tb).length:=by
  conv=>rhs;rw[<-take_append_drop i tb]
  unfold fq;rw[List.flatMap_append,length_append];omega
 omega
theorem rj {tb:iW}{q:Int}{d:Addr}{F:sh}(h:look tb (q/8)=some (d,F)):c6 tb q=(look F q).map (·.2):=by
 unfold c6;rw[h,bind_some]
theorem rD {tb:iW}{q:Int}(h:look tb (q/8)=none):c6 tb q=none:=by
 unfold c6;rw[h];rfl
theorem nD {tb:iW}{k q:Int}{d:Addr}{F sec':sh}{o:Option (Addr×List V)}(G:look tb k=some (d,F)) (I:q/8=k) (h:∀j,look sec' j=if j=q then o else look F j) (j:Int) :
  c6 (aS tb k (d,sec')) j=if j=q then o.map (·.2)else c6 tb j:=by
 unfold c6;rw[bR (j/8) G];by_cases c:j/8=k
 .rw[if_pos c,bind_some,h j,c,G,bind_some];by_cases e:j=q
  .rw[if_pos e,if_pos e]
  .rw[if_neg e,if_neg e]
 .rw[if_neg c,if_neg (λe=>c (by rw[e];exact I))]
theorem xq {tb:iW}{k q:Int}{d:Addr}{sec':sh}{o:Option (Addr×List V)}(F:look tb k=none) (G:q/8=k) (h:∀j,look sec' j=if j=q then o else none) (j:Int) :
  c6 (tb++[(k,(d,sec'))]) j=if j=q then o.map (·.2)else c6 tb j:=by
 unfold c6;rw[bN (j/8) F];by_cases c:j/8=k
 .rw[if_pos c,bind_some,h j,c,F];by_cases e:j=q
  .rw[if_pos e,if_pos e]
  .rw[if_neg e,if_neg e];rfl
 .rw[if_neg c,if_neg (λe=>c (by rw[e];exact G))]
theorem vY {tb:iW}{k q:Int}{d:Addr}{F:sh}(G:look tb k=some (d,F)) (I:q/8=k) (h:∀j,j≠q->look F j=none) (j:Int) :
  c6 (a9 tb k) j=if j=q then none else c6 tb j:=by
 unfold c6;rw[cw];by_cases c:j/8=k
 .rw[if_pos c,c,G];by_cases e:j=q
  .rw[if_pos e];rfl
  .rw[if_neg e,bind_some,h j e];rfl
 .rw[if_neg c,if_neg (λe=>c (by rw[e];exact I))]
theorem Aq {H:Hp}{k q:Int}{G:sh}{l:Addr}{xs:List V}(S:gw H k G) (L:H l=some (.tup xs)) (N:lL xs=true) (J:q/8=k) (I:0<=q) (h1:q<64) :
  ∃sec',putK (dk fS G) (Sum.inl q) (.ref l)=dk fS sec'/\(∀j,look sec' j=if j=q then some (l,xs)else look G j)/\gw H k sec':=by
 cases e:look G q with
 |none =>
  refine⟨G++[(q,(l,xs))],cA (f:=fS) (a:=(l,xs)) e,λj=>bN j e,λy F=>?_,?_,by simp⟩
  .rcases List.mem_append.mp F with F|F
   .exact S.ht y F
   .rw[List.mem_singleton.mp F];exact⟨L,N,J,I,h1⟩
  .rw[map_append];exact gf S.ns (cn e)
 |some b =>
  refine⟨aS G q (l,xs),gL (f:=fS) (a:=(l,xs)) e,λj=>bR j e,λy F=>?_,?_,?_⟩
  .rcases mem_set F with rfl|⟨F,_⟩
   .exact⟨L,N,J,I,h1⟩
   .exact S.ht y F
  .rw[eU];exact S.ns
  .intro z;have:=gi G q (l,xs);rw[z]at this;exact S.ne (List.length_eq_zero_iff.mp this.symm)
theorem gX {B:Addr->Prop}{H H' F:Hp}(s:bf H H') (o:Off B H' F):Off B H F:=λb u e G=>o b u (s b u e) G
theorem qk {B:Addr->Prop}{H:Hp}{a:Addr}{X:HO}(h:B a):Off B H (upd H a X):=λb u e F=>by rw[ah (λz=>F (by rw[z];exact h))];exact e
theorem Off.mono {B F:Addr->Prop}{H H':Hp}(o:Off B H H') (h:∀b,B b->F b):Off F H H':=λb u e G=>o b u e λz=>G (h b z)
theorem Du {C:Addr}{H:Hp}{p fs:Addr}{tb:iW}(T:TabAt C H p fs tb):(dk fF tb).length<sizeLine:=by
 have h:=T.len;have hs:sizeLine=16777216:=sizeLine_eq;rw[cu];omega
theorem BP {H:Hp}{k:Int}{F:sh}(S:gw H k F):(dk fS F).length<sizeLine:=by
 have h:=S.len;have hs:sizeLine=16777216:=sizeLine_eq;rw[cu];omega
theorem u5 {fs d:Addr}{tb:iW}{k:Int}{G sec':sh}(I:(k,(d,G))∈tb) {b:Addr}(h:eD fs (aS tb k (d,sec')) b):eD fs tb b:=by
 rcases h with h|⟨x,F,h⟩
 .exact .inl h
 .rcases mem_set F with rfl|⟨F,_⟩
  .exact .inr ⟨_,I,h⟩
  .exact .inr ⟨x,F,h⟩
theorem As {fs:Addr}{tb:iW}{k:Int}{b:Addr}(h:eD fs (a9 tb k) b):eD fs tb b:=by
 rcases h with h|⟨x,F,h⟩
 .exact .inl h
 .exact .inr ⟨x,(bX F).1,h⟩
theorem kg (tb:iW) (k:Int):cq (dk fF tb) (Sum.inl k)=(look tb k).map fF:=cN fF k tb
theorem tT (F:sh) (k:Int):cq (dk fS F) (Sum.inl k)=(look F k).map fS:=cN fS k F
section
variable {P:Program}{w:World}{K:PySem.W.Frag}{mg:Str->Option Value}{base:Heap}
theorem FR:aA ["self"] ["self"] (ar mD):=L2.bD
theorem ou {f C:Addr}{fd:FuncData}(F:cQ K "__init__" "Table.__init__" mD f fd) (T:Txt K mg C):bj P w K mg base aW 1 f fd ["self"] (gM C):=by
 refine F.ok FR (λvs H Q E h=>?_) (λO A outer s H vs Q E N h=>?_)
 .obtain⟨p,dx,rfl,_⟩:=h;rfl
 .obtain⟨p,dx,rfl,J,k⟩:=h;refine⟨_,(aj (eT (pv 0) cR rfl)),?_⟩;intro fs I;have np:p≠fs:=aq J I;refine⟨_,rfl,p,C,dx,[],rfl,by rw[ah np];exact J,T.cl,T.nF,av,?_⟩;refine k fs _ I ⟨⟨dx,by rw[ae];rfl⟩,by rw[ah (Ne.symm np),ae];rfl,λx G=>(not_mem_nil G).elim,λx G=>(not_mem_nil G).elim,.nil,λx G=>(not_mem_nil G).elim,λx G=>(not_mem_nil G).elim⟩ λb u e L=>?_;rw[ah L,ah (aq e I)];exact e
theorem Ho:aA ["self","page","second"] ["self","page"] (ar Cn):=L2.bD
theorem Cu {f C:Addr}{fd:FuncData}(F:cQ K "get" "Table.get" Cn f fd) (T:Txt K mg C) (U:Df P w K mg base aW 2 "own_copy" (uN K)):bj P w K mg base aW 3 f fd ["self","page"] (lu C):=by
 obtain⟨u8,R,O⟩:=T.sp;refine F.ok Ho (λvs H Q E h=>?_) (λab A outer s H vs Q E I h=>?_)
 .obtain⟨p,fs,tb,q,rfl,_⟩:=h;rfl
 .obtain⟨p,fs,tb,q,rfl,TT,k⟩:=h;obtain⟨dx,h1⟩:=TT.ob;refine⟨_,(ag (aL (i:=2) Ho.nd rfl (Or.inl rfl) (jo (bg I) (aK (pv 0) rfl) (az bF (pv 1) (cj (by rfl) R O)) cR ⟨rfl,rfl,rfl,rfl⟩))
   (aj (aE (pc U I aw (aa (zT (bg I) (pv 2) (pv 1) ⟨rfl,rfl,rfl,rfl⟩) ai))))),?_⟩
  refine⟨_,rfl,p,C,dx,_,.ref fs,rfl,h1,T.cl,T.nF,j5 fs,fs,rfl,.inl ⟨_,.inl TT.hf⟩,_,rfl,_,_,rfl,rfl,⟨av,av⟩,λe S=>?_⟩;have G:=au (X:=.dK []) S;have J:=TT.same G;refine⟨_,dh.k (k:=.inl (q/8)) J.hf,?_⟩;rw[kg];cases c:look tb (q/8)with
  |none =>
   refine⟨_,rfl,e,rfl,.inl ⟨_,.inl ae⟩,_,rfl,_,dh.k (k:=.inl q) ae,.inl ⟨.non,rfl,rfl,k _ _ G ?_⟩⟩;rw[rD c];rfl
  |some a =>
   obtain⟨d,Y⟩:=a;have N:=ay c;have hd:=J.hd _ N;refine⟨_,rfl,d,rfl,.inl ⟨_,.inl hd⟩,_,rfl,_,dh.k (k:=.inl q) hd,?_⟩;rw[tT];have le:=rj c;cases L:look Y q with
   |none =>
    refine .inl ⟨.non,rfl,rfl,k _ _ G ?_⟩;rw[le,L];rfl
   |some b =>
    obtain⟨t,xs⟩:=b;have hs:=(J.hs _ N).ht _ (ay L);refine .inr ⟨t,xs,rfl,.inl hs.1,hs.2.1,λH' l s' ac hl=>k _ _ (G.trans s') ?_⟩;rw[le,L];exact⟨l,rfl,hl⟩
theorem Fw:aA ["self","page","entry","second"] ["self","page","entry"] (ar Dq):=L2.bD
theorem Cy {f C:Addr}{fd:FuncData}(F:cQ K "lay" "Table.lay" Dq f fd) (T:Txt K mg C) (GC:Df P w K mg base aW 2 "own_copy" (uN K)):bj P w K mg base aW 3 f fd ["self","page","entry"] (qR K C):=by
 obtain⟨u8,m8,r8⟩:=T.sp;refine F.ok Fw (λvs H Q E h=>?_) (λap A outer s H vs Q E hr h=>?_)
 .obtain⟨p,fs,t,tb,q,xs,rfl,_⟩:=h;rfl
 .obtain⟨p,fs,t,tb,q,xs,rfl,TT,q0,q1,ht,G,k⟩:=h;obtain⟨dx,h1⟩:=TT.ob;refine⟨_,(ag (aL (i:=3) Fw.nd rfl (Or.inl rfl) (ze (aK (pv 0) rfl) (az bF (pv 1) (cj (by rfl) m8 r8)) cR ⟨rfl,rfl,rfl,rfl⟩))
   (aj (jD (bg hr) (pv 3) (pv 1) (pc GC hr aw (aa (pv 2) ai)) rfl))),?_⟩
  refine⟨_,rfl,p,C,dx,_,.ref fs,rfl,h1,T.cl,T.nF,j5 fs,fs,rfl,.inl ⟨_,.inl TT.hf⟩,_,rfl,_,_,rfl,rfl,⟨av,av⟩,λe O=>?_⟩;have se:=au (X:=.dK []) O;have T1:=TT.same se;refine⟨_,.inl (q/8),T1.hf,rfl,Du T1,λv I=>?_,λI=>?_⟩
  .rw[kg]at I;cases c:look tb (q/8)with
   |none=>rw[c]at I;cases I
   |some a =>
    obtain⟨d,am⟩:=a;rw[c]at I;obtain rfl:V.ref d=v:=Option.some.inj I;have R:=ay c;refine⟨_,rfl,.inr ⟨t,xs,rfl,ht.keep λo e=>se _ _ e,G,λH2 l N ac S=>?_⟩⟩;have U:=T1.same N;obtain⟨sec',e1,e2,S'⟩:=Aq (U.hs _ R) S G rfl q0 q1;have hd:=U.hd _ R;refine⟨_,rfl,_,rfl,d,_,rfl,eO.k (k:=.inl q) hd (BP (U.hs _ R)),?_⟩;rw[e1];have L:Off (· = d) H2 (upd H2 d (.dK (dk fS sec'))):=qk rfl;refine k _ _ (U.put c L ae (S'.keep λb ys J=>L _ _ J (cH J hd (by intro z;cases z)))) (λj=>nD c rfl e2 j) (gX (se.trans N) (L.mono λb z=>.inr ⟨_,R,z⟩)) λb z=>.inl (u5 R z)
  .rw[kg]at I;have c:look tb (q/8)=none:=by
    cases c:look tb (q/8)with
    |none=>rfl
    |some a=>rw[c]at I;cases I
   have ep:putK (dk fF tb) (Sum.inl (q/8)) (.ref e)=dk fF (tb++[(q/8,(e,[]))]):=cA (f:=fF) (a:=(e,[])) c;rw[ep];have ef:e≠fs:=λz=>aq TT.hf O z.symm;have hE:upd (upd H e (.dK [])) fs (.dK (dk fF (tb++[(q/8,(e,[]))]))) e=some (.dK []):=(by rw[ah ef,ae]);have o1:Off (· = fs) H (upd (upd H e (.dK [])) fs (.dK (dk fF (tb++[(q/8,(e,[]))])))):=λb u J Y=>(by rw[ah Y,ah (aq J O)];exact J);refine⟨_,rfl,.inr ⟨t,xs,rfl,ht.off λe=>o1 _ _ e (cH e TT.hf (by intro z;cases z)),G,λH2 l N ac S=>?_⟩⟩;have ab:=N _ _ hE;refine⟨_,rfl,_,rfl,e,_,rfl,eO.k (k:=.inl q) ab av,?_⟩;have e1:putK ([]:List (Key×V)) (Sum.inl q) (.ref l)=dk fS [(q,(l,xs))]:=rfl;rw[e1];have L:Off (· = e) H2 (upd H2 e (.dK (dk fS [(q,(l,xs))]))):=qk rfl;have oA:Off (· = fs) H (upd H2 e (.dK (dk fS [(q,(l,xs))]))):=λb u J Y=>L b u (N _ _ (o1 b u J Y)) (aq J O);have ad:(upd H2 e (.dK (dk fS [(q,(l,xs))]))) l=some (.tup xs):=L _ _ S (cH S ab (by intro z;cases z));refine k _ _ (TT.add (sec':=[(q,(l,xs))]) c O oA ?_ ae ⟨λy hy=>?_,?_,by simp⟩) (λj=>xq (o:=some (l,xs)) c rfl (λj=>?_) j) (oA.mono λb z=>.inl z) λb z=>?_
   rotate_left 4
   .rcases z with z|⟨x,G,z⟩
    .exact .inl (.inl z)
    .rcases List.mem_append.mp G with G|G
     .exact .inl (.inr ⟨x,G,z⟩)
     .rw[List.mem_singleton.mp G]at z;rw[z];exact .inr O
   .refine L _ _ (N _ _ ae) (Ne.symm ef) |>.trans ?_;unfold dk;rw[map_append,map_append];rfl
   .rw[List.mem_singleton.mp hy];exact⟨ad,G,rfl,q0,q1⟩
   .simp
   .rw[aN,gE];by_cases z:j=q
    .rw[if_pos z,if_pos z.symm]
    .rw[if_neg z,if_neg (Ne.symm z)]
theorem GJ:aA ["self","page","k","second"] ["self","page"] (ar uE):=L2.bD
theorem zA {f C:Addr}{fd:FuncData}(F:cQ K "clear" "Table.clear" uE f fd) (T:Txt K mg C) (TP:yp mg):bj P w K mg base aW 1 f fd ["self","page"] (oW C):=by
 obtain⟨u8,m8,r8⟩:=T.sp;have R:=T;refine F.ok GJ (λvs H Q E h=>?_) (λam A outer s H vs Q E hr h=>?_)
 .obtain⟨p,fs,tb,q,rfl,_⟩:=h;rfl
 .obtain⟨p,fs,tb,q,rfl,TT,k⟩:=h;obtain⟨dx,h1⟩:=TT.ob;replace T:=TP;refine⟨_,(ag (aL (i:=2) GJ.nd rfl (Or.inl rfl) (az bF (pv 1) (cj (by rfl) m8 r8)))
   (ag (aL (i:=3) GJ.nd rfl (Or.inl rfl) (jo (bg hr) (aK (pv 0) rfl) (pv 2) cR ⟨rfl,rfl,rfl,rfl⟩))
   (ag (aR (iK (fG (bg hr) (pv 1) (pv 3))) (aj pY) aF)
   (ag (aM (eg (pv 3) (pv 1) ⟨rfl,rfl,rfl,rfl⟩))
   (aj (aR (aC bS (aV jX (by rfl) T.len boot_len (aa (pv 3) ai)) ak (aG _)) (aj (aM (eg (aK (pv 0) rfl) (pv 2) ⟨rfl,rfl,rfl,rfl⟩))) aF)))))),?_⟩
  refine⟨_,rfl,_,_,rfl,rfl,⟨av,av⟩,?_⟩;refine⟨_,rfl,p,C,dx,_,.ref fs,rfl,h1,R.cl,R.nF,j5 fs,fs,rfl,.inl ⟨_,.inl TT.hf⟩,_,rfl,λe he=>?_⟩;have J:=au (X:=.dK []) he;have I:=TT.same J;refine⟨_,dh.k (k:=.inl (q/8)) I.hf,?_⟩;rw[kg];cases c:look tb (q/8)with
  |none =>
   refine⟨_,rfl,_,rfl,e,_,rfl,dh.k (k:=.inl q) ae,true,rfl,dU ?_⟩;refine k _ _ I (λj=>?_) (.inl rfl) (gX J λb u N _=>N) λb z=>.inl z;by_cases z:j=q
   .rw[if_pos z,z];exact rD c
   .rw[if_neg z]
  |some a =>
   obtain⟨d,G⟩:=a;have L:=ay c;have hd:=I.hd _ L;have S:=I.hs _ L;refine⟨_,rfl,_,rfl,d,_,rfl,dh.k (k:=.inl q) hd,?_⟩;rw[tT];cases c2:look G q with
   |none =>
    refine⟨true,rfl,dU ?_⟩;refine k _ _ I (λj=>?_) (.inl rfl) (gX J λb u N _=>N) λb z=>.inl z;by_cases z:j=q
    .rw[if_pos z,z,rj c,c2];rfl
    .rw[if_neg z]
   |some b =>
    refine⟨false,rfl,bu ?_⟩;refine⟨_,rfl,d,rfl,.inl ⟨_,.inl hd⟩,_,rfl,_,.inl q,fS b,hd,rfl,by rw[tT,c2];rfl,?_⟩;rw[eB];refine⟨_,rfl,d,_,rfl,ae,rfl,?_⟩;have O:Off (· = d) (upd H e (.dK [])) (upd (upd H e (.dK [])) d (.dK (dk fS (a9 G q)))):=qk rfl;by_cases z:a9 G q=[]
    .have U:decide (V.int ((dk fS (a9 G q)).length:Nat)=V.int 0)=true:=(by rw[z];rfl);rw[U];refine⟨true,rfl,dU ?_⟩;have ac:d≠fs:=TT.nf _ L;have ab:(upd (upd H e (.dK [])) d (.dK (dk fS (a9 G q)))) fs=some (.dK (dk fF tb)):=O _ _ I.hf (Ne.symm ac);have ad:(upd (upd H e (.dK [])) d (.dK (dk fS (a9 G q)))) p=some (.ins C dx (jC fs)):=O _ _ (J _ _ h1) (cH (J _ _ h1) hd (by intro z;cases z));refine⟨_,rfl,p,C,dx,_,.ref fs,rfl,ad,R.cl,R.nF,j5 fs,fs,rfl,.inl ⟨_,.inl ab⟩,_,rfl,_,.inl (q/8),fF (d,G),ab,rfl,by rw[kg,c];rfl,?_⟩;rw[eB];have o3:Off (λb=>b=d\/b=fs) (upd H e (.dK [])) (upd (upd (upd H e (.dK [])) d (.dK (dk fS (a9 G q)))) fs (.dK (dk fF (a9 tb (q/8))))):=λb u N hb=>by
      rw[ah λz=>hb (.inr z),ah λz=>hb (.inl z)];exact N
     refine k _ _ (I.del c o3 ae) (λj=>vY c rfl (λj hj=>?_) j) (.inr ?_) (gX J (o3.mono λb z=>z.elim (λz=>.inr ⟨_,L,z⟩) .inl)) λb z=>.inl (As z)
     .have:=cw G q j;rw[z,gE,if_neg hj]at this;exact this.symm
     .exact kS TT.nk c
    .have U:decide (V.int ((dk fS (a9 G q)).length:Nat)=V.int 0)=false:=decide_eq_false λy=>by
      injection y with y;rw[cu]at y;exact z (List.length_eq_zero_iff.mp af)
     rw[U];refine⟨false,rfl,bu ?_⟩;have S2:gw (upd (upd H e (.dK [])) d (.dK (dk fS (a9 G q)))) (q/8) (a9 G q):=⟨λy hy=>?_,?_,z⟩
     .refine k _ _ (I.put c O ae S2) (λj=>nD c rfl (λj=>cw G q j) j) (.inl (gi _ _ _)) (gX J (O.mono λb z=>.inr ⟨_,L,z⟩)) λb z=>.inl (u5 L z)
     .have Y:=S.ht y (bX hy).1;exact⟨O _ _ Y.1 (cH Y.1 hd (by intro z;cases z)),Y.2⟩
     .rw[jf];exact S.ns.filter _
theorem EV:aA ["self","found","k"] ["self"] (ar tO):=L2.bD
theorem yV {f C:Addr}{fd:FuncData}(F:cQ K "pages" "Table.pages" tO f fd) (L:Txt K mg C) (T:yp mg):bj P w K mg base aW 1 f fd ["self"] (eJ C):=by
 refine F.ok EV (λvs H Q E h=>?_) (λas A outer s H vs Q E hr h=>?_)
 .obtain⟨p,fs,tb,rfl,_⟩:=h;rfl
 .obtain⟨p,fs,tb,rfl,TT,k⟩:=h;obtain⟨dx,h1⟩:=TT.ob;have J:=TT.hf;have hs:sizeLine=16777216:=sizeLine_eq;refine⟨_,(ag (aL (i:=1) EV.nd rfl (Or.inl rfl) (ck ai))
   (ag (kO (cY PassesOwn.never rfl (vc (aK (pv 0) rfl)) (aZ (i:=2) EV.nd rfl (Or.inl rfl)) (aj (aM (gK plainAttrs_list slot_list_extend type_list_extend (ud rfl) (pv 1) (aa (bw (bg hr) (aK (pv 0) rfl) (pv 2) (λ_ _=>rfl)) ai))))))
   (aj (aE (aV pV (by rfl) T.sorted jR (aa (pv 1) ai)))))),?_⟩
  have U:∀o S,H fs≠some (.frz o S):=λo S z=>(by rw[J]at z;cases z);refine⟨av,λl I=>?_⟩;have sl:=au (X:=.lst []) I;have R:l≠fs:=λz=>aq J I z.symm;have ab:p≠l:=aq h1 I;have am:p≠fs:=cH h1 J (by intro z;cases z);refine⟨_,rfl,p,C,dx,_,.ref fs,rfl,sl _ _ h1,L.cl,L.nF,j5 fs,fs,_,rfl,sl _ _ J,U,λo=>?_⟩;refine zC (kvs:=dk fF tb) (λi σ H'=>H'=upd (upd H l (.lst ((fq (tb.take i)).map V.int))) fs (.frz o (.dK (dk fF tb)))/\∃v,σ=[some (.ref p),some (.ref l),v]) ⟨rfl,_,rfl⟩ (λi σ H' _ h=>by rw[h.1,ae]) (λi k v σ H' hi h=>?_) (λσ H' h=>?_)
  .obtain⟨rfl,v',rfl⟩:=h;unfold dk at hi;rw[getElem?_map]at hi;cases e:tb[i]? with
   |none=>rw[e]at hi;cases hi
   |some x =>
    rw[e]at hi;obtain⟨rfl,rfl⟩:=Prod.mk.inj (Option.some.inj hi);have N:x∈tb:=mem_of_getElem? e;have hd:=TT.hd x N;have dl:x.2.1≠l:=aq hd I;have df:x.2.1≠fs:=TT.nf x N;have ap:i<tb.length:=(List.getElem?_eq_some_iff.mp e).1;have zW:=q8 TT i;have bx:=(TT.hs x N).len;have eH:(upd (upd H l (.lst ((fq (tb.take i)).map V.int))) fs (.frz o (.dK (dk fF tb)))) l=some (.lst ((fq (tb.take i)).map V.int)):=(by rw[ah R,ae]);refine⟨_,rfl,.inl ⟨rfl,_,bE.of eH⟩,_,rfl,p,C,dx,_,.ref fs,rfl,by rw[ah am,ah ab];exact h1,L.cl,L.nF,j5 fs,_,rfl,fs,.ref x.2.1,rfl,.inl ⟨dk fF tb,.inl x.1,.inr ⟨o,ae⟩,rfl,?_⟩,l,x.2.1,_,dk fS x.2.2,rfl,rfl,eH,by rw[ah df,ah dl];exact hd,?_,?_⟩
    .rw[kg,bZ TT.nk N];rfl
    .rw[length_map,cu];omega
    .refine⟨?_,_,rfl⟩;rw[List.take_succ,e];funext b;by_cases z:b=l
     .rw[z,ae,ah R,ae];have ek:(dk fS x.2.2).map (λkv=>kV kv.1)=(x.2.2.map (·.1)).map V.int:=by
       unfold dk;rw[map_map,map_map];rfl
      rw[ek, <-map_append];unfold fq;rw[List.flatMap_append];simp
     .rw[ah z];by_cases O:b=fs
      .rw[O,ae,ae]
      .rw[ah O,ah O,ah z,ah z]
  .obtain⟨rfl,v',rfl⟩:=h;refine⟨fs,o,_,ae,U,?_⟩;rw[cu,take_length];have e0:upd (upd (upd H l (.lst ((fq tb).map V.int))) fs (.frz o (.dK (dk fF tb)))) fs (.dK (dk fF tb))=upd H l (.lst ((fq tb).map V.int)):=by
    funext b;by_cases z:b=fs
    .rw[z,ae,ah (Ne.symm R)];exact J.symm
    .rw[ah z,ah z]
   rw[e0];have zW:=q8 TT tb.length;rw[take_length]at zW;have ac:=au (X:=.lst ((fq tb).map V.int)) I;refine⟨_,rfl,l,fq tb,rfl,bE.of ae,jg TT,af,λY ns' G hp hs=>?_⟩;have ad:Y≠l:=λz=>(by rw[z,ae]at G;cases G);exact k _ Y ns' (ac.trans (au G)) (by rw[ah ad]at G;exact G) ae hp hs
end
end Tb
namespace Rm
open PySem L2
noncomputable def top (i:Nat):Stmt:=PySem.Challenge.pw_ownroom_k14_shared_and_alone.main.body.getD i (.Pass ⟨0,0,0,0⟩)
noncomputable abbrev iI:Stmt:=top 20
noncomputable abbrev j7:Stmt:=top 21
noncomputable abbrev ur:Stmt:=top 22
noncomputable abbrev oQ:Stmt:=top 23
noncomputable abbrev lR:Stmt:=top 24
noncomputable abbrev oU:Stmt:=top 25
noncomputable abbrev xO:Stmt:=top 26
theorem au {H:Hp}{l:Addr}{X:HO}(h:H l=none):bf H (upd H l X):=λb o e=>by rw[ah (aq e h)];exact e
theorem AK {H H':Hp}{l:Addr}{X:HO}(s:bf H H') (h:H l=none):bf H (upd H' l X):=λb o e=>by rw[ah (aq e h)];exact s b o e
structure yw (mg:Str->Option Value):Prop where
 u3:∃u,mg "ROOM_PAGES" = some u/\RelV (.int 64) u
 cells:∃u,mg "PAGE_CELLS" = some u/\RelV (.int 8) u
 list:mg "list" = none
 range:mg "range" = none
 len:mg "len" = none
noncomputable def cy (p m:Int):Prop:=m<1\/p<0\/64<p+m
noncomputable def aO (p m:Int):List Int:=(List.range m.toNat).map λk:Nat=>p+k
inductive er (vs:List V) (H:Hp) (Q:VK) (e3:XK):Prop
 |mk (p m:Int) (_:vs=[.int p,.int m]) (_:¬ cy p m) (_:∀(H':Hp) (l:Addr),bf H H'->H l=none->H' l=some (.lst ((aO p m).map V.int))->Q (.ref l) H'):er vs H Q e3
theorem lV (q:Int):∀F:List Int,BG (.int q) (F.map V.int)=decide (q∈F)
 | []=>rfl
 |m::F=>by
  have G:=lV q F;unfold BG at G ⊢;rw[map_cons,any_cons,G];by_cases e:q=m
  .rw[e];simp[ly]
  .have I:m≠q:=Ne.symm e;simp[ly,e,I]
inductive gh (vs:List V) (H:Hp) (Q:VK) (e3:XK):Prop
 |mk (a b:Addr) (ms ps:List Int) (_:vs=[.ref a,.ref b]) (_:H a=some (.lst (ms.map V.int))) (_:H b=some (.lst (ps.map V.int))) (_:(∀q∈ps,q∈ms)) (_:Q .non H):gh vs H Q e3
section
variable {P:Program}{w:World}{K:PySem.W.Frag}{mg:Str->Option Value}{base:Heap}
theorem Gs:aA ["page","many"] ["page","many"] (ar iI):=L2.bD
theorem pW {f:Addr}{fd:FuncData}(F:cQ K "pages_from" "pages_from" iI f fd) (T:yw mg):bj P w K mg base aW 1 f fd ["page","many"] er:=by
 obtain⟨ad,S,ab⟩:=T.u3;refine F.ok Gs (λvs H Q E h=>?_) (λac A outer s H vs Q E hr h=>?_)
 .obtain⟨p,m,rfl,_⟩:=h;rfl
 .obtain⟨p,m,rfl,G,R⟩:=h;have hs:sizeLine=16777216:=sizeLine_eq;have d1:¬ m<1:=λz=>G (.inl z);have d2:¬ p<0:=λz=>G (.inr (.inl z));have Y:¬ 64<p+m:=λz=>G (.inr (.inr z));refine⟨_,(ag (aR (PW.pt (fM (aC gu (pv 1) ak (aG _)) (fM (aC gu (pv 0) ak (aG _)) (fw (aC gU (az bq (pv 0) (pv 1)) (cj (by rfl) S ab) (aG _)))))) cU aF)
   (aj (aE (bK (mj rfl) (by rfl) T.list d0 (aa (bK xh (by rfl) T.range zg (aa (pv 0) (aa (az bq (pv 0) (pv 1)) ai))) ai))))),?_⟩
  refine bW λ_ N L=>?_;clear N;refine⟨_,rfl,_,_,rfl,rfl,_,rfl,?_⟩;refine iD (λc=>absurd (of_decide_eq_true c) d1) (λ_=>?_);refine⟨_,rfl,_,_,rfl,rfl,_,rfl,?_⟩;refine iD (λc=>absurd (of_decide_eq_true c) d2) (λ_=>?_);refine⟨_,rfl,_,rfl,_,_,rfl,rfl,_,_,rfl,rfl,_,rfl,?_⟩;refine wj (λc=>absurd (of_decide_eq_true c) Y) (λ_=>L _ ?_);refine⟨_,rfl,_,rfl,_,rfl,_,_,rfl,rfl,p,p+m,rfl,λU O=>?_⟩;have I:=au (X:=.rng p (p+m)) O;refine⟨U,p,m.toNat,rfl,by rw[ae,Int.toNat_of_nonneg af],af,af,af,λl J=>?_⟩;refine R _ l (I.trans (au J)) (I.free J) ?_;rw[ae];unfold aO;rw[map_map];rfl
theorem Ew:aA ["mapped","pages","page"] ["mapped","pages"] (ar j7):=L2.bD
theorem rF {f:Addr}{fd:FuncData}(F:cQ K "refuse_unmapped" "refuse_unmapped" j7 f fd):bj P w K mg base aW 1 f fd ["mapped","pages"] gh:=by
 refine F.ok Ew (λvs H Q E h=>?_) (λY A outer s H vs Q E U h=>?_)
 .obtain⟨a,b,N,ps,rfl,_⟩:=h;rfl
 .obtain⟨a,b,N,ps,rfl,S,G,R,J⟩:=h;refine⟨_,(aj (cY PassesOwn.never rfl (gj (pv 1)) (aZ (i:=2) Ew.nd rfl (Or.inl rfl)) (aj (aR (aC fZ (pv 2) (pv 0) (by with_unfolding_all rfl)) cU aF)))),?_⟩;refine⟨_,rfl,b,rfl,⟨_,bE.of G⟩,?_⟩;refine eV (K:=K) (a:=b) (xs:=ps.map V.int) (λi σ H2=>∃v2:Option V,σ=[some (.ref a),some (.ref b),v2]/\H2=H) ⟨_,rfl,rfl⟩ (λi σ H2 _ L=>by obtain⟨_,_,e⟩:=L;rw[e];exact bE.of G) ?_ ?_
  .rintro i x σ H2 I ⟨v2,rfl,rfl⟩;rw[getElem?_map]at I;obtain⟨q,O,rfl⟩:=Option.map_eq_some_iff.mp I;refine⟨_,rfl,_,rfl,a,_,rfl,.inl (bE.of S),rfl,iw _,_,rfl,?_⟩;rw[lV,decide_eq_true (R q (mem_of_getElem? O))];exact bu ⟨_,rfl,rfl⟩
  .rintro σ H2 ⟨v2,rfl,rfl⟩;exact J
end
theorem xb {p m:Int}(h:¬ cy p m):∀q∈aO p m,0<=q/\q<64/\q.natAbs.log2<1920:=λq F=>by
 unfold aO at F;obtain⟨k,G,rfl⟩:=List.mem_map.mp F;rw[List.mem_range]at G;have h1:¬ m<1:=λz=>h (.inl z);have h2:¬ p<0:=λz=>h (.inr (.inl z));have J:¬ 64<p+m:=λz=>h (.inr (.inr z));refine⟨af,af,?_⟩;by_cases z:(p+(k:Int)).natAbs=0
 .rw[z];decide
 .rw[Nat.log2_lt z];have L:(p+(k:Int)).natAbs<64:=af;have I:(64:Nat)<2^1920:=ao;omega
inductive pR (vs:List V) (H:Hp) (Q:VK) (e3:XK):Prop
 |mk (a:Addr) (ms:List Int) (p m:Int) (_:vs=[.ref a,.int p,.int m]) (_:H a=some (.lst (ms.map V.int))) (_:¬ cy p m) (_:(∀q∈aO p m,¬ q∈ms)) (_:∀(H':Hp) (l:Addr),bf H H'->H l=none->H' l=some (.lst ((aO p m).map V.int))->Q (.ref l) H'):pR vs H Q e3
inductive lG (vs:List V) (H:Hp) (Q:VK) (e3:XK):Prop
 |mk (a:Addr) (ms:List Int) (p m:Int) (_:vs=[.ref a,.int p,.int m]) (_:H a=some (.lst (ms.map V.int))) (_:¬ cy p m) (_:(∀q∈aO p m,q∈ms)) (_:∀(H':Hp) (l:Addr),bf H H'->H l=none->H' l=some (.lst ((aO p m).map V.int))->Q (.ref l) H'):lG vs H Q e3
noncomputable def jl (ad:Int):Int:=ad/8
noncomputable def iC (ad n:Int):Int:=(ad+n-1)/8-ad/8+1
noncomputable def dq (ad n:Int) (F:List Int):Prop:=n<0\/(0<n/\(cy (jl ad) (iC ad n)\/¬ ∀q∈aO (jl ad) (iC ad n),q∈F))
noncomputable def aI (ad n:Int):List Int:=if n=0 then[]else aO (jl ad) (iC ad n)
inductive ir (vs:List V) (H:Hp) (Q:VK) (e3:XK):Prop
 |mk (a:Addr) (ms:List Int) (ad n:Int) (_:vs=[.ref a,.int ad,.int n]) (_:H a=some (.lst (ms.map V.int))) (_:¬ dq ad n ms) (_:∀(H':Hp) (l:Addr),bf H H'->H l=none->H' l=some (.lst ((aI ad n).map V.int))->Q (.ref l) H'):ir vs H Q e3
section
variable {P:Program}{w:World}{K:PySem.W.Frag}{mg:Str->Option Value}{base:Heap}
theorem C5:aA ["mapped","page","many","pages","wanted"] ["mapped","page","many"] (ar ur):=L2.bD
theorem xT {f:Addr}{fd:FuncData}(F:cQ K "pages_to_map" "pages_to_map" ur f fd) (GP:Df P w K mg base aW 1 "pages_from" er):bj P w K mg base aW 2 f fd ["mapped","page","many"] pR:=by
 refine F.ok C5 (λvs H Q E h=>?_) (λab A outer s H vs Q E O h=>?_)
 .obtain⟨a,S,p,m,rfl,_⟩:=h;rfl
 .obtain⟨a,S,p,m,rfl,ha,N,hn,R⟩:=h;refine⟨_,(ag (aL (i:=3) C5.nd rfl (Or.inl rfl) (pc GP O aw (aa (pv 1) (aa (pv 2) ai))))
   (ag (cY PassesOwn.never rfl (gj (pv 3)) (aZ (i:=4) C5.nd rfl (Or.inl rfl)) (aj (aR (aC wd (pv 4) (pv 0) (by with_unfolding_all rfl)) cU aF)))
   (aj (aE (pv 3))))),?_⟩
  refine⟨_,rfl,_,rfl,p,m,rfl,N,λH1 l J nl G=>?_⟩;refine⟨_,rfl,l,rfl,⟨_,bE.of G⟩,?_⟩;refine eV (K:=K) (a:=l) (xs:=(aO p m).map V.int) (λi σ H2=>∃I:Option V,σ=[some (.ref a),some (.int p),some (.int m),some (.ref l),I]/\H2=H1) ⟨_,rfl,rfl⟩ (λi σ H2 _ Y=>by obtain⟨_,_,e⟩:=Y;rw[e];exact bE.of G) ?_ ?_
  .rintro i x σ H2 L ⟨I,rfl,rfl⟩;rw[getElem?_map]at L;obtain⟨q,U,rfl⟩:=Option.map_eq_some_iff.mp L;refine⟨_,rfl,_,rfl,a,_,rfl,.inl (bE.of (J _ _ ha)),rfl,iw _,_,rfl,?_⟩;rw[lV,decide_eq_false (hn q (mem_of_getElem? U))];exact bu ⟨_,rfl,rfl⟩
  .rintro σ H2 ⟨I,rfl,rfl⟩;exact⟨_,rfl,R _ l J nl G⟩
theorem DQ:aA ["mapped","page","many","pages"] ["mapped","page","many"] (ar oQ):=L2.bD
theorem wx {f:Addr}{fd:FuncData}(F:cQ K "pages_to_drop" "pages_to_drop" oQ f fd) (Y:Df P w K mg base aW 1 "pages_from" er) (N:Df P w K mg base aW 1 "refuse_unmapped" gh):bj P w K mg base aW 2 f fd ["mapped","page","many"] lG:=by
 refine F.ok DQ (λvs H Q E h=>?_) (λab A outer s H vs Q E G h=>?_)
 .obtain⟨a,I,p,m,rfl,_⟩:=h;rfl
 .obtain⟨a,I,p,m,rfl,ha,O,U,R⟩:=h;refine⟨_,(ag (aL (i:=3) DQ.nd rfl (Or.inl rfl) (pc Y G aw (aa (pv 1) (aa (pv 2) ai))))
   (ag (aM (pc N G aw (aa (pv 0) (aa (pv 3) ai))))
   (aj (aE (pv 3))))),?_⟩
  refine⟨_,rfl,_,rfl,p,m,rfl,O,λH1 l J S L=>?_⟩;exact⟨_,rfl,_,rfl,a,l,I,aO p m,rfl,J _ _ ha,L,U,⟨_,rfl,R _ l J S L⟩⟩
theorem Bd:aA ["mapped","address","many","first","last","pages"] ["mapped","address","many"] (ar lR):=L2.bD
theorem sZ {f:Addr}{fd:FuncData}(F:cQ K "pages_of_cells" "pages_of_cells" lR f fd) (T:yw mg) (GP:Df P w K mg base aW 1 "pages_from" er) (GU:Df P w K mg base aW 1 "refuse_unmapped" gh):bj P w K mg base aW 2 f fd ["mapped","address","many"] ir:=by
 obtain⟨u8,R,L⟩:=T.cells;refine F.ok Bd (λvs H Q E h=>?_) (λab A outer s H vs Q E J h=>?_)
 .obtain⟨a,I,ad,n,rfl,_⟩:=h;rfl
 .obtain⟨a,I,ad,n,rfl,ha,G,N⟩:=h;refine⟨_,(ag (aR (aC bS (pv 2) ak (aG _)) (aj (aE (ck ai))) aF)
   (ag (aR (aC gu (pv 2) ak (aG _)) cU aF)
   (ag (aL (i:=3) Bd.nd rfl (Or.inl rfl) (az bF (pv 1) (cj (by rfl) R L)))
   (ag (aL (i:=4) Bd.nd rfl (Or.inl rfl) (az bF (az oS (az bq (pv 1) (pv 2)) ak) (cj (by rfl) R L)))
   (ag (aL (i:=5) Bd.nd rfl (Or.inl rfl) (pc GP J aw (aa (pv 3) (aa (az bq (az oS (pv 4) (pv 3)) ak) ai))))
   (ag (aM (pc GU J aw (aa (pv 0) (aa (pv 5) ai))))
   (aj (aE (pv 5))))))))),?_⟩
  refine⟨_,rfl,rfl,_,rfl,?_⟩;refine iD (λc=>?_) (λc=>?_)
  .have e:n=0:=V.int.inj (of_decide_eq_true c);refine⟨av,λl U=>?_⟩;refine N _ l (au U) U ?_;rw[ae];unfold aI;rw[if_pos e];rfl
  have ne:¬ n=0:=λz=>c (decide_eq_true (by rw[z]));have nn:¬ n<0:=λz=>G (.inl z);have S:0<n:=af;have np:¬ cy (jl ad) (iC ad n):=λz=>G (.inr ⟨S,.inl z⟩);have ni:∀q∈aO (jl ad) (iC ad n),q∈I:=Classical.byContradiction λz=>G (.inr ⟨S,.inr z⟩);refine⟨_,rfl,_,_,rfl,rfl,_,rfl,?_⟩;refine iD (λc'=>absurd (of_decide_eq_true c') nn) (λ_=>?_);refine⟨_,rfl,_,_,rfl,rfl,⟨av,av⟩,_,rfl,_,rfl,_,_,rfl,rfl,_,_,rfl,rfl,_,_,rfl,rfl,⟨av,av⟩,?_⟩;refine⟨_,rfl,_,rfl,_,rfl,_,_,rfl,rfl,_,_,rfl,rfl,jl ad,iC ad n,rfl,np,λH1 l O nl Y=>?_⟩;refine⟨_,rfl,_,rfl,a,l,I,aO (jl ad) (iC ad n),rfl,O _ _ ha,Y,ni,⟨_,rfl,N _ l O nl ?_⟩⟩;unfold aI;rw[if_neg ne];exact Y
end
theorem oO {ws:List Int}{s n:Nat}:eX (ws.map V.int) (some (s:Int)) (some ((s:Int)+(n:Int)))=((ws.drop s).take n).map V.int:=by
 unfold eX;rw[length_map,HT.kK,show((s:Int)+(n:Int))=((s+n:Nat):Int)by push_cast;rfl,HT.kK, <-List.map_drop, <-map_take];congr 1;by_cases h:s<=ws.length
 .rw[min_eq_left h];by_cases h2:s+n<=ws.length
  .rw[min_eq_left h2,show s+n-s=n by omega]
  .rw[min_eq_right af,take_of_length_le (by rw[length_drop];omega),take_of_length_le (by rw[length_drop];omega)]
 .rw[min_eq_right af,min_eq_right af,List.drop_eq_nil_of_le (le_refl _),List.drop_eq_nil_of_le af];simp
theorem uP {ws:List Int}{s:Nat}:eX (ws.map V.int) none (some (s:Int))=(ws.take s).map V.int:=by
 unfold eX;rw[length_map,HT.kK,show HT.cZ ws.length 0 none=0 from rfl,List.drop_zero,Nat.sub_zero, <-map_take];congr 1;by_cases h:s<=ws.length
 .rw[min_eq_left h]
 .rw[min_eq_right af,take_of_length_le (le_refl _),take_of_length_le af]
theorem wt {ws:List Int}{s:Nat}:eX (ws.map V.int) (some (s:Int)) none=(ws.drop s).map V.int:=by
 unfold eX;rw[length_map,HT.kK,show HT.cZ ws.length ws.length none=ws.length from rfl, <-List.map_drop, <-map_take];congr 1;by_cases h:s<=ws.length
 .rw[min_eq_left h,take_of_length_le (by rw[length_drop];omega)]
 .rw[min_eq_right af,List.drop_eq_nil_of_le (le_refl _),List.drop_eq_nil_of_le af];simp
theorem eE {K:PySem.W.Frag}{H H':Hp}{a:Addr}{xs:List V}(h:bE K H a xs) (s:∀o,H a=some o->H' a=some o):bE K H' a xs:=by
 rcases h with(h|⟨o,h⟩)|h
 .exact .inl (.inl (s _ h))
 .exact .inl (.inr ⟨o,s _ h⟩)
 .exact .inr h
theorem uq {α I:Type}{F G:α->I->Prop}(h:∀x y,F x y->G x y):∀{xs:List α}{ys:List I},Paired F xs ys->Paired G xs ys
 |_,_,.nil=>.nil
 |_,_,.cons q t=>.cons (h _ _ q) (uq h t)
theorem uk {α I:Type}{F:α->I->Prop}{xs G:List α}{ys J:List I}(p:Paired F xs ys) (h:Paired F G J):Paired F (xs++G) (ys++J):=by
 induction p with
 |nil=>exact h
 |cons q _ L=>exact .cons q L
theorem sW {α G:Type}{F:α->G->Prop}{x:α}{xs:List α}{ys:List G}(p:Paired F xs ys) (h:x∈xs):∃y,F x y:=by
 induction p with
 |nil=>cases h
 |cons q _ I =>
  rcases List.mem_cons.mp h with e|h
  .exact⟨_,e▸q⟩
  .exact I h
inductive lZ (vs:List V) (H:Hp) (Q:VK) (e3:XK):Prop
 |mk (a:Addr) (ws:List Int) (ad:Int) (n:Nat) (_:vs=[.ref a,.int ad,.int n]) (_:H a=some (.lst (ws.map V.int))) (_:∀(H':Hp) (l:Addr),bf H H'->H l=none->H' l=some (.lst (((ws.drop (ad%8).toNat).take n).map V.int))->Q (.ref l) H'):lZ vs H Q e3
noncomputable def eF (ws:List Int) (s:Nat) (cs:List Int):List Int:=ws.take s++cs++ws.drop (s+cs.length)
noncomputable def gS (k:Nat) (ws:List Int):List (List Int):=(List.range k).map λi=>(ws.drop (8*i)).take 8
inductive uF (K:PySem.W.Frag) (vs:List V) (H:Hp) (Q:VK) (e3:XK):Prop
 |mk (a c:Addr) (ws cs:List Int) (ad:Int) (k:Nat) (_:vs=[.ref a,.int ad,.ref c]) (_:H a=some (.lst (ws.map V.int))) (_:bE K H c (cs.map V.int)) (_:ws.length<=600) (_:cs.length<=600) (_:k<=64) (_:(eF ws (ad%8).toNat cs).length=8*k) (_:∀(H':Hp) (l:Addr) (rs:List Addr),bf H H'->H l=none->H' l=some (.lst (rs.map V.ref))->Paired (λr (row:List Int)=>H' r=some (.lst (row.map V.int))) rs (gS k (eF ws (ad%8).toNat cs))->(∀r∈rs,H r=none)->rs.Nodup->Q (.ref l) H'):uF K vs H Q e3
theorem Gk:∀k:Nat,k<65->Builtin.Range.small 0 (8*(k:Int)) 8=true/\Builtin.Range.rangeSize 0 (8*(k:Int)) 8=(k:Int)/\Builtin.divisionGoesByPylong (8*(k:Int)-0) 8=false:=ao
section
variable {P:Program}{w:World}{K:PySem.W.Frag}{mg:Str->Option Value}{base:Heap}
theorem Ey:aA ["whole","address","many","start"] ["whole","address","many"] (ar oU):=L2.bD
theorem we {f:Addr}{fd:FuncData}(F:cQ K "run_within" "run_within" oU f fd) (T:yw mg):bj P w K mg base aW 1 f fd ["whole","address","many"] lZ:=by
 obtain⟨U,N,I⟩:=T.cells;refine F.ok Ey (λvs H Q E h=>?_) (λS A outer s H vs Q E R h=>?_)
 .obtain⟨a,ws,ad,n,rfl,_⟩:=h;rfl
 .obtain⟨a,ws,ad,n,rfl,O,k⟩:=h;refine⟨_,(ag (aL (i:=3) Ey.nd rfl (Or.inl rfl) (az bH (pv 1) (cj (by rfl) N I)))
   (aj (aE (dg gb (pv 0) (de (pv 3)) (de (az bq (pv 3) (pv 2))))))),?_⟩
  refine⟨_,rfl,_,_,rfl,rfl,(by show(0:Int)<8;decide),?_⟩;have J:=emod_nonneg ad (show(8:Int)≠0 by decide);refine⟨_,rfl,_,rfl,ad%8,rfl,_,rfl,_,rfl,_,_,rfl,rfl,ad%8+n,rfl,a,_,rfl,bE.of O,λl G=>?_⟩;have e:ad%8=((ad%8).toNat:Int):=(Int.toNat_of_nonneg J).symm;have L:eX (ws.map V.int) (some (ad%8)) (some (ad%8+n))=((ws.drop (ad%8).toNat).take n).map V.int:=by
   rw[e];exact oO
  exact k _ l (au G) G (by rw[ae,L])
theorem De:aA ["whole","address","cells","start","changed"] ["whole","address","cells"] (ar xO):=L2.bD
theorem Ar {f:Addr}{fd:FuncData}(F:cQ K "pages_with" "pages_with" xO f fd) (T:yw mg):bj P w K mg base aW 1 f fd ["whole","address","cells"] (uF K):=by
 obtain⟨u8,m8,r8⟩:=T.cells;refine F.ok De (λvs H Q E h=>?_) (λa5 A outer s H vs Q E hr h=>?_)
 .obtain⟨a,c,ws,cs,ad,j,rfl,_⟩:=h;rfl
 .obtain⟨a,c,ws,cs,ad,j,rfl,ha,hc,hw,a4,hj,a0,k⟩:=h;have hs:sizeLine=16777216:=sizeLine_eq;refine⟨_,(ag (aL (i:=3) De.nd rfl (Or.inl rfl) (az bH (pv 1) (cj (by rfl) m8 r8)))
   (ag (aL (i:=4) De.nd rfl (Or.inr rfl) (az sN (az sN (dg gb (pv 0) eY (de (pv 3))) (bK cO (by rfl) T.list d0 (aa (pv 2) ai))) (dg gb (pv 0) (de (az bq (pv 3) (aV bG (by rfl) T.len boot_len (aa (pv 2) ai)))) eY)))
   (aj (aE (gZ (cl:=[("changed",s.heap.objs.size+1)]) (caps:=[("changed",4)]) ⟨rfl,ao,ao,rfl,by kernel_rfl,by intro p G;simp only[mem_cons,not_mem_nil,or_false]at G;rcases G with rfl<;>first|rfl|exact⟨rfl,.inl rfl,.inl rfl⟩|exact⟨rfl,.inl rfl,.inr rfl⟩,by kernel_rfl,by intro p G;simp only[mem_cons,not_mem_nil,or_false]at G;rcases G with rfl<;>first|rfl|exact⟨rfl,.inl rfl,.inl rfl⟩|exact⟨rfl,.inl rfl,.inr rfl⟩,ao⟩ rfl (xc (by rfl) T.range (aa ak (aa (aV bG (by rfl) T.len boot_len (aa (pv 4) ai)) (aa (cj (by rfl) m8 r8) ai)))) (λ_ _ _ _=>gk) (λ_ _ _ _=>(dg (show Eo _ (Cz K)from gb) (pv 1) (de (pv 0)) (de (az bq (pv 0) (cj (by rfl) m8 r8)))))))))),?_⟩
  refine fX λ_ jt=>?_;refine⟨_,rfl,_,_,rfl,rfl,(by show(0:Int)<8;decide),?_⟩;have m0:=emod_nonneg ad (show(8:Int)≠0 by decide);have e:ad%8=((ad%8).toNat:Int):=(Int.toNat_of_nonneg m0).symm;refine jt _ _ ?_;show kC _ _ _ [some (V.ref a),some (.int ad),some (.ref c),some (.int (ad%8)),none] H;rw[e];generalize (ad%8).toNat=st at *;clear e m0;refine fX λ_ jt=>?_;refine⟨_,rfl,_,rfl,(st:Int),rfl,a,_,rfl,bE.of ha,λO a1=>?_⟩;rw[uP];have s1:=au (X:=.lst ((ws.take st).map V.int)) a1;have e1:(upd H O (.lst ((ws.take st).map V.int))) O=some (.lst ((ws.take st).map V.int)):=ae;refine⟨_,rfl,c,_,rfl,.inl (eE hc (s1 _)),λl2 a2=>?_⟩;have s2:=au (X:=.lst (cs.map V.int)) a2;refine⟨O,l2,_,_,rfl,rfl,s2 _ _ e1,ae,by rw[length_map,length_map,length_take];omega,λR aB=>?_⟩;rw[<-map_append];have s3:=au (X:=.lst ((ws.take st++cs).map V.int)) aB;have S3:=(s1.trans s2).trans s3;have e3:(upd (upd (upd H O (.lst ((ws.take st).map V.int))) l2 (.lst (cs.map V.int))) R (.lst ((ws.take st++cs).map V.int))) R=some (.lst ((ws.take st++cs).map V.int)):=ae;generalize upd (upd (upd H O (.lst ((ws.take st).map V.int))) l2 (.lst (cs.map V.int))) R (.lst ((ws.take st++cs).map V.int))=Y at *;refine⟨_,rfl,_,rfl,_,rfl,c,_,rfl,.inl (eE hc (S3 _)),_,_,rfl,rfl,_,rfl,a,_,rfl,bE.of (S3 _ _ ha),λS a3=>?_⟩;rw[show((st:Int)+((cs.map V.int).length:Nat))=((st+cs.length:Nat):Int)by rw[length_map];push_cast;rfl,wt];have s4:=au (X:=.lst ((ws.drop (st+cs.length)).map V.int)) a3;refine⟨R,S,_,_,rfl,rfl,s4 _ _ e3,ae,by rw[length_map,length_map,length_append,length_take,length_drop];omega,λL aT=>?_⟩;rw[<-map_append,show ws.take st++cs++ws.drop (st+cs.length)=eF ws st cs from rfl];have S5:bf H (upd (upd Y S (.lst ((ws.drop (st+cs.length)).map V.int))) L (.lst ((eF ws st cs).map V.int))):=(S3.trans s4).trans (au aT);have e5:(upd (upd Y S (.lst ((ws.drop (st+cs.length)).map V.int))) L (.lst ((eF ws st cs).map V.int))) L=some (.lst ((eF ws st cs).map V.int)):=ae;generalize upd (upd Y S (.lst ((ws.drop (st+cs.length)).map V.int))) L (.lst ((eF ws st cs).map V.int))=H5 at *;generalize eF ws st cs=sp at *;obtain⟨r1,r2,r3⟩:=Gk j af;refine jt _ _ (FT λ_ jr=>?_);refine⟨_,rfl,L,_,rfl,.inl (bE.of e5),0,8*(j:Int),8,j,by rw[length_map,a0];push_cast;rfl,r1,r2,av,r3,?_⟩;refine pS (lo:=0) (st:=8) (n:=j) (λi ys U=>∃I:List Addr,wo (ys=I.map V.ref) (I.length=i) (Paired (λr (am:List Int)=>U r=some (.lst (am.map V.int))) I (gS i sp)) (bf H5 U) ((∀r∈I,H5 r=none)) I.Nodup) ⟨[],rfl,rfl,.nil,bf.refl _,(λ_ h=>nomatch h),nodup_nil⟩ ?_ ?_
  .rintro i ys U hi ⟨I,rfl,as,G,N,hn,nd⟩;refine⟨_,rfl,_,rfl,_,rfl,_,rfl,_,_,rfl,rfl,_,rfl,L,_,rfl,bE.of (N _ _ e5),λr ab=>?_⟩;rw[show(0+(i:Int)*8)=((8*i:Nat):Int)by push_cast;omega,show(((8*i:Nat):Int)+8)=((8*i:Nat):Int)+((8:Nat):Int)from rfl,oO];have sr:=au (X:=.lst (((sp.drop (8*i)).take 8).map V.int)) ab;refine⟨by rw[length_map];omega,I++[r],by rw[map_append];rfl,by rw[length_append,as];rfl,?_,N.trans sr,λx J=>?_,?_⟩
   .unfold gS at G ⊢;rw[range_succ,map_append];exact uk (uq (λx y h=>sr _ _ h) G) (.cons ae .nil)
   .rcases List.mem_append.mp J with J|J
    .exact hn x J
    .rw[List.mem_singleton.mp J];exact N.free ab
   .refine List.nodup_append.mpr ⟨nd,List.nodup_cons.mpr ⟨by simp,nodup_nil⟩,λx J y hy=>?_⟩;rw[List.mem_singleton.mp hy];intro z;obtain⟨am,ap⟩:=sW G J;rw[z,ab]at ap;cases ap
  .rintro ys U ⟨I,rfl,as,G,N,hn,nd⟩ l6 ac;have s7:=au (X:=.lst (I.map V.ref)) ac;exact jr _ _ (k _ l6 I ((S5.trans N).trans s7) ((S5.trans N).free ac) ae (uq (λx y h=>s7 _ _ h) G) (λr h=>S5.free (hn r h)) nd)
end
end Rm
namespace Pg
noncomputable def upd {α:Type}(f:Bool->α) (b:Bool) (v:α):Bool->α:=λc=>if c=b then v else f c
noncomputable def du {α:Type}(f:Int->α) (k:Int) (v:α):Int->α:=λj=>if j=k then v else f j
theorem ae {α:Type}{f:Bool->α}{b:Bool}{v:α}:upd f b v b=v:=if_pos rfl
theorem aU {α:Type}{f:Bool->α}{b c:Bool}{v:α}(h:c≠b):upd f b v c=f c:=if_neg h
theorem bp {α:Type}{f:Int->α}{b:Int}{v:α}:du f b v b=v:=if_pos rfl
theorem aH {α:Type}{f:Int->α}{b c:Int}{v:α}(h:c≠b):du f b v c=f c:=if_neg h
structure PS where
 ow:Bool->List Int
 co:Bool->List (Option (List Int))
 pl:Int->Option (Bool×Nat)
 ls:Int
 inf:List Int
noncomputable def Vw (s:PS) (k:Int) (cs:List Int) (c:Int):Prop:=∃b n,s.pl k=some (b,n)/\(s.co b)[n]?=some (some cs)/\(s.ow b)[n]?=some c
structure Good (s:PS):Prop where
 rg:∀k p,s.pl k=some p->1<=k/\k<=s.ls
 va:∀k b n,s.pl k=some (b,n)->∃cs c,(s.co b)[n]?=some (some cs)/\(s.ow b)[n]?=some c/\1<=c/\cs.length=8
 inj:∀k j p,s.pl k=some p->s.pl j=some p->k=j
 on:∀b n c,(s.ow b)[n]?=some c->c=0\/∃k,s.pl k=some (b,n)
 ln:∀b,(s.co b).length=(s.ow b).length
 nd:s.inf.Nodup
 fi:∀k,k∈s.inf↔∃n,s.pl k=some (true,n)
noncomputable def vh (s:PS) (b:Bool) (k:Int) (cs:List Int) (c:Int):PS :=
 { ow:=upd s.ow b ((s.ow b).set ((s.ow b).idxOf 0) c),co:=upd s.co b ((s.co b).set ((s.ow b).idxOf 0) (some cs)),pl:=du s.pl k (some (b,(s.ow b).idxOf 0)),ls:=s.ls,inf:=if b=true then s.inf++[k]else s.inf }
noncomputable def mT (s:PS) (k:Int) (b:Bool) (n:Nat):PS :=
 { ow:=upd s.ow b ((s.ow b).set n 0),co:=s.co,pl:=du s.pl k none,ls:=s.ls,inf:=s.inf.erase k }
noncomputable def cz (s:PS) (b:Bool) (n:Nat) (c:Int):PS:={ s with ow:=upd s.ow b ((s.ow b).set n c) }
noncomputable def write (s:PS) (b:Bool) (n:Nat) (cs:List Int):PS:={ s with co:=upd s.co b ((s.co b).set n (some cs)) }
theorem uG {l:List Int}(h:(0:Int)∈l):l[l.idxOf 0]?=some 0:=by
 have F:l.idxOf 0<l.length:=List.idxOf_lt_length_iff.mpr h;rw[getElem?_eq_getElem F,List.getElem_idxOf F]
theorem uQ {l:List Int}(h:(0:Int)∈l):l.idxOf 0<l.length:=List.idxOf_lt_length_iff.mpr h
section
variable {s:PS}{b:Bool}{k:Int}{cs:List Int}{c:Int}{n:Nat}
theorem u0 (G:Good s) (h:(0:Int)∈s.ow b):∀j,s.pl j≠some (b,(s.ow b).idxOf 0):=by
 intro j e;obtain⟨cs,c,_,h2,F,_⟩:=G.va _ _ _ e;rw[uG h]at h2;cases h2;omega
theorem lg (G:Good s) (h0:(0:Int)∈s.ow b) (U:s.pl k=none) (h1:1<=k) (h2:k<=s.ls) (h3:1<=c) (h4:cs.length=8):Good (vh s b k cs c):=by
 have hl:=uQ h0;have Y:=u0 G h0;have ab:(s.ow b).idxOf 0<(s.co b).length:=(by rw[G.ln b];exact hl);refine⟨?_,?_,?_,?_,?_,?_,?_⟩
 .intro j p e;by_cases J:j=k
  .subst J;exact⟨h1,h2⟩
  .exact G.rg j p (by rw[<-e];exact(aH J).symm)
 .intro j I S e;by_cases J:j=k
  .subst J;have e:some (b,(s.ow b).idxOf 0)=some (I,S):=(by rw[<-e];exact bp.symm);cases e;refine⟨cs,c,?_,?_,h3,h4⟩
   .show(upd s.co b _ b)[_]?=_;rw[ae,getElem?_set_self ab]
   .show(upd s.ow b _ b)[_]?=_;rw[ae,getElem?_set_self hl]
  .have N:s.pl j=some (I,S):=(by rw[<-e];exact(aH J).symm);obtain⟨ac,c',e1,e2,e3,e4⟩:=G.va _ _ _ N;refine⟨ac,c',?_,?_,e3,e4⟩
   .show(upd s.co b _ I)[_]?=_;by_cases F:I=b
    .subst F;rw[ae,getElem?_set_ne (λq=>Y j (by rw[N,q]))];exact e1
    .rw[aU F];exact e1
   .show(upd s.ow b _ I)[_]?=_;by_cases F:I=b
    .subst F;rw[ae,getElem?_set_ne (λq=>Y j (by rw[N,q]))];exact e2
    .rw[aU F];exact e2
 .intro j R p e L;by_cases J:j=k
  .by_cases O:R=k
   .rw[J,O]
   .subst J;have e:some (b,(s.ow b).idxOf 0)=some p:=(by rw[<-e];exact bp.symm);have L:s.pl R=some p:=(by rw[<-L];exact(aH O).symm);exact absurd (L.trans e.symm) (Y R)
  .have N:s.pl j=some p:=(by rw[<-e];exact(aH J).symm);by_cases O:R=k
   .subst O;have L:some (b,(s.ow b).idxOf 0)=some p:=(by rw[<-L];exact bp.symm);exact absurd (N.trans L.symm) (Y j)
   .have L:s.pl R=some p:=(by rw[<-L];exact(aH O).symm);exact G.inj _ _ _ N L
 .intro I S c' e;have e:(upd s.ow b ((s.ow b).set ((s.ow b).idxOf 0) c) I)[S]?=some c':=e;by_cases F:I=b
  .subst F;by_cases en:(s.ow I).idxOf 0=S
   .exact .inr ⟨k,by show du s.pl k _ k=_;rw[bp,en]⟩
   .rw[ae,getElem?_set_ne en]at e;rcases G.on _ _ _ e with h|⟨j,h⟩
    .exact .inl h
    .refine .inr ⟨j,?_⟩;show du s.pl k _ j=_;rw[aH (λq=>by rw[q,U]at h;cases h)];exact h
  .rw[aU F]at e;rcases G.on _ _ _ e with h|⟨j,h⟩
   .exact .inl h
   .refine .inr ⟨j,?_⟩;show du s.pl k _ j=_;rw[aH (λq=>by rw[q,U]at h;cases h)];exact h
 .intro I;show(upd s.co b _ I).length=(upd s.ow b _ I).length;by_cases F:I=b
  .subst F;rw[ae,ae,length_set,length_set];exact G.ln _
  .rw[aU F,aU F];exact G.ln _
 .show(if b=true then s.inf++[k]else s.inf).Nodup;by_cases F:b=true
  .rw[if_pos F];refine List.nodup_append.mpr ⟨G.nd,by simp,?_⟩;intro x hx y hy e;rw[mem_singleton]at hy;subst hy;subst e;obtain⟨m,hm⟩:=(G.fi x).mp hx;rw[U]at hm;cases hm
  .rw[if_neg F];exact G.nd
 .intro j;show j∈(if b=true then s.inf++[k]else s.inf)↔∃m,du s.pl k (some (b,(s.ow b).idxOf 0)) j=some (true,m);by_cases J:j=k
  .subst J;rw[bp];by_cases F:b=true
   .subst F;rw[if_pos rfl];exact⟨λ_=>⟨_,rfl⟩,λ_=>by simp⟩
   .rw[if_neg F,G.fi];exact⟨λ⟨m,h⟩=>(by rw[U]at h;cases h),λ⟨m,h⟩=>(by cases h;exact absurd rfl F)⟩
  .rw[aH J, <-G.fi];by_cases F:b=true
   .rw[if_pos F];simp[J]
   .rw[if_neg F]
theorem lW (F:(0:Int)∈s.ow b) (G:Good s):Vw (vh s b k cs c) k cs c:=by
 refine⟨b,(s.ow b).idxOf 0,bp,?_,?_⟩
 .show(upd s.co b _ b)[_]?=_;rw[ae,getElem?_set_self (by rw[G.ln b];exact uQ F)]
 .show(upd s.ow b _ b)[_]?=_;rw[ae,getElem?_set_self (uQ F)]
theorem jJ (G:Good s) (Y:(0:Int)∈s.ow b) {j:Int}(U:j≠k) {R:List Int}{S:Int}:Vw (vh s b k cs c) j R S↔Vw s j R S:=by
 have hf:=u0 G Y;have A:∀F I,s.pl j=some (F,I)->((vh s b k cs c).co F)[I]?=(s.co F)[I]?/\((vh s b k cs c).ow F)[I]?=(s.ow F)[I]?:=by
  intro F I e;show(upd s.co b _ F)[I]?=_/\(upd s.ow b _ F)[I]?=_;by_cases L:F=b
  .subst L;have:(s.ow F).idxOf 0≠I:=λq=>hf j (by rw[e,q]);rw[ae,ae,getElem?_set_ne this,getElem?_set_ne this];exact⟨rfl,rfl⟩
  .rw[aU L,aU L];exact⟨rfl,rfl⟩
 constructor
 .rintro⟨F,I,J,N,O⟩;have J:s.pl j=some (F,I):=(by rw[<-J];exact(aH U).symm);exact⟨F,I,J,by rw[<-(A _ _ J).1];exact N,by rw[<-(A _ _ J).2];exact O⟩
 .rintro⟨F,I,J,N,O⟩;exact⟨F,I,(aH U).trans J,by rw[(A _ _ J).1];exact N,by rw[(A _ _ J).2];exact O⟩
theorem jE (G:Good s) (L:s.pl k=some (b,n)):Good (mT s k b n):=by
 obtain⟨ac,c0,g1,g2,_,_⟩:=G.va _ _ _ L;have hn:n<(s.ow b).length:=(List.getElem?_eq_some_iff.mp g2).1;have O:∀{j p},(mT s k b n).pl j=some p->j≠k/\s.pl j=some p:=by
  intro j p e;by_cases F:j=k
  .subst F;have N:(none:Option (Bool×Nat))=some p:=(by rw[<-e];exact bp.symm);cases N
  .exact⟨F,by rw[<-e];exact(aH F).symm⟩
 refine⟨?_,?_,?_,?_,?_,?_,?_⟩
 .intro j p e;exact G.rg j p (O e).2
 .intro j I R e;obtain⟨F,N⟩:=O e;obtain⟨ab,S,e1,Y,e3,e4⟩:=G.va _ _ _ N;refine⟨ab,S,e1,?_,e3,e4⟩;show(upd s.ow b _ I)[_]?=_;by_cases J:I=b
  .subst J;rw[ae,getElem?_set_ne (λq=>F (G.inj _ _ _ N (by rw[L,q])))];exact Y
  .rw[aU J];exact Y
 .intro j j' p e e';exact G.inj _ _ _ (O e).2 (O e').2
 .intro I R S e;have e:(upd s.ow b ((s.ow b).set n 0) I)[R]?=some S:=e;by_cases J:I=b
  .subst J;by_cases U:n=R
   .subst U;rw[ae,getElem?_set_self hn]at e;cases e;exact .inl rfl
   .rw[ae,getElem?_set_ne U]at e;rcases G.on _ _ _ e with h|⟨j,h⟩
    .exact .inl h
    .refine .inr ⟨j,?_⟩;show du s.pl k _ j=_;rw[aH (λq=>by rw[q,L]at h;cases h;exact U rfl)];exact h
  .rw[aU J]at e;rcases G.on _ _ _ e with h|⟨j,h⟩
   .exact .inl h
   .refine .inr ⟨j,?_⟩;show du s.pl k _ j=_;rw[aH (λq=>by rw[q,L]at h;cases h;exact J rfl)];exact h
 .intro I;show(s.co I).length=(upd s.ow b _ I).length;by_cases J:I=b
  .subst J;rw[ae,length_set];exact G.ln _
  .rw[aU J];exact G.ln _
 .exact G.nd.erase k
 .intro j;show j∈s.inf.erase k↔∃m,du s.pl k none j=some (true,m);rw[List.Nodup.mem_erase_iff G.nd,G.fi];by_cases F:j=k
  .subst F;rw[bp];exact⟨λh=>absurd rfl h.1,λ⟨m,h⟩=>by cases h⟩
  .rw[aH F];exact⟨λh=>h.2,λh=>⟨F,h⟩⟩
theorem hJ (G:Good s) (Y:s.pl k=some (b,n)) {j:Int}(O:j≠k) {S:List Int}{U:Int}:Vw (mT s k b n) j S U↔Vw s j S U:=by
 have A:∀F I,s.pl j=some (F,I)->((mT s k b n).ow F)[I]?=(s.ow F)[I]?:=by
  intro F I e;show(upd s.ow b _ F)[I]?=_;by_cases R:F=b
  .subst R;rw[ae,getElem?_set_ne (λq=>O (G.inj _ _ _ e (by rw[Y,q])))]
  .rw[aU R]
 constructor
 .rintro⟨F,I,J,L,N⟩;have J:s.pl j=some (F,I):=(by rw[<-J];exact(aH O).symm);exact⟨F,I,J,L,by rw[<-A _ _ J];exact N⟩
 .rintro⟨F,I,J,L,N⟩;exact⟨F,I,(aH O).trans J,L,by rw[A _ _ J];exact N⟩
theorem qH (G:Good s) (J:s.pl k=some (b,n)):(0:Int)∈(mT s k b n).ow b:=by
 obtain⟨L,N,O,F,_,_⟩:=G.va _ _ _ J;have I:n<(s.ow b).length:=(List.getElem?_eq_some_iff.mp F).1;show(0:Int)∈upd s.ow b _ b;rw[ae];exact mem_of_getElem? (getElem?_set_self I)
theorem jy (G:Good s) (S:s.pl k=some (b,n)) (hc:1<=c):Good (cz s b n c):=by
 obtain⟨ac,c0,g1,Y,_,g4⟩:=G.va _ _ _ S;have hn:n<(s.ow b).length:=(List.getElem?_eq_some_iff.mp Y).1;refine⟨G.rg,?_,G.inj,?_,?_,G.nd,G.fi⟩
 .intro j F J e;obtain⟨ab,O,e1,R,U,e4⟩:=G.va j F J e;have A:∃N,(upd s.ow b ((s.ow b).set n c) F)[J]?=some N/\1<=N:=by
   by_cases I:F=b
   .subst I;rw[ae];by_cases L:n=J
    .subst L;exact⟨c,getElem?_set_self hn,hc⟩
    .rw[getElem?_set_ne L];exact⟨O,R,U⟩
   .rw[aU I];exact⟨O,R,U⟩
  obtain⟨N,a1,a2⟩:=A;exact⟨ab,N,e1,a1,a2,e4⟩
 .intro F J O e;have e:(upd s.ow b ((s.ow b).set n c) F)[J]?=some O:=e;by_cases I:F=b
  .subst I;rw[ae]at e;by_cases L:n=J
   .subst L;exact .inr ⟨k,S⟩
   .rw[getElem?_set_ne L]at e;exact G.on _ _ _ e
  .rw[aU I]at e;exact G.on _ _ _ e
 .intro F;show(s.co F).length=(upd s.ow b _ F).length;by_cases I:F=b
  .subst I;rw[ae,length_set];exact G.ln _
  .rw[aU I];exact G.ln _
theorem iM (G:Good s) (I:s.pl k=some (b,n)) {L:Int}(h:Vw s k cs L):Vw (cz s b n c) k cs c:=by
 obtain⟨O,R,F,J,N⟩:=h;rw[I]at F;cases F;refine⟨b,n,I,J,?_⟩;show(upd s.ow b _ b)[_]?=_;rw[ae,getElem?_set_self (List.getElem?_eq_some_iff.mp N).1]
theorem dt (G:Good s) (Y:s.pl k=some (b,n)) {j:Int}(U:j≠k) {R:List Int}{S:Int}:Vw (cz s b n c) j R S↔Vw s j R S:=by
 have A:∀F I,s.pl j=some (F,I)->((cz s b n c).ow F)[I]?=(s.ow F)[I]?:=by
  intro F I e;show(upd s.ow b _ F)[I]?=_;by_cases O:F=b
  .subst O;rw[ae,getElem?_set_ne (λq=>U (G.inj _ _ _ e (by rw[Y,q])))]
  .rw[aU O]
 constructor
 .rintro⟨F,I,J,L,N⟩;exact⟨F,I,J,L,by rw[<-A _ _ J];exact N⟩
 .rintro⟨F,I,J,L,N⟩;exact⟨F,I,J,L,by rw[A _ _ J];exact N⟩
theorem tW (G:Good s) (hk:s.pl k=some (b,n)) (hc:cs.length=8):Good (write s b n cs):=by
 obtain⟨ab,c0,g1,g2,_,g4⟩:=G.va _ _ _ hk;have hn:n<(s.co b).length:=(List.getElem?_eq_some_iff.mp g1).1;refine⟨G.rg,?_,G.inj,G.on,?_,G.nd,G.fi⟩
 .intro j F L e;obtain⟨O,c',N,U,e3,S⟩:=G.va j F L e;have A:∃J,(upd s.co b ((s.co b).set n (some cs)) F)[L]?=some (some J)/\J.length=8:=by
   by_cases I:F=b
   .subst I;rw[ae];by_cases R:n=L
    .subst R;exact⟨cs,getElem?_set_self hn,hc⟩
    .rw[getElem?_set_ne R];exact⟨O,N,S⟩
   .rw[aU I];exact⟨O,N,S⟩
  obtain⟨J,a1,Y⟩:=A;exact⟨J,c',a1,U,e3,Y⟩
 .intro F;show(upd s.co b _ F).length=(s.ow F).length;by_cases I:F=b
  .subst I;rw[ae,length_set];exact G.ln _
  .rw[aU I];exact G.ln _
theorem zE (G:Good s) (F:s.pl k=some (b,n)) {N:List Int}(h:Vw s k N c):Vw (write s b n cs) k cs c:=by
 obtain⟨O,R,I,J,L⟩:=h;rw[F]at I;cases I;refine⟨b,n,F,?_,L⟩;show(upd s.co b _ b)[_]?=_;rw[ae,getElem?_set_self (List.getElem?_eq_some_iff.mp J).1]
theorem gP (G:Good s) (Y:s.pl k=some (b,n)) {j:Int}(U:j≠k) {R:List Int}{S:Int}:Vw (write s b n cs) j R S↔Vw s j R S:=by
 have A:∀F I,s.pl j=some (F,I)->((write s b n cs).co F)[I]?=(s.co F)[I]?:=by
  intro F I e;show(upd s.co b _ F)[I]?=_;by_cases O:F=b
  .subst O;rw[ae,getElem?_set_ne (λq=>U (G.inj _ _ _ e (by rw[Y,q])))]
  .rw[aU O]
 constructor
 .rintro⟨F,I,J,L,N⟩;exact⟨F,I,J,by rw[<-A _ _ J];exact L,N⟩
 .rintro⟨F,I,J,L,N⟩;exact⟨F,I,J,by rw[A _ _ J];exact L,N⟩
end
end Pg
namespace Pg
theorem sum_set {l:List Int}{n:Nat}{x y:Int}(h:l[n]?=some x):(l.set n y).sum=l.sum-x+y:=by
 induction l generalizing n with
 |nil=>cases h
 |cons a l F =>
  cases n with
  |zero =>
   cases h;show(y::l).sum=_;simp only[sum_cons];lia
  |succ n =>
   have h:l[n]?=some x:=h;show(a::l.set n y).sum=_;simp only[sum_cons,F h];lia
noncomputable def all (s:PS):Int:=(s.ow true).sum+(s.ow false).sum
theorem pL {ow:Bool->List Int}{b:Bool}{n:Nat}{x y:Int}(h:(ow b)[n]?=some x) :
  (upd ow b ((ow b).set n y) true).sum+(upd ow b ((ow b).set n y) false).sum=(ow true).sum+(ow false).sum-x+y:=by
 cases b
 .rw[aU av,ae,sum_set h];lia
 .rw[ae,aU av,sum_set h];lia
section
variable {s s':PS}{b:Bool}{k:Int}{cs:List Int}{c:Int}{n:Nat}
theorem qp (F:(0:Int)∈s.ow b):all (vh s b k cs c)=all s+c:=by
 have:=pL (ow:=s.ow) (y:=c) (uG F);unfold all vh;dsimp only;lia
theorem oK {F:Int}(h:(s.ow b)[n]?=some F):all (mT s k b n)=all s-F:=by
 have:=pL (ow:=s.ow) (y:=0) h;unfold all mT;dsimp only;lia
theorem ku {F:Int}(h:(s.ow b)[n]?=some F):all (cz s b n c)=all s-F+c:=by
 have:=pL (ow:=s.ow) (y:=c) h;unfold all cz;dsimp only;omega +splitNatSub
theorem dv {f:Bool->List Int}{n:Nat}{x:Int}(F:Bool):(upd f b ((f b).set n x) F).length=(f F).length:=by
 by_cases e:F=b
 .subst e;rw[ae,length_set]
 .rw[aU e]
structure Kept (s s':PS) (k:Int):Prop where
 ot:∀j cs' c',j≠k->(Vw s' j cs' c'↔Vw s j cs' c')
 ln:∀b,(s'.ow b).length=(s.ow b).length
 fr:(0:Int)∈s'.ow true->(0:Int)∈s.ow true/\∀j m,j≠k->s.pl j=some (true,m)->s'.pl j=some (true,m)
theorem zy {l:List Int}{n:Nat}{x:Int}(F:x≠0) (h:(0:Int)∈l.set n x):(0:Int)∈l:=by
 rcases List.mem_or_eq_of_mem_set h with h|h
 .exact h
 .exact absurd h.symm F
theorem wD (G:Good s) (I:(0:Int)∈s.ow true) (J:1<=c):Kept s (vh s true k cs c) k :=
 ⟨λj L N F=>jJ G I F,λb=>dv b,λh=>⟨I,λj m F e=>(aH F).trans e⟩⟩
noncomputable def out (s:PS) (F:Int) (I:Nat) (J:List Int) (G:Int):PS:=vh (mT s F true I) false F J G
theorem qW (G:Good s) {F:Int}{I:Nat}{L:List Int}{J:Int}(N:s.pl F=some (true,I)) (hv:Vw s F L J) (hf:(0:Int)∈s.ow false) :
  Good (out s F I L J)/\Vw (out s F I L J) F L J/\(∀j S U,j≠F->(Vw (out s F I L J) j S U↔Vw s j S U))/\(0:Int)∈(out s F I L J).ow true/\all (out s F I L J)=all s /\
  (∀b,((out s F I L J).ow b).length=(s.ow b).length)/\(∀j,j≠F->(out s F I L J).pl j=s.pl j):=by
 obtain⟨b',n',e1,e2,e3⟩:=hv;rw[N]at e1;cases e1;obtain⟨ab,c9,a1,a2,a3,a4⟩:=G.va _ _ _ N;rw[e2]at a1;cases a1;rw[e3]at a2;cases a2;have Y:=jE G N;have R:(0:Int)∈(mT s F true I).ow false:=by
  exact(aU (f:=s.ow) (v:=(s.ow true).set I 0) (show false≠true by decide)).symm▸hf
 have hn:(mT s F true I).pl F=none:=bp;have hr:=G.rg _ _ N;refine⟨lg Y R hn hr.1 hr.2 a3 a4,lW R Y,?_,?_,?_,?_,?_⟩
 .intro j S U O;exact(jJ Y R O).trans (hJ G N O)
 .exact(aU (f:=(mT s F true I).ow) (b:=false) (v:=((mT s F true I).ow false).set (((mT s F true I).ow false).idxOf 0) J) (show true≠false by decide)).symm▸qH G N
 .show all (vh _ _ _ _ _)=_;rw[qp R,oK e3];lia
 .intro b;exact(dv (f:=(mT s F true I).ow) b).trans (dv b)
 .intro j O;exact(aH O).trans (aH O)
inductive BI (s:PS) (k:Int) (cs:List Int) (c:Int):PS->Prop
 |free:(0:Int)∈s.ow true->BI s k cs c (vh s true k cs c)
 |full {k0:Int}{r:List Int}{n0:Nat}{cs0:List Int}{c0:Int}:¬ (0:Int)∈s.ow true->(0:Int)∈s.ow false->s.inf=k0::r->s.pl k0=some (true,n0)->Vw s k0 cs0 c0->BI s k cs c (vh (out s k0 n0 cs0 c0) true k cs c)
structure Ht (s:PS) (k:Int) (cs:List Int) (c:Int) (s':PS):Prop where
 good:Good s'
 vw:Vw s' k cs c
 fr:∃m,s'.pl k=some (true,m)
 kept:Kept s s' k
 ls:s'.ls=s.ls
 al:all s'=all s+c
theorem BH (G:Good s) (Y:s.pl k=none) (h1:1<=k) (h2:k<=s.ls) (h3:1<=c) (h4:cs.length=8) (h:BI s k cs c s'):Ht s k cs c s':=by
 cases h with
 |free U=>exact⟨lg G U Y h1 h2 h3 h4,lW U G,⟨_,bp⟩,wD G U h3,rfl,qp U⟩
 | @full I r F L J nf hf hi hp hv =>
  obtain⟨g1,g2,g3,N,g5,g6,g7⟩:=qW G hp hv hf;have ab:k≠I:=λe=>(by rw[e,hp]at Y;cases Y);have am:(out s I F L J).pl k=none:=(by rw[g7 k ab];exact Y);refine⟨lg g1 N am h1 h2 h3 h4,lW N g1,⟨_,bp⟩,⟨?_,?_,?_⟩,rfl,?_⟩
  .intro j ad c' hj;rw[jJ g1 N hj];by_cases e:j=I
   .subst e;constructor
    .intro hw;obtain⟨x1,x2,y1,y2,y3⟩:=hw;obtain⟨z1,z2,O,S,R⟩:=g2;rw[y1]at O;cases O;rw[y2]at S;cases S;rw[y3]at R;cases R;exact hv
    .intro hw;obtain⟨x1,x2,y1,y2,y3⟩:=hw;obtain⟨z1,z2,O,S,R⟩:=hv;rw[y1]at O;cases O;rw[y2]at S;cases S;rw[y3]at R;cases R;exact g2
   .exact g3 j ad c' e
  .intro b;exact(dv (f:=(out s I F L J).ow) b).trans (g6 b)
  .intro h;exfalso;apply nf;have h:(0:Int)∈upd (out s I F L J).ow true (((out s I F L J).ow true).set (((out s I F L J).ow true).idxOf 0) c) true:=h;rw[ae]at h;have e1:(out s I F L J).ow true=(s.ow true).set F 0:=by
    exact(aU (f:=(mT s I true F).ow) (b:=false) (v:=((mT s I true F).ow false).set (((mT s I true F).ow false).idxOf 0) J) (show true≠false by decide)).trans (show upd s.ow true ((s.ow true).set F 0) true=_ from ae)
   rw[e1]at h;obtain⟨i,ac,e⟩:=getElem_of_mem h;have hl:i<(s.ow true).length:=(by simpa using ac);have hz:(0:Int)∈(s.ow true).set F 0:=e1▸N;have e0:((s.ow true).set F 0).idxOf 0=F:=by
    have q:=uG hz;by_cases en:F=((s.ow true).set F 0).idxOf 0
    .exact en.symm
    .rw[getElem?_set_ne en]at q;exact absurd (mem_of_getElem? q) nf
   rw[List.getElem_set]at e;split at e
   .lia
   .rename_i ne;rw[List.getElem_set]at e;split at e
    .rename_i e2;exact absurd (e0.trans e2) ne
    .exact e▸getElem_mem hl
  .rw[qp N,g5]
theorem DN (G:Good s) (hf:(0:Int)∈s.ow true\/(0:Int)∈s.ow false) (Y:s.ow true≠[]):((0:Int)∈s.ow true)\/(¬ (0:Int)∈s.ow true/\(0:Int)∈s.ow false/\∃F r I J N,s.inf=F::r/\s.pl F=some (true,I)/\Vw s F J N):=by
 by_cases h:(0:Int)∈s.ow true
 .exact .inl h
 .refine .inr ⟨h,hf.resolve_left h,?_⟩;have O:0<(s.ow true).length:=List.length_pos_iff.mpr Y;have S:(s.ow true)[0]?=some (s.ow true)[0]:=getElem?_eq_getElem O;rcases G.on _ _ _ S with e|⟨j,e⟩
  .exact absurd (e▸getElem_mem O) h
  .have R:j∈s.inf:=(G.fi j).mpr ⟨_,e⟩;cases hi:s.inf with
   |nil=>rw[hi]at R;cases R
   |cons F r =>
    obtain⟨I,L⟩:=(G.fi F).mp (by rw[hi];exact mem_cons_self);obtain⟨J,N,a1,U,_,_⟩:=G.va _ _ _ L;exact⟨F,r,I,J,N,rfl,L,true,I,L,a1,U⟩
end
end Pg
namespace Pg
section
variable {s s':PS}{b:Bool}{k:Int}{cs:List Int}{c:Int}{n:Nat}
theorem Vw.one {F:List Int}{G:Int}(h:Vw s k cs c) (h':Vw s k F G):F=cs/\G=c:=by
 obtain⟨U,Y,N,O,R⟩:=h;obtain⟨z1,S,I,L,J⟩:=h';rw[N]at I;cases I;rw[O]at L;cases L;rw[R]at J;cases J;exact⟨rfl,rfl⟩
theorem Good.vw (G:Good s) (h:Vw s k cs c):1<=c/\cs.length=8:=by
 obtain⟨U,Y,J,N,O⟩:=h;obtain⟨S,c',I,F,L,R⟩:=G.va _ _ _ J;rw[N]at I;cases I;rw[O]at F;cases F;exact⟨L,R⟩
noncomputable def used (s:PS) (k:Int):PS:={ s with inf:=s.inf.erase k++[k] }
theorem xj (G:Good s) (J:s.pl k=some (true,n)):Good (used s k):=by
 refine⟨G.rg,G.va,G.inj,G.on,G.ln,?_,?_⟩
 .refine List.nodup_append.mpr ⟨G.nd.erase k,by simp,?_⟩;intro x I y F e;rw[mem_singleton]at F;subst F;subst e;exact((List.Nodup.mem_erase_iff G.nd).mp I).1 rfl
 .intro j;show j∈s.inf.erase k++[k]↔_;rw[List.mem_append,mem_singleton,List.Nodup.mem_erase_iff G.nd,G.fi];constructor
  .rintro(h|h)
   .exact h.2
   .subst h;exact⟨n,J⟩
  .intro h;by_cases e:j=k
   .exact .inr e
   .exact .inl ⟨e,h⟩
inductive FE (s:PS) (k:Int):PS->Prop
 |here {n:Nat}:s.pl k=some (true,n)->FE s k (used s k)
 |away {n:Nat}{cs:List Int}{c:Int}{s':PS}:s.pl k=some (false,n)->Vw s k cs c->BI (mT s k false n) k cs c s'->FE s k s'
structure HR (s:PS) (k:Int) (s':PS):Prop where
 good:Good s'
 vw:∀j cs c,Vw s' j cs c↔Vw s j cs c
 fr:∃m,s'.pl k=some (true,m)
 kept:Kept s s' k
 ls:s'.ls=s.ls
 al:all s'=all s
theorem nN (G:Good s) (h:FE s k s'):HR s k s':=by
 cases h with
 |here F=>exact⟨xj G F,λ_ _ _=>Iff.rfl,⟨_,F⟩,⟨λ_ _ _ _=>Iff.rfl,λ_=>rfl,λh=>⟨h,λ_ _ _ e=>e⟩⟩,rfl,rfl⟩
 | @away n cs c _ F I hb =>
  have GR:=jE G F;have R:=G.rg _ _ F;have S:=G.vw I;have B:=BH GR (show du s.pl k none k=none from bp) R.1 R.2 S.1 S.2 hb;have e3:(s.ow false)[n]?=some c:=by
   obtain⟨x1,x2,U,y2,Y⟩:=I;rw[F]at U;cases U;exact Y
  refine⟨B.good,?_,B.fr,⟨?_,?_,?_⟩,B.ls,?_⟩
  .intro j J L;by_cases e:j=k
   .subst e;constructor
    .intro h;obtain⟨N,O⟩:=B.vw.one h;subst N;subst O;exact I
    .intro h;obtain⟨N,O⟩:=I.one h;subst N;subst O;exact B.vw
   .exact(B.kept.ot j J L e).trans (hJ G F e)
  .intro j J L e;exact(B.kept.ot j J L e).trans (hJ G F e)
  .intro b;exact(B.kept.ln b).trans (dv b)
  .intro h;obtain⟨a1,a2⟩:=B.kept.fr h;have e0:(mT s k false n).ow true=s.ow true:=aU (f:=s.ow) (v:=(s.ow false).set n 0) (show true≠false by decide);exact⟨e0▸a1,λj m e hj=>a2 j m e ((aH e).trans hj)⟩
  .rw[B.al,oK e3];omega
noncomputable def next (s:PS):PS:={ s with ls:=s.ls+1 }
theorem nV (G:Good s):Good (next s):=⟨λk p h=>by have:=G.rg k p h;exact⟨this.1,by show k<=s.ls+1;omega⟩,G.va,G.inj,G.on,G.ln,G.nd,G.fi⟩
theorem eR (G:Good s):s.pl (s.ls+1)=none:=by
 cases h:s.pl (s.ls+1)with
 |none=>rfl
 |some p=>have:=G.rg _ _ h;omega
theorem jO (G:Good s) (I:0<=s.ls) (F:cs.length=8) (h:BI (next s) (s.ls+1) cs 1 s'):Ht (next s) (s.ls+1) cs 1 s' :=
 BH (nV G) (eR G) af (Int.le_refl _) (Int.le_refl _) F h
inductive Bw (s:PS) (k:Int):PS->Prop
 |more {b:Bool}{n:Nat}{cs:List Int}{c:Int}:s.pl k=some (b,n)->Vw s k cs c->1<c->Bw s k (cz s b n (c-1))
 |last {b:Bool}{n:Nat}{cs:List Int}:s.pl k=some (b,n)->Vw s k cs 1->Bw s k (mT s k b n)
theorem qN (J:s.pl k=some (b,n)) (I:Vw s k cs c):(s.ow b)[n]?=some c:=by
 obtain⟨O,L,F,N,G⟩:=I;rw[J]at F;cases F;exact G
structure HI (s:PS) (k:Int) (c:Int) (s':PS):Prop where
 good:Good s'
 ot:∀j cs' c',j≠k->(Vw s' j cs' c'↔Vw s j cs' c')
 me:∀cs' c',Vw s' k cs' c'↔(1<c/\c'=c-1/\Vw s k cs' c)
 pl:∀j,j≠k->s'.pl j=s.pl j
 ln:∀b,(s'.ow b).length=(s.ow b).length
 ls:s'.ls=s.ls
 al:all s'=all s-1
 kept:1<c->Kept s s' k
theorem vt (G:Good s) (J:Vw s k cs c) (h:Bw s k s'):HI s k c s':=by
 cases h with
 | @more b n ab Y F S hc =>
  obtain⟨L,N⟩:=J.one S;subst L;subst N;have U:=qN F J;refine⟨jy G F af,λj O R I=>dt G F I,?_,λ_ _=>rfl,λb=>dv b,rfl,?_,?_⟩
  .intro O R;have W:=iM (c:=Y-1) G F J;constructor
   .intro h;obtain⟨L,N⟩:=W.one h;subst L;subst N;exact⟨hc,rfl,J⟩
   .rintro⟨_,q,h⟩;obtain⟨L,N⟩:=J.one h;subst L;subst q;exact W
  .rw[ku U];omega
  .intro _;refine⟨λj O R I=>dt G F I,λb=>dv b,λh=>⟨?_,λ_ _ _ e=>e⟩⟩;have h:(0:Int)∈upd s.ow b ((s.ow b).set n (Y-1)) true:=h;by_cases e:true=b
   .subst e;rw[ae]at h;exact zy af h
   .rw[aU e]at h;exact h
 | @last b n ab F S =>
  obtain⟨L,N⟩:=J.one S;subst L;subst N;have U:=qN F J;refine⟨jE G F,λj O R I=>hJ G F I,?_,λ_ I=>aH I,λb=>dv b,rfl,?_,λh=>absurd h av⟩
  .intro O R;constructor
   .rintro⟨x1,x2,y1,_,_⟩;have y9:(none:Option (Bool×Nat))=some (x1,x2):=(by rw[<-y1];exact bp.symm);cases y9
   .rintro⟨q,_,_⟩;exact absurd q av
  .rw[oK U]
theorem zv (G:Good s) (F:s.pl k=some (b,n)) (I:Vw s k cs c):Good (cz s b n (c+1))/\Vw (cz s b n (c+1)) k cs (c+1)/\all (cz s b n (c+1))=all s+1:=by
 have:=G.vw I;refine⟨jy G F af,iM G F I,?_⟩;rw[ku (qN F I)];omega
end
end Pg
namespace Pg
noncomputable abbrev Ent:=Option Int
noncomputable def full (es:List Ent):Int:=(es.countP (·.isSome):Nat)
structure RI (s:PS) (es:List Ent):Prop where
 good:Good s
 l0:0<=s.ls
 ne:s.ow true≠[]
 is:∀k,some k∈es->∃cs c,Vw s k cs c
 ct:∀k cs c,Vw s k cs c->c=(es.count (some k):Nat)
 al:all s=full es
 rm:es.length<=(s.ow true).length+(s.ow false).length
section
variable {s s':PS}{es r:List Ent}{k:Int}{cs:List Int}{c:Int}
theorem RI.perm {F:List Ent}(R:RI s es) (p:es.Perm F):RI s F :=
 ⟨R.good,R.l0,R.ne,λk h=>R.is k (p.mem_iff.mpr h),λk cs c h=>by rw[<-p.count_eq];exact R.ct k cs c h,by rw[R.al];unfold full;rw[p.countP_eq],by rw[<-p.length_eq];exact R.rm⟩
theorem ig:full (none::es)=full es:=by unfold full;rw[List.countP_cons_of_neg (by simp)]
theorem fV:full (some k::es)=full es+1:=by unfold full;rw[List.countP_cons_of_pos (by simp)];simp
theorem vb:full es<=es.length:=by unfold full;exact_mod_cast List.countP_le_length
theorem iL {j:Int}:(none::es).count (some j)=es.count (some j):=List.count_cons_of_ne (by simp)
theorem dy:(some k::es).count (some k)=es.count (some k)+1:=count_cons_self
theorem eu {j:Int}(h:j≠k):(some k::es).count (some j)=es.count (some j):=List.count_cons_of_ne (by simpa using Ne.symm h)
theorem RI.lay (R:RI s es) (h:es.length<(s.ow true).length+(s.ow false).length):RI s (none::es):=
 ⟨R.good,R.l0,R.ne,λk h=>R.is k (by simpa using h),λk cs c h=>by rw[iL];exact R.ct k cs c h,by rw[ig];exact R.al,h⟩
theorem RI.bare (R:RI s (none::es)):RI s es :=
 ⟨R.good,R.l0,R.ne,λk h=>R.is k (by simpa using h),λk cs c h=>by rw[<-iL];exact R.ct k cs c h,by rw[<-ig];exact R.al,Nat.le_of_succ_le R.rm⟩
theorem RI.leave (R:RI s (some k::es)) (J:Vw s k cs c) (h:Bw s k s'):RI s' es:=by
 have L:=vt R.good J h;have O:=R.ct _ _ _ J;rw[dy]at O;refine⟨L.good,by rw[L.ls];exact R.l0,?_,?_,?_,?_,?_⟩
 .intro e;have:=L.ln true;rw[e]at this;exact R.ne (List.length_eq_zero_iff.mp this.symm)
 .intro j I;by_cases e:j=k
  .subst e;have:0<es.count (some j):=List.count_pos_iff.mpr I;exact⟨cs,c-1,(L.me cs (c-1)).mpr ⟨af,rfl,J⟩⟩
  .obtain⟨F,G,q⟩:=R.is j (mem_cons_of_mem _ I);exact⟨F,G,(L.ot j F G e).mpr q⟩
 .intro j F G I;by_cases e:j=k
  .subst e;obtain⟨S,U,Y⟩:=(L.me F G).mp I;omega
  .rw[<-eu e];exact R.ct j F G ((L.ot j F G e).mp I)
 .have N:=R.al;rw[fV]at N;rw[L.al,N];omega
 .rw[L.ln,L.ln];exact Nat.le_of_succ_le R.rm
theorem RI.share {b:Bool}{n:Nat}(R:RI s es) (G:s.pl k=some (b,n)) (L:Vw s k cs c) (h:es.length<(s.ow true).length+(s.ow false).length):RI (cz s b n (c+1)) (some k::es):=by
 obtain⟨g,v,a⟩:=zv R.good G L;have N:=R.ct _ _ _ L;refine⟨g,R.l0,?_,?_,?_,?_,?_⟩
 .intro e;have:=dv (f:=s.ow) (b:=b) (n:=n) (x:=c+1) true;have e:upd s.ow b ((s.ow b).set n (c+1)) true=[]:=e;rw[e]at this;exact R.ne (List.length_eq_zero_iff.mp this.symm)
 .intro j F;by_cases e:j=k
  .subst e;exact⟨cs,c+1,v⟩
  .obtain⟨I,J,q⟩:=R.is j (by simpa[e]using F);exact⟨I,J,(dt R.good G e).mpr q⟩
 .intro j I J F;by_cases e:j=k
  .subst e;obtain⟨_,q⟩:=v.one F;rw[dy];omega
  .rw[eu e];exact R.ct j I J ((dt R.good G e).mp F)
 .rw[a,fV,R.al]
 .show es.length+1<=(upd s.ow b _ true).length+(upd s.ow b _ false).length;rw[dv,dv];exact h
theorem RI.BD (R:RI s es) (h:FE s k s'):RI s' es:=by
 have F:=nN R.good h;refine⟨F.good,by rw[F.ls];exact R.l0,?_,?_,?_,by rw[F.al];exact R.al,by rw[F.kept.ln,F.kept.ln];exact R.rm⟩
 .intro e;have:=F.kept.ln true;rw[e]at this;exact R.ne (List.length_eq_zero_iff.mp this.symm)
 .intro j G;obtain⟨cs,c,q⟩:=R.is j G;exact⟨cs,c,(F.vw j cs c).mpr q⟩
 .intro j cs c G;exact R.ct j cs c ((F.vw j cs c).mp G)
theorem RI.fill (R:RI s (none::r)) (O:cs.length=8) (h:BI (next s) (s.ls+1) cs 1 s'):RI s' (some (s.ls+1)::r):=by
 have B:=jO R.good R.l0 O h;have N:r.count (some (s.ls+1))=0:=by
  apply Nat.eq_zero_of_not_pos;intro q;obtain⟨F,G,S,U,L,_⟩:=R.is _ (mem_cons_of_mem _ (List.count_pos_iff.mp q));rw[eR R.good]at L;cases L
 refine⟨B.good,by rw[B.ls];show 0<=s.ls+1;have:=R.l0;omega,?_,?_,?_,?_,?_⟩
 .intro e;have:=B.kept.ln true;rw[e]at this;exact R.ne (List.length_eq_zero_iff.mp this.symm)
 .intro j I;by_cases e:j=s.ls+1
  .subst e;exact⟨cs,1,B.vw⟩
  .obtain⟨F,G,q⟩:=R.is j (by simpa[e]using I);exact⟨F,G,(B.kept.ot j F G e).mpr q⟩
 .intro j F G I;by_cases e:j=s.ls+1
  .subst e;obtain⟨_,q⟩:=B.vw.one I;rw[dy,N,q];rfl
  .rw[eu e, <-iL];exact R.ct j F G ((B.kept.ot j F G e).mp I)
 .have J:=R.al;rw[ig]at J;rw[B.al,fV, <-J];rfl
 .rw[B.kept.ln,B.kept.ln];exact R.rm
theorem iZ {l:List Int}(h:∀x∈l,1<=x):(l.length:Int)<=l.sum:=by
 induction l with
 |nil=>exact Int.le_refl _
 |cons a l F =>
  have h1:=h a mem_cons_self;have h2:=F λx G=>h x (mem_cons_of_mem _ G);rw[sum_cons,length_cons];omega
theorem Good.pos (G:Good s) {b:Bool}(h:¬ (0:Int)∈s.ow b):∀x∈s.ow b,1<=x:=by
 intro x J;obtain⟨n,F⟩:=List.getElem?_of_mem J;rcases G.on _ _ _ F with e|⟨j,e⟩
 .exact absurd (e▸J) h
 .obtain⟨cs,c,_,I,L,_⟩:=G.va _ _ _ e;rw[F]at I;cases I;exact L
theorem RI.room (R:RI s (none::r)):(0:Int)∈s.ow true\/(0:Int)∈s.ow false:=by
 by_cases h1:(0:Int)∈s.ow true
 .exact .inl h1
 .by_cases h2:(0:Int)∈s.ow false
  .exact .inr h2
  .exfalso;have L:=iZ (R.good.pos h1);have I:=iZ (R.good.pos h2);have F:=R.al;rw[ig]at F;have J:=vb (es:=r);have G:=R.rm;rw[length_cons]at G;unfold all at F;omega
theorem qJ {l:List Int}(h:∀x∈l,1<=x) {n:Nat}{c:Int}(F:l[n]?=some c):(l.length:Int)+c-1<=l.sum:=by
 induction l generalizing n with
 |nil=>cases F
 |cons a l G =>
  have h2:∀x∈l,1<=x:=λx I=>h x (mem_cons_of_mem _ I);have h1:=h a mem_cons_self;cases n with
  |zero =>
   cases F;have:=iZ h2;rw[sum_cons,length_cons];omega
  |succ n =>
   have:=G h2 (show l[n]?=some c from F);rw[sum_cons,length_cons];omega
theorem RI.E9 (R:RI s es) (I:Vw s k cs c) (N:1<c):(0:Int)∈s.ow true\/(0:Int)∈s.ow false:=by
 by_cases h1:(0:Int)∈s.ow true
 .exact .inl h1
 .by_cases h2:(0:Int)∈s.ow false
  .exact .inr h2
  .exfalso;have S:=iZ (R.good.pos h1);have L:=iZ (R.good.pos h2);have G:=R.al;have O:=vb (es:=es);have J:=R.rm;unfold all at G;obtain⟨b,n,_,_,F⟩:=I;cases b
   .have:=qJ (R.good.pos h2) F;omega
   .have:=qJ (R.good.pos h1) F;omega
end
end Pg
namespace Pg
noncomputable def xv (s:PS) (e:Ent) (cs:List Int):Prop:=match e with
 |none=>cs=replicate 8 0
 |some k=>∃c,Vw s k cs c
noncomputable def bf (es:List Ent) (s s':PS):Prop:=∀e∈es,∀cs,xv s e cs->xv s' e cs
theorem bf.refl {es:List Ent}{s:PS}:bf es s s:=λ_ _ _ h=>h
section
variable {s s':PS}{es r:List Ent}{k:Int}{cs:List Int}{c:Int}
theorem RI.ue (R:RI s (some k::es)) (F:Vw s k cs c) (h:Bw s k s'):bf es s s':=by
 have L:=vt R.good F h;have J:=R.ct _ _ _ F;rw[dy]at J;intro e N U q;cases e with
 |none=>exact q
 |some j =>
  obtain⟨I,q⟩:=q;by_cases G:j=k
  .subst G;obtain⟨O,S⟩:=F.one q;subst O;subst S;have:0<es.count (some j):=List.count_pos_iff.mpr N;exact⟨I-1,(L.me _ _).mpr ⟨af,rfl,F⟩⟩
  .exact⟨I,(L.ot j _ _ G).mpr q⟩
theorem sG {b:Bool}{n:Nat}(G:Good s) (J:s.pl k=some (b,n)) (I:Vw s k cs c):bf es s (cz s b n (c+1)):=by
 intro e O R q;cases e with
 |none=>exact q
 |some j =>
  obtain⟨N,q⟩:=q;by_cases F:j=k
  .subst F;obtain⟨L,S⟩:=I.one q;subst L;exact⟨c+1,iM G J I⟩
  .exact⟨N,(dt G J F).mpr q⟩
theorem tJ (G:Good s) (h:FE s k s'):bf es s s':=by
 intro e I J q;cases e with
 |none=>exact q
 |some j =>
  obtain⟨F,q⟩:=q;exact⟨F,((nN G h).vw _ _ _).mpr q⟩
theorem RI.wV (R:RI s (none::r)) (J:cs.length=8) (h:BI (next s) (s.ls+1) cs 1 s'):bf r s s':=by
 have B:=jO R.good R.l0 J h;intro e L N q;cases e with
 |none=>exact q
 |some j =>
  obtain⟨I,q⟩:=q;have G:j≠s.ls+1:=by
   intro e;obtain⟨O,S,F,_⟩:=q;rw[e,eR R.good]at F;cases F
  exact⟨I,(B.kept.ot _ _ _ G).mpr q⟩
theorem RI.part {s1 G:PS}{ac:List Int}{O:Int}(R:RI s (some k::r)) (hv:Vw s k ac O) (hc:1<O) (h4:cs.length=8) (hB:BI (next s) (s.ls+1) cs 1 s1) (hL:Bw s1 k G) :
  RI G (some (s.ls+1)::r)/\bf r s G/\xv G (some (s.ls+1)) cs/\(∃m,G.pl (s.ls+1)=some (true,m))/\G.ls=s.ls+1 /\
  ((0:Int)∈G.ow true->(0:Int)∈s.ow true/\∀j m,s.pl j=some (true,m)->G.pl j=some (true,m))/\(∀b,(G.ow b).length=(s.ow b).length):=by
 have B:=jO R.good R.l0 h4 hB;have Y:=eR R.good;have kn:k≠s.ls+1:=by
  intro e;obtain⟨x1,x2,I,_⟩:=hv;rw[e,Y]at I;cases I
 have ab:Vw s1 k ac O:=(B.kept.ot _ _ _ kn).mpr hv;have L:=vt B.good ab hL;have K:=L.kept hc;have am:=R.ct _ _ _ hv;rw[dy]at am;have no:r.count (some (s.ls+1))=0:=by
  apply Nat.eq_zero_of_not_pos;intro q;obtain⟨S,N,x1,x2,I,_⟩:=R.is _ (mem_cons_of_mem _ (List.count_pos_iff.mp q));rw[Y]at I;cases I
 have vn:Vw G (s.ls+1) cs 1:=(L.ot _ _ _ (Ne.symm kn)).mpr B.vw;have U:∀b,(G.ow b).length=(s.ow b).length:=λb=>(L.ln b).trans (B.kept.ln b);refine⟨⟨L.good,?_,?_,?_,?_,?_,?_⟩,?_,⟨1,vn⟩,?_,?_,?_,U⟩
 .rw[L.ls,B.ls];show 0<=s.ls+1;have:=R.l0;omega
 .intro e;have:=U true;rw[e]at this;exact R.ne (List.length_eq_zero_iff.mp this.symm)
 .intro j J;by_cases e:j=s.ls+1
  .subst e;exact⟨cs,1,vn⟩
  .have J:some j∈r:=(by simpa[e]using J);by_cases F:j=k
   .subst F;exact⟨ac,O-1,(L.me _ _).mpr ⟨hc,rfl,ab⟩⟩
   .obtain⟨S,N,q⟩:=R.is j (mem_cons_of_mem _ J);exact⟨S,N,(L.ot _ _ _ F).mpr ((B.kept.ot _ _ _ e).mpr q)⟩
 .intro j S N J;by_cases e:j=s.ls+1
  .subst e;obtain⟨_,q⟩:=vn.one J;rw[dy,no,q];rfl
  .rw[eu e];by_cases F:j=k
   .subst F;obtain⟨q1,q2,q3⟩:=(L.me _ _).mp J;omega
   .rw[<-eu F];exact R.ct j S N ((B.kept.ot _ _ _ e).mp ((L.ot _ _ _ F).mp J))
 .have h9:=R.al;rw[fV]at h9;rw[L.al,B.al,fV, <-h9];show all s+1-1=all s;omega
 .rw[U,U];exact R.rm
 .intro e he S q;cases e with
  |none=>exact q
  |some j =>
   obtain⟨N,q⟩:=q;have ej:j≠s.ls+1:=by
    intro e;obtain⟨x1,x2,I,_⟩:=q;rw[e,Y]at I;cases I
   by_cases F:j=k
   .subst F;obtain⟨q1,q2⟩:=hv.one q;subst q1;exact⟨O-1,(L.me _ _).mpr ⟨hc,rfl,ab⟩⟩
   .exact⟨N,(L.ot _ _ _ F).mpr ((B.kept.ot _ _ _ ej).mpr q)⟩
 .obtain⟨m,hm⟩:=B.fr;exact⟨m,(L.pl _ (Ne.symm kn)).trans hm⟩
 .rw[L.ls,B.ls];rfl
 .intro h;obtain⟨a1,a2⟩:=K.fr h;obtain⟨b1,b2⟩:=B.kept.fr a1;refine⟨b1,?_⟩;intro j m e;have ej:j≠s.ls+1:=(by intro q;rw[q,Y]at e;cases e);have e1:=b2 j m ej e;by_cases F:j=k
  .subst F;cases hL with
   |more hk ad ap=>exact e1
   |last hk ad =>
    have:=(ab.one ad).2;omega
  .exact a2 j m F e1
theorem RI.write {I:PS}{m:Nat}(R:RI s (some k::r)) {U:List Int}(Y:Vw s k U 1) (h4:cs.length=8) (hF:FE s k I) (L:I.pl k=some (true,m)) :
  RI (write I true m cs) (some k::r)/\bf r s (write I true m cs)/\xv (write I true m cs) (some k) cs:=by
 have F:=nN R.good hF;have G:=R.BD hF;have ab:Vw I k U 1:=(F.vw _ _ _).mpr Y;have ac:=R.ct _ _ _ Y;rw[dy]at ac;have no:¬ some k∈r:=λh=>(by have:0<r.count (some k):=List.count_pos_iff.mpr h;omega);have S:=zE (cs:=cs) G.good L ab;refine⟨⟨tW G.good L h4,G.l0,G.ne,?_,?_,G.al,G.rm⟩,?_,⟨1,S⟩⟩
 .intro j N;by_cases e:j=k
  .subst e;exact⟨cs,1,S⟩
  .obtain⟨O,J,q⟩:=G.is j N;exact⟨O,J,(gP G.good L e).mpr q⟩
 .intro j O J N;by_cases e:j=k
  .subst e;obtain⟨_,q⟩:=S.one N;rw[q];exact G.ct _ _ _ ab
  .exact G.ct j O J ((gP G.good L e).mp N)
 .intro e he O q;cases e with
  |none=>exact q
  |some j =>
   obtain⟨J,q⟩:=q;have ek:j≠k:=λe=>no (e▸he);exact⟨J,(gP G.good L ek).mpr ((F.vw _ _ _).mpr q)⟩
end
end Pg
namespace St
open PySem L2
noncomputable abbrev yc:Stmt:=top 12
noncomputable abbrev pN:Stmt:=top 13
section
variable {P:Program}{w:World}{K:PySem.W.Frag}{mg:Str->Option Value}{base:Heap}
theorem aQ.keep {C p ow co:Addr}{M:Addr->Prop}{os:List Int}{pg:List (Option (List Int))}{H H':Hp}(S:aQ C H M p ow co os pg) (h:Off (λ_=>False) H H'):aQ C H' M p ow co os pg:=by
 obtain⟨⟨dx,h1⟩,I,cs,G,F⟩:=S;exact⟨⟨dx,h _ _ h1 id⟩,h _ _ I id,cs,h _ _ G id,ic h (λ_ z=>z.elim) F⟩
theorem cM {H:Hp}{l:Addr}{o:HO}(h:H l=none):Off (λ_=>False) H (upd H l o):=by
 intro b o' e _;rw[ah (λz=>by rw[z,h]at e;cases e)];exact e
theorem ff {os:List Int}{n:Nat}{x:Int}(h:n<os.length):dN (os.set n x) n=x:=by
 unfold dN;rw[if_neg (by rw[length_set];omega)];simp[h]
theorem eI {os:List Int}{n:Nat}{x:Int}(h:os[n]?=some x):dN os n=x:=by
 obtain⟨h1,h2⟩:=List.getElem?_eq_some_iff.mp h;unfold dN;rw[if_neg af];simp[h1,h2]
theorem Av {os:List Int}{n:Nat}{x:Int}(h:os[n]?=some x):os.set n x=os:=by
 obtain⟨h1,h2⟩:=List.getElem?_eq_some_iff.mp h;rw[<-h2];exact List.set_getElem_self h1
inductive qh (C:Addr) (vs:List V) (H:Hp) (Q:VK) (e3:XK):Prop
 |mk (p ow co:Addr) (M:Addr->Prop) (os:List Int) (pg:List (Option (List Int))) (n:Nat) (ns:List Int) (c:Nat) (_:vs=[.ref p,.int n]) (_:aQ C H M p ow co os pg) (_:M ow) (_:M co) (_:(∀b,M b->H b≠none)) (_:ow≠co) (_:os.length<=60) (_:os[n]?=some (c:Int)) (_:1<=c) (_:c<=1000) (_:pg[n]?=some (some ns)) (_:∀(H':Hp) (t l:Addr),H t=none->H' t=some (.tup [.ref l,.int c])->¬ M l->H' l=some (.lst (ns.map V.int))->aQ C H' M p ow co (os.set n 0) pg->Off (λb=>b=ow\/b=co) H H'->Q (.ref t) H'):qh C vs H Q e3
theorem Fl:aA ["store","n","moved"] ["store","n"] (ar yc):=L2.bD
theorem AQ {f C:Addr}{fd:FuncData}(F:cQ K "lift" "lift" yc f fd) (T:Txt K mg C) (GE:Md P w K mg base aW 3 C "cells" (kE C)) (GC:Md P w K mg base aW 1 C "count" (gg C)) (GL:Md P w K mg base aW 3 C "less" (pE C)) :
  bj P w K mg base aW 4 f fd ["store","n"] (qh C):=by
 refine F.ok Fl (λvs H Q E h=>?_) (λa0 A outer s H vs Q E R h=>?_)
 .obtain⟨p,ow,co,M,os,pg,n,ns,c,rfl,_⟩:=h;rfl
 .obtain⟨p,ow,co,M,os,pg,n,ns,c,rfl,S,mw,mc,mt,ap,U,O,c1,c2,hg,k⟩:=h;obtain⟨⟨dx,h1⟩,hw,cs,aT,hp⟩:=id S;obtain⟨nl,_⟩:=List.getElem?_eq_some_iff.mp O;have hc:dN os n≠0:=(by rw[eI O];omega);refine⟨_,(ag (aL (i:=2) Fl.nd rfl (Or.inl rfl) (cL (aa (pm (pv 0) T.cl GE R aw (aa (pv 1) ai)) (aa (pm (pv 0) T.cl GC R aw (aa (pv 1) ai)) ai))))
   (ag (rP PassesOwn.never (aC gU (pm (pv 0) T.cl GC R aw (aa (pv 1) ai)) ak (aG _)) (aj (aM (pm (pv 0) T.cl GL R aw (aa (pv 1) ai)))))
   (aj (aE (pv 2))))),?_⟩
  refine⟨_,rfl,p,dx,_,rfl,h1,aY _ _ ao ao,_,rfl,p,ow,co,M,os,pg,n,ns,rfl,S,U,hc,hg,?_⟩;intro l fl;have N:=S.keep (cM (o:=.lst (ns.map V.int)) fl);have ad:upd H l (.lst (ns.map V.int)) l=some (.lst (ns.map V.int)):=ae;have O1:Off (λb=>b=ow\/b=co) H (upd H l (.lst (ns.map V.int))):=λb o e _=>cM fl b o e id;generalize upd H l (.lst (ns.map V.int))=H1 at *;obtain⟨am,aB⟩:=N.ob;refine⟨_,rfl,p,am,_,rfl,aB,aY _ _ ao ao,_,rfl,p,ow,co,M,os,pg,n,rfl,N,U,?_⟩;rw[eI O];refine⟨by show 2<=sizeLine;decide,λt G=>?_⟩;have S2:=N.keep (cM (o:=.tup [.ref l,.int c]) G);have ht:upd H1 t (.tup [.ref l,.int c]) t=some (.tup [.ref l,.int c]):=ae;have as:upd H1 t (.tup [.ref l,.int c]) l=some (.lst (ns.map V.int)):=cM G l _ ad id;have O2:Off (λb=>b=ow\/b=co) H (upd H1 t (.tup [.ref l,.int c])):=λb o e z=>cM G b o (O1 b o e z) id;have nM:¬ M l:=λz=>mt l z fl;have fH:H t=none:=by
   cases e:H t with
   |none=>rfl
   |some o =>
    exfalso;by_cases z:t=ow\/t=co
    .rcases z with z|z
     .subst z;rw[N.hw]at G;cases G
     .subst z;obtain⟨_,q,_⟩:=N.hc;rw[q]at G;cases G
    .rw[O1 t o e z]at G;cases G
  generalize upd H1 t (.tup [.ref l,.int c])=H2 at *;refine⟨λm σ I=>∃Y:Nat,m=Y/\σ=[some (.ref p),some (.int n),some (.ref t)]/\aQ C I M p ow co (os.set n Y) pg/\I t=some (.tup [.ref l,.int c])/\I l=some (.lst (ns.map V.int))/\Off (λb=>b=ow\/b=co) H I,
   ⟨c,c,rfl,rfl,by rw[Av O];exact S2,ht,as,O2⟩,?_⟩
  rintro m σ I ⟨Y,rfl,rfl,J,L,l3,O3⟩;obtain⟨ac,h3⟩:=J.ob;refine⟨_,rfl,p,ac,_,rfl,h3,aY _ _ ao ao,_,rfl,p,ow,co,M,_,pg,n,rfl,J,by rw[length_set];exact U,?_⟩;rw[ff nl];refine⟨_,_,rfl,rfl,_,rfl,?_⟩;by_cases z:(0:Int)<m
  .rw[decide_eq_true z];refine⟨λab H'=>ab=[some (.ref p),some (.int n),some (.ref t)]/\aQ C H' M p ow co (os.set n (m-1:Nat)) pg/\H' t=some (.tup [.ref l,.int c])/\H' l=some (.lst (ns.map V.int))/\Off (λb=>b=ow\/b=co) H H',?_,?_⟩
   .rintro ab H' ⟨a1,a2,a3,a4,a5⟩;exact⟨m-1,af,m-1,rfl,a1,a2,a3,a4,a5⟩
   .refine⟨_,rfl,p,ac,_,rfl,h3,aY _ _ ao ao,_,rfl,p,ow,co,M,_,pg,n,rfl,J,mw,mc,ap,by rw[length_set];exact U,by rw[ff nl];omega,?_⟩;intro H4 S4 O4;rw[ff nl,show(n:Int).toNat=n from toNat_natCast n,List.set_set]at S4;refine⟨rfl,?_,?_,?_,?_⟩
    .have e:((m-1:Nat):Int)=(m:Int)-1:=af;rw[e];exact S4
    .refine O4 _ _ L λq=>?_;rcases q with q|q
     .subst q;rw[J.hw]at L;cases L
     .subst q;obtain⟨_,y,_⟩:=J.hc;rw[y]at L;cases L
    .refine O4 _ _ l3 λq=>?_;rcases q with q|q
     .exact nM (q▸mw)
     .exact nM (q▸mc)
    .intro b o e q;exact O4 b o (O3 b o e q) q
  .rw[decide_eq_false z];have e:m=0:=af;subst e;exact⟨_,rfl,k I t l fH L nM l3 J O3⟩
theorem nU {C p ow co:Addr}{M:Addr->Prop}{os:List Int}{pg:List (Option (List Int))}{H H':Hp}(S:aQ C H' M p ow co os pg) (h:Off (λb=>b=ow\/b=co) H H') (mt:∀b,M b->H b≠none):∀b,M b->H' b≠none:=by
 intro b G e;by_cases z:b=ow\/b=co
 .rcases z with z|z
  .subst z;rw[S.hw]at e;cases e
  .subst z;obtain⟨_,q,_⟩:=S.hc;rw[q]at e;cases e
 .cases F:H b with
  |none=>exact mt b G F
  |some o=>rw[h b o F z]at e;cases e
inductive jk (C:Addr) (vs:List V) (H:Hp) (Q:VK) (e3:XK):Prop
 |mk (p ow co t l:Addr) (M:Addr->Prop) (os:List Int) (pg:List (Option (List Int))) (ns:List Int) (c:Nat) (_:vs=[.ref p,.ref t]) (_:aQ C H M p ow co os pg) (_:M ow) (_:M co) (_:(∀b,M b->H b≠none)) (_:ow≠co) (_:os.length=pg.length) (_:os.length<=60) (_:(0:Int)∈os) (_:H t=some (.tup [.ref l,.int c])) (_:H l=some (.lst (ns.map V.int))) (_:¬ M l) (_:1<=c) (_:c<=1000) (_:∀H':Hp,aQ C H' M p ow co (os.set (os.idxOf 0) c) (pg.set (os.idxOf 0) (some ns))->Off (λb=>b=ow\/b=co) H H'->Q (.int (os.idxOf 0:Nat)) H'):jk C vs H Q e3
theorem AS:aA ["store","moved","n"] ["store","moved"] (ar pN):=L2.bD
theorem xt {f C:Addr}{fd:FuncData}(F:cQ K "settle" "settle" pN f fd) (T:Txt K mg C) (GT:Md P w K mg base aW 1 C "take" (t6 C)) (GP:Md P w K mg base aW 3 C "put" (vE K C)) (GC:Md P w K mg base aW 1 C "count" (gg C)) (GM:Md P w K mg base aW 3 C "more" (pX C)) :
  bj P w K mg base aW 4 f fd ["store","moved"] (jk C):=by
 refine F.ok AS (λvs H Q E h=>?_) (λa0 A outer s H vs Q E U h=>?_)
 .obtain⟨p,ow,co,t,l,M,os,pg,ns,c,rfl,_⟩:=h;rfl
 .obtain⟨p,ow,co,t,l,M,os,pg,ns,c,rfl,S,N,mc,mt,ab,am,Y,h0,J,ap,nM,c1,c2,k⟩:=h;obtain⟨dx,h1⟩:=S.ob;have R:os.idxOf 0<os.length:=List.idxOf_lt_length_iff.mpr h0;refine⟨_,(ag (aL (i:=2) AS.nd rfl (Or.inl rfl) (uo (pv 0) T.cl GT U aw))
   (ag (aM (pm (pv 0) T.cl GP U aw (aa (pv 2) (aa (aX a8 (pv 1) ak (λ_ _=>rfl)) ai))))
   (ag (rP PassesOwn.never (aC gu (pm (pv 0) T.cl GC U aw (aa (pv 2) ai)) (aX a8 (pv 1) ak (λ_ _=>rfl)) (aG _)) (aj (aM (pm (pv 0) T.cl GM U aw (aa (pv 2) ai)))))
   (aj (aE (pv 2)))))),?_⟩
  refine⟨_,rfl,p,dx,_,rfl,h1,aY _ _ ao ao,p,ow,co,M,os,pg,rfl,S,N,mc,mt,ab,am,Y,λz=>absurd h0 z,λ_ H1 S1 L=>?_⟩;generalize os.idxOf 0=j at *;obtain⟨as,aT⟩:=S1.ob;have nt:¬ (t=ow\/t=co):=λq=>by
   rcases q with q|q
   .subst q;rw[S.hw]at J;cases J
   .subst q;obtain⟨_,y,_⟩:=S.hc;rw[y]at J;cases J
  have aB:¬ (l=ow\/l=co):=λq=>by
   rcases q with q|q
   .exact nM (q▸N)
   .exact nM (q▸mc)
  have t1:=L _ _ J nt;have l1:=L _ _ ap aB;refine⟨_,rfl,p,as,_,rfl,aT,aY _ _ ao ao,_,rfl,_,rfl,t,_,0,_,rfl,rfl,bV.of t1,rfl,p,ow,co,l,M,_,_,_,ns,rfl,S1,N,mc,nU S1 L mt,ab,by rw[length_set,length_set];exact am,by rw[length_set];exact Y,by rw[ff R];decide,bE.of l1,?_⟩;intro H2 S2 O2;rw[show(j:Int).toNat=j from toNat_natCast j,List.set_set]at S2;refine⟨λm σ I=>∃G:Nat,m+G=c/\1<=G/\σ=[some (.ref p),some (.ref t),some (.int j)]/\aQ C I M p ow co (os.set j G) (pg.set j (some ns))/\I t=some (.tup [.ref l,.int c])/\Off (λb=>b=ow\/b=co) H I,
   ⟨c-1,1,af,le_refl _,rfl,S2,O2 _ _ t1 nt,λb o e q=>O2 b o (L b o e q) q⟩,?_⟩
  rintro m σ I ⟨G,em,p1,rfl,O,t3,O3⟩;obtain⟨ad,h3⟩:=O.ob;refine⟨_,rfl,p,ad,_,rfl,h3,aY _ _ ao ao,_,rfl,p,ow,co,M,_,_,j,rfl,O,by rw[length_set];exact Y,?_⟩;rw[ff R];refine⟨_,rfl,t,_,1,_,rfl,rfl,bV.of t3,rfl,_,_,rfl,rfl,_,rfl,?_⟩;by_cases z:(G:Int)<c
  .rw[decide_eq_true z];refine⟨λac H'=>ac=[some (.ref p),some (.ref t),some (.int j)]/\aQ C H' M p ow co (os.set j (G+1:Nat)) (pg.set j (some ns))/\H' t=some (.tup [.ref l,.int c])/\Off (λb=>b=ow\/b=co) H H',?_,?_⟩
   .rintro ac H' ⟨a1,a2,a3,a4⟩;exact⟨m-1,af,G+1,af,af,a1,a2,a3,a4⟩
   .refine⟨_,rfl,p,ad,_,rfl,h3,aY _ _ ao ao,_,rfl,p,ow,co,M,_,_,j,rfl,O,N,mc,ab,by rw[length_set];exact Y,by rw[ff R];omega,?_⟩;intro H4 S4 O4;rw[ff R,show(j:Int).toNat=j from toNat_natCast j,List.set_set]at S4;exact⟨rfl,S4,O4 _ _ t3 nt,λb o e q=>O4 b o (O3 b o e q) q⟩
  .rw[decide_eq_false z];have e:G=c:=af;subst e;exact⟨_,rfl,k I O O3⟩
end
structure PA where
 pg:Addr
 fp:Addr
 fo:Addr
 fc:Addr
 sp:Addr
 so:Addr
 sc:Addr
 pd:Addr
 il:Addr
noncomputable def cJ (A:PA) (n:Int):List (Str×V):=bo "in_frames" (.ref A.il) (bo "last_sheet" (.int n) (bo "places" (.ref A.pd) (bo "slots" (.ref A.sp) (bo "frames" (.ref A.fp) []))))
noncomputable abbrev Dc:=List (Int×Addr×Bool×Nat)
noncomputable def qC (x:Addr×Bool×Nat):V:=.ref x.1
noncomputable def gI (b:Bool) (n:Nat):List V:=[.str (if b=true then "frame" else "slot"),.int n]
structure bL (C CS:Addr) (H:Hp) (M:Addr->Prop) (A:PA) (s:Pg.PS):Prop where
 ob:∃dx,H A.pg=some (.ins C dx (cJ A s.ls))
 fr:aQ CS H M A.fp A.fo A.fc (s.ow true) (s.co true)
 sl:aQ CS H M A.sp A.so A.sc (s.ow false) (s.co false)
 il:H A.il=some (.lst (s.inf.map V.int))
 le:∀b,(s.ow b).length<=60
 pd:∃l:Dc,H A.pd=some (.dK (Tb.dk qC l))/\(l.map (·.1)).Nodup/\(∀x∈l,H x.2.1=some (.tup (gI x.2.2.1 x.2.2.2)))/\(∀k,(Tb.look l k).map (·.2)=s.pl k)/\l.length<=1000
structure mQ (K:PySem.W.Frag) (mg:Str->Option Value) (C:Addr):Prop where
 cl:qE K C
 nF:cX K C "frames"
 nS:cX K C "slots"
 nP:cX K C "places"
 nL:cX K C "last_sheet"
 nI:cX K C "in_frames"
 list:mg "list" = none
noncomputable abbrev tM:Stmt:=inClass (top 14) 9
section
variable {P:Program}{w:World}{K:PySem.W.Frag}{mg:Str->Option Value}{base:Heap}
inductive iz (C CS:Addr) (vs:List V) (H:Hp) (Q:VK) (e3:XK):Prop
 |mk (M:Addr->Prop) (A:PA) (s:Pg.PS) (k:Int) (b:Bool) (n:Nat) (_:vs=[.ref A.pg,.int k]) (_:bL C CS H M A s) (_:s.pl k=some (b,n)) (_:∀t,H t=some (.tup (gI b n))->Q (.ref t) H):iz C CS vs H Q e3
theorem nr (A:PA) (n:Int):(cJ A n).lookup ("places" : Str)=some (.ref A.pd):=by
 unfold cJ;rw[aD,if_neg ao,aD,if_neg ao,aD,if_pos rfl]
theorem Hg:aA ["self","sheet"] ["self","sheet"] (ar tM):=L2.bD
theorem yF {f C CS:Addr}{fd:FuncData}(F:cQ K "place" "Paging.place" tM f fd) (T:mQ K mg C):bj P w K mg base aW 1 f fd ["self","sheet"] (iz C CS):=by
 refine F.ok Hg (λvs H Q E h=>?_) (λab A outer s H vs Q E J h=>?_)
 .obtain⟨M,I,s',k,b,n,rfl,_⟩:=h;rfl
 .obtain⟨M,I,s',k,b,n,rfl,G,R,q⟩:=h;obtain⟨dx,h1⟩:=G.ob;obtain⟨l,hd,Y,U,S,_⟩:=G.pd;refine⟨_,(ag (aR (iK (fG (bg J) (pv 1) (aK (pv 0) rfl))) cU aF)
   (aj (aE (bw (bg J) (aK (pv 0) rfl) (pv 1) (λ_ _=>rfl))))),?_⟩
  obtain⟨x,O,ex⟩:∃x,Tb.look l k=some x/\x.2=(b,n):=by
   have:=S k;rw[R]at this;exact Option.map_eq_some_iff.mp this
  have hg:dh H I.pd (.int k) (some (qC x)):=by
   have L:=dh.k (k:=Sum.inl k) hd;rw[Tb.cN,O]at L;exact L
  have N:=U _ (Tb.ay O);refine⟨_,rfl,_,rfl,I.pg,C,dx,_,_,rfl,h1,T.cl,T.nP,nr _ _,I.pd,_,rfl,hg,_,rfl,?_⟩;refine bu ⟨_,rfl,I.pg,C,dx,_,_,rfl,h1,T.cl,T.nP,nr _ _,_,rfl,I.pd,qC x,rfl,hg,q x.1 ?_⟩;rw[show x.2.1=b by rw[ex],show x.2.2=n by rw[ex]]at N;exact N
noncomputable abbrev jL:Stmt:=inClass (top 14) 10
noncomputable abbrev ml:Stmt:=inClass (top 14) 11
inductive dn (C CS:Addr) (vs:List V) (H:Hp) (Q:VK) (e3:XK):Prop
 |mk (M:Addr->Prop) (A:PA) (s:Pg.PS) (k:Int) (b:Bool) (n:Nat) (_:vs=[.ref A.pg,.int k]) (_:bL C CS H M A s) (_:s.pl k=some (b,n)) (_:Q (.int n) H):dn C CS vs H Q e3
noncomputable def PA.st (A:PA) (b:Bool):Addr:=if b=true then A.fp else A.sp
inductive eQ (C CS:Addr) (vs:List V) (H:Hp) (Q:VK) (e3:XK):Prop
 |mk (M:Addr->Prop) (A:PA) (s:Pg.PS) (k:Int) (b:Bool) (n:Nat) (_:vs=[.ref A.pg,.int k]) (_:bL C CS H M A s) (_:s.pl k=some (b,n)) (_:Q (.ref (A.st b)) H):eQ C CS vs H Q e3
theorem cG (A:PA) (n:Int) {m:Str}(h1:¬ m = "in_frames") (h2:¬ m = "last_sheet") (I:¬ m = "places") (F:¬ m = "slots") (G:¬ m = "frames"):(cJ A n).lookup m=none:=by
 unfold cJ;rw[aD,if_neg h1,aD,if_neg h2,aD,if_neg I,aD,if_neg F,aD,if_neg G]
 all_goals rfl
theorem lH (A:PA) (n:Int):(cJ A n).lookup ("frames" : Str)=some (.ref A.fp):=by
 unfold cJ;rw[aD,if_neg ao,aD,if_neg ao,aD,if_neg ao,aD,if_neg ao,aD,if_pos rfl]
theorem qY (A:PA) (n:Int):(cJ A n).lookup ("slots" : Str)=some (.ref A.sp):=by
 unfold cJ;rw[aD,if_neg ao,aD,if_neg ao,aD,if_neg ao,aD,if_pos rfl]
theorem GX:aA ["self","sheet"] ["self","sheet"] (ar jL):=L2.bD
theorem rZ {f C CS:Addr}{fd:FuncData}(F:cQ K "number_of" "Paging.number_of" jL f fd) (T:mQ K mg C) (L:Md P w K mg base aW 1 C "place" (iz C CS)):bj P w K mg base aW 2 f fd ["self","sheet"] (dn C CS):=by
 refine F.ok GX (λvs H Q E h=>?_) (λR A outer s H vs Q E J h=>?_)
 .obtain⟨M,I,s',k,b,n,rfl,_⟩:=h;rfl
 .obtain⟨M,I,s',k,b,n,rfl,G,N,q⟩:=h;obtain⟨dx,h1⟩:=G.ob;refine⟨_,(aj (aE (aX a8 (pm (pv 0) T.cl L J aw (aa (pv 1) ai)) ak (λ_ _=>rfl)))),?_⟩;refine⟨_,rfl,I.pg,dx,_,rfl,h1,cG _ _ ao ao ao ao ao,_,rfl,M,I,s',k,b,n,rfl,G,N,λt O=>?_⟩;exact⟨t,_,1,_,rfl,rfl,bV.of O,rfl,q⟩
theorem FQ:aA ["self","sheet"] ["self","sheet"] (ar ml):=L2.bD
theorem uZ {f C CS:Addr}{fd:FuncData}(F:cQ K "store_of" "Paging.store_of" ml f fd) (T:mQ K mg C) (L:Md P w K mg base aW 1 C "place" (iz C CS)):bj P w K mg base aW 2 f fd ["self","sheet"] (eQ C CS):=by
 refine F.ok FQ (λvs H Q E h=>?_) (λR A outer s H vs Q E J h=>?_)
 .obtain⟨M,I,s',k,b,n,rfl,_⟩:=h;rfl
 .obtain⟨M,I,s',k,b,n,rfl,G,N,q⟩:=h;obtain⟨dx,h1⟩:=G.ob;refine⟨_,(ag (aR (aC bS (aX a8 (pm (pv 0) T.cl L J aw (aa (pv 1) ai)) ak (λ_ _=>rfl)) aJ (aG _)) (aj (aE (aK (pv 0) rfl))) aF)
   (aj (aE (aK (pv 0) rfl)))),?_⟩
  refine⟨_,rfl,I.pg,dx,_,rfl,h1,cG _ _ ao ao ao ao ao,_,rfl,M,I,s',k,b,n,rfl,G,N,λt O=>?_⟩;refine⟨t,_,0,_,rfl,rfl,bV.of O,rfl,rfl,_,rfl,?_⟩;cases b with
  |true=>exact dU ⟨_,rfl,I.pg,C,dx,_,_,rfl,h1,T.cl,T.nF,lH _ _,q⟩
  |false=>exact bu ⟨_,rfl,I.pg,C,dx,_,_,rfl,h1,T.cl,T.nS,qY _ _,q⟩
noncomputable abbrev oT:Stmt:=inClass (top 14) 12
noncomputable abbrev qr:Stmt:=inClass (top 14) 4
noncomputable def PA.ow (A:PA) (b:Bool):Addr:=if b=true then A.fo else A.so
noncomputable def PA.co (A:PA) (b:Bool):Addr:=if b=true then A.fc else A.sc
theorem bL.st {C CS:Addr}{H:Hp}{M:Addr->Prop}{A:PA}{s:Pg.PS}(G:bL C CS H M A s) (b:Bool):aQ CS H M (A.st b) (A.ow b) (A.co b) (s.ow b) (s.co b):=by
 cases b
 .exact G.sl
 .exact G.fr
inductive k9 (C CS:Addr) (vs:List V) (H:Hp) (Q:VK) (e3:XK):Prop
 |mk (M:Addr->Prop) (A:PA) (s:Pg.PS) (k:Int) (cs:List Int) (c:Int) (_:vs=[.ref A.pg,.int k]) (_:bL C CS H M A s) (_:Pg.Vw s k cs c) (_:Q (.int c) H):k9 C CS vs H Q e3
inductive ma (C CS:Addr) (vs:List V) (H:Hp) (Q:VK) (e3:XK):Prop
 |mk (M:Addr->Prop) (A:PA) (s:Pg.PS) (k:Int) (cs:List Int) (c:Int) (_:vs=[.ref A.pg,.int k]) (_:bL C CS H M A s) (_:Pg.Vw s k cs c) (_:c≠0) (_:∀l,H l=none->Q (.ref l) (upd H l (.lst (cs.map V.int)))):ma C CS vs H Q e3
theorem Cd:aA ["self","sheet"] ["self","sheet"] (ar oT):=L2.bD
theorem wY {f C CS:Addr}{fd:FuncData}(F:cQ K "count" "Paging.count" oT f fd) (T:mQ K mg C) (TS:Txt K mg CS) (R:Md P w K mg base aW 2 C "store_of" (eQ C CS)) (U:Md P w K mg base aW 2 C "number_of" (dn C CS)) (O:Md P w K mg base aW 1 CS "count" (gg CS)):bj P w K mg base aW 3 f fd ["self","sheet"] (k9 C CS):=by
 refine F.ok Cd (λvs H Q E h=>?_) (λac A outer s H vs Q E J h=>?_)
 .obtain⟨M,I,s',k,cs,c,rfl,_⟩:=h;rfl
 .obtain⟨M,I,s',k,cs,c,rfl,G,⟨b,n,L,ab,Y⟩,q⟩:=h;obtain⟨dx,h1⟩:=G.ob;have S:=G.st b;obtain⟨N,h2⟩:=S.ob;refine⟨_,(aj (aE (pm (pm (pv 0) T.cl R J aw (aa (pv 1) ai)) TS.cl O J aw (aa (pm (pv 0) T.cl U J aw (aa (pv 1) ai)) ai)))),?_⟩;refine⟨_,rfl,I.pg,dx,_,rfl,h1,cG _ _ ao ao ao ao ao,_,rfl,M,I,s',k,b,n,rfl,G,L,?_⟩;refine⟨_,N,_,rfl,h2,aY _ _ ao ao,?_⟩;refine⟨_,rfl,I.pg,dx,_,rfl,h1,cG _ _ ao ao ao ao ao,_,rfl,M,I,s',k,b,n,rfl,G,L,?_⟩;refine⟨_,_,_,M,_,_,n,rfl,S,G.le b,?_⟩;rw[eI Y];exact q
theorem GN:aA ["self","sheet"] ["self","sheet"] (ar qr):=L2.bD
theorem wM {f C CS:Addr}{fd:FuncData}(F:cQ K "cells" "Paging.cells" qr f fd) (T:mQ K mg C) (TS:Txt K mg CS) (U:Md P w K mg base aW 2 C "store_of" (eQ C CS)) (Y:Md P w K mg base aW 2 C "number_of" (dn C CS)) (GE:Md P w K mg base aW 3 CS "cells" (kE CS)):bj P w K mg base aW 4 f fd ["self","sheet"] (ma C CS):=by
 refine F.ok GN (λvs H Q E h=>?_) (λac A outer s H vs Q E J h=>?_)
 .obtain⟨M,I,s',k,cs,c,rfl,_⟩:=h;rfl
 .obtain⟨M,I,s',k,cs,c,rfl,G,⟨b,n,L,R,ab⟩,N,q⟩:=h;obtain⟨dx,h1⟩:=G.ob;have S:=G.st b;obtain⟨O,h2⟩:=S.ob;refine⟨_,(aj (aE (pm (pm (pv 0) T.cl U J aw (aa (pv 1) ai)) TS.cl GE J aw (aa (pm (pv 0) T.cl Y J aw (aa (pv 1) ai)) ai)))),?_⟩;refine⟨_,rfl,I.pg,dx,_,rfl,h1,cG _ _ ao ao ao ao ao,_,rfl,M,I,s',k,b,n,rfl,G,L,?_⟩;refine⟨_,O,_,rfl,h2,aY _ _ ao ao,?_⟩;refine⟨_,rfl,I.pg,dx,_,rfl,h1,cG _ _ ao ao ao ao ao,_,rfl,M,I,s',k,b,n,rfl,G,L,?_⟩;exact⟨_,_,_,M,_,_,n,cs,rfl,S,G.le b,by rw[eI ab];exact N,by rw[show(n:Int).toNat=n from toNat_natCast n];exact R,q⟩
end
theorem aQ.off {C p ow co:Addr}{B M:Addr->Prop}{os:List Int}{pg:List (Option (List Int))}{H H':Hp}(S:aQ C H M p ow co os pg) (h:Off B H H') (N:∀b,B b->M b) (F:¬ B p) (I:¬ B ow) (O:¬ B co):aQ C H' M p ow co os pg:=by
 obtain⟨⟨dx,h1⟩,L,cs,J,G⟩:=S;exact⟨⟨dx,h _ _ h1 F⟩,h _ _ L I,cs,h _ _ J O,ic h N G⟩
structure PA.Ok (A:PA) (M:Addr->Prop):Prop where
 ds:[A.pg,A.fp,A.fo,A.fc,A.sp,A.so,A.sc,A.pd,A.il].Nodup
 mm:∀x∈[A.pg,A.fp,A.fo,A.fc,A.sp,A.so,A.sc,A.pd,A.il],M x
noncomputable def PA.own (A:PA):Addr->Prop:=λb=>b∈[A.pg,A.fo,A.fc,A.so,A.sc,A.pd,A.il]
noncomputable abbrev oo:Stmt:=inClass (top 14) 8
theorem nZ {α:Type}{l:List α}(h:l.Nodup) (i j:Nat) {a b:α}(hi:l[i]?=some a) (J:l[j]?=some b) (I:i≠j):a≠b:=by
 obtain⟨h1,G⟩:=List.getElem?_eq_some_iff.mp hi;obtain⟨h2,F⟩:=List.getElem?_eq_some_iff.mp J;have q:=List.pairwise_iff_getElem.mp h;rcases Nat.lt_or_gt_of_ne I with z|z
 .rw[<-G, <-F];exact q i j h1 h2 z
 .rw[<-G, <-F];exact Ne.symm (q j i h2 h1 z)
theorem fO {a b c:Addr}(h1:a≠b) (h2:a≠c):¬ (a=b\/a=c):=λz=>z.elim h1 h2
theorem EH {M:Addr->Prop}{a b:Addr}(h1:M a) (h2:M b):∀c,c=a\/c=b->M c:=λc z=>z.elim (λe=>by rw[e];exact h1) λe=>by rw[e];exact h2
theorem in1 {M:Addr->Prop}{a:Addr}(h1:M a):∀c,c=a->M c:=λc e=>by rw[e];exact h1
section
variable {A:PA}{M:Addr->Prop}
theorem PA.Ok.n (ok:A.Ok M) (i j:Nat) {a b:Addr}(hi:[A.pg,A.fp,A.fo,A.fc,A.sp,A.so,A.sc,A.pd,A.il][i]?=some a) (F:[A.pg,A.fp,A.fo,A.fc,A.sp,A.so,A.sc,A.pd,A.il][j]?=some b) (G:i≠j):a≠b:=nZ ok.ds i j hi F G
theorem PA.Ok.m (ok:A.Ok M) (i:Nat) {a:Addr}(hi:[A.pg,A.fp,A.fo,A.fc,A.sp,A.so,A.sc,A.pd,A.il][i]?=some a):M a:=ok.mm a (mem_of_getElem? hi)
theorem PA.fB (i:Nat) {a:Addr}(hi:[A.pg,A.fo,A.fc,A.so,A.sc,A.pd,A.il][i]?=some a):A.own a:=mem_of_getElem? hi
theorem PA.Ok.own (ok:A.Ok M):∀b,A.own b->M b:=by
 intro b h;unfold PA.own at h;simp only[mem_cons,not_mem_nil,or_false]at h;rcases h with h|h|h|h|h|h|h<;>rw[h]
 .exact ok.m 0 rfl
 .exact ok.m 2 rfl
 .exact ok.m 3 rfl
 .exact ok.m 5 rfl
 .exact ok.m 6 rfl
 .exact ok.m 7 rfl
 .exact ok.m 8 rfl
theorem bL.alive {C CS:Addr}{H H':Hp}{s:Pg.PS}(G:bL C CS H' M A s) (o:Off A.own H H') (mt:∀b,M b->H b≠none):∀b,M b->H' b≠none:=by
 intro b J e;by_cases z:A.own b
 .unfold PA.own at z;simp only[mem_cons,not_mem_nil,or_false]at z;obtain⟨dx,h1⟩:=G.ob;obtain⟨_,L,_⟩:=G.fr.hc;obtain⟨_,N,_⟩:=G.sl.hc;obtain⟨l,I,_⟩:=G.pd;rcases z with z|z|z|z|z|z|z<;>rw[z]at e
  .rw[h1]at e;cases e
  .rw[G.fr.hw]at e;cases e
  .rw[L]at e;cases e
  .rw[G.sl.hw]at e;cases e
  .rw[N]at e;cases e
  .rw[I]at e;cases e
  .rw[G.il]at e;cases e
 .cases F:H b with
  |none=>exact mt b J F
  |some o'=>rw[o b o' F z]at e;cases e
theorem bL.keep {C CS:Addr}{H H':Hp}{s:Pg.PS}(G:bL C CS H M A s) (h:Off (λ_=>False) H H'):bL C CS H' M A s:=by
 obtain⟨dx,h1⟩:=G.ob;obtain⟨l,hd,N,J,I,F⟩:=G.pd;exact⟨⟨dx,h _ _ h1 id⟩,G.fr.keep h,G.sl.keep h,h _ _ G.il id,G.le,⟨l,h _ _ hd id,N,λx L=>h _ _ (J x L) id,I,F⟩⟩
theorem bL.l8 {C CS:Addr}{H:Hp}{s:Pg.PS}(G:bL C CS H M A s) (ok:A.Ok M) (r:List Int):bL C CS (upd H A.il (.lst (r.map V.int))) M A { s with inf:=r }:=by
 have o:Off (· = A.il) H (upd H A.il (.lst (r.map V.int))):=λb o e z=>(by rw[ah z];exact e);obtain⟨dx,h1⟩:=G.ob;obtain⟨l,hd,J,F,N,L⟩:=G.pd;exact⟨⟨dx,o _ _ h1 (ok.n 0 8 rfl rfl av)⟩,G.fr.off o (in1 (ok.m 8 rfl)) (ok.n 1 8 rfl rfl av) (ok.n 2 8 rfl rfl av) (ok.n 3 8 rfl rfl av),G.sl.off o (in1 (ok.m 8 rfl)) (ok.n 4 8 rfl rfl av) (ok.n 5 8 rfl rfl av) (ok.n 6 8 rfl rfl av),ae,G.le,
  ⟨l,o _ _ hd (ok.n 7 8 rfl rfl av),J,λx I=>o _ _ (F x I) (cH (F x I) G.il (by intro z;cases z)),N,L⟩⟩
theorem bL.Dm {C CS:Addr}{H:Hp}{s s':Pg.PS}(G:bL C CS H M A s) (F:s'.ow=s.ow) (I:s'.co=s.co) (L:s'.ls=s.ls) (N:s'.inf=s.inf) (R:∀j,s'.pl j=s.pl j):bL C CS H M A s':=by
 obtain⟨l,hd,S,U,O,J⟩:=G.pd;exact⟨by rw[L];exact G.ob,by rw[F,I];exact G.fr,by rw[F,I];exact G.sl,by rw[N];exact G.il,by rw[F];exact G.le,⟨l,hd,S,U,λj=>by rw[R];exact O j,J⟩⟩
theorem AB {H:Hp}{l:Dc}{f:Int->Option (Bool×Nat)}{k:Int}{t:Addr}{b:Bool}{n:Nat}(I:(l.map (·.1)).Nodup) (O:∀x∈l,H x.2.1=some (.tup (gI x.2.2.1 x.2.2.2))) (J:∀j,(Tb.look l j).map (·.2)=f j) (R:l.length<=999\/(f k≠none/\l.length<=1000)) (N:H t=some (.tup (gI b n))) :
  ∃F:Dc,putK (Tb.dk qC l) (Sum.inl k) (.ref t)=Tb.dk qC F/\(F.map (·.1)).Nodup/\(∀x∈F,H x.2.1=some (.tup (gI x.2.2.1 x.2.2.2)))/\(∀j,(Tb.look F j).map (·.2)=Pg.du f k (some (b,n)) j)/\F.length<=1000:=by
 have L:∀F:Dc,(∀j,Tb.look F j=if j=k then some (t,b,n)else Tb.look l j)->∀j,(Tb.look F j).map (·.2)=Pg.du f k (some (b,n)) j:=by
  intro F h j;rw[h j];by_cases e:j=k
  .rw[if_pos e,e,Pg.bp];rfl
  .rw[if_neg e,Pg.aH e];exact J j
 cases e:Tb.look l k with
 |none =>
  have S:f k=none:=(by rw[<-J k,e];rfl);refine⟨l++[(k,(t,b,n))],Tb.cA (f:=qC) (a:=(t,b,n)) e,?_,λx G=>?_,L _ λj=>Tb.bN j e,?_⟩
  .rw[map_append];exact gf I (Tb.cn e)
  .rcases List.mem_append.mp G with G|G
   .exact O x G
   .rw[List.mem_singleton.mp G];exact N
  .rw[length_append,length_singleton];rcases R with h|h
   .omega
   .exact absurd S h.1
 |some y =>
  refine⟨Tb.aS l k (t,b,n),Tb.gL (f:=qC) (a:=(t,b,n)) e,by rw[Tb.eU];exact I,λx G=>?_,L _ λj=>Tb.bR j e,?_⟩
  .rcases Tb.mem_set G with rfl|⟨G,_⟩
   .exact N
   .exact O x G
  .rw[Tb.gi];omega
theorem bL.xE {C CS t:Addr}{H:Hp}{s:Pg.PS}{l:Dc}{f:Int->Option (Bool×Nat)}{k:Int}{b:Bool}{n:Nat}(ok:A.Ok M)
  (I:∃dx,H A.pg=some (.ins C dx (cJ A s.ls))) (S:aQ CS H M A.fp A.fo A.fc (s.ow true) (s.co true)) (sl:aQ CS H M A.sp A.so A.sc (s.ow false) (s.co false)) (N:H A.il=some (.lst (s.inf.map V.int))) (le:∀b,(s.ow b).length<=60)
  (hd:H A.pd=some (.dK (Tb.dk qC l))) (R:(l.map (·.1)).Nodup) (ht:∀x∈l,H x.2.1=some (.tup (gI x.2.2.1 x.2.2.2))) (hl:∀j,(Tb.look l j).map (·.2)=f j) (ab:l.length<=999\/(f k≠none/\l.length<=1000)) (ac:H t=some (.tup (gI b n))) (L:∀j,s.pl j=Pg.du f k (some (b,n)) j) :
  bL C CS (upd H A.pd (.dK (putK (Tb.dk qC l) (Sum.inl k) (.ref t)))) M A s:=by
 have o:Off (· = A.pd) H (upd H A.pd (.dK (putK (Tb.dk qC l) (Sum.inl k) (.ref t)))):=λb o e z=>(by rw[ah z];exact e);obtain⟨U,e1,J,F,Y,O⟩:=AB (k:=k) R ht hl ab ac;obtain⟨dx,h1⟩:=I;refine⟨⟨dx,o _ _ h1 (ok.n 0 7 rfl rfl av)⟩,S.off o (in1 (ok.m 7 rfl)) (ok.n 1 7 rfl rfl av) (ok.n 2 7 rfl rfl av) (ok.n 3 7 rfl rfl av),sl.off o (in1 (ok.m 7 rfl)) (ok.n 4 7 rfl rfl av) (ok.n 5 7 rfl rfl av) (ok.n 6 7 rfl rfl av),o _ _ N (ok.n 8 7 rfl rfl av),le,
  ⟨U,by rw[ae,e1],J,λx G=>o _ _ (F x G) (cH (F x G) hd (by intro z;cases z)),λj=>by rw[L j];exact Y j,O⟩⟩
theorem kS {α:Type}{k:Int}:∀{l:List (Int×α)},(l.map (·.1)).Nodup->l.length<=(Tb.a9 l k).length+1
 | [],_=>zero_le _
 |x::r,h=>by
  obtain⟨F,I⟩:=List.nodup_cons.mp (show(x.1::r.map (·.1)).Nodup from h);have G:=kS (k:=k) I;unfold Tb.a9 at G ⊢;rw[filter_cons];by_cases c:x.1=k
  .rw[if_neg (by simp[c])];have:r.filter (λx=>decide (x.1≠k))=r:=by
    rw[filter_eq_self];intro y J;have:y.1≠k:=λe=>F (by rw[c, <-e];exact List.mem_map.mpr ⟨y,J,rfl⟩);simpa using this
   rw[this,length_cons];exact le_refl _
  .rw[if_pos (by simpa using c),length_cons,length_cons];omega
theorem AW {s:Pg.PS}(G:Pg.Good s) (le:∀b,(s.ow b).length<=60) {l:Dc}(S:(l.map (·.1)).Nodup) (F:∀x∈l,s.pl x.1=some x.2.2):l.length<=120:=by
 have lt:∀x∈l,x.2.2.2<60:=λx I=>by
  obtain⟨cs,c,_,h2,_,_⟩:=G.va x.1 x.2.2.1 x.2.2.2 (F x I);have Y:=(List.getElem?_eq_some_iff.mp h2).1;have h4:=le x.2.2.1;omega
 have:=Tb.zW 120 0 (l.map λx=>if x.2.2.1=true then(x.2.2.2:Int)else 60+(x.2.2.2:Int)) ?_ ?_
 .rwa [length_map]at this
 .refine List.pairwise_map.mpr ((List.pairwise_map.mp S).imp_of_mem ?_);intro a b N O U e;have h1:=lt a N;have h2:=lt b O;refine U (G.inj a.1 b.1 b.2.2 ?_ (F b O));rw[F a N];congr 1;have e:(if a.2.2.1=true then(a.2.2.2:Int)else 60+(a.2.2.2:Int))=if b.2.2.1=true then(b.2.2.2:Int)else 60+(b.2.2.2:Int):=e
  refine Prod.ext ?_ ?_
  .cases J:a.2.2.1<;>cases L:b.2.2.1
   .rfl
   .rw[J,L,if_neg av,if_pos rfl]at e;omega
   .rw[J,L,if_pos rfl,if_neg av]at e;omega
   .rfl
  .split at e<;>split at e<;>omega
 .intro x I;obtain⟨y,R,rfl⟩:=List.mem_map.mp I;have h1:=lt y R;split<;>omega
theorem vL {s:Pg.PS}(G:Pg.Good s) (le:(s.ow true).length<=60):s.inf.length<=60:=by
 have:=Tb.zW 60 0 (s.inf.map λk=>match s.pl k with|some p=>(p.2:Int)|none=>0) ?_ ?_
 .rwa [length_map]at this
 .refine List.pairwise_map.mpr (G.nd.imp_of_mem ?_);intro a b N O L e;obtain⟨n,F⟩:=(G.fi a).mp N;obtain⟨m,I⟩:=(G.fi b).mp O;rw[F,I]at e;have e:(n:Int)=m:=e;have e:n=m:=af;subst e;exact L (G.inj _ _ _ F I)
 .intro x R;obtain⟨y,J,rfl⟩:=List.mem_map.mp R;obtain⟨n,F⟩:=(G.fi y).mp J;obtain⟨cs,c,_,h2,_,_⟩:=G.va _ _ _ F;have S:=(List.getElem?_eq_some_iff.mp h2).1;rw[F];show 0<=(n:Int)/\(n:Int)<0+(60:Nat);omega
end
section
variable {P:Program}{w:World}{K:PySem.W.Frag}{mg:Str->Option Value}{base:Heap}
inductive mJ (C CS:Addr) (vs:List V) (H:Hp) (Q:VK) (e3:XK):Prop
 |mk (M:Addr->Prop) (A:PA) (s:Pg.PS) (k:Int) (n:Nat) (cs:List Int) (c:Nat) (_:vs=[.ref A.pg,.int k]) (_:bL C CS H M A s) (_:A.Ok M) (_:(∀b,M b->H b≠none)) (_:s.pl k=some (true,n)) (_:Pg.Vw s k cs c) (_:¬ k∈s.inf) (_:(0:Int)∈s.ow false) (_:(∀b,(s.co b).length=(s.ow b).length)) (_:1<=c) (_:c<=1000) (_:∀H':Hp,bL C CS H' M A (Pg.out s k n cs c)->Off A.own H H'->Q .non H'):mJ C CS vs H Q e3
theorem ET:aA ["self","sheet","moved"] ["self","sheet"] (ar oo):=L2.bD
theorem sV {f C CS:Addr}{fd:FuncData}(F:cQ K "put_out" "Paging.put_out" oo f fd) (T:mQ K mg C) (a6:Df P w K mg base aW 4 "lift" (qh CS)) (ac:Df P w K mg base aW 4 "settle" (jk CS)) (a4:Md P w K mg base aW 2 C "number_of" (dn C CS)):bj P w K mg base aW 5 f fd ["self","sheet"] (mJ C CS):=by
 refine F.ok ET (λvs H Q E h=>?_) (λa7 A outer s H vs Q E R h=>?_)
 .obtain⟨M,I,s',k,n,cs,c,rfl,_⟩:=h;rfl
 .obtain⟨M,I,s',k,n,cs,c,rfl,G,ok,mt,S,hv,ni,h0,a3,c1,c2,q⟩:=h;obtain⟨dx,h1⟩:=G.ob;obtain⟨b',n',e1,e2,e3⟩:=hv;rw[S]at e1;cases e1;obtain⟨l,hd,nd,L,hl,am⟩:=G.pd;have hs:sizeLine=16777216:=sizeLine_eq;refine⟨_,(ag (aL (i:=2) ET.nd rfl (Or.inl rfl) (pc a6 R aw (aa (aK (pv 0) rfl) (aa (pm (pv 0) T.cl a4 R aw (aa (pv 1) ai)) ai))))
   (aj (jD (bg R) (aK (pv 0) rfl) (pv 1) (cL (aa aJ (aa (pc ac R aw (aa (aK (pv 0) rfl) (aa (pv 2) ai))) ai))) rfl))),?_⟩
  refine⟨_,rfl,I.pg,C,dx,_,_,rfl,h1,T.cl,T.nF,lH _ _,?_⟩;refine⟨_,rfl,I.pg,dx,_,rfl,h1,cG _ _ ao ao ao ao ao,_,rfl,M,I,s',k,true,n,rfl,G,S,?_⟩;refine⟨I.fp,I.fo,I.fc,M,_,_,n,cs,c,rfl,G.fr,ok.m 2 rfl,ok.m 3 rfl,mt,ok.n 2 3 rfl rfl av,G.le true,e3,c1,c2,e2,?_⟩;intro H1 t l0 ft as nl ad Y O;have ap:=O _ _ h1 (fO (ok.n 0 2 rfl rfl av) (ok.n 0 3 rfl rfl av));have ab:=G.sl.off O (EH (ok.m 2 rfl) (ok.m 3 rfl)) (fO (ok.n 4 2 rfl rfl av) (ok.n 4 3 rfl rfl av)) (fO (ok.n 5 2 rfl rfl av) (ok.n 5 3 rfl rfl av)) (fO (ok.n 6 2 rfl rfl av) (ok.n 6 3 rfl rfl av));refine⟨_,rfl,I.pg,C,dx,_,_,rfl,ap,T.cl,T.nS,qY _ _,_,rfl,I.sp,I.so,I.sc,t,l0,M,_,_,cs,c,rfl,ab,ok.m 5 rfl,ok.m 6 rfl,nU Y O mt,ok.n 5 6 rfl rfl av,(a3 false).symm,G.le false,h0,as,ad,nl,c1,c2,?_⟩;intro H2 S2 O2;refine⟨by show 2<=sizeLine;decide,λu U=>?_⟩;have a0:=(Y.off O2 (EH (ok.m 5 rfl) (ok.m 6 rfl)) (fO (ok.n 1 5 rfl rfl av) (ok.n 1 6 rfl rfl av)) (fO (ok.n 2 5 rfl rfl av) (ok.n 2 6 rfl rfl av)) (fO (ok.n 3 5 rfl rfl av) (ok.n 3 6 rfl rfl av))).keep (cM (o:=.tup (gI false ((s'.ow false).idxOf 0))) U);have a2:=S2.keep (cM (o:=.tup (gI false ((s'.ow false).idxOf 0))) U);have N:∀b o,H b=some o->¬ (b=I.fo\/b=I.fc)->¬ (b=I.so\/b=I.sc)->upd H2 u (.tup (gI false ((s'.ow false).idxOf 0))) b=some o:=λb o e z1 z2=>cM U b o (O2 b o (O b o e z1) z2) id;have hu:upd H2 u (.tup (gI false ((s'.ow false).idxOf 0))) u=some (.tup (gI false ((s'.ow false).idxOf 0))):=ae;have kd:=N _ _ hd (fO (ok.n 7 2 rfl rfl av) (ok.n 7 3 rfl rfl av)) (fO (ok.n 7 5 rfl rfl av) (ok.n 7 6 rfl rfl av));have ko:=N _ _ h1 (fO (ok.n 0 2 rfl rfl av) (ok.n 0 3 rfl rfl av)) (fO (ok.n 0 5 rfl rfl av) (ok.n 0 6 rfl rfl av));have ki:=N _ _ G.il (fO (ok.n 8 2 rfl rfl av) (ok.n 8 3 rfl rfl av)) (fO (ok.n 8 5 rfl rfl av) (ok.n 8 6 rfl rfl av));have aB:=G.fr.hw;have a1:=G.sl.hw;obtain⟨_,aT,_⟩:=G.fr.hc;obtain⟨_,a5,_⟩:=G.sl.hc;have kt:∀x∈l,upd H2 u (.tup (gI false ((s'.ow false).idxOf 0))) x.2.1=some (.tup (gI x.2.2.1 x.2.2.2)):=λx J=>N _ _ (L x J) (fO (cH (L x J) aB (by intro z;cases z)) (cH (L x J) aT (by intro z;cases z))) (fO (cH (L x J) a1 (by intro z;cases z)) (cH (L x J) a5 (by intro z;cases z)));show Bl K _ _ _ (upd H2 u (.tup (gI false ((s'.ow false).idxOf 0)))) _;generalize upd H2 u (.tup (gI false ((s'.ow false).idxOf 0)))=H3 at *;refine⟨_,rfl,I.pg,C,dx,_,_,rfl,ko,T.cl,T.nP,nr _ _,_,rfl,I.pd,_,rfl,eO.k (k:=Sum.inl k) kd (by rw[Tb.cu];omega),?_⟩;refine q _ (bL.xE (s:=Pg.out s' k n cs c) (f:=s'.pl) (b:=false) (n:=(s'.ow false).idxOf 0) ok ⟨dx,ko⟩ a0 a2 ?_ ?_ kd nd kt hl (.inr ⟨by rw[S];simp,am⟩) hu ?_) ?_
  .show H3 I.il=some (.lst ((s'.inf.erase k).map V.int));rw[List.erase_of_not_mem ni];exact ki
  .intro b;cases b
   .show(List.set _ _ _).length<=60;rw[length_set];exact G.le false
   .show(List.set _ _ _).length<=60;rw[length_set];exact G.le true
  .intro j;by_cases e:j=k
   .subst e;exact Pg.bp.trans Pg.bp.symm
   .exact(Pg.aH e).trans ((Pg.aH e).trans (Pg.aH e).symm)
  .intro b o e z;rw[ah (λy=>z (by rw[y];exact PA.fB 5 rfl))];exact N b o e (λy=>z (y.elim (λy=>by rw[y];exact PA.fB 1 rfl) λy=>by rw[y];exact PA.fB 2 rfl)) (λy=>z (y.elim (λy=>by rw[y];exact PA.fB 3 rfl) λy=>by rw[y];exact PA.fB 4 rfl))
noncomputable abbrev mP:Stmt:=inClass (top 14) 7
inductive iq (C CS:Addr) (vs:List V) (H:Hp) (Q:VK) (e3:XK):Prop
 |mk (M:Addr->Prop) (A:PA) (s:Pg.PS) (k:Int) (t l:Addr) (cs:List Int) (c:Nat) (_:vs=[.ref A.pg,.int k,.ref t]) (_:bL C CS H M A s) (_:A.Ok M) (_:(∀b,M b->H b≠none)) (_:Pg.Good { s with pl:=Pg.du s.pl k none }) (_:((0:Int)∈s.ow true\/(0:Int)∈s.ow false)) (_:s.ow true≠[]) (_:(∀b,∀x∈s.ow b,x<=1000)) (_:H t=some (.tup [.ref l,.int c])) (_:H l=some (.lst (cs.map V.int))) (_:¬ M l) (_:1<=c) (_:c<=1000) (_:∀(H':Hp) (s':Pg.PS),Pg.BI { s with pl:=Pg.du s.pl k none } k cs c s'->bL C CS H' M A s'->Off A.own H H'->Q .non H'):iq C CS vs H Q e3
theorem rW (A:PA) (n:Int):(cJ A n).lookup ("in_frames" : Str)=some (.ref A.il):=by
 unfold cJ;rw[aD,if_pos rfl]
theorem FO:aA ["self","sheet","moved"] ["self","sheet","moved"] (ar mP):=L2.bD
theorem qZ {f C CS:Addr}{fd:FuncData}(F:cQ K "bring_in" "Paging.bring_in" mP f fd) (T:mQ K mg C) (TS:Txt K mg CS) (GF:Md P w K mg base aW 1 CS "free" (oy CS)) (a0:Md P w K mg base aW 5 C "put_out" (mJ C CS)) (a4:Df P w K mg base aW 4 "settle" (jk CS)):bj P w K mg base aW 6 f fd ["self","sheet","moved"] (iq C CS):=by
 refine F.ok FO (λvs H Q E h=>?_) (λb2 A outer s H vs Q E hr h=>?_)
 .obtain⟨M,I,s',k,t,l,cs,c,rfl,_⟩:=h;rfl
 .obtain⟨M,I,s',k,t,l0,cs,c,rfl,G,ok,mt,gd,hf,hn,hb,N,a5,nl,c1,c2,q⟩:=h;obtain⟨dx,h1⟩:=G.ob;obtain⟨bi,h2⟩:=G.fr.ob;have hs:sizeLine=16777216:=sizeLine_eq;have ba:¬ I.own l0:=λz=>nl (ok.own _ z);refine⟨_,(ag (aR (aC bS (uo (aK (pv 0) rfl) TS.cl GF hr aw) ak (aG _)) (aj (aM (pm (pv 0) T.cl a0 hr aw (aa (gK plainAttrs_list PySem.F.slot_list_pop PySem.F.type_list_pop y6 (aK (pv 0) rfl) (aa ak ai)) ai)))) aF)
   (ag (jD (bg hr) (aK (pv 0) rfl) (pv 1) (cL (aa aJ (aa (pc a4 hr aw (aa (aK (pv 0) rfl) (aa (pv 2) ai))) ai))) rfl)
   (aj (aM (gK plainAttrs_list PySem.F.slot_list_append PySem.F.type_list_append jS (aK (pv 0) rfl) (aa (pv 1) ai)))))),?_⟩
  refine share (λσ H9=>xy λ(J O:Pg.PS)=>E3 (σ=[some (.ref I.pg),some (.int k),some (.ref t)]) (bL C CS H9 M I J) (O.ow=J.ow) (O.co=J.co) (O.ls=J.ls) (O.inf=J.inf) ((∀j,j≠k->O.pl j=J.pl j)) (Pg.Good O) ((0:Int)∈O.ow true) (Pg.BI { s' with pl:=Pg.du s'.pl k none } k cs c (Pg.vh O true k cs c)) (Off I.own H H9)) (λu' as=>?A) ?B
  case A =>
   refine⟨_,rfl,I.pg,C,dx,_,_,rfl,h1,T.cl,T.nF,lH _ _,I.fp,bi,_,rfl,h2,aY _ _ ao ao,I.fp,I.fo,I.fc,M,_,_,rfl,G.fr,rfl,_,rfl,?_⟩;refine iD (λz'=>?_) (λz'=>?_)
   rotate_left
   .have z:(0:Int)∈s'.ow true:=Classical.byContradiction λn=>z' (by rw[List.count_eq_zero.mpr n];simp);exact as _ _ ⟨s', { s' with pl:=Pg.du s'.pl k none },rfl,G,rfl,rfl,rfl,rfl,λj hj=>Pg.aH hj,gd,z,.free z,λb o e _=>e⟩
   .have z:¬ (0:Int)∈s'.ow true:=List.count_eq_zero.mp (by
     have:(((s'.ow true).count 0:Nat):Int)=0:=(by simpa using z');omega)
    rcases Pg.DN gd hf hn with h|⟨_,am,R,r,n0,ap,c0,hi,U,ab⟩
    .exact absurd h z
    .have bc:R≠k:=λe=>by
      have U:Pg.du s'.pl k none R=some (true,n0):=U;rw[e,Pg.bp]at U;cases U
     have hi:s'.inf=R::r:=hi;have bJ:=(gd.vw ab).1;obtain⟨og,_,_,bd,_,_,b0⟩:=Pg.qW gd U ab am;obtain⟨b1,n1,e1,e2,e3⟩:=id ab;rw[U]at e1;cases e1;have aB:s'.pl R=some (true,n0):=(by rw[<-U];exact(Pg.aH bc).symm);have b3:=hb true c0 (mem_of_getElem? e3);obtain⟨aT,rfl⟩:∃c':Nat,c0=c':=⟨c0.toNat,af⟩;have S:=gd.nd;have S:s'.inf.Nodup:=S;rw[hi]at S;obtain⟨n1,n2⟩:=List.nodup_cons.mp S;have L:=G.l8 ok r;have Y:Off I.own H (upd H I.il (.lst (r.map V.int))):=λb o e z=>(by rw[ah (λy=>z (by rw[y];exact PA.fB 6 rfl))];exact e);have ac:=G.il;rw[hi]at ac;refine⟨_,rfl,I.pg,dx,_,rfl,h1,cG _ _ ao ao ao ao ao,_,rfl,I.pg,C,dx,_,_,rfl,h1,T.cl,T.nI,rW _ _,.inl ⟨rfl,_,bE.of ac⟩,I.il,_,0,0,.int R,rfl,rfl,ac,av,av,seqIndex_of (Int.le_refl _) (by rw[length_map,length_cons];omega),rfl,?_⟩;refine⟨M,I,_,R,n0,ap,aT,rfl,L,ok,L.alive Y mt,aB,⟨true,n0,aB,e2,e3⟩,n1,am,gd.ln,af,af,λH2 G2 O2=>?_⟩;refine as _ _ ⟨_,Pg.out { s' with pl:=Pg.du s'.pl k none } R n0 ap aT,rfl,G2,rfl,rfl,rfl,?_,?_,og,bd,.full z am hi U ab,λb o e y=>O2 b o (Y b o e y) y⟩
     .show s'.inf.erase R=r.erase R;rw[hi,List.erase_cons_head,List.erase_of_not_mem n1]
     .intro j hj;by_cases e:j=R
      .subst e;exact Pg.bp.trans Pg.bp.symm
      .exact(Pg.aH e).trans ((Pg.aH e).trans ((Pg.aH hj).trans ((Pg.aH e).trans (Pg.aH e)).symm))
  case B =>
   rintro σ H9 ⟨J,O,rfl,L,w1,w2,w3,w4,w5,g2,z0,bb,Y⟩;obtain⟨ad,h3⟩:=L.ob;have bv:H9 t=some (.tup [.ref l0,.int c]):=Y _ _ N λy=>by
    obtain⟨_,q1,_⟩:=G.fr.hc;obtain⟨_,q2,_⟩:=G.sl.hc;obtain⟨_,q3,_⟩:=G.pd;have q4:=G.fr.hw;have q5:=G.sl.hw;have q6:=G.il;unfold PA.own at y;simp only[mem_cons,not_mem_nil,or_false]at y;rcases y with y|y|y|y|y|y|y<;>rw[y]at N
    .rw[h1]at N;cases N
    .rw[q4]at N;cases N
    .rw[q1]at N;cases N
    .rw[q5]at N;cases N
    .rw[q2]at N;cases N
    .rw[q3]at N;cases N
    .rw[q6]at N;cases N
   have a6:=Y _ _ a5 ba;obtain⟨l,hd,S,ht,hl,bY⟩:=L.pd;have a3:l.length<=999:=by
    have a1:=kS (k:=k) S;have a2:=AW g2 (λb=>by rw[w1];exact L.le b) (l:=Tb.a9 l k) (by rw[Tb.jf];exact S.filter _) λx hx=>by
     obtain⟨hx,be⟩:=Tb.bX hx;have:=hl x.1;rw[Tb.bZ S hx]at this;rw[w5 x.1 be, <-this];rfl
    omega
   rw[w1]at z0;have bx:(J.co true).length=(J.ow true).length:=(by rw[<-w1, <-w2];exact g2.ln true);refine⟨_,rfl,I.pg,C,ad,_,_,rfl,h3,T.cl,T.nF,lH _ _,_,rfl,I.fp,I.fo,I.fc,t,l0,M,_,_,cs,c,rfl,L.fr,ok.m 2 rfl,ok.m 3 rfl,L.alive Y mt,ok.n 2 3 rfl rfl av,bx.symm,L.le true,z0,bv,a6,nl,c1,c2,?_⟩;intro H2 S2 O2;refine⟨by show 2<=sizeLine;decide,λu fu=>?_⟩;have a7:=S2.keep (cM (o:=.tup (gI true ((J.ow true).idxOf 0))) fu);have bz:=(L.sl.off O2 (EH (ok.m 2 rfl) (ok.m 3 rfl)) (fO (ok.n 4 2 rfl rfl av) (ok.n 4 3 rfl rfl av)) (fO (ok.n 5 2 rfl rfl av) (ok.n 5 3 rfl rfl av)) (fO (ok.n 6 2 rfl rfl av) (ok.n 6 3 rfl rfl av))).keep (cM (o:=.tup (gI true ((J.ow true).idxOf 0))) fu);have kp:∀b o,H9 b=some o->¬ (b=I.fo\/b=I.fc)->upd H2 u (.tup (gI true ((J.ow true).idxOf 0))) b=some o:=λb o e z1=>cM fu b o (O2 b o e z1) id;have hu:upd H2 u (.tup (gI true ((J.ow true).idxOf 0))) u=some (.tup (gI true ((J.ow true).idxOf 0))):=ae;have kd:=kp _ _ hd (fO (ok.n 7 2 rfl rfl av) (ok.n 7 3 rfl rfl av));have ko:=kp _ _ h3 (fO (ok.n 0 2 rfl rfl av) (ok.n 0 3 rfl rfl av));have ki:=kp _ _ L.il (fO (ok.n 8 2 rfl rfl av) (ok.n 8 3 rfl rfl av));have bl:=L.fr.hw;obtain⟨_,bn,_⟩:=L.fr.hc;have kt:∀x∈l,upd H2 u (.tup (gI true ((J.ow true).idxOf 0))) x.2.1=some (.tup (gI x.2.2.1 x.2.2.2)):=λx hx=>kp _ _ (ht x hx) (fO (cH (ht x hx) bl (by intro z;cases z)) (cH (ht x hx) bn (by intro z;cases z)));show Bl K _ _ _ (upd H2 u (.tup (gI true ((J.ow true).idxOf 0)))) _;generalize upd H2 u (.tup (gI true ((J.ow true).idxOf 0)))=H3 at *;refine⟨_,rfl,I.pg,C,ad,_,_,rfl,ko,T.cl,T.nP,nr _ _,_,rfl,I.pd,_,rfl,eO.k (k:=Sum.inl k) kd (by rw[Tb.cu];omega),?_⟩;have G4:=bL.xE (C:=C) (CS:=CS) (s:={ Pg.vh J true k cs c with inf:=J.inf }) (f:=J.pl) (k:=k) (b:=true) (n:=(J.ow true).idxOf 0) ok ⟨ad,ko⟩ a7 bz ki (λb=>by
    cases b
    .exact L.le false
    .show(List.set _ _ _).length<=60;rw[length_set];exact L.le true) kd S kt hl (.inl a3) hu (λj=>rfl)
   have O4:Off I.own H (upd H3 I.pd (.dK (putK (Tb.dk qC l) (Sum.inl k) (.ref u)))):=λb o e z=>by
    rw[ah (λy=>z (by rw[y];exact PA.fB 5 rfl))];exact kp b o (Y b o e z) (λy=>z (y.elim (λy=>by rw[y];exact PA.fB 1 rfl) λy=>by rw[y];exact PA.fB 2 rfl))
   generalize upd H3 I.pd (.dK (putK (Tb.dk qC l) (Sum.inl k) (.ref u)))=H4 at *;obtain⟨bm,h4⟩:=G4.ob;have bI:J.inf.length<=60:=(by rw[<-w4];exact vL g2 (by rw[w1];exact L.le true));refine⟨_,rfl,I.pg,C,bm,_,_,rfl,h4,T.cl,T.nI,rW _ _,.inl ⟨rfl,_,bE.of G4.il⟩,_,rfl,I.il,_,.int k,rfl,rfl,G4.il,by rw[length_map];show J.inf.length<_;omega,?_⟩;have G5:=G4.l8 ok (J.inf++[k]);rw[map_append]at G5;refine q _ _ bb (G5.Dm ?_ ?_ w3 ?_ ?_) λb o e z=>by
    rw[ah (λy=>z (by rw[y];exact PA.fB 6 rfl))];exact O4 b o e z
   .show Pg.upd O.ow true _=Pg.upd J.ow true _;rw[w1]
   .show Pg.upd O.co true _=Pg.upd J.co true _;rw[w1,w2]
   .show O.inf++[k]=J.inf++[k];rw[w4]
   .intro j;show Pg.du O.pl k _ j=Pg.du J.pl k _ j;by_cases e:j=k
    .rw[e,Pg.bp,Pg.bp,w1]
    .rw[Pg.aH e,Pg.aH e];exact w5 j e
end
end St
namespace Pg
theorem qQ {α:Type}{f:Bool->α}{b:Bool}:upd f b (f b)=f:=by
 funext c;by_cases e:c=b
 .rw[e,ae]
 .rw[aU e]
theorem xi {α:Type}{f:Int->α}{k:Int}{v:α}(h:f k=v):du f k v=f:=by
 funext c;by_cases e:c=k
 .rw[e,bp,h]
 .rw[aH e]
theorem uT {s:PS}(G:Good s):({ next s with pl:=du (next s).pl (s.ls+1) none }:PS)=next s:=by
 have e:du s.pl (s.ls+1) none=s.pl:=xi (eR G);show PS.mk s.ow s.co (du s.pl (s.ls+1) none) (s.ls+1) s.inf=PS.mk s.ow s.co s.pl (s.ls+1) s.inf;rw[e]
theorem vj {s:PS}{k:Int}{n:Nat}(G:Good s) (I:s.pl k=some (false,n)):¬ k∈s.inf:=λh=>by
 obtain⟨m,F⟩:=(G.fi k).mp h;rw[I]at F;cases F
theorem tI {s:PS}{k:Int}{n:Nat}(G:Good s) (F:s.pl k=some (false,n)):({ cz s false n 0 with pl:=du (cz s false n 0).pl k none }:PS)=mT s k false n:=by
 show PS.mk (upd s.ow false ((s.ow false).set n 0)) s.co (du s.pl k none) s.ls s.inf=PS.mk (upd s.ow false ((s.ow false).set n 0)) s.co (du s.pl k none) s.ls (s.inf.erase k);rw[List.erase_of_not_mem (vj G F)]
noncomputable def Cb (s:PS):Prop:=∀b,∀x∈s.ow b,x<=1000
theorem Co {ow:Bool->List Int}{b:Bool}{n:Nat}{x:Int}(h:∀b,∀x∈ow b,x<=1000) (G:x<=1000):∀c,∀y∈upd ow b ((ow b).set n x) c,y<=1000:=by
 intro c y F;by_cases e:c=b
 .rw[e,ae]at F;rcases List.mem_or_eq_of_mem_set F with h' |h'
  .exact h b y h'
  .rw[h'];exact G
 .rw[aU e]at F;exact h c y F
end Pg
namespace Pg
theorem RI.cb {s:PS}{es:List Ent}(R:RI s es) (le:∀b,(s.ow b).length<=60):Cb s:=by
 intro b x I;obtain⟨n,F⟩:=List.getElem?_of_mem I;rcases R.good.on b n x F with e|⟨k,G⟩
 .omega
 .obtain⟨cs,c,h1,h2,_,_⟩:=R.good.va _ _ _ G;rw[F]at h2;cases h2;have N:=R.ct k cs x ⟨b,n,G,h1,F⟩;have S:=List.count_le_length (a:=some k) (l:=es);have O:=R.rm;have L:=le true;have J:=le false;omega
end Pg
namespace St
open PySem L2
section
variable {A:PA}{M:Addr->Prop}
theorem zl (A:PA) (n:Int):(cJ A n).lookup ("last_sheet" : Str)=some (.int n):=by
 unfold cJ;rw[aD,if_neg ao,aD,if_pos rfl]
theorem xH (A:PA) (n:Int):cJ A n=([("frames",.ref A.fp),("slots",.ref A.sp),("places",.ref A.pd),("last_sheet",.int n),("in_frames",.ref A.il)]:List (Str×V)):=by
 have U:¬ (("frames" : Str) = "slots"):=ao;have G:¬ (("frames" : Str) = "places"):=ao;have J:¬ (("frames" : Str) = "last_sheet"):=ao;have L:¬ (("frames" : Str) = "in_frames"):=ao;have R:¬ (("slots" : Str) = "places"):=ao;have I:¬ (("slots" : Str) = "last_sheet"):=ao;have O:¬ (("slots" : Str) = "in_frames"):=ao;have S:¬ (("places" : Str) = "last_sheet"):=ao;have F:¬ (("places" : Str) = "in_frames"):=ao;have N:¬ (("last_sheet" : Str) = "in_frames"):=ao;unfold cJ;simp only[bo,if_neg U,if_neg G,if_neg J,if_neg L,if_neg R,if_neg I,if_neg O,if_neg S,if_neg F,if_neg N]
theorem Dv (A:PA) (n m:Int):bo "last_sheet" (.int m) (cJ A n)=cJ A m:=by
 have G:¬ (("frames" : Str) = "last_sheet"):=ao;have F:¬ (("slots" : Str) = "last_sheet"):=ao;have I:¬ (("places" : Str) = "last_sheet"):=ao;rw[xH,xH];simp only[bo,if_neg G,if_neg F,if_neg I,if_true]
theorem bL.Ej {C CS dx:Addr}{H:Hp}{s:Pg.PS}(G:bL C CS H M A s) (ok:A.Ok M) (n:Int):bL C CS (upd H A.pg (.ins C dx (cJ A n))) M A { s with ls:=n }:=by
 have o:Off (· = A.pg) H (upd H A.pg (.ins C dx (cJ A n))):=λb o e z=>(by rw[ah z];exact e);obtain⟨O,h1⟩:=G.ob;obtain⟨l,hd,J,F,N,L⟩:=G.pd;exact⟨⟨dx,ae⟩,G.fr.off o (in1 (ok.m 0 rfl)) (ok.n 1 0 rfl rfl av) (ok.n 2 0 rfl rfl av) (ok.n 3 0 rfl rfl av),G.sl.off o (in1 (ok.m 0 rfl)) (ok.n 4 0 rfl rfl av) (ok.n 5 0 rfl rfl av) (ok.n 6 0 rfl rfl av),o _ _ G.il (ok.n 8 0 rfl rfl av),G.le,
  ⟨l,o _ _ hd (ok.n 7 0 rfl rfl av),J,λx I=>o _ _ (F x I) (cH (F x I) h1 (by intro z;cases z)),N,L⟩⟩
theorem bL.Bx {C CS:Addr}{H H':Hp}{s:Pg.PS}(G:bL C CS H M A s) (ok:A.Ok M) (b:Bool) {os:List Int}{pg:List (Option (List Int))}(S:aQ CS H' M (A.st b) (A.ow b) (A.co b) os pg) (o:Off (λx=>x=A.ow b\/x=A.co b) H H') (Y:os.length<=60):bL C CS H' M A { s with ow:=Pg.upd s.ow b os,co:=Pg.upd s.co b pg }:=by
 obtain⟨N,h1⟩:=G.ob;obtain⟨l,hd,J,I,L,O⟩:=G.pd;have le:∀c,(Pg.upd s.ow b os c).length<=60:=λc=>by
  by_cases e:c=b
  .rw[e,Pg.ae];exact Y
  .rw[Pg.aU e];exact G.le c
 have hw:=(G.st b).hw;obtain⟨_,U,_⟩:=(G.st b).hc;have R:∀x∈l,H' x.2.1=some (.tup (gI x.2.2.1 x.2.2.2)):=λx F=>o _ _ (I x F) (fO (cH (I x F) hw (by intro z;cases z)) (cH (I x F) U (by intro z;cases z)));cases b
 .exact⟨⟨N,o _ _ h1 (fO (ok.n 0 5 rfl rfl av) (ok.n 0 6 rfl rfl av))⟩,G.fr.off o (EH (ok.m 5 rfl) (ok.m 6 rfl)) (fO (ok.n 1 5 rfl rfl av) (ok.n 1 6 rfl rfl av)) (fO (ok.n 2 5 rfl rfl av) (ok.n 2 6 rfl rfl av)) (fO (ok.n 3 5 rfl rfl av) (ok.n 3 6 rfl rfl av)),S,o _ _ G.il (fO (ok.n 8 5 rfl rfl av) (ok.n 8 6 rfl rfl av)),le,
   ⟨l,o _ _ hd (fO (ok.n 7 5 rfl rfl av) (ok.n 7 6 rfl rfl av)),J,R,L,O⟩⟩
 .exact⟨⟨N,o _ _ h1 (fO (ok.n 0 2 rfl rfl av) (ok.n 0 3 rfl rfl av))⟩,S,G.sl.off o (EH (ok.m 2 rfl) (ok.m 3 rfl)) (fO (ok.n 4 2 rfl rfl av) (ok.n 4 3 rfl rfl av)) (fO (ok.n 5 2 rfl rfl av) (ok.n 5 3 rfl rfl av)) (fO (ok.n 6 2 rfl rfl av) (ok.n 6 3 rfl rfl av)),o _ _ G.il (fO (ok.n 8 2 rfl rfl av) (ok.n 8 3 rfl rfl av)),le,
   ⟨l,o _ _ hd (fO (ok.n 7 2 rfl rfl av) (ok.n 7 3 rfl rfl av)),J,R,L,O⟩⟩
theorem bL.yT {C CS:Addr}{H H':Hp}{s:Pg.PS}(G:bL C CS H M A s) (ok:A.Ok M) (b:Bool) {os:List Int}(S:aQ CS H' M (A.st b) (A.ow b) (A.co b) os (s.co b)) (o:Off (λx=>x=A.ow b\/x=A.co b) H H') (F:os.length<=60):bL C CS H' M A { s with ow:=Pg.upd s.ow b os }:=
 (G.Bx ok b S o F).Dm rfl Pg.qQ.symm rfl rfl λ_=>rfl
theorem bL.Eb {C CS:Addr}{H H':Hp}{s:Pg.PS}(G:bL C CS H M A s) (ok:A.Ok M) (b:Bool) {pg:List (Option (List Int))}(S:aQ CS H' M (A.st b) (A.ow b) (A.co b) (s.ow b) pg) (o:Off (λx=>x=A.ow b\/x=A.co b) H H'):bL C CS H' M A { s with co:=Pg.upd s.co b pg }:=
 (G.Bx ok b S o (G.le b)).Dm Pg.qQ.symm rfl rfl rfl λ_=>rfl
theorem PA.j0 (b:Bool):∀x,x=A.ow b\/x=A.co b->A.own x:=by
 intro x h;cases b
 .rcases h with h|h<;>rw[h]
  .exact PA.fB 3 rfl
  .exact PA.fB 4 rfl
 .rcases h with h|h<;>rw[h]
  .exact PA.fB 1 rfl
  .exact PA.fB 2 rfl
theorem PA.Ok.mo (ok:A.Ok M) (b:Bool):M (A.ow b):=ok.own _ (PA.j0 b _ (.inl rfl))
theorem PA.Ok.mc (ok:A.Ok M) (b:Bool):M (A.co b):=ok.own _ (PA.j0 b _ (.inr rfl))
theorem PA.Ok.oc (ok:A.Ok M) (b:Bool):A.ow b≠A.co b:=by
 cases b
 .exact ok.n 5 6 rfl rfl av
 .exact ok.n 2 3 rfl rfl av
theorem Off.mono {B F:Addr->Prop}{H H':Hp}(o:Off B H H') (h:∀b,B b->F b):Off F H H':=λb u e z=>o b u e λy=>z (h b y)
theorem Off.trans {B:Addr->Prop}{H H' F:Hp}(o:Off B H H') (o':Off B H' F):Off B H F:=λb u e z=>o' b u (o b u e z) z
theorem Off.wr {B:Addr->Prop}{H:Hp}{a:Addr}{o:HO}(h:B a):Off B H (upd H a o):=λb u e z=>by rw[ah (λy=>z (by rw[y];exact h))];exact e
theorem Off.new {B:Addr->Prop}{H:Hp}{a:Addr}{o:HO}(h:H a=none):Off B H (upd H a o):=λb u e z=>cM h b u e id
theorem bL.CP {C CS:Addr}{H:Hp}{s:Pg.PS}{l:Dc}(G:bL C CS H M A s) (ok:A.Ok M) (k:Int) (hd:H A.pd=some (.dK (Tb.dk qC l))) (J:(l.map (·.1)).Nodup) (I:∀x∈l,H x.2.1=some (.tup (gI x.2.2.1 x.2.2.2))) (N:∀j,(Tb.look l j).map (·.2)=s.pl j) (L:l.length<=1000) :
  bL C CS (upd H A.pd (.dK (Tb.dk qC (Tb.a9 l k)))) M A { s with pl:=Pg.du s.pl k none }:=by
 have o:Off (· = A.pd) H (upd H A.pd (.dK (Tb.dk qC (Tb.a9 l k)))):=λb o e z=>(by rw[ah z];exact e);obtain⟨dx,h1⟩:=G.ob;refine⟨⟨dx,o _ _ h1 (ok.n 0 7 rfl rfl av)⟩,G.fr.off o (in1 (ok.m 7 rfl)) (ok.n 1 7 rfl rfl av) (ok.n 2 7 rfl rfl av) (ok.n 3 7 rfl rfl av),G.sl.off o (in1 (ok.m 7 rfl)) (ok.n 4 7 rfl rfl av) (ok.n 5 7 rfl rfl av) (ok.n 6 7 rfl rfl av),o _ _ G.il (ok.n 8 7 rfl rfl av),G.le,
  ⟨Tb.a9 l k,ae,by rw[Tb.jf];exact J.filter _,λx F=>?_,λj=>?_,le_trans (List.length_filter_le _ _) L⟩⟩
 .have F:=(Tb.bX F).1;exact o _ _ (I x F) (cH (I x F) hd (by intro z;cases z))
 .rw[Tb.cw];show _=Pg.du s.pl k none j;by_cases e:j=k
  .rw[if_pos e,e,Pg.bp];rfl
  .rw[if_neg e,Pg.aH e];exact N j
end
theorem xN {D:Ends}{σ:St}{H:Hp}(h:D.nx σ H):qI D σ H:=h
noncomputable abbrev jW:Stmt:=inClass (top 14) 1
noncomputable abbrev sP:Stmt:=inClass (top 14) 2
noncomputable abbrev sM:Stmt:=inClass (top 14) 3
noncomputable abbrev oV:Stmt:=inClass (top 14) 5
noncomputable abbrev uD:Stmt:=inClass (top 14) 6
structure Fb (C CS:Addr) (H:Hp) (M:Addr->Prop) (A:PA) (s:Pg.PS):Prop where
 at_:bL C CS H M A s
 ok:A.Ok M
 mt:∀b,M b->H b≠none
 gd:Pg.Good s
 ne:s.ow true≠[]
 cb:Pg.Cb s
 l0:0<=s.ls
inductive gn (K:PySem.W.Frag) (C CS:Addr) (vs:List V) (H:Hp) (Q:VK) (e3:XK):Prop
 |mk (M:Addr->Prop) (A:PA) (s:Pg.PS) (ca:Addr) (cs:List Int) (_:vs=[.ref A.pg,.ref ca]) (_:Fb C CS H M A s) (_:((0:Int)∈s.ow true\/(0:Int)∈s.ow false)) (_:bE K H ca (cs.map V.int)) (_:ca≠A.pg) (_:cs.length=8) (_:∀(H':Hp) (s':Pg.PS),Pg.BI (Pg.next s) (s.ls+1) cs 1 s'->bL C CS H' M A s'->Off A.own H H'->Q (.int (s.ls+1)) H'):gn K C CS vs H Q e3
inductive kR (C CS:Addr) (vs:List V) (H:Hp) (Q:VK) (e3:XK):Prop
 |mk (M:Addr->Prop) (A:PA) (s:Pg.PS) (k:Int) (cs:List Int) (c:Int) (_:vs=[.ref A.pg,.int k]) (_:Fb C CS H M A s) (_:Pg.Vw s k cs c) (_:∀(H':Hp) (s':Pg.PS),Pg.FE s k s'->bL C CS H' M A s'->Off A.own H H'->Q .non H'):kR C CS vs H Q e3
inductive qf (C CS:Addr) (vs:List V) (H:Hp) (Q:VK) (e3:XK):Prop
 |mk (M:Addr->Prop) (A:PA) (s:Pg.PS) (k:Int) (b:Bool) (n:Nat) (cs:List Int) (c:Int) (_:vs=[.ref A.pg,.int k]) (_:Fb C CS H M A s) (_:s.pl k=some (b,n)) (_:Pg.Vw s k cs c) (_:∀H':Hp,bL C CS H' M A (Pg.cz s b n (c+1))->Off A.own H H'->Q .non H'):qf C CS vs H Q e3
inductive k5 (C CS:Addr) (vs:List V) (H:Hp) (Q:VK) (e3:XK):Prop
 |mk (M:Addr->Prop) (A:PA) (s:Pg.PS) (k:Int) (cs:List Int) (c:Int) (_:vs=[.ref A.pg,.int k]) (_:bL C CS H M A s) (_:A.Ok M) (_:(∀b,M b->H b≠none)) (_:Pg.Good s) (_:Pg.Vw s k cs c) (_:∀(H':Hp) (s':Pg.PS),Pg.Bw s k s'->bL C CS H' M A s'->Off A.own H H'->Q .non H'):k5 C CS vs H Q e3
inductive lh (C CS:Addr) (vs:List V) (H:Hp) (Q:VK) (e3:XK):Prop
 |mk (M:Addr->Prop) (A:PA) (s:Pg.PS) (k:Int) (ca:Addr) (cs0:List Int) (c0:Int) (cs:List Int) (_:vs=[.ref A.pg,.int k,.ref ca]) (_:Fb C CS H M A s) (_:Pg.Vw s k cs0 c0) (_:H ca=some (.lst (cs.map V.int))) (_:¬ A.own ca) (_:cs.length=8) (_:(1<c0->(0:Int)∈s.ow true\/(0:Int)∈s.ow false)) (_:(1<c0->∀(H':Hp) (s1 s2:Pg.PS),Pg.BI (Pg.next s) (s.ls+1) cs 1 s1->Pg.Bw s1 k s2->bL C CS H' M A s2->Off A.own H H'->Q (.int (s.ls+1)) H')) (_:(c0=1->∀(H':Hp) (s1:Pg.PS) (m:Nat),Pg.FE s k s1->s1.pl k=some (true,m)->bL C CS H' M A (Pg.write s1 true m cs)->Off A.own H H'->Q (.int k) H')):lh C CS vs H Q e3
section
variable {P:Program}{w:World}{K:PySem.W.Frag}{mg:Str->Option Value}{base:Heap}
theorem GQ:aA ["self","cells"] ["self","cells"] (ar jW):=L2.bD
theorem pb {f C CS:Addr}{fd:FuncData}(F:cQ K "new_sheet" "Paging.new_sheet" jW f fd) (T:mQ K mg C) (TS:Txt K mg CS) (GF:Md P w K mg base aW 1 CS "free" (oy CS)) (ac:Md P w K mg base aW 6 C "bring_in" (iq C CS)):bj P w K mg base aW 7 f fd ["self","cells"] (gn K C CS):=by
 refine F.ok GQ (λvs H Q E h=>?_) (λa2 A outer s H vs Q E L h=>?_)
 .obtain⟨M,I,s',N,cs,rfl,_⟩:=h;rfl
 .obtain⟨M,I,s',N,cs,rfl,R,hf,a0,ad,h8,q⟩:=h;have G:=R.at_;have ok:=R.ok;obtain⟨dx,h1⟩:=G.ob;obtain⟨ap,h2⟩:=G.fr.ob;obtain⟨as,h3⟩:=G.sl.ob;have hs:sizeLine=16777216:=sizeLine_eq;refine⟨_,(ag (aR (aC bS (az bq (uo (aK (pv 0) rfl) TS.cl GF L aw) (uo (aK (pv 0) rfl) TS.cl GF L aw)) ak (aG _)) cU aF)
   (ag (wQ (pv 0) ak Ci)
   (ag (aM (pm (pv 0) T.cl ac L aw (aa (aK (pv 0) rfl) (aa (cL (aa (bK cO (by rfl) T.list d0 (aa (pv 1) ai)) (aa ak ai))) ai))))
   (aj (aE (aK (pv 0) rfl)))))),?_⟩
  refine⟨_,rfl,I.pg,C,dx,_,_,rfl,h1,T.cl,T.nF,lH _ _,I.fp,ap,_,rfl,h2,aY _ _ ao ao,I.fp,I.fo,I.fc,M,_,_,rfl,G.fr,?_⟩;refine⟨_,rfl,I.pg,C,dx,_,_,rfl,h1,T.cl,T.nS,qY _ _,I.sp,as,_,rfl,h3,aY _ _ ao ao,I.sp,I.so,I.sc,M,_,_,rfl,G.sl,_,_,rfl,rfl,rfl,_,rfl,?_⟩;refine iD (λz=>?_) (λ_=>?_)
  .exfalso;have z:(((s'.ow true).count 0:Nat):Int)+(((s'.ow false).count 0:Nat):Int)=0:=(by simpa using z);rcases hf with h|h
   .have:=List.count_pos_iff.mpr h;omega
   .have:=List.count_pos_iff.mpr h;omega
  refine⟨_,rfl,I.pg,C,dx,_,_,rfl,h1,T.cl,T.nL,zl _ _,_,_,rfl,rfl,dx,_,h1,by rw[xH];show 5<1000;decide,?_⟩;rw[Dv];have G1:=G.Ej (dx:=dx) ok (s'.ls+1);have O1:Off I.own H (upd H I.pg (.ins C dx (cJ I (s'.ls+1)))):=Off.wr (PA.fB 0 rfl);have aT:bE K (upd H I.pg (.ins C dx (cJ I (s'.ls+1)))) N (cs.map V.int):=Rm.eE a0 λo e=>(by rw[ah ad];exact e);have Y:=G1.alive O1 R.mt;have ab:upd H I.pg (.ins C dx (cJ I (s'.ls+1))) I.pg=some (.ins C dx (cJ I (s'.ls+1))):=ae;generalize upd H I.pg (.ins C dx (cJ I (s'.ls+1)))=H1 at *;refine⟨_,rfl,I.pg,dx,_,rfl,ab,cG _ _ ao ao ao ao ao,_,rfl,I.pg,C,dx,_,_,rfl,ab,T.cl,T.nL,zl _ _,_,rfl,N,_,rfl,.inl aT,λl O=>?_⟩;refine⟨by show 2<=sizeLine;decide,λt J=>?_⟩;have O2:Off I.own H1 (upd (upd H1 l (.lst (cs.map V.int))) t (.tup [.ref l,.int 1])):=(Off.new O).trans (Off.new J);have am:t≠l:=λe=>(by rw[e,ae]at J;cases J);have ht:upd (upd H1 l (.lst (cs.map V.int))) t (.tup [.ref l,.int 1]) t=some (.tup [.ref l,.int 1]):=ae;have hl:upd (upd H1 l (.lst (cs.map V.int))) t (.tup [.ref l,.int 1]) l=some (.lst (cs.map V.int)):=(by rw[ah (Ne.symm am),ae]);have G2:bL C CS (upd (upd H1 l (.lst (cs.map V.int))) t (.tup [.ref l,.int 1])) M I { s' with ls:=s'.ls+1 }:=(G1.keep (cM O)).keep (cM J);generalize upd (upd H1 l (.lst (cs.map V.int))) t (.tup [.ref l,.int 1])=H2 at *;have es:=Pg.uT R.gd;refine⟨M,I,Pg.next s',s'.ls+1,t,l,cs,1,rfl,G2,ok,G2.alive O2 Y,by rw[es];exact Pg.nV R.gd,hf,R.ne,R.cb,ht,hl,λz=>Y l z O,le_refl _,av,λH3 U S G3 O3=>?_⟩;rw[es]at S;obtain⟨aB,h4⟩:=G3.ob;have a1:U.ls=s'.ls+1:=(Pg.jO R.gd R.l0 h8 S).ls;refine⟨_,rfl,I.pg,C,aB,_,_,rfl,h4,T.cl,T.nL,zl _ _,?_⟩;rw[a1];exact q H3 U S G3 ((O1.trans O2).trans O3)
theorem EC:aA ["self","sheet","place"] ["self","sheet"] (ar uD):=L2.bD
theorem zN {f C CS:Addr}{fd:FuncData}(F:cQ K "fetch" "Paging.fetch" uD f fd) (T:mQ K mg C) (zU:Md P w K mg base aW 1 C "place" (iz C CS)) (ac:Md P w K mg base aW 6 C "bring_in" (iq C CS)) (as:Df P w K mg base aW 4 "lift" (qh CS)):bj P w K mg base aW 7 f fd ["self","sheet"] (kR C CS):=by
 refine F.ok EC (λvs H Q E h=>?_) (λa1 A outer s H vs Q E U h=>?_)
 .obtain⟨M,I,s',k,cs,c,rfl,_⟩:=h;rfl
 .obtain⟨M,I,s',k,cs,c,rfl,R,Y,q⟩:=h;have G:=R.at_;have ok:=R.ok;have hc:=(R.gd.vw Y).1;obtain⟨b,n,L,e2,e3⟩:=id Y;obtain⟨dx,h1⟩:=G.ob;have hs:sizeLine=16777216:=sizeLine_eq;refine⟨_,(ag (aL (i:=2) EC.nd rfl (Or.inl rfl) (pm (pv 0) T.cl zU U aw (aa (pv 1) ai)))
   (ag (aR (aC bS (aX a8 (pv 2) ak (λ_ _=>rfl)) aJ (aG _)) (ag (aM (gK plainAttrs_list slot_list_remove PySem.F.type_list_remove nG (aK (pv 0) rfl) (aa (pv 1) ai)))
   (ag (aM (gK plainAttrs_list PySem.F.slot_list_append PySem.F.type_list_append jS (aK (pv 0) rfl) (aa (pv 1) ai)))
   (aj pY))) aF)
   (aj (aM (pm (pv 0) T.cl ac U aw (aa (pv 1) (aa (pc as U aw (aa (aK (pv 0) rfl) (aa (aX a8 (pv 2) ak (λ_ _=>rfl)) ai))) ai))))))),?_⟩
  refine⟨_,rfl,I.pg,dx,_,rfl,h1,cG _ _ ao ao ao ao ao,_,rfl,M,I,s',k,b,n,rfl,G,L,λt ht=>?_⟩;refine⟨_,rfl,t,_,0,_,rfl,rfl,bV.of ht,rfl,rfl,_,rfl,?_⟩;cases b with
  |true =>
   refine dU ?_;have hi:k∈s'.inf:=(R.gd.fi k).mpr ⟨n,L⟩;refine⟨_,rfl,I.pg,C,dx,_,_,rfl,h1,T.cl,T.nI,rW _ _,.inl ⟨rfl,_,bE.of G.il⟩,_,rfl,I.il,s'.inf,k,rfl,rfl,G.il,hi,?_⟩;have J:=G.l8 ok (s'.inf.erase k);have N:Off I.own H (upd H I.il (.lst ((s'.inf.erase k).map V.int))):=Off.wr (PA.fB 6 rfl);generalize upd H I.il (.lst ((s'.inf.erase k).map V.int))=H1 at *;obtain⟨ad,h2⟩:=J.ob;have hl:=vL R.gd (G.le true);have aB:(s'.inf.erase k).length<=s'.inf.length:=List.length_erase_le;refine⟨_,rfl,I.pg,C,ad,_,_,rfl,h2,T.cl,T.nI,rW _ _,.inl ⟨rfl,_,bE.of J.il⟩,_,rfl,I.il,_,.int k,rfl,rfl,J.il,by rw[length_map];show(s'.inf.erase k).length<_;omega,?_⟩;have S:=J.l8 ok (s'.inf.erase k++[k]);rw[map_append]at S;exact q _ _ (.here L) S (N.trans (Off.wr (PA.fB 6 rfl)))
  |false =>
   refine bu ?_;obtain⟨O,rfl⟩:∃O:Nat,c=O:=⟨c.toNat,af⟩;have a0:=R.cb false _ (mem_of_getElem? e3);refine⟨_,rfl,I.pg,dx,_,rfl,h1,cG _ _ ao ao ao ao ao,_,rfl,_,rfl,I.pg,C,dx,_,_,rfl,h1,T.cl,T.nS,qY _ _,_,rfl,t,_,1,_,rfl,rfl,bV.of ht,rfl,?_⟩;refine⟨I.sp,I.so,I.sc,M,_,_,n,cs,O,rfl,G.sl,ok.m 5 rfl,ok.m 6 rfl,R.mt,ok.n 5 6 rfl rfl av,G.le false,e3,af,af,e2,?_⟩;intro H1 t1 l1 aT am nl ap S1 N;have J:=G.yT ok false S1 N (by rw[length_set];exact G.le false);have ab:Off I.own H H1:=N.mono (PA.j0 false);have es:=Pg.tI R.gd L;refine⟨M,I,Pg.cz s' false n 0,k,t1,l1,cs,O,rfl,J,ok,J.alive ab R.mt,by rw[es];exact Pg.jE R.gd L,.inr (Pg.qH R.gd L),R.ne,Pg.Co R.cb av,am,ap,nl,af,af,λH2 s2 hb S O2=>?_⟩;rw[es]at hb;exact q _ _ (.away L Y hb) S (ab.trans O2)
theorem FP:aA ["self","sheet"] ["self","sheet"] (ar sP):=L2.bD
theorem zR {f C CS:Addr}{fd:FuncData}(F:cQ K "share" "Paging.share" sP f fd) (T:mQ K mg C) (TS:Txt K mg CS) (ac:Md P w K mg base aW 2 C "store_of" (eQ C CS)) (ad:Md P w K mg base aW 2 C "number_of" (dn C CS)) (GM:Md P w K mg base aW 3 CS "more" (pX CS)):bj P w K mg base aW 4 f fd ["self","sheet"] (qf C CS):=by
 refine F.ok FP (λvs H Q E h=>?_) (λam A outer s H vs Q E J h=>?_)
 .obtain⟨M,I,s',k,b,n,cs,c,rfl,_⟩:=h;rfl
 .obtain⟨M,I,s',k,b,n,cs,c,rfl,R,L,Y,q⟩:=h;have G:=R.at_;have ok:=R.ok;have hc:=(R.gd.vw Y).1;have U:=Pg.qN L Y;obtain⟨dx,h1⟩:=G.ob;have S:=G.st b;obtain⟨ab,h2⟩:=S.ob;refine⟨_,(aj (aM (pm (pm (pv 0) T.cl ac J aw (aa (pv 1) ai)) TS.cl GM J aw (aa (pm (pv 0) T.cl ad J aw (aa (pv 1) ai)) ai)))),?_⟩;refine⟨_,rfl,I.pg,dx,_,rfl,h1,cG _ _ ao ao ao ao ao,_,rfl,M,I,s',k,b,n,rfl,G,L,?_⟩;refine⟨_,ab,_,rfl,h2,aY _ _ ao ao,?_⟩;refine⟨_,rfl,I.pg,dx,_,rfl,h1,cG _ _ ao ao ao ao ao,_,rfl,M,I,s',k,b,n,rfl,G,L,?_⟩;refine⟨_,_,_,M,_,_,n,rfl,S,ok.mo b,ok.mc b,ok.oc b,G.le b,by rw[eI U];omega,λH1 N O=>?_⟩;rw[eI U,show(n:Int).toNat=n from toNat_natCast n]at N;exact q H1 (G.yT ok b N O (by rw[length_set];exact G.le b)) (O.mono (PA.j0 b))
theorem B0:aA ["self","sheet","store","n"] ["self","sheet"] (ar sM):=L2.bD
theorem yD {f C CS:Addr}{fd:FuncData}(F:cQ K "leave" "Paging.leave" sM f fd) (T:mQ K mg C) (TS:Txt K mg CS) (ap:Md P w K mg base aW 2 C "store_of" (eQ C CS)) (aT:Md P w K mg base aW 2 C "number_of" (dn C CS)) (GL:Md P w K mg base aW 3 CS "less" (pE CS)) (GC:Md P w K mg base aW 1 CS "count" (gg CS)):bj P w K mg base aW 4 f fd ["self","sheet"] (k5 C CS):=by
 refine F.ok B0 (λvs H Q E h=>?_) (λa0 A outer s H vs Q E N h=>?_)
 .obtain⟨M,I,s',k,cs,c,rfl,_⟩:=h;rfl
 .obtain⟨M,I,s',k,cs,c,rfl,G,ok,mt,gd,R,q⟩:=h;have hc:=(gd.vw R).1;obtain⟨b,n,J,e2,e3⟩:=id R;obtain⟨nl,_⟩:=List.getElem?_eq_some_iff.mp e3;obtain⟨dx,h1⟩:=G.ob;have S:=G.st b;obtain⟨as,h2⟩:=S.ob;refine⟨_,(ag (aL (i:=2) B0.nd rfl (Or.inl rfl) (pm (pv 0) T.cl ap N aw (aa (pv 1) ai)))
   (ag (aL (i:=3) B0.nd rfl (Or.inl rfl) (pm (pv 0) T.cl aT N aw (aa (pv 1) ai)))
   (ag (aM (pm (pv 2) TS.cl GL N aw (aa (pv 3) ai)))
   (ag (aR (aC gU (pm (pv 2) TS.cl GC N aw (aa (pv 3) ai)) ak (aG _)) (aj pY) aF)
   (ag (aR (aC bS (aX a8 (bw (bg N) (aK (pv 0) rfl) (pv 1) (λ_ _=>rfl)) ak (λ_ _=>rfl)) aJ (aG _)) (aj (aM (gK plainAttrs_list slot_list_remove PySem.F.type_list_remove nG (aK (pv 0) rfl) (aa (pv 1) ai)))) aF)
   (aj (aM (eg (aK (pv 0) rfl) (pv 1) ⟨rfl,rfl,rfl,rfl⟩)))))))),?_⟩
  refine⟨_,rfl,I.pg,dx,_,rfl,h1,cG _ _ ao ao ao ao ao,_,rfl,M,I,s',k,b,n,rfl,G,J,?_⟩;refine⟨_,rfl,I.pg,dx,_,rfl,h1,cG _ _ ao ao ao ao ao,_,rfl,M,I,s',k,b,n,rfl,G,J,?_⟩;refine⟨_,rfl,_,as,_,rfl,h2,aY _ _ ao ao,_,rfl,_,_,_,M,_,_,n,rfl,S,ok.mo b,ok.mc b,ok.oc b,G.le b,by rw[eI e3];omega,λH1 O O1=>?_⟩;rw[eI e3,show(n:Int).toNat=n from toNat_natCast n]at O;have L:=G.yT ok b O O1 (by rw[length_set];exact G.le b);have ab:Off I.own H H1:=O1.mono (PA.j0 b);obtain⟨am,h3⟩:=O.ob;refine⟨_,rfl,_,am,_,rfl,h3,aY _ _ ao ao,_,rfl,_,_,_,M,_,_,n,rfl,O,by rw[length_set];exact G.le b,?_⟩;rw[ff nl];refine⟨_,_,rfl,rfl,_,rfl,?_⟩;by_cases z:(0:Int)<c-1
  .rw[decide_eq_true z];exact q _ _ (.more J R af) L ab
  .rw[decide_eq_false z];have ec:c=1:=af;subst ec;refine bu (xN ?_);obtain⟨ad,h4⟩:=L.ob;obtain⟨l,hd,nd,ht,Y,hn⟩:=L.pd;obtain⟨x,U,ex⟩:∃x,Tb.look l k=some x/\x.2=(b,n):=by
    have h9:(Tb.look l k).map (·.2)=some (b,n):=(Y k).trans J;exact Option.map_eq_some_iff.mp h9
   have hg:dh H1 I.pd (.int k) (some (qC x)):=by
    have q9:=dh.k (k:=Sum.inl k) hd;rw[Tb.cN,U]at q9;exact q9
   have hm:=ht _ (Tb.ay U);rw[show x.2.1=b by rw[ex],show x.2.2=n by rw[ex]]at hm;dsimp only;refine share (λσ H9=>σ=[some (.ref I.pg),some (.int k),some (.ref (I.st b)),some (.int n)]/\bL C CS H9 M I { Pg.cz s' b n 0 with inf:=s'.inf.erase k }/\Off I.own H H9) (λu' ac=>?A) ?B
   case A =>
    refine⟨_,rfl,I.pg,C,ad,_,_,rfl,h4,T.cl,T.nP,nr _ _,_,rfl,I.pd,qC x,rfl,hg,x.1,_,0,_,rfl,rfl,bV.of hm,rfl,rfl,_,rfl,?_⟩;cases b with
    |true =>
     refine dU ?_;have hi:k∈s'.inf:=(gd.fi k).mpr ⟨n,J⟩;refine⟨_,rfl,I.pg,C,ad,_,_,rfl,h4,T.cl,T.nI,rW _ _,.inl ⟨rfl,_,bE.of L.il⟩,_,rfl,I.il,s'.inf,k,rfl,rfl,L.il,hi,?_⟩;exact ac _ _ ⟨rfl,L.l8 ok (s'.inf.erase k),ab.trans (Off.wr (PA.fB 6 rfl))⟩
    |false =>
     refine bu ?_;refine ac _ _ ⟨rfl,?_,ab⟩;rw[List.erase_of_not_mem (Pg.vj gd J)];exact L
   case B =>
    rintro σ H9 ⟨rfl,G9,O9⟩;obtain⟨aB,h5⟩:=G9.ob;obtain⟨l,hd,nd,ht,Y,hn⟩:=G9.pd;obtain⟨x,U,ex⟩:∃x,Tb.look l k=some x/\x.2=(b,n):=by
     have h9:(Tb.look l k).map (·.2)=some (b,n):=(Y k).trans J;exact Option.map_eq_some_iff.mp h9
    refine⟨_,rfl,I.pg,C,aB,_,_,rfl,h5,T.cl,T.nP,nr _ _,I.pd,rfl,.inl ⟨_,.inl hd⟩,_,rfl,_,Sum.inl k,qC x,hd,rfl,by rw[Tb.cN,U];rfl,?_⟩;rw[Tb.eB];exact q _ _ (.last J R) (G9.CP ok k hd nd ht Y hn) (O9.trans (Off.wr (PA.fB 5 rfl)))
theorem EJ:aA ["self","sheet","cells","made"] ["self","sheet","cells"] (ar oV):=L2.bD
theorem vW {f C CS:Addr}{fd:FuncData}(F:cQ K "change" "Paging.change" oV f fd) (T:mQ K mg C) (TS:Txt K mg CS) (ap:Md P w K mg base aW 3 C "count" (k9 C CS)) (a2:Md P w K mg base aW 7 C "new_sheet" (gn K C CS)) (as:Md P w K mg base aW 4 C "leave" (k5 C CS)) (a0:Md P w K mg base aW 7 C "fetch" (kR C CS)) (a3:Md P w K mg base aW 2 C "number_of" (dn C CS)) (GP:Md P w K mg base aW 3 CS "put" (vE K CS)):bj P w K mg base aW 8 f fd ["self","sheet","cells"] (lh C CS):=by
 refine F.ok EJ (λvs H Q E h=>?_) (λa4 A outer s H vs Q E N h=>?_)
 .obtain⟨M,I,s',k,ca,U,L,cs,rfl,_⟩:=h;rfl
 .obtain⟨M,I,s',k,ca,U,L,cs,rfl,R,S,ad,ac,h8,hf,q1,q2⟩:=h;have G:=R.at_;have ok:=R.ok;have hc:=(R.gd.vw S).1;obtain⟨dx,h1⟩:=G.ob;refine⟨_,(ag (aR (aC gU (pm (pv 0) T.cl ap N aw (aa (pv 1) ai)) ak (aG _)) (ag (aL (i:=3) EJ.nd rfl (Or.inl rfl) (pm (pv 0) T.cl a2 N aw (aa (pv 2) ai)))
   (ag (aM (pm (pv 0) T.cl as N aw (aa (pv 1) ai)))
   (aj (aE (pv 3))))) aF)
   (ag (aM (pm (pv 0) T.cl a0 N aw (aa (pv 1) ai)))
   (ag (aM (pm (aK (pv 0) rfl) TS.cl GP N aw (aa (pm (pv 0) T.cl a3 N aw (aa (pv 1) ai)) (aa (pv 2) ai))))
   (aj (aE (pv 1)))))),?_⟩
  refine⟨_,rfl,I.pg,dx,_,rfl,h1,cG _ _ ao ao ao ao ao,_,rfl,M,I,s',k,U,L,rfl,G,S,?_⟩;refine⟨_,_,rfl,rfl,_,rfl,?_⟩;by_cases z:(1:Int)<L
  .rw[decide_eq_true z];refine⟨_,rfl,I.pg,dx,_,rfl,h1,cG _ _ ao ao ao ao ao,_,rfl,M,I,s',ca,cs,rfl,R,hf z,bE.of ad,λe=>ac (by rw[e];exact PA.fB 0 rfl),h8,λH1 Y hb J O=>?_⟩;obtain⟨ab,h2⟩:=J.ob;have B:=Pg.jO R.gd R.l0 h8 hb;have kn:k≠s'.ls+1:=by
    intro e;obtain⟨x1,x2,y1,_⟩:=S;rw[e,Pg.eR R.gd]at y1;cases y1
   refine⟨_,rfl,I.pg,ab,_,rfl,h2,cG _ _ ao ao ao ao ao,_,rfl,M,I,Y,k,U,L,rfl,J,ok,J.alive O R.mt,B.good,(B.kept.ot _ _ _ kn).mpr S,λH2 s2 hl G2 O2=>?_⟩;exact⟨_,rfl,q1 z H2 Y s2 hb hl G2 (O.trans O2)⟩
  .rw[decide_eq_false z];have ec:L=1:=af;refine⟨_,rfl,I.pg,dx,_,rfl,h1,cG _ _ ao ao ao ao ao,_,rfl,M,I,s',k,U,L,rfl,R,S,λH1 Y am J O=>?_⟩;have FF:=Pg.nN R.gd am;obtain⟨m,hm⟩:=FF.fr;have a1:=(FF.vw k U L).mpr S;have e3:=Pg.qN hm a1;obtain⟨ab,h2⟩:=J.ob;obtain⟨aB,h3⟩:=J.fr.ob;have aT:=O _ _ ad ac;refine⟨_,rfl,I.pg,C,ab,_,_,rfl,h2,T.cl,T.nF,lH _ _,I.fp,aB,_,rfl,h3,aY _ _ ao ao,?_⟩;refine⟨_,rfl,I.pg,ab,_,rfl,h2,cG _ _ ao ao ao ao ao,_,rfl,M,I,Y,k,true,m,rfl,J,hm,?_⟩;refine⟨_,rfl,I.fp,I.fo,I.fc,ca,M,_,_,m,cs,rfl,J.fr,ok.m 2 rfl,ok.m 3 rfl,J.alive O R.mt,ok.n 2 3 rfl rfl av,(FF.good.ln true).symm,J.le true,by rw[eI e3];omega,bE.of aT,λH2 S2 O2=>?_⟩;rw[show(m:Int).toNat=m from toNat_natCast m]at S2;exact⟨_,rfl,q2 ec H2 Y m am hm (J.Eb ok true S2 O2) (O.trans (O2.mono (PA.j0 true)))⟩
end
end St
namespace Tb
open PySem L2
section
variable {α:Type}
theorem Ap {l:List (Int×α)}{k:Int}(h:¬ k∈l.map (·.1)):a9 l k=l:=by
 unfold a9;rw[filter_eq_self];intro y F;have:y.1≠k:=λe=>h (List.mem_map.mpr ⟨y,F,e⟩);simpa using this
theorem jU {k:Int}{a:α}:∀{l:List (Int×α)},(l.map (·.1)).Nodup->look l k=some a->l.Perm ((k,a)::a9 l k)
 | [],_,h=>by cases h
 |x::r,J,h=>by
  obtain⟨G,I⟩:=List.nodup_cons.mp (show(x.1::r.map (·.1)).Nodup from J);rw[aN]at h;by_cases c:x.1=k
  .rw[if_pos c]at h;have e:x=(k,a):=Prod.ext c (Option.some.inj h);have F:a9 (x::r) k=r:=by
    show filter _ (x::r)=r;rw[filter_cons,if_neg (by simp[c])];exact Ap (c▸G)
   rw[F,e]
  .rw[if_neg c]at h;have F:a9 (x::r) k=x::a9 r k:=by
    show filter _ (x::r)=_;rw[filter_cons,if_pos (by simpa using c)];rfl
   rw[F];exact((jU I h).cons x).trans (List.Perm.swap _ _ _)
theorem vK (l:List (Int×α)) (k:Int) (a:α):a9 (aS l k a) k=a9 l k:=by
 induction l with
 |nil=>rfl
 |cons x r F =>
  show filter _ ((if x.1=k then(k,a)else x)::aS r k a)=filter _ (x::r);by_cases c:x.1=k
  .rw[if_pos c,filter_cons,if_neg (by simp),filter_cons,if_neg (by simp[c])];exact F
  .rw[if_neg c,filter_cons,if_pos (by simpa using c),filter_cons,if_pos (by simpa using c)];congr 1
theorem lY {l:List (Int×α)}{k:Int}(F:(l.map (·.1)).Nodup):((a9 l k).map (·.1)).Nodup:=F.sublist (List.Sublist.map _ List.filter_sublist)
theorem B8 {l:List (Int×α)}{k:Int}{a:α}(G:(l.map (·.1)).Nodup):(((k,a)::a9 l k).map (·.1)).Nodup:=by
 refine List.nodup_cons.mpr ⟨λh=>?_,lY G⟩;obtain⟨y,F,e⟩:=List.mem_map.mp h;have:=(List.mem_filter.mp F).2;simp at this;exact this e
theorem gq {l:List (Int×α)}{k:Int}{x:Int×α}(h:x∈l) (F:x.1≠k):x∈a9 l k:=List.mem_filter.mpr ⟨h,by simpa using F⟩
theorem oJ {f:α->V}{l:List (Int×α)}{k:Int}{a b:α}(F:(l.map (·.1)).Nodup) (h:look l k=some b) (e:f a=f b):dk f (aS l k a)=dk f l:=by
 unfold dk aS;rw[map_map];refine map_congr_left λx G=>?_;show((Sum.inl (if x.1=k then(k,a)else x).1:Key),f (if x.1=k then(k,a)else x).2)=(Sum.inl x.1,f x.2);by_cases c:x.1=k
 .have:look l k=some x.2:=bZ F (by rw[<-c];exact G);rw[h]at this;rw[if_pos c,c,e,Option.some.inj this]
 .rw[if_neg c]
theorem jc (l:List (Int×α)) (k j:Int) (a:α):look ((k,a)::a9 l k) j=if j=k then some a else look l j:=by
 rw[aN,cw];by_cases c:j=k
 .rw[if_pos c.symm,if_pos c]
 .rw[if_neg (Ne.symm c),if_neg c,if_neg c]
end
theorem TabAt.off {B:Addr->Prop}{C:Addr}{H H':Hp}{p fs:Addr}{tb:iW}(T:TabAt C H p fs tb) (o:Off B H H') (I:¬ B p) (G:∀b,eD fs tb b->¬ B b) (R:∀b xs,H b=some (.tup xs)->¬ B b):TabAt C H' p fs tb:=by
 obtain⟨⟨dx,h1⟩,h2,N,S,O,L,J⟩:=T;exact⟨⟨dx,o _ _ h1 I⟩,o _ _ h2 (G _ (.inl rfl)),λx F=>o _ _ (N x F) (G _ (.inr ⟨x,F,rfl⟩)),λx F=>(S x F).keep λb xs e=>o _ _ e (R b xs e),O,L,J⟩
theorem TabAt.dK {C:Addr}{H:Hp}{p fs:Addr}{tb:iW}(T:TabAt C H p fs tb) {b:Addr}(h:eD fs tb b):∃kvs,H b=some (.dK kvs):=by
 rcases h with h|⟨x,F,h⟩
 .exact⟨_,by rw[h];exact T.hf⟩
 .exact⟨_,by rw[h];exact T.hd x F⟩
end Tb
namespace St
open PySem L2
structure TD where
 p:Addr
 fs:Addr
 tb:Tb.iW
 t:List (Int×Pg.Ent)
noncomputable abbrev dS:=List (Int×TD)
noncomputable def fR (x:TD):V:=.ref x.p
noncomputable def wg:Pg.Ent->List V
 |none=>[.str "blank"]
 |some k=>[.str "sheet",.int k]
noncomputable def TD.eD (x:TD):Addr->Prop:=Tb.eD x.fs x.tb
structure di (CT:Addr) (H:Hp) (x:TD):Prop where
 at_:Tb.TabAt CT H x.p x.fs x.tb
 nd:(x.t.map (·.1)).Nodup
 lk:∀q,Tb.c6 x.tb q=(Tb.look x.t q).map wg
noncomputable def qD (t:List (Int×Pg.Ent)):List Pg.Ent:=t.map (·.2)
noncomputable def ents (W:dS):List Pg.Ent:=W.flatMap λx=>qD x.2.t
theorem iy {W:dS}{t:Int}{x:TD}(F:(W.map (·.1)).Nodup) (h:Tb.look W t=some x):(ents W).Perm (qD x.t++ents (Tb.a9 W t)):=(Tb.jU F h).flatMap_right _
theorem gG {W:dS}{t:Int}{x y:TD}(F:(W.map (·.1)).Nodup) (h:Tb.look W t=some x):(ents (Tb.aS W t y)).Perm (qD y.t++ents (Tb.a9 W t)):=by
 have:=iy (W:=Tb.aS W t y) (t:=t) (x:=y) (by rw[Tb.eU];exact F) (by rw[Tb.bR t h,if_pos rfl])
 rwa [Tb.vK]at this
theorem mO {t:List (Int×Pg.Ent)}{q:Int}{e:Pg.Ent}(F:(t.map (·.1)).Nodup) (h:Tb.look t q=some e):(qD t).Perm (e::qD (Tb.a9 t q)):=(Tb.jU F h).map _
noncomputable def eG (pg:Addr) (t:Int) (rd:Addr):List (Str×V):=bo "rooms" (.ref rd) (bo "total" (.int t) (bo "paging" (.ref pg) []))
section
variable (pg:Addr) (t:Int) (rd:Addr)
theorem fg:(eG pg t rd).lookup ("rooms" : Str)=some (.ref rd):=by
 unfold eG;rw[aD,if_pos rfl]
theorem EG:(eG pg t rd).lookup ("total" : Str)=some (.int t):=by
 unfold eG;rw[aD,if_neg ao,aD,if_pos rfl]
theorem kq:(eG pg t rd).lookup ("paging" : Str)=some (.ref pg):=by
 unfold eG;rw[aD,if_neg ao,aD,if_neg ao,aD,if_pos rfl]
theorem gr {m:Str}(h1:¬ m = "rooms") (h2:¬ m = "total") (F:¬ m = "paging"):(eG pg t rd).lookup m=none:=by
 unfold eG;rw[aD,if_neg h1,aD,if_neg h2,aD,if_neg F]
 all_goals rfl
end
noncomputable def bO (s:Pg.PS):Int:=((s.ow true).length+(s.ow false).length:Nat)
theorem zt {s s':Pg.PS}(h:∀b,(s'.ow b).length=(s.ow b).length):bO s'=bO s:=by
 unfold bO;rw[h,h]
structure CA where
 C:Addr
 P:Addr
 S:Addr
 T:Addr
structure RA where
 A:PA
 rp:Addr
 rd:Addr
structure ax (c:CA) (H:Hp) (M:Addr->Prop) (a:RA) (s:Pg.PS) (W:dS):Prop where
 ob:∃dx,H a.rp=some (.ins c.C dx (eG a.A.pg (bO s) a.rd))
 pg:bL c.P c.S H M a.A s
 ok:a.A.Ok M
 mt:∀b,M b->H b≠none
 hd:H a.rd=some (.dK (Tb.dk fR W))
 nd:(W.map (·.1)).Nodup
 tb:∀x∈W,di c.T H x.2
 dm:∀x∈W,∀b,x.2.eD b->M b/\¬ a.A.own b/\b≠a.rd
 np:∀x∈W,¬ a.A.own x.2.p
 dj:∀x∈W,∀y∈W,x.1≠y.1->∀b,x.2.eD b->¬ y.2.eD b
 Cg:M a.rd
 AX:¬ a.A.own a.rd
 xR:¬ a.A.own a.rp
noncomputable def RA.own (a:RA) (W:dS):Addr->Prop:=λb=>a.A.own b\/b=a.rd\/∃x∈W,x.2.eD b
structure Step (H:Hp) (M O:Addr->Prop) (H':Hp) (M' O':Addr->Prop):Prop where
 off:Off O H H'
 mm:∀b,M b->¬ O b->M' b
 mn:∀b,M' b->M b\/H b=none
 on:∀b,O' b->O b\/H b=none
 mt:∀b,M b->H b≠none
 om:∀b,O b->M b
theorem Step.gone {H H':Hp}{M O M' F:Addr->Prop}(a:Step H M O H' M' F) {b:Addr}(h:H' b=none):O b\/H b=none:=by
 cases e:H b with
 |none=>exact .inr rfl
 |some u =>
  by_cases z:O b
  .exact .inl z
  .rw[a.off b u e z]at h;cases h
theorem Step.trans {H H' I:Hp}{M O M' G F J:Addr->Prop}(a:Step H M O H' M' G) (b:Step H' M' G I F J):Step H M O I F J:=by
 refine⟨λx o e z=>b.off x o (a.off x o e z) λy=>?_,λx h z=>b.mm x (a.mm x h z) λy=>?_,λx h=>?_,λx h=>?_,a.mt,a.om⟩
 .rcases a.on x y with y|y
  .exact z y
  .rw[e]at y;cases y
 .rcases a.on x y with y|y
  .exact z y
  .exact a.mt x h y
 .rcases b.mn x h with h|h
  .exact a.mn x h
  .rcases a.gone h with h|h
   .exact .inl (a.om x h)
   .exact .inr h
 .rcases b.on x h with h|h
  .exact a.on x h
  .exact a.gone h
theorem dJ.grow {M M':Addr->Prop}{H:Hp}(h:∀b,M' b->M b\/H b=none):∀{v:V}{x:Option (List Int)},dJ H M v x->dJ H M' v x
 |.non,none,_=>trivial
 |.ref a,some ns,⟨h1,h2⟩=>⟨λz=>(h a z).elim h1 λe=>(by rw[h2]at e;cases e),h2⟩
theorem aQ.grow {C p ow co:Addr}{M M':Addr->Prop}{os:List Int}{pg:List (Option (List Int))}{H:Hp}(S:aQ C H M p ow co os pg) (h:∀b,M' b->M b\/H b=none):aQ C H M' p ow co os pg:=by
 obtain⟨h1,I,cs,G,F⟩:=S;exact⟨h1,I,cs,G,Paired.yW F λ_ _ z=>z.grow h⟩
section
variable {A:PA}{M M' B:Addr->Prop}{H H':Hp}
theorem bL.jw {C CS:Addr}{s:Pg.PS}(G:bL C CS H M A s):∀b xs,H b=some (.tup xs)->¬ A.own b:=by
 intro b xs e y;obtain⟨dx,h1⟩:=G.ob;obtain⟨_,I,_⟩:=G.fr.hc;obtain⟨_,L,_⟩:=G.sl.hc;obtain⟨_,O,_⟩:=G.pd;have N:=G.fr.hw;have J:=G.sl.hw;have F:=G.il;unfold PA.own at y;simp only[mem_cons,not_mem_nil,or_false]at y;rcases y with y|y|y|y|y|y|y<;>rw[y]at e
 .rw[h1]at e;cases e
 .rw[N]at e;cases e
 .rw[I]at e;cases e
 .rw[J]at e;cases e
 .rw[L]at e;cases e
 .rw[O]at e;cases e
 .rw[F]at e;cases e
theorem aQ.less {C p ow co:Addr}{M M':Addr->Prop}{os:List Int}{pg:List (Option (List Int))}{H:Hp}(S:aQ C H M p ow co os pg) (h:∀b,M' b->M b):aQ C H M' p ow co os pg:=S.grow λb z=>.inl (h b z)
theorem bL.move {C CS:Addr}{s:Pg.PS}(G:bL C CS H M A s) (o:Off B H H') (J:∀b,B b->M b) (L:∀b,M' b->M b\/H b=none) (F:∀b,A.own b->¬ B b) (O:¬ B A.fp) (R:¬ B A.sp) (U:∀b xs,H b=some (.tup xs)->¬ B b):bL C CS H' M' A s:=by
 obtain⟨dx,h1⟩:=G.ob;obtain⟨l,hd,S,I,hl,Y⟩:=G.pd;exact⟨⟨dx,o _ _ h1 (F _ (PA.fB 0 rfl))⟩,((G.fr.grow (M':=λb=>M b\/M' b) λb z=>z.elim .inl (L b)).off o (λb z=>.inl (J b z)) O (F _ (PA.fB 1 rfl)) (F _ (PA.fB 2 rfl))).less λb z=>.inr z,
  ((G.sl.grow (M':=λb=>M b\/M' b) λb z=>z.elim .inl (L b)).off o (λb z=>.inl (J b z)) R (F _ (PA.fB 3 rfl)) (F _ (PA.fB 4 rfl))).less λb z=>.inr z,o _ _ G.il (F _ (PA.fB 6 rfl)),G.le,
  ⟨l,o _ _ hd (F _ (PA.fB 5 rfl)),S,λx N=>o _ _ (I x N) (U _ _ (I x N)),hl,Y⟩⟩
end
section
variable {c:CA}{H H':Hp}{M M' B:Addr->Prop}{a:RA}{s s':Pg.PS}{W:dS}{t:Int}{x y:TD}
theorem ax.FH {es:List Pg.Ent}(R:ax c H M a s W) (F:Pg.RI s es):Fb c.P c.S H M a.A s:=⟨R.pg,R.ok,R.mt,F.good,F.ne,F.cb R.pg.le,F.l0⟩
theorem di.off (T:di c.T H x) (o:Off B H H') (F:¬ B x.p) (I:∀b,x.eD b->¬ B b) (G:∀b xs,H b=some (.tup xs)->¬ B b):di c.T H' x:=⟨T.at_.off o F I G,T.nd,T.lk⟩
theorem ax.j6 (R:ax c H M a s W) (G:bL c.P c.S H' M a.A s') (o:Off a.A.own H H') (I:∀b,(s'.ow b).length=(s.ow b).length):ax c H' M a s' W:=by
 obtain⟨dx,h1⟩:=R.ob;exact⟨⟨dx,by rw[zt I];exact o _ _ h1 R.xR⟩,G,R.ok,G.alive o R.mt,o _ _ R.hd R.AX,R.nd,λx F=>(R.tb x F).off o (R.np x F) (λb z=>(R.dm x F b z).2.1) R.pg.jw,R.dm,R.np,R.dj,R.Cg,R.AX,R.xR⟩
theorem ax.dH (R:ax c H M a s W):∀b,a.own W b->M b:=λb h=>by
 rcases h with h|h|⟨x,F,h⟩
 .exact R.ok.own b h
 .rw[h];exact R.Cg
 .exact(R.dm x F b h).1
theorem ax.refl (R:ax c H M a s W):Step H M (a.own W) H M (a.own W):=⟨λ_ _ e _=>e,λ_ h _=>h,λ_ h=>.inl h,λ_ h=>.inl h,R.mt,R.dH⟩
theorem ax.iE (R:ax c H M a s W) (e:bf H H'):Step H M (a.own W) H' M (a.own W):=⟨λb o h _=>e b o h,λ_ h _=>h,λ_ h=>.inl h,λ_ h=>.inl h,R.mt,R.dH⟩
theorem ax.DK (R:ax c H M a s W) (G:bL c.P c.S H' M a.A s') (o:Off a.A.own H H'):Step H M (a.own W) H' M (a.own W):=
 ⟨o.mono λ_ z=>.inl z,λ_ h _=>h,λ_ h=>.inl h,λ_ h=>.inl h,R.mt,R.dH⟩
theorem ax.same (R:ax c H M a s W) (e:bf H H'):ax c H' M a s W:=by
 obtain⟨dx,h1⟩:=R.ob;refine⟨⟨dx,e _ _ h1⟩,R.pg.keep (λb o h _=>e b o h),R.ok,λb G z=>?_,e _ _ R.hd,R.nd,λx F=>⟨(R.tb x F).at_.same e,(R.tb x F).nd,(R.tb x F).lk⟩,R.dm,R.np,R.dj,R.Cg,R.AX,R.xR⟩;cases h:H b with
 |none=>exact R.mt b G h
 |some o=>rw[e b o h]at z;cases z
theorem ax.AR (R:ax c H M a s W) (o:Off B H H') (F:∀b,B b->M b/\¬ a.own W b) (S:∀b,B b->(∃xs,H b=some (.lst xs))\/∃kvs,H b=some (.dK kvs)) (Y:∀b,M' b->M b\/H b=none) (J:∀b,M b->¬ B b->M' b) (mt:∀b,M' b->H' b≠none):ax c H' M' a s W:=by
 obtain⟨dx,h1⟩:=R.ob;have I:∀{b C dx fs},H b=some (.ins C dx fs)->¬ B b:=λe z=>by
  rcases S _ z with⟨_,h⟩|⟨_,h⟩
  .rw[e]at h;cases h
  .rw[e]at h;cases h
 have N:∀b xs,H b=some (.tup xs)->¬ B b:=λb xs e z=>by
  rcases S _ z with⟨_,h⟩|⟨_,h⟩
  .rw[e]at h;cases h
  .rw[e]at h;cases h
 obtain⟨ab,L⟩:=R.pg.fr.ob;obtain⟨ac,O⟩:=R.pg.sl.ob;refine⟨⟨dx,o _ _ h1 (I h1)⟩,R.pg.move o (λb z=>(F b z).1) Y (λb z y=>(F b y).2 (.inl z)) (I L) (I O) N,⟨R.ok.ds,λb z=>J b (R.ok.mm b z) λq=>?_⟩,mt,o _ _ R.hd (λz=>(F _ z).2 (.inr (.inl rfl))),R.nd,λx G=>?_,λx G b z=>⟨J b (R.dm x G b z).1 λq=>(F b q).2 (.inr (.inr ⟨x,G,z⟩)),(R.dm x G b z).2⟩,R.np,R.dj,J _ R.Cg (λz=>(F _ z).2 (.inr (.inl rfl))),R.AX,R.xR⟩
 .simp only[mem_cons,not_mem_nil,or_false]at z;rcases z with z|z|z|z|z|z|z|z|z<;>rw[z]at q
  .exact(F _ q).2 (.inl (PA.fB 0 rfl))
  .exact I L q
  .exact(F _ q).2 (.inl (PA.fB 1 rfl))
  .exact(F _ q).2 (.inl (PA.fB 2 rfl))
  .exact I O q
  .exact(F _ q).2 (.inl (PA.fB 3 rfl))
  .exact(F _ q).2 (.inl (PA.fB 4 rfl))
  .exact(F _ q).2 (.inl (PA.fB 5 rfl))
  .exact(F _ q).2 (.inl (PA.fB 6 rfl))
 .obtain⟨ad,U⟩:=(R.tb x G).at_.ob;exact(R.tb x G).off o (I U) (λb z y=>(F b y).2 (.inr (.inr ⟨x,G,z⟩))) N
theorem ax.sI (R:ax c H M a s W) (hx:Tb.look W t=some x) (ep:y.p=x.p) (T:di c.T H' y) (o:Off x.eD H H') (hn:∀b,y.eD b->x.eD b\/H b=none):ax c H' (λb=>(M b/\¬ x.eD b)\/y.eD b) a s (Tb.aS W t y):=by
 have L:=Tb.ay hx;have X:=R.tb _ L;have dK:∀{b},x.eD b->∃kvs,H b=some (.dK kvs):=λz=>X.at_.dK z;have I:=R.dm _ L;have N:∀{b C dx fs},H b=some (.ins C dx fs)->¬ x.eD b:=λe z=>by
  obtain⟨_,h⟩:=dK z;rw[e]at h;cases h
 have nt:∀b xs,H b=some (.tup xs)->¬ x.eD b:=λb xs e z=>by
  obtain⟨_,h⟩:=dK z;rw[e]at h;cases h
 obtain⟨dx,h1⟩:=R.ob;obtain⟨ap,f1⟩:=R.pg.fr.ob;obtain⟨as,f2⟩:=R.pg.sl.ob;have hM:∀b,(M b/\¬ x.eD b)\/y.eD b->M b\/H b=none:=λb z=>z.elim (λz=>.inl z.1) λz=>(hn b z).elim (λz=>.inl (I b z).1) .inr;refine⟨⟨dx,o _ _ h1 (N h1)⟩,R.pg.move o (λb z=>(I b z).1) hM (λb z y=>(I b y).2.1 z) (N f1) (N f2) nt,⟨R.ok.ds,λb z=>.inl ⟨R.ok.mm b z,λq=>?_⟩⟩,λb z e=>?_,?_,by rw[Tb.eU];exact R.nd,λG F=>?_,λG F b z=>?_,λG F=>?_,λx1 Y x2 U ab b J S=>?_,.inl ⟨R.Cg,λq=>(I _ q).2.2 rfl⟩,R.AX,R.xR⟩
 .simp only[mem_cons,not_mem_nil,or_false]at z;rcases z with z|z|z|z|z|z|z|z|z<;>rw[z]at q
  .exact(I _ q).2.1 (PA.fB 0 rfl)
  .exact N f1 q
  .exact(I _ q).2.1 (PA.fB 1 rfl)
  .exact(I _ q).2.1 (PA.fB 2 rfl)
  .exact N f2 q
  .exact(I _ q).2.1 (PA.fB 3 rfl)
  .exact(I _ q).2.1 (PA.fB 4 rfl)
  .exact(I _ q).2.1 (PA.fB 5 rfl)
  .exact(I _ q).2.1 (PA.fB 6 rfl)
 .rcases z with z|z
  .cases e2:H b with
   |none=>exact R.mt b z.1 e2
   |some u=>rw[o b u e2 z.2]at e;cases e
  .obtain⟨_,h⟩:=T.at_.dK z;rw[e]at h;cases h
 .rw[Tb.oJ R.nd hx (show V.ref y.p=V.ref x.p by rw[ep])];exact o _ _ R.hd λz=>(I _ z).2.2 rfl
 .rcases Tb.mem_set F with rfl|⟨F,O⟩
  .exact T
  .obtain⟨aB,h3⟩:=(R.tb G F).at_.ob;exact(R.tb G F).off o (N h3) (λb z z'=>R.dj G F _ L O b z z') nt
 .rcases Tb.mem_set F with rfl|⟨F,O⟩
  .refine⟨.inr z,?_⟩;rcases hn b z with z|z
   .exact(I b z).2
   .exact⟨λq=>R.mt b (R.ok.own b q) z,λq=>by rw[q,R.hd]at z;cases z⟩
  .exact⟨.inl ⟨(R.dm G F b z).1,λq=>R.dj G F _ L O b z q⟩,(R.dm G F b z).2⟩
 .rcases Tb.mem_set F with rfl|⟨F,O⟩
  .show ¬ a.A.own y.p;rw[ep];exact R.np _ L
  .exact R.np G F
 .have ac:∀G∈W,G.1≠t->∀b,G.2.eD b->¬ y.eD b:=λG F O b J S=>by
   rcases hn b S with z|z
   .exact R.dj G F _ L O b J z
   .obtain⟨_,h⟩:=(R.tb G F).at_.dK J;rw[z]at h;cases h
  rcases Tb.mem_set Y with rfl|⟨Y,ad⟩<;>rcases Tb.mem_set U with rfl|⟨U,am⟩
  .exact ab rfl
  .exact ac x2 U am b S J
  .exact ac x1 Y ad b J S
  .exact R.dj x1 Y x2 U ab b J S
theorem ax.oN (R:ax c H M a s W) (L:Tb.look W t=some x) (o:Off x.eD H H') (I:∀b,y.eD b->x.eD b\/H b=none):Step H M (a.own W) H' (λb=>(M b/\¬ x.eD b)\/y.eD b) (a.own (Tb.aS W t y)):=by
 have F:=Tb.ay L;refine⟨o.mono λb z=>.inr (.inr ⟨_,F,z⟩),λb z q=>.inl ⟨z,λw=>q (.inr (.inr ⟨_,F,w⟩))⟩,λb z=>z.elim (λz=>.inl z.1) λz=>(I b z).elim (λz=>.inl (R.dm _ F b z).1) .inr,λb z=>?_,R.mt,R.dH⟩;rcases z with z|z|⟨J,G,z⟩
 .exact .inl (.inl z)
 .exact .inl (.inr (.inl z))
 .rcases Tb.mem_set G with rfl|⟨G,N⟩
  .exact(I b z).elim (λz=>.inl (.inr (.inr ⟨_,F,z⟩))) .inr
  .exact .inl (.inr (.inr ⟨J,G,z⟩))
theorem ax.EY (R:ax c H M a s W) {W':dS}(O:(W'.map (·.1)).Nodup) (tb:∀x∈W',di c.T H x.2) (I:∀x∈W',∀b,x.2.eD b->M b/\¬ a.A.own b/\b≠a.rd) (np:∀x∈W',¬ a.A.own x.2.p) (N:∀x∈W',∀y∈W',x.1≠y.1->∀b,x.2.eD b->¬ y.2.eD b) :
  ax c (upd H a.rd (.dK (Tb.dk fR W'))) M a s W':=by
 have o:Off (· = a.rd) H (upd H a.rd (.dK (Tb.dk fR W'))):=λb o e z=>(by rw[ah z];exact e);have F:∀{b C dx fs},H b=some (.ins C dx fs)->¬ b=a.rd:=λe z=>(by rw[z,R.hd]at e;cases e);have J:∀b xs,H b=some (.tup xs)->¬ b=a.rd:=λb xs e z=>(by rw[z,R.hd]at e;cases e);have al:∀b,upd H a.rd (.dK (Tb.dk fR W')) b=none->H b=none:=λb e=>by
  by_cases z:b=a.rd
  .rw[z,ae]at e;cases e
  .rw[ah z]at e;exact e
 obtain⟨dx,h1⟩:=R.ob;obtain⟨ab,L⟩:=R.pg.fr.ob;obtain⟨ac,U⟩:=R.pg.sl.ob;refine⟨⟨dx,o _ _ h1 (F h1)⟩,R.pg.move o (λb z=>by rw[z];exact R.Cg) (λb z=>.inl z) (λb z y=>R.AX (y▸z)) (F L) (F U) J,R.ok,λb S e=>R.mt b S (al b e),ae,O,λx G=>?_,I,np,N,R.Cg,R.AX,R.xR⟩;obtain⟨ad,Y⟩:=(tb x G).at_.ob;exact(tb x G).off o (F Y) (λb z y=>(I x G b z).2.2 y) J
theorem ax.xW (R:ax c H M a s W) (S:Tb.look W t=none) (T:di c.T H y) (G:∀b,y.eD b->M b/\¬ a.own W b) (np:¬ a.A.own y.p):ax c (upd H a.rd (.dK (Tb.dk fR (W++[(t,y)])))) M a s (W++[(t,y)]):=by
 refine R.EY ?_ (λx F=>?_) (λx F=>?_) (λx F=>?_) (λN h1 O h2 L b J I=>?_)
 .rw[map_append];exact gf R.nd (Tb.cn S)
 .rcases List.mem_append.mp F with F|F
  .exact R.tb x F
  .rw[List.mem_singleton.mp F];exact T
 .rcases List.mem_append.mp F with F|F
  .exact R.dm x F
  .rw[List.mem_singleton.mp F];exact λb z=>⟨(G b z).1,λq=>(G b z).2 (.inl q),λq=>(G b z).2 (.inr (.inl q))⟩
 .rcases List.mem_append.mp F with F|F
  .exact R.np x F
  .rw[List.mem_singleton.mp F];exact np
 .rcases List.mem_append.mp h1 with h1|h1<;>rcases List.mem_append.mp h2 with h2|h2
  .exact R.dj N h1 O h2 L b J I
  .rw[List.mem_singleton.mp h2]at I;exact(G b I).2 (.inr (.inr ⟨N,h1,J⟩))
  .rw[List.mem_singleton.mp h1]at J;exact(G b J).2 (.inr (.inr ⟨O,h2,I⟩))
  .exact L (by rw[List.mem_singleton.mp h1,List.mem_singleton.mp h2])
theorem ax.Dw (R:ax c H M a s W) (t:Int):ax c (upd H a.rd (.dK (Tb.dk fR (Tb.a9 W t)))) M a s (Tb.a9 W t):=
 R.EY (Tb.lY R.nd) (λx F=>R.tb x (Tb.bX F).1) (λx F=>R.dm x (Tb.bX F).1) (λx F=>R.np x (Tb.bX F).1) (λx F y G=>R.dj x (Tb.bX F).1 y (Tb.bX G).1)
end
end St
namespace L2
open PySem PySem.Spec PyProof.Rows
noncomputable def FN (K:PySem.W.Frag):R2:=λx y H Q=>∃p q xs ys,x=.ref p/\y=.ref q/\bV K H p xs/\bV K H q ys/\xs.all eh=true/\ys.all eh=true/\Q (.bl (!iQ xs ys)) H
section
variable {X:Cx}
theorem pC (hu:X.A.units<cLine):kz X (compareOp .NotEq) (FN X.K):=by
 intro pins s σ H x y v u Q I rx ry h;obtain⟨p,q,xs,ys,rfl,rfl,hx,S,fx,fy,hq⟩:=h;cases rx;cases ry;obtain⟨its,r,pl,hz⟩:=I.tuple hx;obtain⟨J,L,ac,ad⟩:=I.tuple S;have hl:=r.length;have Y:=L.length;refine PySem.SeqAt.RcNeAt.tuples (e:=λj=>ly (xs.getD j .non) (ys.getD j .non)) pl ac hu (λj h1 h2=>?_) _ _ _ _ ⟨.bl (!iQ xs ys),H,I,?_,hq⟩
 .rw[size_toArray]at h1 h2;have G:j<xs.length:=af;have F:j<ys.length:=af;obtain⟨a,ea,ra⟩:=r.get (i:=j) (x:=xs[j]) (by simp[G]);obtain⟨b,eb,U⟩:=L.get (i:=j) (x:=ys[j]) (by simp[F]);obtain⟨_,O⟩:=List.getElem?_eq_some_iff.mp ea;obtain⟨_,ab⟩:=List.getElem?_eq_some_iff.mp eb;have g1:xs.getD j .non=xs[j]:=(by simp[G]);have N:ys.getD j .non=ys[j]:=(by simp[F]);show SeqAt.EqAt _ _ its.toArray[j] J.toArray[j] (ly (xs.getD j .non) (ys.getD j .non));have a1:its.toArray[j]=a:=(by simpa using O);have R:J.toArray[j]=b:=(by simpa using ab);rw[g1,N,a1,R];exact qd ra U (List.all_eq_true.mp fx _ (getElem_mem G)) (List.all_eq_true.mp fy _ (getElem_mem F))
 .show Value.bool _=Value.bool _;rw[size_toArray,size_toArray, <-hl, <-Y,ny]
end
end L2
namespace St
open PySem L2
noncomputable abbrev qy:Stmt:=top 17
noncomputable abbrev qo:Stmt:=top 18
noncomputable abbrev sC:Stmt:=top 19
noncomputable abbrev qx:Stmt:=inClass (top 33) 1
noncomputable abbrev pB:Stmt:=inClass (top 33) 2
noncomputable abbrev yG:Stmt:=inClass (top 33) 3
noncomputable abbrev uR:Stmt:=inClass (top 33) 4
noncomputable abbrev tV:Stmt:=inClass (top 33) 5
noncomputable abbrev sE:Stmt:=inClass (top 33) 6
noncomputable abbrev tQ:Stmt:=inClass (top 33) 7
noncomputable abbrev um:Stmt:=inClass (top 33) 8
noncomputable abbrev pO:Stmt:=inClass (top 33) 9
noncomputable abbrev pf:Stmt:=inClass (top 33) 11
noncomputable abbrev pG:Stmt:=inClass (top 33) 12
noncomputable abbrev qu:Stmt:=inClass (top 33) 13
structure oq (K:PySem.W.Frag) (mg:Str->Option Value) (c:CA):Prop where
 cl:qE K c.C
 nP:cX K c.C "paging"
 nT:cX K c.C "total"
 nR:cX K c.C "rooms"
 bl:∃aB,mg "BLANK" = some (.ref aB)/\bV K (λ_=>none) aB [.str "blank"]
 pc:∃u,mg "PAGE_CELLS" = some u/\RelV (.int 8) u
 len:mg "len" = none
 sum:mg "sum" = none
 zip:mg "zip" = none
noncomputable def Cv (s:Pg.PS) (W:dS) (cv:Int->Int->List Int):Prop:=∀t x,Tb.look W t=some x->∀q e,Tb.look x.t q=some e->Pg.xv s e (cv t q)
theorem gN {W:dS}{t q:Int}{x:TD}{e:Pg.Ent}(G:Tb.look W t=some x) (F:Tb.look x.t q=some e):e∈ents W :=
 List.mem_flatMap.mpr ⟨(t,x),Tb.ay G,List.mem_map.mpr ⟨(q,e),Tb.ay F,rfl⟩⟩
theorem Cv.next {s s':Pg.PS}{W W':dS}{cv:Int->Int->List Int}(h:Cv s W cv) (hs:Pg.bf (ents W') s s') (J:∀t F,Tb.look W' t=some F->∃x,Tb.look W t=some x/\∀q e,Tb.look F.t q=some e->Tb.look x.t q=some e):Cv s' W' cv:=by
 intro t F I q e G;obtain⟨x,h1,h2⟩:=J t F I;exact hs e (gN I G) _ (h t x h1 q e (h2 q e G))
theorem Cv.keep {s s':Pg.PS}{W:dS}{cv:Int->Int->List Int}(h:Cv s W cv) (hs:Pg.bf (ents W) s s'):Cv s' W cv:=h.next hs λt x F=>⟨x,F,λ_ _ e=>e⟩
theorem iu {W:dS}{t:Int}{x y:TD}(h:Tb.look W t=some x):Tb.look (Tb.aS W t y) t=some y:=by rw[Tb.bR t h,if_pos rfl]
theorem set_set {W:dS}{t:Int}{x y:TD}:Tb.aS (Tb.aS W t x) t y=Tb.aS W t y:=by
 unfold Tb.aS;rw[map_map];refine map_congr_left λz _=>?_;show(if (if z.1=t then(t,x)else z).1=t then(t,y)else(if z.1=t then(t,x)else z))=if z.1=t then(t,y)else z
 by_cases c:z.1=t
 .rw[if_pos c,if_pos rfl,if_pos c]
 .simp only[if_neg c]
theorem cI {W:dS}{t:Int}{x:TD}(G:(W.map (·.1)).Nodup) (h:Tb.look W t=some x):Tb.aS W t x=W:=by
 unfold Tb.aS
 conv=>rhs;rw[<-List.map_id W]
 refine map_congr_left λz F=>?_;show(if z.1=t then(t,x)else z)=z;by_cases c:z.1=t
 .have:=Tb.bZ G F;rw[c,h]at this;rw[if_pos c,Option.some.inj this, <-c]
 .rw[if_neg c]
theorem wa {W:dS}{t q:Int}{x y:TD}{e:Pg.Ent}(G:(W.map (·.1)).Nodup) (F:Tb.look W t=some x) (nx:(x.t.map (·.1)).Nodup) (I:Tb.look x.t q=some e) (J:y.t=Tb.a9 x.t q):(ents W).Perm (e::ents (Tb.aS W t y)):=by
 refine(iy G F).trans (((mO nx I).append_right _).trans ?_);rw[<-J];exact((gG G F).symm).cons e
theorem zc {W:dS}{t q:Int}{x y:TD}{e:Pg.Ent}(I:(W.map (·.1)).Nodup) (G:Tb.look W t=some x) (F:y.t=(q,e)::Tb.a9 x.t q):(ents (Tb.aS W t y)).Perm (e::(qD (Tb.a9 x.t q)++ents (Tb.a9 W t))):=by
 refine(gG I G).trans ?_;rw[F];exact List.Perm.refl _
theorem di.mem {c:CA}{H:Hp}{x:TD}(T:di c.T H x) {ns:List Int}(p:ns.Perm (Tb.fq x.tb)) (q:Int):q∈ns↔Tb.look x.t q≠none:=by
 rw[p.mem_iff,Tb.rY T.at_,T.lk];cases Tb.look x.t q<;>simp
theorem di.pg {c:CA}{H:Hp}{x:TD}(T:di c.T H x) {q:Int}(h:Tb.look x.t q≠none):0<=q/\q<64:=T.at_.u3 (by
 rw[T.lk];cases e:Tb.look x.t q with
 |none=>exact absurd e h
 |some _=>simp)
inductive dP (vs:List V) (H:Hp) (Q:VK) (e3:XK):Prop
 |mk (a:Addr) (W:dS) (t:Int) (x:TD) (_:vs=[.ref a,.int t]) (_:H a=some (.dK (Tb.dk fR W))) (_:Tb.look W t=some x) (_:Q (.ref x.p) H):dP vs H Q e3
inductive jA (vs:List V) (H:Hp) (Q:VK) (e3:XK):Prop
 |mk (a:Addr) (W:dS) (t:Int) (_:vs=[.ref a,.int t]) (_:H a=some (.dK (Tb.dk fR W))) (_:Tb.look W t=none) (_:Q .non H):jA vs H Q e3
inductive kX (vs:List V) (H:Hp) (Q:VK) (e3:XK):Prop
 |mk (h t:Int) (_:vs=[.int h,.int t]) (_:¬ t<h) (_:Q .non H):kX vs H Q e3
inductive eM (c:CA) (vs:List V) (H:Hp) (Q:VK) (e3:XK):Prop
 |mk (M:Addr->Prop) (a:RA) (s:Pg.PS) (W:dS) (cv:Int->Int->List Int) (t:Int) (x:TD) (lp:Addr) (ps:List Int) (_:vs=[.ref a.rp,.ref x.p,.ref lp]) (_:ax c H M a s W) (_:Pg.RI s (ents W)) (_:Cv s W cv) (_:Tb.look W t=some x) (_:H lp=some (.lst (ps.map V.int))) (_:¬ M lp) (_:ps.Nodup) (_:(∀q∈ps,Tb.look x.t q≠none)) (_:∀(H':Hp) (M':Addr->Prop) (s':Pg.PS) (y:TD),ax c H' M' a s' (Tb.aS W t y)->Pg.RI s' (ents (Tb.aS W t y))->Cv s' (Tb.aS W t y) cv->(∀q,Tb.look y.t q=if q∈ps then none else Tb.look x.t q)->Step H M (a.own W) H' M' (a.own (Tb.aS W t y))->(∀b,(s'.ow b).length=(s.ow b).length)->Q .non H'):eM c vs H Q e3
inductive uB (c:CA) (vs:List V) (H:Hp) (Q:VK) (e3:XK):Prop
 |mk (M:Addr->Prop) (a:RA) (s:Pg.PS) (W:dS) (cv:Int->Int->List Int) (t p m:Int) (x:TD) (_:vs=[.ref a.rp,.int t,.int p,.int m]) (_:ax c H M a s W) (_:Pg.RI s (ents W)) (_:Cv s W cv) (_:Tb.look W t=some x) (_:¬ Rm.cy p m) (_:(∀q∈Rm.aO p m,Tb.look x.t q≠none)) (_:∀(H':Hp) (M':Addr->Prop) (s':Pg.PS) (y:TD),ax c H' M' a s' (Tb.aS W t y)->Pg.RI s' (ents (Tb.aS W t y))->Cv s' (Tb.aS W t y) cv->(∀q,Tb.look y.t q=if q∈Rm.aO p m then none else Tb.look x.t q)->Step H M (a.own W) H' M' (a.own (Tb.aS W t y))->(∀b,(s'.ow b).length=(s.ow b).length)->Q .non H'):uB c vs H Q e3
inductive mq (c:CA) (vs:List V) (H:Hp) (Q:VK) (e3:XK):Prop
 |mk (M:Addr->Prop) (a:RA) (s:Pg.PS) (W:dS) (cv:Int->Int->List Int) (t:Int) (x:TD) (_:vs=[.ref a.rp,.int t]) (_:ax c H M a s W) (_:Pg.RI s (ents W)) (_:Cv s W cv) (_:Tb.look W t=some x) (_:∀(H':Hp) (M':Addr->Prop) (s':Pg.PS),ax c H' M' a s' (Tb.a9 W t)->Pg.RI s' (ents (Tb.a9 W t))->Cv s' (Tb.a9 W t) cv->Step H M (a.own W) H' M' (a.own (Tb.a9 W t))->(∀b,(s'.ow b).length=(s.ow b).length)->Q .non H'):mq c vs H Q e3
inductive mM (c:CA) (vs:List V) (H:Hp) (Q:VK) (e3:XK):Prop
 |mk (M:Addr->Prop) (a:RA) (s:Pg.PS) (W:dS) (t:Int) (_:vs=[.ref a.rp,.int t]) (_:ax c H M a s W) (_:Tb.look W t=none) (_:W.length<=1000) (_:∀(H':Hp) (M':Addr->Prop) (y:TD),y.t=[]->ax c H' M' a s (W++[(t,y)])->Step H M (a.own W) H' M' (a.own (W++[(t,y)]))->Q .non H'):mM c vs H Q e3
section
variable {P:Program}{w:World}{K:PySem.W.Frag}{mg:Str->Option Value}{base:Heap}
theorem fj {α:Type}{f:α->V}{H:Hp}{a:Addr}{l:List (Int×α)}{t:Int}(h:H a=some (.dK (Tb.dk f l))):dh H a (.int t) ((Tb.look l t).map f):=by
 have q:=dh.k (k:=Sum.inl t) h;rw[Tb.cN]at q;exact q
theorem Hc:aA ["rooms","task"] ["rooms","task"] (ar qy):=L2.bD
theorem vV {f:Addr}{fd:FuncData}(F:cQ K "room_of" "room_of" qy f fd):bj P w K mg base aW 1 f fd ["rooms","task"] dP:=by
 refine F.ok Hc (λvs H Q E h=>?_) (λL A outer s H vs Q E G h=>?_)
 .obtain⟨a,W,t,x,rfl,_⟩:=h;rfl
 .obtain⟨a,W,t,x,rfl,I,J,k⟩:=h;refine⟨_,(ag (aR (iK (fG (bg G) (pv 1) (pv 0))) cU aF)
   (aj (aE (bw (bg G) (pv 0) (pv 1) (λ_ _=>rfl))))),?_⟩
  have hg:=fj (t:=t) I;rw[J]at hg;exact⟨_,rfl,_,rfl,a,_,rfl,hg,_,rfl,bu ⟨_,rfl,_,rfl,a,fR x,rfl,hg,k⟩⟩
theorem Gh:aA ["rooms","task"] ["rooms","task"] (ar qo):=L2.bD
theorem wA {f:Addr}{fd:FuncData}(F:cQ K "refuse_second_room" "refuse_second_room" qo f fd):bj P w K mg base aW 1 f fd ["rooms","task"] jA:=by
 refine F.ok Gh (λvs H Q E h=>?_) (λL A outer s H vs Q E G h=>?_)
 .obtain⟨a,W,t,rfl,_⟩:=h;rfl
 .obtain⟨a,W,t,rfl,I,J,k⟩:=h;refine⟨_,(aj (aR (iK (my (bg G) (pv 1) (pv 0))) cU aF)),?_⟩;have hg:=fj (t:=t) I;rw[J]at hg;exact⟨_,rfl,_,rfl,a,_,rfl,hg,_,rfl,bu k⟩
theorem FX:aA ["held","total"] ["held","total"] (ar sC):=L2.bD
theorem yO {f:Addr}{fd:FuncData}(F:cQ K "refuse_above" "refuse_above" sC f fd):bj P w K mg base aW 1 f fd ["held","total"] kX:=by
 refine F.ok FX (λvs H Q E h=>?_) (λJ A outer s H vs Q E I h=>?_)
 .obtain⟨h,t,rfl,_⟩:=h;rfl
 .obtain⟨h,t,rfl,G,k⟩:=h;refine⟨_,(aj (aR (aC gU (pv 0) (pv 1) (aG _)) cU aF)),?_⟩;refine⟨_,rfl,_,rfl,_,_,rfl,rfl,_,rfl,?_⟩;exact iD (λc=>absurd (of_decide_eq_true c) G) (λc=>k)
theorem Cc:aA ["self","table","pages","page","entry"] ["self","table","pages"] (ar pf):=L2.bD
theorem mS {f:Addr}{fd:FuncData}{c:CA}(F:cQ K "leave_pages" "Rooms.leave_pages" pf f fd) (T:oq K mg c) (TT:Tb.Txt K mg c.T) (TP:mQ K mg c.P) (GG:Md P w K mg base aW 3 c.T "get" (Tb.lu c.T)) (GK:Md P w K mg base aW 1 c.T "clear" (Tb.oW c.T)) (bY:Md P w K mg base aW 4 c.P "leave" (k5 c.P c.S)):bj P w K mg base aW 5 f fd ["self","table","pages"] (eM c):=by
 obtain⟨aB,mB,sB⟩:=T.bl;have rB:RelV (.ref aB) (.ref aB):=rfl;refine F.ok Cc (λvs H Q E h=>?_) (λb2 A outer s H vs Q E hr h=>?_)
 .obtain⟨M,a,s',W,cv,t,x,Y,ps,rfl,_⟩:=h;rfl
 .obtain⟨M,a,s',W,cv,t,x,Y,ps,rfl,R,ri,be,hx,a5,bv,bI,bm,q⟩:=h;refine⟨_,(aj (cY PassesOwn.never rfl (gj (pv 2)) (aZ (i:=3) Cc.nd rfl (Or.inl rfl)) (ag (aL (i:=4) Cc.nd rfl (Or.inl rfl) (pm (pv 1) TT.cl GG hr aw (aa (pv 3) ai)))
   (ag (aM (pm (pv 1) TT.cl GK hr aw (aa (pv 3) ai)))
   (aj (aR (aC (pC hr.gH) (pv 4) (cj (by rfl) mB rB) (aG _)) (aj (aM (pm (aK (pv 0) rfl) TP.cl bY hr aw (aa (aX a8 (pv 4) ak (λ_ _=>rfl)) ai)))) aF)))))),?_⟩
  have b0:¬ a.own W Y:=λz=>bv (R.dH Y z);refine⟨_,rfl,Y,rfl,⟨_,bE.of a5⟩,?_⟩;refine eV (K:=K) (a:=Y) (xs:=ps.map V.int) (λi σ H2=>zX λ(v3 v4:Option V) (M2:Addr->Prop) (G:Pg.PS) (y:TD)=>FA (σ=[some (.ref a.rp),some (.ref y.p),some (.ref Y),v3,v4]) (ax c H2 M2 a G (Tb.aS W t y)) (Pg.RI G (ents (Tb.aS W t y))) (Cv G (Tb.aS W t y) cv) ((∀q,Tb.look y.t q=if q∈ps.take i then none else Tb.look x.t q)) (Step H M (a.own W) H2 M2 (a.own (Tb.aS W t y))) (∀b,(G.ow b).length=(s'.ow b).length))
   ⟨_,_,M,s',x,rfl,by rw[cI R.nd hx];exact R,by rw[cI R.nd hx];exact ri,by rw[cI R.nd hx];exact be,λq=>by simp,by rw[cI R.nd hx];exact R.refl,λ_=>rfl⟩ (λi σ H2 _ z0=>by obtain⟨_,_,_,_,_,_,_,_,_,_,st,_⟩:=z0;exact bE.of (st.off _ _ a5 b0)) ?_ ?_
  .rintro i u σ H2 hu ⟨v3,v4,M2,G,y,rfl,R2,as,am,ac,aT,ap⟩;rw[getElem?_map]at hu;obtain⟨p,hp,rfl⟩:=Option.map_eq_some_iff.mp hu;have a7:=mem_of_getElem? hp;obtain⟨hi,b1⟩:=List.getElem?_eq_some_iff.mp hp;have bJ:¬ p∈ps.take i:=λz=>by
    obtain⟨j,hj,e⟩:=getElem_of_mem z;rw[getElem_take]at e;rw[length_take]at hj;exact nZ bI j i (getElem?_eq_getElem af) hp af e
   have ad:=iu (y:=y) hx;obtain⟨e,he⟩:∃e,Tb.look y.t p=some e:=by
    rw[ac p,if_neg bJ];cases z:Tb.look x.t p with
    |none=>exact absurd z (bm p a7)
    |some e=>exact⟨e,rfl⟩
   have T2:=R2.tb _ (Tb.ay ad);obtain⟨bd,ht⟩:=T2.at_.ob;refine⟨_,rfl,y.p,bd,_,rfl,ht,Tb.aY _ ao,_,rfl,y.p,y.fs,y.tb,p,rfl,T2.at_,λH3 v s3 U=>?_⟩;rw[T2.lk,he]at U;obtain⟨tt,rfl,a2⟩:=U;have R3:=R2.same s3;have T3:=R3.tb _ (Tb.ay ad);obtain⟨bb,a6⟩:=T3.at_.ob;refine⟨_,rfl,y.p,bb,_,rfl,a6,Tb.aY _ ao,_,rfl,y.p,y.fs,y.tb,p,rfl,T3.at_,λH4 O T4 l4 _ o4 n4=>?_⟩;have bi:di c.T H4 ⟨y.p,y.fs,O,Tb.a9 y.t p⟩:=⟨T4,Tb.lY T3.nd,λj=>by
    rw[l4 j,Tb.cw];by_cases z:j=p
    .rw[if_pos z,if_pos z];rfl
    .rw[if_neg z,if_neg z];exact T3.lk j⟩
   have I:=R3.sI (y:=⟨y.p,y.fs,O,Tb.a9 y.t p⟩) ad rfl bi o4 n4;have S4:=aT.trans ((R2.iE s3).trans (R3.oN (y:=⟨y.p,y.fs,O,Tb.a9 y.t p⟩) ad o4 n4));have pe:=wa (y:=⟨y.p,y.fs,O,Tb.a9 y.t p⟩) R2.nd ad T2.nd he rfl;rw[set_set]at I S4 pe;have ab:=as.perm pe;have a1:∀j,Tb.look (Tb.a9 y.t p) j=if j∈ps.take (i+1)then none else Tb.look x.t j:=λj=>by
    rw[Tb.cw,ac j,take_add_one,hp];by_cases z:j=p
    .rw[if_pos z,if_pos (by rw[z];simp)]
    .rw[if_neg z];by_cases N:j∈ps.take i
     .rw[if_pos N,if_pos (mem_append_left _ N)]
     .rw[if_neg N,if_neg (by simp[z,N])]
   have a4:∀t' x',Tb.look (Tb.aS W t ⟨y.p,y.fs,O,Tb.a9 y.t p⟩) t'=some x'->∃a3,Tb.look (Tb.aS W t y) t'=some a3/\∀q e,Tb.look x'.t q=some e->Tb.look a3.t q=some e:=by
    intro t' x' h';rw[Tb.bR t' hx]at h' ⊢;by_cases z:t'=t
    .rw[if_pos z]at h' ⊢;cases h';refine⟨y,rfl,λq e J=>?_⟩;have J:Tb.look (Tb.a9 y.t p) q=some e:=J;rw[Tb.cw]at J;by_cases N:q=p
     .rw[if_pos N]at J;cases J
     .rw[if_neg N]at J;exact J
    .rw[if_neg z]at h' ⊢;exact⟨x',h',λ_ _ h=>h⟩
   have bn:¬ y.eD tt:=λz=>by
    obtain⟨_,h⟩:=T3.at_.dK z;rw[a2]at h;cases h
   have a0:=o4 _ _ a2 bn;refine⟨_,rfl,tt,aB,_,_,rfl,rfl,bV.of a0,iA.sq (.inr sB),?_⟩;cases e with
   |none =>
    refine⟨rfl,rfl,_,rfl,bu ?_⟩;exact⟨_,_,_,G,⟨y.p,y.fs,O,Tb.a9 y.t p⟩,rfl,I,ab.bare,am.next Pg.bf.refl a4,a1,S4,ap⟩
   |some k =>
    refine⟨rfl,rfl,_,rfl,dU ?_⟩;obtain⟨bx,ba⟩:=I.ob;obtain⟨bz,bc⟩:=I.pg.ob;obtain⟨cs,cc,U⟩:=ab.is k mem_cons_self;refine⟨_,rfl,a.rp,c.C,bx,_,_,rfl,ba,T.cl,T.nP,kq _ _ _,a.A.pg,bz,_,rfl,bc,cG _ _ ao ao ao ao ao,_,rfl,tt,_,1,_,rfl,rfl,bV.of a0,rfl,_,a.A,G,k,cs,cc,rfl,I.pg,I.ok,I.mt,ab.good,U,λH5 s5 le G5 O5=>?_⟩;have L:=Pg.vt ab.good U le;exact⟨_,_,_,s5,⟨y.p,y.fs,O,Tb.a9 y.t p⟩,rfl,I.j6 G5 O5 L.ln,ab.leave U le,am.next (ab.ue U le) a4,a1,S4.trans (I.DK G5 O5),λb=>(L.ln b).trans (ap b)⟩
  .rintro σ H2 ⟨v3,v4,M2,G,y,rfl,R2,as,am,ac,aT,ap⟩;rw[length_map,take_length]at ac;exact q H2 M2 G y R2 as am ac aT ap
theorem El:aA ["self","task","page","many","table"] ["self","task","page","many"] (ar uR):=L2.bD
theorem Ab {f:Addr}{fd:FuncData}{c:CA}(F:cQ K "drop" "Rooms.drop" uR f fd) (T:oq K mg c) (TT:Tb.Txt K mg c.T) (GR:Df P w K mg base aW 1 "room_of" dP) (GD:Df P w K mg base aW 2 "pages_to_drop" Rm.lG) (a3:Md P w K mg base aW 1 c.T "pages" (Tb.eJ c.T)) (aB:Md P w K mg base aW 5 c.C "leave_pages" (eM c)):bj P w K mg base aW 6 f fd ["self","task","page","many"] (uB c):=by
 refine F.ok El (λvs H Q E h=>?_) (λa6 A outer s H vs Q E I h=>?_)
 .obtain⟨M,a,s',W,cv,t,p,m,x,rfl,_⟩:=h;rfl
 .obtain⟨M,a,s',W,cv,t,p,m,x,rfl,R,ri,am,J,G,U,q⟩:=h;obtain⟨dx,O⟩:=R.ob;have L:=R.tb _ (Tb.ay J);obtain⟨ac,ht⟩:=L.at_.ob;have b1:¬ m<1:=λz=>G (.inl z);have b2:¬ p<0:=λz=>G (.inr (.inl z));have b3:¬ 64<p+m:=λz=>G (.inr (.inr z));refine⟨_,(ag (aL (i:=4) El.nd rfl (Or.inl rfl) (pc GR I aw (aa (aK (pv 0) rfl) (aa (pv 1) ai))))
   (aj (aM (pm (pv 0) T.cl aB I aw (aa (pv 4) (aa (pc GD I aw (aa (uo (pv 4) TT.cl a3 I aw) (aa (pv 2) (aa (pv 3) ai)))) ai)))))),?_⟩
  refine⟨_,rfl,a.rp,c.C,dx,_,_,rfl,O,T.cl,T.nR,fg _ _ _,_,rfl,a.rd,W,t,x,rfl,R.hd,J,?_⟩;refine⟨_,rfl,a.rp,dx,_,rfl,O,gr _ _ _ ao ao ao,_,rfl,_,rfl,x.p,ac,_,rfl,ht,Tb.aY _ ao,x.p,x.fs,x.tb,rfl,L.at_,λH1 l1 ns N a4 ad pm a5=>?_⟩;refine⟨_,rfl,_,rfl,l1,ns,p,m,rfl,ad,G,λq hq=>(L.mem pm q).mpr (U q hq),λH2 l2 s2 a2 as=>?_⟩
  .have S:=N.trans s2;refine⟨M,a,s',W,cv,t,x,l2,Rm.aO p m,rfl,R.same S,ri,am,J,as,λz=>R.mt _ z (N.free a2),?_,U,λH3 M3 s3 y R3 a0 aT Y ab a1=>q H3 M3 s3 y R3 a0 aT Y ((R.iE S).trans ab) a1⟩;unfold Rm.aO;refine List.pairwise_map.mpr (List.nodup_range.imp ?_);intro i j ap e;exact ap af
theorem Ff:aA ["self","task","table"] ["self","task"] (ar pB):=L2.bD
theorem wH {f:Addr}{fd:FuncData}{c:CA}(F:cQ K "close" "Rooms.close" pB f fd) (T:oq K mg c) (TT:Tb.Txt K mg c.T) (GR:Df P w K mg base aW 1 "room_of" dP) (a3:Md P w K mg base aW 1 c.T "pages" (Tb.eJ c.T)) (ap:Md P w K mg base aW 5 c.C "leave_pages" (eM c)):bj P w K mg base aW 6 f fd ["self","task"] (mq c):=by
 refine F.ok Ff (λvs H Q E h=>?_) (λa6 A outer s H vs Q E O h=>?_)
 .obtain⟨M,a,s',W,cv,t,x,rfl,_⟩:=h;rfl
 .obtain⟨M,a,s',W,cv,t,x,rfl,R,ri,ac,G,q⟩:=h;obtain⟨dx,ho⟩:=R.ob;have J:=R.tb _ (Tb.ay G);obtain⟨a4,ht⟩:=J.at_.ob;refine⟨_,(ag (aL (i:=2) Ff.nd rfl (Or.inl rfl) (pc GR O aw (aa (aK (pv 0) rfl) (aa (pv 1) ai))))
   (ag (aM (pm (pv 0) T.cl ap O aw (aa (pv 2) (aa (uo (pv 2) TT.cl a3 O aw) ai))))
   (aj (aM (eg (aK (pv 0) rfl) (pv 1) ⟨rfl,rfl,rfl,rfl⟩))))),?_⟩
  refine⟨_,rfl,a.rp,c.C,dx,_,_,rfl,ho,T.cl,T.nR,fg _ _ _,_,rfl,a.rd,W,t,x,rfl,R.hd,G,?_⟩;refine⟨_,rfl,a.rp,dx,_,rfl,ho,gr _ _ _ ao ao ao,_,rfl,_,rfl,x.p,a4,_,rfl,ht,Tb.aY _ ao,x.p,x.fs,x.tb,rfl,J.at_,λH1 l1 ns Y ad a5 pm a7=>?_⟩;refine⟨M,a,s',W,cv,t,x,l1,ns,rfl,R.same Y,ri,ac,G,a5,λz=>R.mt _ z ad,pm.nodup_iff.mpr (Tb.jg J.at_),λq hq=>(J.mem pm q).mp hq,λH3 M3 s3 y I aT aB ab am a0=>?_⟩;have a2:=iu (y:=y) G;have ey:y.t=[]:=by
   cases e:y.t with
   |nil=>rfl
   |cons z r =>
    exfalso;have h1:=ab z.1;rw[e,Tb.aN,if_pos rfl]at h1;by_cases U:z.1∈ns
    .rw[if_pos U]at h1;cases h1
    .rw[if_neg U]at h1;exact U ((J.mem pm z.1).mpr (by rw[<-h1];simp))
  obtain⟨as,a1⟩:=I.ob;refine⟨_,rfl,a.rp,c.C,as,_,_,rfl,a1,T.cl,T.nR,fg _ _ _,a.rd,rfl,.inl ⟨_,.inl I.hd⟩,_,rfl,_,Sum.inl t,fR y,I.hd,rfl,by rw[Tb.cN,a2];rfl,?_⟩;have R4:=I.Dw t;rw[Tb.eB];rw[Tb.vK]at R4 ⊢;have N:=gG (y:=y) R.nd G;rw[ey]at N;have N:(ents (Tb.aS W t y)).Perm (ents (Tb.a9 W t)):=N;refine q _ M3 s3 R4 (aT.perm N) (aB.next Pg.bf.refl λt' L h'=>?_) (((R.iE Y).trans am).trans ?_) a0
  .rw[Tb.cw]at h';by_cases z:t'=t
   .rw[if_pos z]at h';cases h'
   .rw[if_neg z]at h';exact⟨L,by rw[Tb.bR t' G,if_neg z];exact h',λ_ _ h=>h⟩
  .refine⟨Off.wr (.inr (.inl rfl)),λ_ h _=>h,λ_ h=>.inl h,λb z=>.inl ?_,I.mt,I.dH⟩;rcases z with z|z|⟨L,S,z⟩
   .exact .inl z
   .exact .inr (.inl z)
   .obtain⟨S,ne⟩:=Tb.bX S;refine .inr (.inr ⟨L,?_,z⟩);unfold Tb.aS;exact List.mem_map.mpr ⟨L,S,by rw[if_neg ne]⟩
theorem GZ:aA ["self","task"] ["self","task"] (ar qx):=L2.bD
theorem wm {f U:Addr}{fd dI:FuncData}{c:CA}(F:cQ K "begin" "Rooms.begin" qx f fd) (T:oq K mg c) (MK:Mk K c.T U) (ap:mg "Table" = some (.ref c.T)) (GS:Df P w K mg base aW 1 "refuse_second_room" jA) (GI:bj P w K mg base aW 1 U dI ["self"] (Tb.gM c.T)) (bI:Binds K dI ["self"] []):bj P w K mg base aW 3 f fd ["self","task"] (mM c):=by
 refine F.ok GZ (λvs H Q E h=>?_) (λas A outer s H vs Q E J h=>?_)
 .obtain⟨M,a,s',W,t,rfl,_⟩:=h;rfl
 .obtain⟨M,a,s',W,t,rfl,R,S,hl,q⟩:=h;obtain⟨dx,ho⟩:=R.ob;have hs:sizeLine=16777216:=sizeLine_eq;refine⟨_,(ag (aM (pc GS J aw (aa (aK (pv 0) rfl) (aa (pv 1) ai))))
   (aj (jD (bg J) (aK (pv 0) rfl) (pv 1) (rA MK GI (J.mono av) (by rfl) ap bI .nil aw) rfl))),?_⟩
  refine⟨_,rfl,a.rp,c.C,dx,_,_,rfl,ho,T.cl,T.nR,fg _ _ _,_,rfl,a.rd,W,t,rfl,R.hd,S,?_⟩;refine λp ac np ab aB=>⟨p,ac,rfl,ae,λfs H1 Y T1 off=>⟨rfl,?_⟩⟩;have L:bf H H1:=λb u e=>off b u (by rw[ah (aq e np),ah (aq e ab)];exact e) (aq e np);have I:H fs=none:=by
   cases e:H fs with
   |none=>rfl
   |some u=>rw[ah (aq e np),ah (aq e ab),e]at Y;cases Y
  have N:=R.AR (H':=H1) (B:=λ_=>False) (M':=λb=>M b\/b=fs) (λb o e _=>L b o e) (λb z=>z.elim) (λb z=>z.elim) (λb z=>z.elim .inl λz=>.inr (by rw[z];exact I)) (λb z _=>.inl z) (λb z e=>z.elim (λz=>(R.same L).mt b z e) λz=>by rw[z,T1.hf]at e;cases e)
  .obtain⟨ad,am⟩:=N.ob;refine⟨_,rfl,a.rp,c.C,ad,_,_,rfl,am,T.cl,T.nR,fg _ _ _,_,rfl,a.rd,_,rfl,eO.k (k:=Sum.inl t) N.hd (by rw[Tb.cu];omega),?_⟩;rw[show(V.ref p)=fR ⟨p,fs,[],[]⟩from rfl,Tb.cA S];have TI:di c.T H1 ⟨p,fs,[],[]⟩:=⟨T1,nodup_nil,λq=>rfl⟩;have O:∀b,(TD.mk p fs [] []).eD b->b=fs:=λb z=>by
    rcases z with z|⟨_,hx,_⟩
    .exact z
    .cases hx
   have R2:=N.xW S TI (λb z=>⟨.inr (O b z),λy=>?_⟩) (λy=>?_)
   .refine q _ _ ⟨p,fs,[],[]⟩ rfl R2 ⟨?_,λb z _=>.inl z,λb z=>z.elim .inl λz=>.inr (by rw[z];exact I),λb z=>?_,R.mt,R.dH⟩
    .intro b o e z;rw[ah (λy=>z (.inr (.inl y)))];exact L _ _ e
    .rcases z with z|z|⟨x',G,z⟩
     .exact .inl (.inl z)
     .exact .inl (.inr (.inl z))
     .rcases List.mem_append.mp G with G|G
      .exact .inl (.inr (.inr ⟨x',G,z⟩))
      .rw[List.mem_singleton.mp G]at z;rw[O b z];exact .inr I
   .rw[O b z]at y;exact R.mt _ (R.dH _ y) I
   .exact R.mt _ (R.ok.own _ y) np
end
theorem tK:bootBuiltins "sum" = some (.builtin "sum"):=ao
inductive hU (c:CA) (vs:List V) (H:Hp) (Q:VK) (e3:XK):Prop
 |mk (M:Addr->Prop) (a:RA) (s:Pg.PS) (W:dS) (tt:Addr) (e:Pg.Ent) (cs:List Int) (_:vs=[.ref a.rp,.ref tt]) (_:ax c H M a s W) (_:Pg.Good s) (_:H tt=some (.tup (wg e))) (_:Pg.xv s e cs) (_:∀(H':Hp) (l:Addr),bf H H'->H l=none->H' l=some (.lst (cs.map V.int))->Q (.ref l) H'):hU c vs H Q e3
inductive gJ (c:CA) (vs:List V) (H:Hp) (Q:VK) (e3:XK):Prop
 |mk (M:Addr->Prop) (a:RA) (s:Pg.PS) (W:dS) (tt ca:Addr) (e:Pg.Ent) (r:List Pg.Ent) (cs:List Int) (_:vs=[.ref a.rp,.ref tt,.ref ca]) (_:ax c H M a s W) (_:Pg.RI s (e::r)) (_:H tt=some (.tup (wg e))) (_:H ca=some (.lst (cs.map V.int))) (_:¬ M ca) (_:cs.length=8) (_:∀(H':Hp) (s':Pg.PS) (k:Int),ax c H' M a s' W->Pg.RI s' (some k::r)->¬ some k∈r->Pg.bf r s s'->Pg.xv s' (some k) cs->Step H M (a.own W) H' M (a.own W)->(∀b,(s'.ow b).length=(s.ow b).length)->Q (.int k) H'):gJ c vs H Q e3
noncomputable def heldW (W:dS):Int:=(W.map λx=>(x.2.t.length:Int)).sum
theorem mC:∀W:dS,heldW W=((ents W).length:Int)
 | []=>rfl
 |x::W=>by
  have F:=mC W;unfold heldW at F ⊢;rw[map_cons,sum_cons,F];show _=(((qD x.2.t++ents W).length:Nat):Int);rw[length_append];unfold qD;rw[length_map];omega
inductive kI (c:CA) (vs:List V) (H:Hp) (Q:VK) (e3:XK):Prop
 |mk (M:Addr->Prop) (a:RA) (s:Pg.PS) (W:dS) (_:vs=[.ref a.rp]) (_:ax c H M a s W) (_:W.length<=1000) (_:∀H',bf H H'->Q (.int (ents W).length) H'):kI c vs H Q e3
noncomputable def HU (s:Pg.PS) (H:Hp) (v:V):Option Pg.Ent->Prop
 |none=>v=.non
 |some none=>∃t,v=.ref t/\H t=some (.tup [.str "blank"])
 |some (some k)=>∃t b n,v=.ref t/\s.pl k=some (b,n)/\H t=some (.tup (gI b n))
inductive lX (c:CA) (vs:List V) (H:Hp) (Q:VK) (e3:XK):Prop
 |mk (M:Addr->Prop) (a:RA) (s:Pg.PS) (W:dS) (t q:Int) (x:TD) (_:vs=[.ref a.rp,.int t,.int q]) (_:ax c H M a s W) (_:Pg.RI s (ents W)) (_:Tb.look W t=some x) (_:∀H' v,bf H H'->HU s H' v (Tb.look x.t q)->Q v H'):lX c vs H Q e3
noncomputable def jv (cv:Int->Int->List Int) (t:Int) (ps:List Int):Int->Int->List Int:=λt' q=>if t'=t/\q∈ps then replicate 8 0 else cv t' q
inductive uK (c:CA) (vs:List V) (H:Hp) (Q:VK) (e3:XK):Prop
 |mk (M:Addr->Prop) (a:RA) (s:Pg.PS) (W:dS) (cv:Int->Int->List Int) (t p m:Int) (x:TD) (_:vs=[.ref a.rp,.int t,.int p,.int m]) (_:ax c H M a s W) (_:Pg.RI s (ents W)) (_:Cv s W cv) (_:W.length<=1000) (_:Tb.look W t=some x) (_:¬ Rm.cy p m) (_:(∀q∈Rm.aO p m,Tb.look x.t q=none)) (_:(ents W).length+m<=bO s) (_:∀(H':Hp) (M':Addr->Prop) (y:TD),ax c H' M' a s (Tb.aS W t y)->Pg.RI s (ents (Tb.aS W t y))->Cv s (Tb.aS W t y) (jv cv t (Rm.aO p m))->(∀q,Tb.look y.t q=if q∈Rm.aO p m then some none else Tb.look x.t q)->Step H M (a.own W) H' M' (a.own (Tb.aS W t y))->Q .non H'):uK c vs H Q e3
theorem di.len {c:CA}{H:Hp}{x:TD}(T:di c.T H x) {ns:List Int}(p:ns.Perm (Tb.fq x.tb)):ns.length=x.t.length:=by
 have h:ns.Perm (x.t.map (·.1)):=by
  rw[List.perm_ext_iff_of_nodup (p.nodup_iff.mpr (Tb.jg T.at_)) T.nd];intro q;rw[T.mem p q];constructor
  .intro h;cases e:Tb.look x.t q with
   |none=>exact absurd e h
   |some v=>exact List.mem_map.mpr ⟨_,Tb.ay e,rfl⟩
  .intro h e;exact Tb.cn e h
 rw[h.length_eq,length_map]
theorem tY {p m:Int}(h:¬ Rm.cy p m):((Rm.aO p m).length:Int)=m:=by
 have:¬ m<1:=λz=>h (.inl z);unfold Rm.aO;rw[length_map,length_range];omega
theorem nj (p m:Int):(Rm.aO p m).Nodup:=by
 unfold Rm.aO;refine List.pairwise_map.mpr (List.nodup_range.imp ?_);intro i j F e;exact F af
theorem wy {cv:Int->Int->List Int}{t:Int}:jv cv t []=cv:=by
 funext t' q;unfold jv;rw[if_neg (by simp)]
theorem qL {cv:Int->Int->List Int}{t t' q p:Int}{l:List Int}(h:¬ (t'=t/\q=p)):jv cv t (l++[p]) t' q=jv cv t l t' q:=by
 unfold jv;by_cases z:t'=t/\q∈l
 .rw[if_pos z,if_pos ⟨z.1,mem_append_left _ z.2⟩]
 .rw[if_neg z,if_neg (λy=>by
   rcases List.mem_append.mp y.2 with w|w
   .exact z ⟨y.1,w⟩
   .exact h ⟨y.1,List.mem_singleton.mp w⟩)]
section
variable {P:Program}{w:World}{K:PySem.W.Frag}{mg:Str->Option Value}{base:Heap}
theorem FK:aA ["self","entry"] ["self","entry"] (ar pG):=L2.bD
theorem t7 {f:Addr}{fd:FuncData}{c:CA}(F:cQ K "cells_of" "Rooms.cells_of" pG f fd) (T:oq K mg c) (TP:mQ K mg c.P) (FJ:Md P w K mg base aW 4 c.P "cells" (ma c.P c.S)):bj P w K mg base aW 5 f fd ["self","entry"] (hU c):=by
 obtain⟨I,mB,sB⟩:=T.bl;obtain⟨u8,m8,r8⟩:=T.pc;have rB:RelV (.ref I) (.ref I):=rfl;refine F.ok FK (λvs H Q E h=>?_) (λad A outer s H vs Q E J h=>?_)
 .obtain⟨M,a,s',W,tt,e,cs,rfl,_⟩:=h;rfl
 .obtain⟨M,a,s',W,tt,e,cs,rfl,R,gd,Y,G,q⟩:=h;have hs:sizeLine=16777216:=sizeLine_eq;refine⟨_,(ag (aR (aC (uu J.gH) (pv 1) (cj (by rfl) mB rB) (aG _)) (aj (aE (az lS (ck (aa ak ai)) (cj (by rfl) m8 r8)))) aF)
   (aj (aE (pm (aK (pv 0) rfl) TP.cl FJ J aw (aa (aX a8 (pv 1) ak (λ_ _=>rfl)) ai))))),?_⟩
  refine⟨_,rfl,tt,I,_,_,rfl,rfl,bV.of Y,iA.sq (.inr sB),?_⟩;cases e with
  |none =>
   refine⟨rfl,rfl,_,rfl,dU ?_⟩;refine⟨av,λl1 ac=>?_⟩;refine⟨l1,8,_,rfl,rfl,ae,af,af,by rw[length_singleton];omega,λl2 L=>?_⟩;have N:=Tb.au (X:=.lst [V.int 0]) ac;have s2:=Tb.au (X:=.lst ((replicate (8:Int).toNat [V.int 0]).flatten)) L;have G:cs=replicate 8 0:=G;refine q _ l2 (N.trans s2) (N.free L) ?_;rw[ae,G];rfl
  |some k =>
   refine⟨rfl,rfl,_,rfl,bu ?_⟩;obtain⟨cc,O⟩:=G;obtain⟨dx,ho⟩:=R.ob;obtain⟨ab,h2⟩:=R.pg.ob;refine⟨_,rfl,a.rp,c.C,dx,_,_,rfl,ho,T.cl,T.nP,kq _ _ _,a.A.pg,ab,_,rfl,h2,cG _ _ ao ao ao ao ao,_,rfl,tt,_,1,_,rfl,rfl,bV.of Y,rfl,M,a.A,s',k,cs,cc,rfl,R.pg,O,?_,λl U=>q _ l (Tb.au U) U ae⟩;have:=(gd.vw O).1;omega
theorem rX {s:Pg.PS}{e:Pg.Ent}{r:List Pg.Ent}(F:Pg.RI s (e::r)) {G:List Pg.Ent}(h:∀{x},x∈G->x=e\/x∈r):¬ some (s.ls+1)∈G:=λm=>by
 obtain⟨_,_,_,_,h1,_⟩:=F.is (s.ls+1) ((h m).elim (λq=>by rw[q];exact mem_cons_self) (mem_cons_of_mem _));have:=(F.good.rg _ _ h1).2;omega
theorem xU {s:Pg.PS}{k:Int}{r:List Pg.Ent}{cs:List Int}(G:Pg.RI s (some k::r)) (F:Pg.Vw s k cs 1):¬ some k∈r:=λm=>by
 have h:=G.ct k cs 1 F;rw[count_cons_self]at h;have:=List.count_pos_iff.mpr m;omega
theorem Ge:aA ["self","entry","cells"] ["self","entry","cells"] (ar qu):=L2.bD
theorem pQ {f:Addr}{fd:FuncData}{c:CA}(F:cQ K "sheet_with" "Rooms.sheet_with" qu f fd) (T:oq K mg c) (TP:mQ K mg c.P) (a0:Md P w K mg base aW 7 c.P "new_sheet" (gn K c.P c.S)) (aT:Md P w K mg base aW 8 c.P "change" (lh c.P c.S)):bj P w K mg base aW 9 f fd ["self","entry","cells"] (gJ c):=by
 obtain⟨aB,mB,sB⟩:=T.bl;have rB:RelV (.ref aB) (.ref aB):=rfl;refine F.ok Ge (λvs H Q E h=>?_) (λba A outer s H vs Q E Y h=>?_)
 .obtain⟨M,a,s',W,tt,U,e,r,cs,rfl,_⟩:=h;rfl
 .obtain⟨M,a,s',W,tt,U,e,r,cs,rfl,R,G,ht,ad,as,L,q⟩:=h;have ac:¬ a.A.own U:=λz=>as (R.ok.own _ z);obtain⟨dx,ho⟩:=R.ob;obtain⟨ab,h2⟩:=R.pg.ob;refine⟨_,(ag (aR (aC (uu Y.gH) (pv 1) (cj (by rfl) mB rB) (aG _)) (aj (aE (pm (aK (pv 0) rfl) TP.cl a0 Y aw (aa (pv 2) ai)))) aF)
   (aj (aE (pm (aK (pv 0) rfl) TP.cl aT Y aw (aa (aX a8 (pv 1) ak (λ_ _=>rfl)) (aa (pv 2) ai)))))),?_⟩
  refine⟨_,rfl,tt,aB,_,_,rfl,rfl,bV.of ht,iA.sq (.inr sB),?_⟩;cases e with
  |none =>
   refine⟨rfl,rfl,_,rfl,dU ?_⟩;refine⟨_,rfl,a.rp,c.C,dx,_,_,rfl,ho,T.cl,T.nP,kq _ _ _,a.A.pg,ab,_,rfl,h2,cG _ _ ao ao ao ao ao,_,rfl,M,a.A,s',U,cs,rfl,R.FH G,G.room,bE.of ad,λe=>ac (by rw[e];exact PA.fB 0 rfl),L,λH1 s1 N J I=>?_⟩;have B:=Pg.jO G.good G.l0 L N;exact q H1 s1 _ (R.j6 J I B.kept.ln) (G.fill L N) (rX G λh=>.inr h) (G.wV L N) ⟨1,B.vw⟩ (R.DK J I) B.kept.ln
  |some k =>
   refine⟨rfl,rfl,_,rfl,bu ?_⟩;obtain⟨ap,c0,O⟩:=G.is k mem_cons_self;refine⟨_,rfl,a.rp,c.C,dx,_,_,rfl,ho,T.cl,T.nP,kq _ _ _,a.A.pg,ab,_,rfl,h2,cG _ _ ao ao ao ao ao,_,rfl,tt,_,1,_,rfl,rfl,bV.of ht,rfl,_,rfl,M,a.A,s',k,U,ap,c0,cs,rfl,R.FH G,O,ad,ac,L,λz=>G.E9 O z,λz H1 s1 s2 N hl J I=>?_,λz H1 s1 m am hm J I=>?_⟩
   .obtain⟨a1,a2,a3,a4,a5,a6,a7⟩:=G.part O z L N hl;exact q H1 s2 _ (R.j6 J I a7) a1 (rX G λh=>.inr h) a2 a3 (R.DK J I) a7
   .subst z;obtain⟨a1,a2,a3⟩:=G.write O L am hm;have FF:=Pg.nN G.good am;exact q H1 _ k (R.j6 J I FF.kept.ln) a1 (xU G O) a2 a3 (R.DK J I) FF.kept.ln
theorem Gu:aA ["self"] ["self"] (ar um):=L2.bD
theorem zI {f:Addr}{fd:FuncData}{c:CA}(F:cQ K "held" "Rooms.held" um f fd) (T:oq K mg c) (TT:Tb.Txt K mg c.T) (aT:Md P w K mg base aW 1 c.T "pages" (Tb.eJ c.T)):bj P w K mg base aW 2 f fd ["self"] (kI c):=by
 refine F.ok Gu (λvs H Q E h=>?_) (λa2 A outer s H vs Q E hr h=>?_)
 .obtain⟨M,a,s',W,rfl,_⟩:=h;rfl
 .obtain⟨M,a,s',W,rfl,R,lw,k⟩:=h;have hs:sizeLine=16777216:=sizeLine_eq;obtain⟨dx,h1⟩:=R.ob;refine⟨_,(aj (aE (aV (mI rfl) (by rfl) T.sum tK (aa (vQ (gZ (cl:=[("self",s.heap.objs.size+1)]) (caps:=[("self",0)]) ⟨rfl,ao,ao,rfl,by kernel_rfl,by intro p L;simp only[mem_cons,not_mem_nil,or_false]at L;rcases L with rfl<;>first|rfl|exact⟨rfl,.inl rfl,.inl rfl⟩|exact⟨rfl,.inl rfl,.inr rfl⟩,by kernel_rfl,by intro p L;simp only[mem_cons,not_mem_nil,or_false]at L;rcases L with rfl<;>first|rfl|exact⟨rfl,.inl rfl,.inl rfl⟩|exact⟨rfl,.inl rfl,.inr rfl⟩,ao⟩ rfl (vc (aK (pv 0) rfl)) (λ_ _ _ _=>gk) (λ_ _ _ _=>(aV (show dr _ _ (vf K)from xa) (by rfl) T.len boot_len (aa (uo (bw (bg hr) (show PE _ _ (Bl K _ "rooms")from aK (pv 1) rfl) (pv 0) (λ_ _=>rfl)) TT.cl aT hr aw) ai))))) ai)))),?_⟩;have Y:∀(o:Obj) u',H a.rd≠some (.frz o u'):=λo u' z=>(by rw[R.hd]at z;cases z);refine⟨_,rfl,a.rp,c.C,dx,_,_,rfl,h1,T.cl,T.nR,fg _ _ _,a.rd,_,rfl,R.hd,Y,λo=>?_⟩;have am:a.rp≠a.rd:=λz=>(by rw[z,R.hd]at h1;cases h1);have N:Off (· = a.rd) H (upd H a.rd (.frz o (.dK (Tb.dk fR W)))):=Off.wr rfl;have S:(upd H a.rd (.frz o (.dK (Tb.dk fR W)))) a.rd=some (.frz o (.dK (Tb.dk fR W))):=ae;have as:=N _ _ h1 am;have ap:∀x∈W,di c.T (upd H a.rd (.frz o (.dK (Tb.dk fR W)))) x.2:=λx G=>by
   obtain⟨a0,h3⟩:=(R.tb x G).at_.ob;exact(R.tb x G).off N (λz=>by rw[z,R.hd]at h3;cases h3) (λb z=>(R.dm x G b z).2.2) (λb xs e z=>by rw[z,R.hd]at e;cases e)
  refine tE (a:=a.rd) (o:=o) (kvs:=Tb.dk fR W) (λi ys H2=>ys=((W.take i).map λx=>(x.2.t.length:Int)).map V.int/\bf (upd H a.rd (.frz o (.dK (Tb.dk fR W)))) H2) ⟨rfl,λ_ _ e=>e⟩ (λi zs H2 _ ⟨_,e⟩=>e _ _ S) ?_ ?_
  .rintro i kk v zs H2 hk ⟨rfl,I⟩;have ac:(W.map λx:Int×TD=>((Sum.inl x.1:Key),fR x.2))[i]?=some (kk,v):=hk;rw[getElem?_map]at ac;obtain⟨x,G,e⟩:=Option.map_eq_some_iff.mp ac;cases e;have hm:=mem_of_getElem? G;have hi:i<W.length:=(List.getElem?_eq_some_iff.mp G).1;have aB:Tb.look W x.1=some x.2:=Tb.bZ R.nd hm;have hg:dh H2 a.rd (.int x.1) (some (fR x.2)):=.inl ⟨Tb.dk fR W,Sum.inl x.1,.inr ⟨o,I _ _ S⟩,rfl,by rw[Tb.cN,aB];rfl⟩;have TX:=ap x hm;have T2:=TX.at_.same I;obtain⟨ad,ht⟩:=T2.ob;refine⟨_,rfl,a.rp,c.C,dx,_,_,rfl,I _ _ as,T.cl,T.nR,fg _ _ _,_,rfl,a.rd,fR x.2,rfl,hg,x.2.p,ad,_,rfl,ht,Tb.aY _ ao,x.2.p,x.2.fs,x.2.tb,rfl,T2,λH3 l ns s3 fl J pm a1=>?_⟩;refine⟨l,_,rfl,.inl (bE.of J),?_,?_,I.trans s3⟩
   .rw[length_map,length_map,length_take];omega
   .rw[length_map,TX.len pm,take_add_one,G,map_append,map_append];rfl
  .rintro zs H2 ⟨rfl,I⟩ l J;have ab:=I _ _ S;have U:l≠a.rd:=λz=>(by rw[z,ab]at J;cases J);refine⟨a.rd,o,Tb.dk fR W,by rw[ah (Ne.symm U)];exact ab,Y,l,(W.map λx=>(x.2.t.length:Int)),rfl,bE.of ?_,?_⟩
   .rw[ah U,ae,Tb.cu,take_length]
   .have e9:=mC W;unfold heldW at e9;rw[e9];refine k _ λb u e=>?_;by_cases z:b=a.rd
    .rw[z,ae, <-e,z,R.hd]
    .have O:H2 b=some u:=I _ _ (N _ _ e z);rw[ah z,ah (λy=>by rw[y,J]at O;cases O)];exact O
theorem EL:aA ["self","task","page","entry"] ["self","task","page"] (ar pO):=L2.bD
theorem w6 {f:Addr}{fd:FuncData}{c:CA}(F:cQ K "place" "Rooms.place" pO f fd) (T:oq K mg c) (TT:Tb.Txt K mg c.T) (TP:mQ K mg c.P) (GR:Df P w K mg base aW 1 "room_of" dP) (GG:Md P w K mg base aW 3 c.T "get" (Tb.lu c.T)) (zU:Md P w K mg base aW 1 c.P "place" (iz c.P c.S)):bj P w K mg base aW 4 f fd ["self","task","page"] (lX c):=by
 obtain⟨U,mB,sB⟩:=T.bl;have rB:RelV (.ref U) (.ref U):=rfl;refine F.ok EL (λvs H Q E h=>?_) (λas A outer s H vs Q E I h=>?_)
 .obtain⟨M,a,s',W,t,q,x,rfl,_⟩:=h;rfl
 .obtain⟨M,a,s',W,t,q,x,rfl,R,ri,hx,k⟩:=h;obtain⟨dx,ho⟩:=R.ob;have Y:=R.tb _ (Tb.ay hx);obtain⟨am,ht⟩:=Y.at_.ob;refine⟨_,(ag (aL (i:=3) EL.nd rfl (Or.inl rfl) (pm (pc GR I aw (aa (aK (pv 0) rfl) (aa (pv 1) ai))) TT.cl GG I aw (aa (pv 2) ai)))
   (ag (aR (PW.pt (fM (aC zG (pv 3) lK (aG _)) (fw (aC (uu I.gH) (pv 3) (cj (by rfl) mB rB) (aG _))))) (aj (aE (pv 3))) aF)
   (aj (aE (pm (aK (pv 0) rfl) TP.cl zU I aw (aa (aX a8 (pv 3) ak (λ_ _=>rfl)) ai)))))),?_⟩
  refine⟨_,rfl,a.rp,c.C,dx,_,_,rfl,ho,T.cl,T.nR,fg _ _ _,_,rfl,a.rd,W,t,x,rfl,R.hd,hx,?_⟩;refine⟨x.p,am,_,rfl,ht,Tb.aY _ ao,_,rfl,x.p,x.fs,x.tb,q,rfl,Y.at_,λH1 v J G=>?_⟩;rw[Y.lk]at G;cases N:Tb.look x.t q with
  |none =>
   rw[N]at G k;have G:v=.non:=G;subst G;exact⟨_,rfl,rfl,_,rfl,dU (dU ⟨_,rfl,k H1 _ J rfl⟩)⟩
  |some e =>
   rw[N]at G k;obtain⟨tt,rfl,L⟩:=G;have O:=R.same J;obtain⟨ab,ad⟩:=O.ob;obtain⟨ac,h2⟩:=O.pg.ob;refine⟨_,rfl,rfl,_,rfl,bu ?_⟩;refine⟨_,rfl,tt,U,_,_,rfl,rfl,bV.of L,iA.sq (.inr sB),?_⟩;cases e with
   |none=>exact⟨rfl,rfl,_,rfl,dU ⟨_,rfl,k H1 _ J ⟨tt,rfl,L⟩⟩⟩
   |some j =>
    refine⟨rfl,rfl,_,rfl,bu ?_⟩;obtain⟨cs,cc,b,n,hj,_,_⟩:=ri.is j (gN hx N);exact⟨_,rfl,a.rp,c.C,ab,_,_,rfl,ad,T.cl,T.nP,kq _ _ _,a.A.pg,ac,_,rfl,h2,cG _ _ ao ao ao ao ao,_,rfl,tt,_,1,_,rfl,rfl,bV.of L,rfl,M,a.A,s',j,b,n,rfl,O.pg,hj,λt' ap=>k H1 _ J ⟨t',b,n,rfl,hj,ap⟩⟩
theorem z7:aA ["self","task","page","many","table","pages","wanted"] ["self","task","page","many"] (ar yG):=L2.bD
theorem Ah {f:Addr}{fd:FuncData}{c:CA}(F:cQ K "map" "Rooms.map" yG f fd) (T:oq K mg c) (TT:Tb.Txt K mg c.T) (GR:Df P w K mg base aW 1 "room_of" dP) (GM:Df P w K mg base aW 2 "pages_to_map" Rm.pR) (GA:Df P w K mg base aW 1 "refuse_above" kX) (bY:Md P w K mg base aW 1 c.T "pages" (Tb.eJ c.T)) (GH:Md P w K mg base aW 2 c.C "held" (kI c)) (GL:Md P w K mg base aW 3 c.T "lay" (Tb.qR K c.T)):bj P w K mg base aW 4 f fd ["self","task","page","many"] (uK c):=by
 obtain⟨aB,mB,sB⟩:=T.bl;have rB:RelV (.ref aB) (.ref aB):=rfl;refine F.ok z7 (λvs H Q E h=>?_) (λb8 A outer s H vs Q E U h=>?_)
 .obtain⟨M,a,s',W,cv,t,p,m,x,rfl,_⟩:=h;rfl
 .obtain⟨M,a,s',W,cv,t,p,m,x,rfl,R,ri,bm,lw,I,O,a3,a5,q⟩:=h;obtain⟨dx,ho⟩:=R.ob;have TX:=R.tb _ (Tb.ay I);obtain⟨bd,ht⟩:=TX.at_.ob;have b1:¬ m<1:=λz=>O (.inl z);have b2:¬ p<0:=λz=>O (.inr (.inl z));have b3:¬ 64<p+m:=λz=>O (.inr (.inr z));have pl:=tY O;refine⟨_,(ag (aL (i:=4) z7.nd rfl (Or.inl rfl) (pc GR U aw (aa (aK (pv 0) rfl) (aa (pv 1) ai))))
   (ag (aL (i:=5) z7.nd rfl (Or.inl rfl) (pc GM U aw (aa (uo (pv 4) TT.cl bY U aw) (aa (pv 2) (aa (pv 3) ai)))))
   (ag (aM (pc GA U aw (aa (az bq (uo (pv 0) T.cl GH U aw) (aV bG (by rfl) T.len boot_len (aa (pv 5) ai))) (aa (aK (pv 0) rfl) ai))))
   (aj (cY PassesOwn.never rfl (gj (pv 5)) (aZ (i:=6) z7.nd rfl (Or.inl rfl)) (aj (aM (pm (pv 4) TT.cl GL U aw (aa (pv 6) (aa (cj (by rfl) mB rB) ai)))))))))),?_⟩
  refine⟨_,rfl,a.rp,c.C,dx,_,_,rfl,ho,T.cl,T.nR,fg _ _ _,_,rfl,a.rd,W,t,x,rfl,R.hd,I,?_⟩;refine⟨_,rfl,x.p,bd,_,rfl,ht,Tb.aY _ ao,x.p,x.fs,x.tb,rfl,TX.at_,λH1 l1 ns s1 b6 bi pm b7=>?_⟩;refine⟨_,rfl,_,rfl,l1,ns,p,m,rfl,bi,O,λz h1 h2=>absurd (a3 z h1) ((TX.mem pm z).mp h2),λH2 N s2 bI bv=>?_⟩;have S2:=s1.trans s2;have R2:=R.same S2;obtain⟨bx,bn⟩:=R2.ob;refine⟨_,rfl,a.rp,bx,_,rfl,bn,gr _ _ _ ao ao ao,M,a,s',W,rfl,R2,lw,λH3 s3=>?_⟩;have as:=s3 _ _ bv;have R3:=R2.same s3;obtain⟨a6,bJ⟩:=R3.ob;refine⟨_,rfl,N,_,rfl,.inl (bE.of as),_,_,rfl,rfl,_,rfl,a.rp,c.C,a6,_,_,rfl,bJ,T.cl,T.nT,EG _ _ _,_,_,rfl,?_,?_⟩
  .rw[length_map,pl];omega
  have S3:=S2.trans s3;have a4:¬ M N:=λz=>R.mt _ z (s1.free bI);have b4:¬ a.own W N:=λz=>a4 (R.dH N z);refine⟨_,rfl,N,rfl,⟨_,bE.of as⟩,?_⟩;refine eV (K:=K) (a:=N) (xs:=(Rm.aO p m).map V.int) (λi σ Y=>Eh λ(v6:Option V) (M4:Addr->Prop) (y:TD)=>FA (σ=[some (.ref a.rp),some (.int t),some (.int p),some (.int m),some (.ref y.p),some (.ref N),v6]) (ax c Y M4 a s' (Tb.aS W t y)) (Pg.RI s' (ents (Tb.aS W t y))) ((ents (Tb.aS W t y)).length=(ents W).length+i) (Cv s' (Tb.aS W t y) (jv cv t ((Rm.aO p m).take i))) ((∀q,Tb.look y.t q=if q∈(Rm.aO p m).take i then some none else Tb.look x.t q)) (Step H3 M (a.own W) Y M4 (a.own (Tb.aS W t y))))
   ⟨_,M,x,rfl,by rw[cI R.nd I];exact R3,by rw[cI R.nd I];exact ri,by rw[cI R.nd I];rfl,by rw[cI R.nd I,take_zero,wy];exact bm,λq=>by simp,by rw[cI R.nd I];exact R3.refl⟩ (λi σ Y _ z0=>by obtain⟨_,_,_,_,_,_,_,_,_,st⟩:=z0;exact bE.of (st.off _ _ as b4)) ?_ ?_
  .rintro i u σ Y hu ⟨v6,M4,y,rfl,R4,a1,aT,am,ab,a0⟩;rw[getElem?_map]at hu;obtain⟨G,hp,rfl⟩:=Option.map_eq_some_iff.mp hu;have a2:=mem_of_getElem? hp;obtain⟨hi,b5⟩:=List.getElem?_eq_some_iff.mp hp;have b0:¬ G∈(Rm.aO p m).take i:=λz=>by
    obtain⟨j,hj,e⟩:=getElem_of_mem z;rw[getElem_take]at e;rw[length_take]at hj;exact nZ (nj p m) j i (getElem?_eq_getElem af) hp af e
   have ap:=iu (y:=y) I;have T4:=R4.tb _ (Tb.ay ap);obtain⟨be,a7⟩:=T4.at_.ob;have ba:Tb.look y.t G=none:=(by rw[ab,if_neg b0];exact a3 G a2);obtain⟨r1,r2,_⟩:=Rm.xb O G a2;refine⟨_,rfl,y.p,be,_,rfl,a7,Tb.aY _ ao,_,rfl,y.p,y.fs,aB,y.tb,G,[.str "blank"],rfl,T4.at_,r1,r2,.inr sB,rfl,λH5 ac T5 l5 o5 n5=>?_⟩;have bc:di c.T H5 ⟨y.p,y.fs,ac,(G,none)::y.t⟩:=⟨T5,List.nodup_cons.mpr ⟨Tb.cn ba,T4.nd⟩,λj=>by
    rw[l5 j,Tb.aN];by_cases z:j=G
    .rw[if_pos z,if_pos z.symm];rfl
    .rw[if_neg z,if_neg (Ne.symm z)];exact T4.lk j⟩
   have R5:=R4.sI (y:=⟨y.p,y.fs,ac,(G,none)::y.t⟩) ap rfl bc o5 n5;have S5:=a0.trans (R4.oN (y:=⟨y.p,y.fs,ac,(G,none)::y.t⟩) ap o5 n5);have pe:(ents (Tb.aS W t ⟨y.p,y.fs,ac,(G,none)::y.t⟩)).Perm (none::ents (Tb.aS W t y)):=(gG R.nd I).trans ((gG (y:=y) R.nd I).symm.cons none);rw[set_set]at R5 S5;have bb:(ents (Tb.aS W t y)).length<(s'.ow true).length+(s'.ow false).length:=by
    rw[aT];unfold bO at a5;omega
   refine⟨_,_,⟨y.p,y.fs,ac,(G,none)::y.t⟩,rfl,R5,(a1.lay bb).perm pe.symm,by rw[pe.length_eq,length_cons,aT];omega,?_,?_,S5⟩
   .intro S bz ad q e L;rw[Tb.bR S I]at ad;rw[take_add_one,hp];by_cases z:S=t
    .rw[if_pos z]at ad;cases ad;have L:Tb.look ((G,none)::y.t) q=some e:=L;rw[Tb.aN]at L;by_cases J:G=q
     .rw[if_pos J]at L;cases L;show jv cv t _ S q=_;unfold jv;rw[if_pos ⟨z,by rw[<-J];simp⟩]
     .rw[if_neg J]at L;rw[show(some G).toList=[G]from rfl,qL (λh=>J h.2.symm)];exact am S y (by rw[z];exact ap) q e L
    .rw[if_neg z]at ad;rw[show(some G).toList=[G]from rfl,qL (λh=>z h.1)];exact am S bz (by rw[Tb.bR S I,if_neg z];exact ad) q e L
   .intro j;show Tb.look ((G,none)::y.t) j=_;rw[Tb.aN,ab j,take_add_one,hp];by_cases z:G=j
    .rw[if_pos z,if_pos (by rw[<-z];simp)]
    .rw[if_neg z];by_cases J:j∈(Rm.aO p m).take i
     .rw[if_pos J,if_pos (mem_append_left _ J)]
     .rw[if_neg J,if_neg (by simp[Ne.symm z,J])]
  .rintro σ Y ⟨v6,M4,y,rfl,R4,a1,aT,am,ab,a0⟩;rw[length_map,take_length]at am ab;exact q Y M4 y R4 a1 am ab ((R.iE S3).trans a0)
end
end St
namespace Rm
theorem jj {ad n:Int}{F:List Int}(h:¬ dq ad n F):(aI ad n).length<=64/\∀q∈aI ad n,q∈F:=by
 unfold aI;by_cases e:n=0
 .rw[if_pos e];exact⟨zero_le _,λ_ h=>nomatch h⟩
 .rw[if_neg e];have G:0<n:=by
   have:¬ n<0:=λz=>h (.inl z);omega
  have h1:¬ cy (jl ad) (iC ad n):=λz=>h (.inr ⟨G,.inl z⟩);have h2:∀q∈aO (jl ad) (iC ad n),q∈F:=Classical.byContradiction λz=>h (.inr ⟨G,.inr z⟩);refine⟨?_,h2⟩;unfold aO;rw[length_map,length_range];have J:¬ jl ad<0:=λz=>h1 (.inr (.inl z));have I:¬ 64<jl ad+iC ad n:=λz=>h1 (.inr (.inr z));omega
theorem vR {ad n:Int}{I G:List Int}(h:∀q,q∈I->q∈G) (F:dq ad n G):dq ad n I:=by
 rcases F with F|⟨h1,h2⟩
 .exact .inl F
 .refine .inr ⟨h1,h2.imp id λz y=>z λq J=>h q (y q J)⟩
end Rm
namespace St
open PySem L2
noncomputable def dw (f:Int->List Int) (ps:List Int):List Int:=(ps.map f).flatten
theorem eK {f:Int->List Int}{ps:List Int}{i:Nat}{q:Int}(h:ps[i]?=some q):dw f (ps.take (i+1))=dw f (ps.take i)++f q:=by
 unfold dw;rw[take_add_one,h,map_append,List.flatten_append];simp
theorem xv.len {s:Pg.PS}{e:Pg.Ent}{cs:List Int}(G:Pg.Good s) (h:Pg.xv s e cs):cs.length=8:=by
 cases e with
 |none=>rw[show cs=replicate 8 0 from h];simp
 |some k=>obtain⟨c,h⟩:=h;exact(G.vw h).2
inductive oj (c:CA) (vs:List V) (H:Hp) (Q:VK) (e3:XK):Prop
 |mk (M:Addr->Prop) (a:RA) (s:Pg.PS) (W:dS) (cv:Int->Int->List Int) (t ad:Int) (n:Nat) (x:TD) (_:vs=[.ref a.rp,.int t,.int ad,.int n]) (_:ax c H M a s W) (_:Pg.RI s (ents W)) (_:Cv s W cv) (_:Tb.look W t=some x) (_:n<=600) (_:0<=ad) (_:ad<=1000) (_:¬ Rm.dq ad n (x.t.map (·.1))) (_:∀(H':Hp) (M':Addr->Prop) (s':Pg.PS) (l:Addr),ax c H' M' a s' W->Pg.RI s' (ents W)->Cv s' W cv->Step H M (a.own W) H' M' (a.own W)->(∀b,(s'.ow b).length=(s.ow b).length)->H l=none->H' l=some (.lst ((((dw (cv t) (Rm.aI ad n)).drop (ad%8).toNat).take n).map V.int))->Q (.ref l) H'):oj c vs H Q e3
section
variable {P:Program}{w:World}{K:PySem.W.Frag}{mg:Str->Option Value}{base:Heap}
variable {c:CA}{H H':Hp}{M M' B:Addr->Prop}{a:RA}{s s':Pg.PS}{W:dS}{t:Int}{x y:TD}
theorem nameQ {i:Nat}{v:V}{σ:L2.St}{H:Hp}{Q:L2.St->Hp->Prop}(h:Q (σ.set i (some v)) H):rR i v σ H Q:=h
theorem ax.Hs (R:ax c H M a s W) {l:Addr}{xs ys:List V}(F:H l=some (.lst xs)) (G:M l) (I:¬ a.own W l):ax c (upd H l (.lst ys)) M a s W :=
 R.AR (B:=(· = l)) (Off.wr rfl) (λb z=>by rw[z];exact⟨G,I⟩) (λb z=>.inl ⟨xs,by rw[z];exact F⟩) (λb z=>.inl z) (λb z _=>z) (λb z e=>by
  by_cases q:b=l
  .rw[q,ae]at e;cases e
  .rw[ah q]at e;exact R.mt b z e)
theorem ax.Ee (R:ax c H M a s W) {l:Addr}{o:HO}(F:H l=none):ax c (upd H l o) (λb=>M b\/b=l) a s W :=
 R.AR (B:=λ_=>False) (λb u e _=>cM F b u e id) (λb z=>z.elim) (λb z=>z.elim) (λb z=>z.elim .inl λz=>.inr (by rw[z];exact F)) (λb z _=>.inl z) (λb z e=>by
  by_cases q:b=l
  .rw[q,ae]at e;cases e
  .rw[ah q]at e;exact z.elim (λz=>R.mt b z e) q)
theorem di.keys (T:di c.T H x) (q:Int):q∈x.t.map (·.1)↔Tb.look x.t q≠none:=by
 constructor
 .intro h e;exact Tb.cn e h
 .intro h;cases e:Tb.look x.t q with
  |none=>exact absurd e h
  |some v=>exact List.mem_map.mpr ⟨_,Tb.ay e,rfl⟩
theorem xV:aA ["self","task","address","many","table","whole","page","entry"] ["self","task","address","many"] (ar tV):=L2.bD
theorem yC {f:Addr}{fd:FuncData}{c:CA}(F:cQ K "peek" "Rooms.peek" tV f fd) (T:oq K mg c) (TT:Tb.Txt K mg c.T) (TP:mQ K mg c.P) (GR:Df P w K mg base aW 1 "room_of" dP) (GO:Df P w K mg base aW 2 "pages_of_cells" Rm.ir) (b0:Df P w K mg base aW 1 "run_within" Rm.lZ) (b1:Md P w K mg base aW 1 c.T "pages" (Tb.eJ c.T)) (GG:Md P w K mg base aW 3 c.T "get" (Tb.lu c.T)) (bx:Md P w K mg base aW 7 c.P "fetch" (kR c.P c.S)) (b2:Md P w K mg base aW 5 c.C "cells_of" (hU c)):bj P w K mg base aW 8 f fd ["self","task","address","many"] (oj c):=by
 obtain⟨aB,mB,sB⟩:=T.bl;have rB:RelV (.ref aB) (.ref aB):=rfl;refine F.ok xV (λvs H Q E h=>?_) (λcx A outer s H vs Q E N h=>?_)
 .obtain⟨M,a,s',W,cv,t,ad,n,x,rfl,_⟩:=h;rfl
 .obtain⟨M,a,s',W,cv,t,ad,n,x,rfl,R,ri,ch,hx,n6,cP,cS,hb,q⟩:=h;have hs:sizeLine=16777216:=sizeLine_eq;obtain⟨dx,ho⟩:=R.ob;have TX:=R.tb _ (Tb.ay hx);obtain⟨c1,c2⟩:=Rm.jj hb;refine⟨_,(ag (aL (i:=4) xV.nd rfl (Or.inl rfl) (pc GR N aw (aa (aK (pv 0) rfl) (aa (pv 1) ai))))
   (ag (aL (i:=5) xV.nd rfl (Or.inl rfl) (ck ai))
   (ag (cY PassesOwn.never rfl (gj (pc GO N aw (aa (uo (pv 4) TT.cl b1 N aw) (aa (pv 2) (aa (pv 3) ai))))) (aZ (i:=6) xV.nd rfl (Or.inl rfl)) (ag (aL (i:=7) xV.nd rfl (Or.inl rfl) (pm (pv 4) TT.cl GG N aw (aa (pv 6) ai)))
   (ag (aR (aC (pC N.gH) (pv 7) (cj (by rfl) mB rB) (aG _)) (aj (aM (pm (aK (pv 0) rfl) TP.cl bx N aw (aa (aX a8 (pv 7) ak (λ_ _=>rfl)) ai)))) aF)
   (aj (aM (gK plainAttrs_list slot_list_extend type_list_extend m7 (pv 5) (aa (pm (pv 0) T.cl b2 N aw (aa (pv 7) ai)) ai)))))))
   (aj (aE (pc b0 N aw (aa (pv 5) (aa (pv 2) (aa (pv 3) ai))))))))),?_⟩
  refine⟨_,rfl,a.rp,c.C,dx,_,_,rfl,ho,T.cl,T.nR,fg _ _ _,_,rfl,a.rd,W,t,x,rfl,R.hd,hx,?_⟩;refine⟨av,λG ab=>?_⟩;have R1:=R.Ee (o:=.lst []) ab;have s1:bf H (upd H G (.lst [])):=Tb.au ab;have bc:upd H G (.lst []) G=some (.lst []):=ae;generalize upd H G (.lst [])=H1 at *;have bd:¬ a.own W G:=λz=>R.mt _ (R.dH _ z) ab;have ba:=R1.tb _ (Tb.ay hx);obtain⟨b5,ht⟩:=ba.at_.ob;refine⟨_,rfl,x.p,b5,_,rfl,ht,Tb.aY _ ao,x.p,x.fs,x.tb,rfl,ba.at_,λH2 l2 ns s2 cr bn pm cC=>?_⟩;have bi:∀{z},z∈x.t.map (·.1)->z∈ns:=λ{z} h=>(TX.mem pm z).mpr ((TX.keys z).mp h);refine⟨_,rfl,_,rfl,l2,ns,ad,n,rfl,bn,λh=>hb (Rm.vR (λz hz=>bi hz) h),λH3 l3 s3 ce a4=>?_⟩;have S3:=s2.trans s3;have R3:=R1.same S3;have ci:=S3 _ _ bc;have a0:H1 l3=none:=s2.free ce;have b8:¬ a.own W l3:=λz=>R1.mt _ (R1.dH _ z) a0;have bz:l3≠G:=λz=>(by rw[z,bc]at a0;cases a0);refine⟨l3,rfl,⟨_,bE.of a4⟩,?_⟩;refine eV (K:=K) (a:=l3) (xs:=(Rm.aI ad n).map V.int) (λi σ H4=>Eh λ(v6 v7:Option V) (J:Pg.PS)=>Fs (σ=[some (.ref a.rp),some (.int t),some (.int ad),some (.int n),some (.ref x.p),some (.ref G),v6,v7]) (ax c H4 (λb=>M b\/b=G) a J W) (Pg.RI J (ents W)) (Cv J W cv) (H4 G=some (.lst ((dw (cv t) ((Rm.aI ad n).take i)).map V.int))) ((dw (cv t) ((Rm.aI ad n).take i)).length=8*i) (Off (λb=>a.own W b\/b=G) H3 H4) (∀b,(J.ow b).length=(s'.ow b).length))
   ⟨_,_,s',rfl,R3,ri,ch,ci,rfl,λ_ _ e _=>e,λ_=>rfl⟩ (λi σ H4 _ z0=>by obtain⟨_,_,_,_,_,_,_,_,_,U,_⟩:=z0;exact bE.of (U _ _ a4 λz=>z.elim b8 bz)) ?_ ?_
  .rintro i u σ H4 hu ⟨v6,v7,J,rfl,R4,O,as,am,bY,U,ap⟩;rw[getElem?_map]at hu;obtain⟨p,hp,rfl⟩:=Option.map_eq_some_iff.mp hu;have ca:=mem_of_getElem? hp;obtain⟨hi,cp⟩:=List.getElem?_eq_some_iff.mp hp;have T4:=R4.tb _ (Tb.ay hx);obtain⟨b6,bI⟩:=T4.at_.ob;obtain⟨e,he⟩:∃e,Tb.look x.t p=some e:=by
    cases z:Tb.look x.t p with
    |none=>exact absurd z ((TX.keys p).mp (c2 p ca))
    |some e=>exact⟨e,rfl⟩
   refine⟨_,rfl,x.p,b6,_,rfl,bI,Tb.aY _ ao,_,rfl,x.p,x.fs,x.tb,p,rfl,T4.at_,λH5 v Y hv=>?_⟩;rw[T4.lk,he]at hv;obtain⟨tt,rfl,ac⟩:=hv;have L:=R4.same Y;have bb:=Y _ _ am;refine nameQ ?_;dsimp only;refine share (λσ H6=>∃I:Pg.PS,Fs (σ=[some (.ref a.rp),some (.int t),some (.int ad),some (.int n),some (.ref x.p),some (.ref G),some (.int p),some (.ref tt)]) (ax c H6 (λb=>M b\/b=G) a I W) (Pg.RI I (ents W)) (Cv I W cv) (H6 tt=some (.tup (wg e))) (H6 G=some (.lst ((dw (cv t) ((Rm.aI ad n).take i)).map V.int))) (Off (λb=>a.own W b\/b=G) H3 H6) (∀b,(I.ow b).length=(s'.ow b).length)) (λu' a6=>?A) ?B
   case A =>
    refine⟨_,rfl,tt,aB,_,_,rfl,rfl,bV.of ac,iA.sq (.inr sB),?_⟩;cases e with
    |none =>
     refine⟨rfl,rfl,_,rfl,bu ?_⟩;exact a6 _ _ ⟨J,rfl,L,O,as,ac,bb,λb o e z=>Y _ _ (U b o e z),ap⟩
    |some k =>
     refine⟨rfl,rfl,_,rfl,dU ?_⟩;obtain⟨b7,bv⟩:=L.ob;obtain⟨a1,bJ⟩:=L.pg.ob;obtain⟨cs,cc,hv⟩:=O.is k (gN hx he);refine⟨_,rfl,a.rp,c.C,b7,_,_,rfl,bv,T.cl,T.nP,kq _ _ _,a.A.pg,a1,_,rfl,bJ,cG _ _ ao ao ao ao ao,_,rfl,tt,_,1,_,rfl,rfl,bV.of ac,rfl,_,a.A,J,k,cs,cc,rfl,L.FH O,hv,λH6 I fe G6 O6=>?_⟩;have FF:=Pg.nN O.good fe;exact a6 _ _ ⟨I,rfl,L.j6 G6 O6 FF.kept.ln,O.BD fe,as.keep (Pg.tJ O.good fe),O6 _ _ ac (L.pg.jw _ _ ac),O6 _ _ bb (λz=>bd (.inl z)),λb o e z=>O6 _ _ (Y _ _ (U b o e z)) (λy=>z (.inl (.inl y))),λb=>(FF.kept.ln b).trans (ap b)⟩
   case B =>
    rintro σ H6 ⟨I,rfl,R6,aT,a3,b3,a2,o6,bm⟩;obtain⟨a1,b9⟩:=R6.ob;have a7:=a3 t x hx p e he;have c8:=xv.len aT.good a7;refine⟨_,rfl,.inl ⟨rfl,_,bE.of a2⟩,_,rfl,a.rp,a1,_,rfl,b9,gr _ _ _ ao ao ao,_,rfl,_,a,I,W,tt,e,cv t p,rfl,R6,aT.good,b3,a7,λH7 l7 s7 f7 h7=>?_⟩;have R7:=R6.same s7;have be:=s7 _ _ a2;refine⟨G,l7,_,_,rfl,rfl,be,h7,by rw[length_map,length_map];omega,?_⟩;rw[<-map_append, <-eK hp];refine⟨_,_,I,rfl,R7.Hs be (.inr rfl) bd,aT,a3,ae,by rw[eK hp,length_append];omega,λb o e z=>by rw[ah (λy=>z (.inr y))];exact s7 _ _ (o6 b o e z),bm⟩
  .rintro σ H4 ⟨v6,v7,J,rfl,R4,O,as,am,bY,U,ap⟩;rw[length_map,take_length]at am;refine⟨_,rfl,_,rfl,_,rfl,G,_,ad,n,rfl,am,λH5 l5 Y a5 b4=>?_⟩;have L:=R4.same Y;have oA:Off (a.own W) H H5:=λb o e z=>Y _ _ (U _ _ (S3 _ _ (s1 _ _ e)) λy=>y.elim z λy=>by rw[y,ab]at e;cases e);refine q H5 _ J l5 L O as ⟨oA,λb z _=>.inl z,λb z=>z.elim .inl λz=>.inr (by rw[z];exact ab),λb z=>.inl z,R.mt,R.dH⟩ ap ?_ b4;cases z:H l5 with
   |none=>rfl
   |some o =>
    exfalso;by_cases w:a.own W l5
    .exact R4.mt _ (R4.dH _ w) a5
    .have:=U _ _ (S3 _ _ (s1 _ _ z)) λy=>y.elim w λy=>(by rw[y,ab]at z;cases z);rw[a5]at this;cases this
end
end St
namespace Rm
theorem tF {ad:Int}{cs ws:List Int}{L:List Int}(h:¬ dq ad cs.length L) (F:ws.length=8*(aI ad cs.length).length):(eF ws (ad%8).toNat cs).length=8*(aI ad cs.length).length:=by
 unfold eF;rw[length_append,length_append,length_take,length_drop];by_cases e:((cs.length:Nat):Int)=0
 .have:aI ad cs.length=[]:=(by unfold aI;rw[if_pos e]);rw[this]at F ⊢;have G:ws.length=0:=F;have I:cs.length=0:=af;rw[G,I];simp
 .have J:(aI ad cs.length).length=(iC ad cs.length).toNat:=by
   unfold aI;rw[if_neg e];unfold aO;rw[length_map,length_range]
  have N:0<((cs.length:Nat):Int):=af;have h1:¬ cy (jl ad) (iC ad cs.length):=λz=>h (.inr ⟨N,.inl z⟩);have h2:¬ iC ad cs.length<1:=λz=>h1 (.inl z);rw[J]at F ⊢;unfold iC at *;omega +splitNatSub
theorem Cp {k:Nat}{ws:List Int}(h:ws.length=8*k):∀G∈gS k ws,G.length=8:=by
 intro G F;unfold gS at F;obtain⟨i,hi,rfl⟩:=List.mem_map.mp F;have:=List.mem_range.mp hi;rw[length_take,length_drop,h];lia
end Rm
namespace St
open PySem L2
noncomputable def gQ (cv:Int->Int->List Int) (t:Int) (l:List (Int×List Int)):Int->Int->List Int:=λt' q=>if t'=t then(Tb.look l q).getD (cv t' q)else cv t' q
theorem tN {cv:Int->Int->List Int}{t:Int}:gQ cv t []=cv:=by
 funext t' q;unfold gQ;by_cases z:t'=t
 .rw[if_pos z];rfl
 .rw[if_neg z]
theorem rQ {cv:Int->Int->List Int}{t t' q:Int}{l:List (Int×List Int)}{p:Int}{r:List Int}:gQ cv t ((p,r)::l) t' q=if t'=t/\q=p then r else gQ cv t l t' q:=by
 unfold gQ;by_cases z:t'=t
 .rw[if_pos z,if_pos z,Tb.aN];by_cases F:p=q
  .rw[if_pos F,if_pos ⟨z,F.symm⟩];rfl
  .rw[if_neg F,if_neg (λh=>F h.2.symm)]
 .rw[if_neg z,if_neg z,if_neg (λh=>z h.1)]
noncomputable def t5 (f:Int->List Int) (ad:Int) (cs:List Int):List (List Int):=Rm.gS (Rm.aI ad cs.length).length (Rm.eF (dw f (Rm.aI ad cs.length)) (ad%8).toNat cs)
inductive pZ (K:PySem.W.Frag) (c:CA) (vs:List V) (H:Hp) (Q:VK) (e3:XK):Prop
 |mk (M:Addr->Prop) (a:RA) (s:Pg.PS) (W:dS) (cv:Int->Int->List Int) (t ad:Int) (ca:Addr) (cs:List Int) (x:TD) (_:vs=[.ref a.rp,.int t,.int ad,.ref ca]) (_:ax c H M a s W) (_:Pg.RI s (ents W)) (_:Cv s W cv) (_:Tb.look W t=some x) (_:bE K H ca (cs.map V.int)) (_:cs.length<=500) (_:0<=ad) (_:ad<=1000) (_:¬ Rm.dq ad cs.length (x.t.map (·.1))) (_:∀(H':Hp) (M':Addr->Prop) (s':Pg.PS) (y:TD),ax c H' M' a s' (Tb.aS W t y)->Pg.RI s' (ents (Tb.aS W t y))->Cv s' (Tb.aS W t y) (gQ cv t (((Rm.aI ad cs.length).zip (t5 (cv t) ad cs)).reverse))->(∀q,¬ q∈Rm.aI ad cs.length->Tb.look y.t q=Tb.look x.t q)->(∀q∈Rm.aI ad cs.length,∃k,Tb.look y.t q=some (some k)/\(ents (Tb.aS W t y)).count (some k)=1)->Step H M (a.own W) H' M' (a.own (Tb.aS W t y))->(∀b,(s'.ow b).length=(s.ow b).length)->Q .non H'):pZ K c vs H Q e3
theorem oZ (ad n:Int):(Rm.aI ad n).Nodup:=by
 unfold Rm.aI;by_cases e:n=0
 .rw[if_pos e];exact nodup_nil
 .rw[if_neg e];exact nj _ _
theorem kh {α G:Type}{F:α->G->Prop}:∀{xs:List α}{ys:List G}{i:Nat}{x:α},Paired F xs ys->xs[i]?=some x->∃y,ys[i]?=some y/\F x y
 |_,_,_,_,.nil,e=>by simp at e
 |_,_,0,_,.cons r _,e=>by simp at e;subst e;exact⟨_,rfl,r⟩
 |_,_,i+1,x,.cons _ t,e=>by
  obtain⟨u,h1,h2⟩:=kh (i:=i) (x:=x) t (by simpa using e);exact⟨u,by simpa using h1,h2⟩
section
variable {P:Program}{w:World}{K:PySem.W.Frag}{mg:Str->Option Value}{base:Heap}
theorem uV:aA ["self","task","address","cells","table","pages","whole","page","changed"] ["self","task","address","cells"] (ar sE):=L2.bD
theorem y0 {f:Addr}{fd:FuncData}{c:CA}(F:cQ K "poke" "Rooms.poke" sE f fd) (T:oq K mg c) (TT:Tb.Txt K mg c.T) (GR:Df P w K mg base aW 1 "room_of" dP) (GO:Df P w K mg base aW 2 "pages_of_cells" Rm.ir) (dm:Df P w K mg base aW 1 "pages_with" (Rm.uF K)) (eq:Md P w K mg base aW 1 c.T "pages" (Tb.eJ c.T)) (GG:Md P w K mg base aW 3 c.T "get" (Tb.lu c.T)) (GL:Md P w K mg base aW 3 c.T "lay" (Tb.qR K c.T)) (cT:Md P w K mg base aW 5 c.C "cells_of" (hU c)) (dz:Md P w K mg base aW 9 c.C "sheet_with" (gJ c)):bj P w K mg base aW 10 f fd ["self","task","address","cells"] (pZ K c):=by
 refine F.ok uV (λvs H Q E h=>?_) (λeA A outer s H vs Q E O h=>?_)
 .obtain⟨M,a,s',W,cv,t,ad,ca,cs,x,rfl,_⟩:=h;rfl
 .obtain⟨M,a,s',W,cv,t,ad,ca,cs,x,rfl,R,ri,cp,L,b3,n6,ey,ez,hb,q⟩:=h;have hs:sizeLine=16777216:=sizeLine_eq;obtain⟨dx,ho⟩:=R.ob;have TX:=R.tb _ (Tb.ay L);obtain⟨c9,ht⟩:=TX.at_.ob;obtain⟨c1,c2⟩:=Rm.jj hb;refine⟨_,(ag (aL (i:=4) uV.nd rfl (Or.inl rfl) (pc GR O aw (aa (aK (pv 0) rfl) (aa (pv 1) ai))))
   (ag (aL (i:=5) uV.nd rfl (Or.inl rfl) (pc GO O aw (aa (uo (pv 4) TT.cl eq O aw) (aa (pv 2) (aa (aV bG (by rfl) T.len boot_len (aa (pv 3) ai)) ai)))))
   (ag (aL (i:=6) uV.nd rfl (Or.inl rfl) (ck ai))
   (ag (cY PassesOwn.never rfl (gj (pv 5)) (aZ (i:=7) uV.nd rfl (Or.inl rfl)) (aj (aM (gK plainAttrs_list slot_list_extend type_list_extend m7 (pv 6) (aa (pm (pv 0) T.cl cT O aw (aa (pm (pv 4) TT.cl GG O aw (aa (pv 7) ai)) ai)) ai)))))
   (aj (cY PassesOwn.never rfl (BO (by rfl) T.zip (aa (pv 5) (aa (pc dm O aw (aa (pv 6) (aa (pv 2) (aa (pv 3) ai)))) ai))) (dB rfl (bh (aZ (i:=7) uV.nd rfl (Or.inl rfl)) (bh (aZ (i:=8) uV.nd rfl (Or.inl rfl)) cK))) (aj (aM (pm (pv 4) TT.cl GL O aw (aa (pv 7) (aa (cL (aa aJ (aa (pm (pv 0) T.cl dz O aw (aa (pm (pv 4) TT.cl GG O aw (aa (pv 7) ai)) (aa (pv 8) ai))) ai))) ai))))))))))),?_⟩
  refine⟨_,rfl,a.rp,c.C,dx,_,_,rfl,ho,T.cl,T.nR,fg _ _ _,_,rfl,a.rd,W,t,x,rfl,R.hd,L,?_⟩;refine⟨_,rfl,x.p,c9,_,rfl,ht,Tb.aY _ ao,x.p,x.fs,x.tb,rfl,TX.at_,λH1 l1 ns s1 ew dd pm et=>?_⟩;have bi:∀{z},z∈x.t.map (·.1)->z∈ns:=λ{z} h=>(TX.mem pm z).mpr ((TX.keys z).mp h);refine⟨_,rfl,_,rfl,ca,_,rfl,.inl (Rm.eE b3 (s1 _)),l1,ns,ad,cs.length,by rw[length_map];rfl,dd,λh=>hb (Rm.vR (λz hz=>bi hz) h),λH2 Y s2 dI be=>?_⟩;generalize eP:Rm.aI ad cs.length=ps at *;have eb:ps.Nodup:=(by rw[<-eP];exact oZ _ _);have S2:=s1.trans s2;have R2:=R.same S2;refine⟨av,λG a5=>?_⟩;have R3:=R2.Ee (o:=.lst []) a5;have s3:bf H2 (upd H2 G (.lst [])):=Tb.au a5;have ee:upd H2 G (.lst []) G=some (.lst []):=ae;generalize upd H2 G (.lst [])=H3 at *;have a3:H G=none:=S2.free a5;have eo:¬ a.own W G:=λz=>R.mt _ (R.dH _ z) a3;have bc:=s3 _ _ be;have el:H Y=none:=s1.free dI;have d9:¬ a.own W Y:=λz=>R.mt _ (R.dH _ z) el;have b6:Y≠G:=λz=>(by rw[z,a5]at be;cases be);have b8:∀p∈ps,∃e,Tb.look x.t p=some e:=λp a0=>by
   cases z:Tb.look x.t p with
   |none=>exact absurd z ((TX.keys p).mp (c2 p a0))
   |some e=>exact⟨e,rfl⟩
  refine⟨_,rfl,Y,rfl,⟨_,bE.of bc⟩,?_⟩;refine eV (K:=K) (a:=Y) (xs:=ps.map V.int) (λi σ H4=>∃v7:Option V,Ca (σ=[some (.ref a.rp),some (.int t),some (.int ad),some (.ref ca),some (.ref x.p),some (.ref Y),some (.ref G),v7,none]) (ax c H4 (λb=>M b\/b=G) a s' W) (H4 G=some (.lst ((dw (cv t) (ps.take i)).map V.int))) ((dw (cv t) (ps.take i)).length=8*i) (Off (· = G) H3 H4))
   ⟨_,rfl,R3,ee,rfl,λ_ _ e _=>e⟩ (λi σ H4 _ z0=>by obtain⟨_,_,_,_,_,o4⟩:=z0;exact bE.of (o4 _ _ bc b6)) ?_ ?_
  .rintro i u σ H4 hu ⟨v7,rfl,U,aB,a6,o4⟩;rw[getElem?_map]at hu;obtain⟨p,N,rfl⟩:=Option.map_eq_some_iff.mp hu;have a0:=mem_of_getElem? N;obtain⟨hi,c0⟩:=List.getElem?_eq_some_iff.mp N;have T4:=U.tb _ (Tb.ay L);obtain⟨da,d8⟩:=T4.at_.ob;obtain⟨ej,c5⟩:=U.ob;obtain⟨e,he⟩:=b8 p a0;have cr:=cp t x L p e he;have c8:=xv.len ri.good cr;refine⟨_,rfl,.inl ⟨rfl,_,bE.of aB⟩,_,rfl,a.rp,ej,_,rfl,c5,gr _ _ _ ao ao ao,_,rfl,x.p,da,_,rfl,d8,Tb.aY _ ao,_,rfl,x.p,x.fs,x.tb,p,rfl,T4.at_,λH5 v s5 hv=>?_⟩;rw[T4.lk,he]at hv;obtain⟨tt,rfl,bl⟩:=hv;refine⟨_,a,s',W,tt,e,cv t p,rfl,U.same s5,ri.good,bl,cr,λH7 l7 s7 f7 h7=>?_⟩;have S7:=s5.trans s7;have R7:=U.same S7;have cS:=S7 _ _ aB;refine⟨G,l7,_,_,rfl,rfl,cS,h7,by rw[length_map,length_map];lia,?_⟩;rw[<-map_append, <-eK N];exact⟨_,rfl,R7.Hs cS (.inr rfl) eo,ae,by rw[eK N,length_append];lia,λb o e z=>by rw[ah z];exact S7 _ _ (o4 b o e z)⟩
  .rintro σ H4 ⟨v7,rfl,U,aB,a6,o4⟩;rw[length_map,take_length]at aB a6;have dl:bE K H4 ca (cs.map V.int):=Rm.eE b3 λo e=>o4 _ _ (s3 _ _ (S2 _ _ e)) (λz=>by rw[z,a3]at e;cases e);have dM:=o4 _ _ bc b6;have bv:=Rm.tF hb (ws:=dw (cv t) ps) (by rw[eP];exact a6);rw[eP]at bv;refine⟨_,rfl,_,rfl,_,rfl,_,rfl,G,ca,_,cs,ad,ps.length,rfl,aB,dl,by rw[a6];lia,af,c1,bv,λH5 l5 rs s5 d5 b0 a4 dV ev=>?_⟩;have R5:=U.same s5;have cx:=s5 _ _ dM;have b9:rs.length=ps.length:=by
    rw[a4.length];unfold Rm.gS;rw[length_map,length_range]
   have h8:=Rm.Cp bv;generalize eC:Rm.gS ps.length (Rm.eF (dw (cv t) ps) (ad%8).toNat cs)=ch at a4 h8;have db:ch.length=ps.length:=(by rw[<-a4.length,b9]);have df:t5 (cv t) ad cs=ch:=(by unfold t5;rw[eP];exact eC);have d7:Step H M (a.own W) H5 (λb=>M b\/b=G) (a.own W):=⟨λb o e z=>s5 _ _ (o4 _ _ (s3 _ _ (S2 _ _ e)) (λy=>by rw[y,a3]at e;cases e)),λb z _=>.inl z,λb z=>z.elim .inl λz=>.inr (by rw[z];exact a3),λb z=>.inl z,R.mt,R.dH⟩;have bY:∀r∈rs,¬ (M r\/r=G):=λr O z=>U.mt r z (dV r O);have d4:∀{l},H4 l=none->¬ a.own W l:=λh z=>U.mt _ (U.dH _ z) h;refine⟨Y,l5,rfl,⟨_,bE.of cx⟩,⟨_,bE.of b0⟩,?_⟩;refine Aa (K:=K) (a:=Y) (b:=l5) (xs:=ps.map V.int) (ys:=rs.map V.ref) (λi σ H6=>zX λ(v7 v8:Option V) (M6:Addr->Prop) (s6:Pg.PS) (y:TD)=>Fs (σ=[some (.ref a.rp),some (.int t),some (.int ad),some (.ref ca),some (.ref y.p),some (.ref Y),some (.ref G),v7,v8]) (ax c H6 M6 a s6 (Tb.aS W t y)) (Pg.RI s6 (ents (Tb.aS W t y))) (Cv s6 (Tb.aS W t y) (gQ cv t (((ps.zip ch).take i).reverse))) ((∀q,¬ q∈ps.take i->Tb.look y.t q=Tb.look x.t q)) ((∀q∈ps.take i,∃k,Tb.look y.t q=some (some k)/\(ents (Tb.aS W t y)).count (some k)=1)) (Step H5 (λb=>M b\/b=G) (a.own W) H6 M6 (a.own (Tb.aS W t y))) (∀b,(s6.ow b).length=(s'.ow b).length))
    ⟨_,_,_,s',x,rfl,by rw[cI R.nd L];exact R5,by rw[cI R.nd L];exact ri,by rw[cI R.nd L,take_zero];show Cv s' W (gQ cv t []);rw[tN];exact cp,λ_ _=>rfl,λq hq=>by simp at hq,by rw[cI R.nd L];exact R5.refl,λ_=>rfl⟩ (by rw[length_map,length_map,b9]) (λi σ H6 _ z0=>by
     obtain⟨_,_,_,_,_,_,_,_,_,_,_,st,_⟩:=z0;exact⟨bE.of (st.off _ _ cx d9),bE.of (st.off _ _ b0 (d4 d5))⟩) ?_ ?_
   .rintro i u v σ H6 z hu hv hz ⟨v7,v8,M6,s6,y,rfl,R6,bd,as,ap,ba,a2,bb⟩;rw[getElem?_map]at hu hv;obtain⟨p,N,rfl⟩:=Option.map_eq_some_iff.mp hu;obtain⟨r,b4,rfl⟩:=Option.map_eq_some_iff.mp hv;have b5:r∈rs:=mem_of_getElem? b4;have a0:=mem_of_getElem? N;obtain⟨hi,c0⟩:=List.getElem?_eq_some_iff.mp N;obtain⟨ac,ce,ci⟩:=kh a4 b4;have ep:=h8 ac (mem_of_getElem? ce);have dT:¬ p∈ps.take i:=λz=>by
     obtain⟨j,I,e⟩:=getElem_of_mem z;rw[getElem_take]at e;rw[length_take]at I;exact nZ eb j i (getElem?_eq_getElem af) N af e
    have c4:=a2.off _ _ ci (λw=>bY r b5 (R5.dH _ w));have dp:¬ M6 r:=λw=>(a2.mn r w).elim (bY r b5) λw=>(by rw[ci]at w;cases w);have sT:=Tb.au (X:=.tup [.int p,.ref r]) hz;refine⟨z,[.int p,.ref r],rfl,bV.of ae,rfl,.int p,[.ref r],rfl,.ref r,[],rfl,rfl,?_⟩;have R7:=R6.same sT;have S7:=a2.trans (R6.iE sT);have ec:=sT _ _ c4;generalize upd H6 z (.tup [.int p,.ref r])=H7 at *;have ab:=iu (y:=y) L;have T7:=R7.tb _ (Tb.ay ab);obtain⟨bz,cP⟩:=T7.at_.ob;obtain⟨c7,ea⟩:=R7.ob;obtain⟨e,b7⟩:=b8 p a0;have he:Tb.look y.t p=some e:=(ap p dT).trans b7;refine⟨_,rfl,y.p,bz,_,rfl,cP,Tb.aY _ ao,_,rfl,_,rfl,a.rp,c7,_,rfl,ea,gr _ _ _ ao ao ao,_,rfl,y.p,bz,_,rfl,cP,Tb.aY _ ao,_,rfl,y.p,y.fs,y.tb,p,rfl,T7.at_,λH8 v s8 hv=>?_⟩;rw[T7.lk,he]at hv;obtain⟨tt,rfl,bl⟩:=hv;have R8:=R7.same s8;have S8:=S7.trans (R7.iE s8);have pe:(ents (Tb.aS W t y)).Perm (e::(qD (Tb.a9 y.t p)++ents (Tb.a9 (Tb.aS W t y) t))):=(iy R7.nd ab).trans ((mO T7.nd he).append_right _);refine⟨_,rfl,M6,a,s6,Tb.aS W t y,tt,r,e,_,ac,rfl,R8,bd.perm pe,bl,s8 _ _ ec,dp,ep,λH9 s9 k R9 d6 b2 cc d3 c3 ei=>?_⟩;refine⟨by show 2<=sizeLine;decide,λu fu=>?_⟩;have sU:=Tb.au (X:=.tup [.str "sheet",.int k]) fu;have bn:=R9.same sU;have en:=(S8.trans c3).trans (R9.iE sU);have ef:upd H9 u (.tup [.str "sheet",.int k]) u=some (.tup [.str "sheet",.int k]):=ae;have dj:=bn.tb _ (Tb.ay ab);obtain⟨g1,g2⟩:=TX.pg (q:=p) (by rw[b7];simp);refine⟨y.p,y.fs,u,y.tb,p,[.str "sheet",.int k],rfl,dj.at_,g1,g2,.inl ef,rfl,λdO a1 ek dL bI bx=>?_⟩;have TI:di c.T dO ⟨y.p,y.fs,a1,(p,some k)::Tb.a9 y.t p⟩:=⟨ek,Tb.B8 T7.nd,λj=>by
     rw[dL j,Tb.jc];by_cases w:j=p
     .rw[if_pos w,if_pos w];rfl
     .rw[if_neg w,if_neg w];exact T7.lk j⟩
    have b1:=bn.sI (y:=⟨y.p,y.fs,a1,(p,some k)::Tb.a9 y.t p⟩) ab rfl TI bI bx;have bJ:=en.trans (bn.oN (y:=⟨y.p,y.fs,a1,(p,some k)::Tb.a9 y.t p⟩) ab bI bx);have a7:=zc (y:=⟨y.p,y.fs,a1,(p,some k)::Tb.a9 y.t p⟩) (e:=some k) (q:=p) R7.nd ab rfl;rw[set_set]at b1 bJ a7;have em:(ps.zip ch)[i]?=some (p,ac):=by
     rw[List.getElem?_zip_eq_some];exact⟨N,ce⟩
    refine⟨_,_,_,s9,⟨y.p,y.fs,a1,(p,some k)::Tb.a9 y.t p⟩,rfl,b1,d6.perm a7.symm,?_,?_,?_,bJ,λb=>(ei b).trans (bb b)⟩
    .intro am bm aT q J S;rw[take_add_one,em,show(some (p,ac)).toList=[(p,ac)]from rfl,reverse_append,show([(p,ac)]:List (Int×List Int)).reverse=[(p,ac)]from rfl,List.singleton_append,rQ];rw[Tb.bR am L]at aT;have cC:∀{J},J∈qD (Tb.a9 y.t p)\/J∈ents (Tb.a9 (Tb.aS W t y) t)->J∈qD (Tb.a9 y.t p)++ents (Tb.a9 (Tb.aS W t y) t):=λh=>List.mem_append.mpr h;by_cases w:am=t
     .rw[if_pos w]at aT;cases aT;have S:Tb.look ((p,some k)::Tb.a9 y.t p) q=some J:=S;rw[Tb.jc]at S;by_cases w2:q=p
      .rw[if_pos w2]at S;cases S;rw[if_pos ⟨w,w2⟩];exact d3
      .rw[if_neg w2]at S;rw[if_neg (λh=>w2 h.2)];refine cc J (cC (.inl ?_)) _ (as am y (by rw[w];exact ab) q J S);exact List.mem_map.mpr ⟨(q,J),Tb.gq (Tb.ay S) w2,rfl⟩
     .rw[if_neg w]at aT;rw[if_neg (λh=>w h.1)];have h2:Tb.look (Tb.aS W t y) am=some bm:=(by rw[Tb.bR am L,if_neg w];exact aT);refine cc J (cC (.inr ?_)) _ (as am bm h2 q J S);exact List.mem_flatMap.mpr ⟨(am,bm),Tb.gq (Tb.ay h2) w,List.mem_map.mpr ⟨(q,J),Tb.ay S,rfl⟩⟩
    .intro j I;rw[take_add_one,N]at I;have w:j≠p:=λw=>I (by rw[w];simp);show Tb.look ((p,some k)::Tb.a9 y.t p) j=_;rw[Tb.jc,if_neg w];exact ap j λh=>I (mem_append_left _ h)
    .intro j I;show ∃k',Tb.look ((p,some k)::Tb.a9 y.t p) j=some (some k')/\_;rw[Tb.jc];by_cases w:j=p
     .rw[if_pos w];exact⟨k,rfl,by rw[a7.count_eq,count_cons_self,List.count_eq_zero.mpr b2]⟩
     .rw[if_neg w];rw[take_add_one,N]at I;rcases List.mem_append.mp I with I|I
      .obtain⟨k',h1,h2⟩:=ba j I;have m:some k'∈qD (Tb.a9 y.t p)++ents (Tb.a9 (Tb.aS W t y) t):=mem_append_left _ (List.mem_map.mpr ⟨(j,some k'),Tb.gq (Tb.ay h1) w,rfl⟩);refine⟨k',h1,?_⟩;rw[pe.count_eq,List.count_cons]at h2;rw[a7.count_eq,List.count_cons_of_ne (a:=some k') (b:=some k) (λq=>b2 (by rw[q];exact m))];have:=List.count_pos_iff.mpr m;omega
      .exact absurd (by simpa using I) w
   .rintro σ H6 ⟨v7,v8,M6,s6,y,rfl,R6,bd,as,ap,ba,a2,bb⟩;rw[length_map,take_length]at ap ba;rw[length_map,take_of_length_le (by rw[List.length_zip,db];lia), <-df]at as;exact q H6 M6 s6 y R6 bd as ap ba (d7.trans a2) bb
end
noncomputable def yd (cv:Int->Int->List Int) (t o:Int):Int->Int->List Int:=λt' q=>if t'=o then cv t q else cv t' q
inductive pK (c:CA) (vs:List V) (H:Hp) (Q:VK) (e3:XK):Prop
 |mk (M:Addr->Prop) (a:RA) (s:Pg.PS) (W:dS) (cv:Int->Int->List Int) (t o:Int) (x:TD) (_:vs=[.ref a.rp,.int t,.int o]) (_:ax c H M a s W) (_:Pg.RI s (ents W)) (_:Cv s W cv) (_:W.length<=1000) (_:Tb.look W t=some x) (_:Tb.look W o=none) (_:(ents W).length+x.t.length<=bO s) (_:∀(H':Hp) (M':Addr->Prop) (s':Pg.PS) (y:TD),(∀q,Tb.look y.t q=Tb.look x.t q)->ax c H' M' a s' (W++[(o,y)])->Pg.RI s' (ents (W++[(o,y)]))->Cv s' (W++[(o,y)]) (yd cv t o)->Step H M (a.own W) H' M' (a.own (W++[(o,y)]))->(∀b,(s'.ow b).length=(s.ow b).length)->Q .non H'):pK c vs H Q e3
theorem qU (W:dS) (o:Int) (y:TD):ents (W++[(o,y)])=ents W++qD y.t:=by
 unfold ents;rw[List.flatMap_append];simp
section
variable {P:Program}{w:World}{K:PySem.W.Frag}{mg:Str->Option Value}{base:Heap}
theorem vZ:aA ["self","task","other","table","pages","copied","page","entry"] ["self","task","other"] (ar tQ):=L2.bD
theorem zd {f fI:Addr}{fd dI:FuncData}{c:CA}(F:cQ K "copy" "Rooms.copy" tQ f fd) (T:oq K mg c) (TT:Tb.Txt K mg c.T) (TP:mQ K mg c.P) (MK:Mk K c.T fI) (df:mg "Table" = some (.ref c.T)) (GR:Df P w K mg base aW 1 "room_of" dP) (GS:Df P w K mg base aW 1 "refuse_second_room" jA) (GA:Df P w K mg base aW 1 "refuse_above" kX) (GI:bj P w K mg base aW 1 fI dI ["self"] (Tb.gM c.T)) (bI:Binds K dI ["self"] []) (dl:Md P w K mg base aW 1 c.T "pages" (Tb.eJ c.T)) (GH:Md P w K mg base aW 2 c.C "held" (kI c)) (GG:Md P w K mg base aW 3 c.T "get" (Tb.lu c.T)) (GL:Md P w K mg base aW 3 c.T "lay" (Tb.qR K c.T)) (b9:Md P w K mg base aW 4 c.P "share" (qf c.P c.S)):bj P w K mg base aW 5 f fd ["self","task","other"] (pK c):=by
 obtain⟨aB,mB,sB⟩:=T.bl;have rB:RelV (.ref aB) (.ref aB):=rfl;refine F.ok vZ (λvs H Q E h=>?_) (λdO A outer s H vs Q E N h=>?_)
 .obtain⟨M,a,s',W,cv,t,o,x,rfl,_⟩:=h;rfl
 .obtain⟨M,a,s',W,cv,t,o,x,rfl,R,ri,c4,lw,hx,a2,b5,q⟩:=h;have hs:sizeLine=16777216:=sizeLine_eq;obtain⟨dx,ho⟩:=R.ob;have TX:=R.tb _ (Tb.ay hx);obtain⟨ci,ht⟩:=TX.at_.ob;refine⟨_,(ag (aL (i:=3) vZ.nd rfl (Or.inl rfl) (pc GR N aw (aa (aK (pv 0) rfl) (aa (pv 1) ai))))
   (ag (aM (pc GS N aw (aa (aK (pv 0) rfl) (aa (pv 2) ai))))
   (ag (aL (i:=4) vZ.nd rfl (Or.inl rfl) (uo (pv 3) TT.cl dl N aw))
   (ag (aM (pc GA N aw (aa (az bq (uo (pv 0) T.cl GH N aw) (aV bG (by rfl) T.len boot_len (aa (pv 4) ai))) (aa (aK (pv 0) rfl) ai))))
   (ag (aL (i:=5) vZ.nd rfl (Or.inl rfl) (rA MK GI (N.mono av) (by rfl) df bI .nil aw))
   (ag (cY PassesOwn.never rfl (gj (pv 4)) (aZ (i:=6) vZ.nd rfl (Or.inl rfl)) (ag (aL (i:=7) vZ.nd rfl (Or.inl rfl) (pm (pv 3) TT.cl GG N aw (aa (pv 6) ai)))
   (ag (aM (pm (pv 5) TT.cl GL N aw (aa (pv 6) (aa (pv 7) ai))))
   (aj (aR (aC (pC N.gH) (pv 7) (cj (by rfl) mB rB) (aG _)) (aj (aM (pm (aK (pv 0) rfl) TP.cl b9 N aw (aa (aX a8 (pv 7) ak (λ_ _=>rfl)) ai)))) aF)))))
   (aj (jD (bg N) (aK (pv 0) rfl) (pv 2) (pv 5) rfl)))))))),?_⟩
  refine⟨_,rfl,a.rp,c.C,dx,_,_,rfl,ho,T.cl,T.nR,fg _ _ _,_,rfl,a.rd,W,t,x,rfl,R.hd,hx,?_⟩;refine⟨_,rfl,a.rp,c.C,dx,_,_,rfl,ho,T.cl,T.nR,fg _ _ _,_,rfl,a.rd,W,o,rfl,R.hd,a2,?_⟩;refine⟨_,rfl,x.p,ci,_,rfl,ht,Tb.aY _ ao,x.p,x.fs,x.tb,rfl,TX.at_,λH1 Y ns s1 cS cp pm dL=>?_⟩;have R1:=R.same s1;have cC:ns.length=x.t.length:=TX.len pm;obtain⟨cT,da⟩:=R1.ob;refine⟨_,rfl,a.rp,cT,_,rfl,da,gr _ _ _ ao ao ao,M,a,s',W,rfl,R1,lw,λH2 s2=>?_⟩;have R2:=R1.same s2;have a6:=s2 _ _ cp;obtain⟨c8,c7⟩:=R2.ob;refine⟨_,rfl,Y,_,rfl,.inl (bE.of a6),_,_,rfl,rfl,_,rfl,a.rp,c.C,c8,_,_,rfl,c7,T.cl,T.nT,EG _ _ _,_,_,rfl,by rw[length_map,cC];omega,?_⟩;have S2:=s1.trans s2;refine λp c5 np bY dM=>⟨p,c5,rfl,ae,λfs H3 b2 T3 off=>⟨rfl,?_⟩⟩;have s3:bf H2 H3:=λb u e=>off b u (by rw[ah (aq e np),ah (aq e bY)];exact e) (aq e np);have a1:H2 fs=none:=by
   cases e:H2 fs with
   |none=>rfl
   |some u=>rw[ah (aq e np),ah (aq e bY),e]at b2;cases b2
  have bd:H fs=none:=S2.free a1;have b7:H p=none:=S2.free np;have R3:=R2.AR (H':=H3) (B:=λ_=>False) (M':=λb=>M b\/b=fs) (λb o e _=>s3 b o e) (λb z=>z.elim) (λb z=>z.elim) (λb z=>z.elim .inl λz=>.inr (by rw[z];exact a1)) (λb z _=>.inl z) (λb z e=>z.elim (λz=>(R2.same s3).mt b z e) λz=>by rw[z,T3.hf]at e;cases e);have bn:=s3 _ _ a6;have dp:¬ a.own W Y:=λz=>R.mt _ (R.dH _ z) cS;have b4:Step H M (a.own W) H3 (λb=>M b\/b=fs) (a.own W):=⟨λb o e _=>s3 _ _ (S2 _ _ e),λb z _=>.inl z,λb z=>z.elim .inl λz=>.inr (by rw[z];exact bd),λb z=>.inl z,R.mt,R.dH⟩;have dd:∀b,(TD.mk p fs [] []).eD b->b=fs:=λb z=>by
   rcases z with z|⟨_,hx,_⟩
   .exact z
   .cases hx
  have b6:ns.Nodup:=pm.nodup_iff.mpr (Tb.jg TX.at_);refine⟨_,rfl,Y,rfl,⟨_,bE.of bn⟩,?_⟩;refine eV (K:=K) (a:=Y) (xs:=ns.map V.int) (λi σ H4=>zX λ(v6 v7:Option V) (O:Addr->Prop) (I:Pg.PS) (y:TD)=>Er (σ=[some (.ref a.rp),some (.int t),some (.int o),some (.ref x.p),some (.ref Y),some (.ref y.p),v6,v7]) (ax c H4 O a I W) (di c.T H4 y) ((∀b,y.eD b->O b/\¬ a.own W b/\H b=none/\b≠Y)) (¬ a.A.own y.p) ((∀q,Tb.look y.t q=if q∈ns.take i then Tb.look x.t q else none)) (Pg.RI I (qD y.t++ents W)) (y.t.length=i) (Cv I W cv) ((∀q e,Tb.look y.t q=some e->Pg.xv I e (cv t q))) (Step H M (a.own W) H4 O (a.own W)) (H4 Y=some (.lst (ns.map V.int))) (∀b,(I.ow b).length=(s'.ow b).length))
   ⟨_,_,_,s',⟨p,fs,[],[]⟩,rfl,R3,⟨T3,nodup_nil,λq=>rfl⟩,λb z=>?_,λz=>R.mt _ (R.ok.own _ z) b7,λq=>by simp[Tb.gE],ri,rfl,c4,λq e h=>(by cases h),b4,bn,λ_=>rfl⟩ (λi σ H4 _ z0=>by obtain⟨_,_,_,_,_,_,_,_,_,_,_,_,_,_,_,_,h,_⟩:=z0;exact bE.of h) ?_ ?_
  .rw[dd b z];exact⟨.inr rfl,λw=>R.mt _ (R.dH _ w) bd,bd,λw=>by rw[w,a6]at a1;cases a1⟩
  .rintro i u σ H4 hu ⟨v6,v7,O,I,y,rfl,U,T4,L,as,ap,ac,a4,a0,a3,ad,ba,am⟩;rw[getElem?_map]at hu;obtain⟨G,hp,rfl⟩:=Option.map_eq_some_iff.mp hu;have c3:=mem_of_getElem? hp;obtain⟨hi,dz⟩:=List.getElem?_eq_some_iff.mp hp;have cP:¬ G∈ns.take i:=λz=>by
    obtain⟨j,hj,e⟩:=getElem_of_mem z;rw[getElem_take]at e;rw[length_take]at hj;exact nZ b6 j i (getElem?_eq_getElem af) hp af e
   obtain⟨e,he⟩:∃e,Tb.look x.t G=some e:=by
    cases z:Tb.look x.t G with
    |none=>exact absurd z ((TX.mem pm G).mp c3)
    |some e=>exact⟨e,rfl⟩
   have c2:Tb.look y.t G=none:=(by rw[ap,if_neg cP]);have X4:=U.tb _ (Tb.ay hx);obtain⟨ch,c0⟩:=X4.at_.ob;refine⟨_,rfl,x.p,ch,_,rfl,c0,Tb.aY _ ao,_,rfl,x.p,x.fs,x.tb,G,rfl,X4.at_,λH5 v s5 hv=>?_⟩;rw[X4.lk,he]at hv;obtain⟨tt,rfl,a7⟩:=hv;have R5:=U.same s5;have T5:di c.T H5 y:=⟨T4.at_.same s5,T4.nd,T4.lk⟩;obtain⟨cx,c9⟩:=T5.at_.ob;obtain⟨g1,g2⟩:=TX.pg (q:=G) (by rw[he];simp);have dj:Tb.lL (wg e)=true:=(by cases e<;>rfl);refine⟨_,rfl,y.p,cx,_,rfl,c9,Tb.aY _ ao,_,rfl,_,rfl,y.p,y.fs,tt,y.tb,G,wg e,rfl,T5.at_,g1,g2,.inl a7,dj,λH6 ab T6 l6 o6 n6=>?_⟩;have cr:¬ y.eD tt:=λz=>by
    obtain⟨_,h⟩:=T5.at_.dK z;rw[a7]at h;cases h
   have be:=o6 _ _ a7 cr;have bb:di c.T H6 ⟨y.p,y.fs,ab,(G,e)::y.t⟩:=⟨T6,List.nodup_cons.mpr ⟨Tb.cn c2,T4.nd⟩,λj=>by
    rw[l6 j,Tb.aN];by_cases z:j=G
    .rw[if_pos z,if_pos z.symm];rfl
    .rw[if_neg z,if_neg (Ne.symm z)];exact T4.lk j⟩
   have bi:∀{b},H5 b=none->¬ a.own W b/\H b=none:=λ{b} h=>by
    have no:¬ a.own W b:=λz=>R5.mt _ (R5.dH _ z) h;exact⟨no,((ad.trans (U.iE s5)).gone h).resolve_left no⟩
   have R6:=R5.AR (H':=H6) (B:=y.eD) (M':=λb=>(O b/\¬ y.eD b)\/(TD.mk y.p y.fs ab ((G,e)::y.t)).eD b) o6 (λb z=>⟨(L b z).1,(L b z).2.1⟩) (λb z=>.inr (T5.at_.dK z)) (λb z=>z.elim (λz=>.inl z.1) λz=>(n6 b z).elim (λz=>.inl (L b z).1) .inr) (λb z w=>.inl ⟨z,w⟩) (λb z w=>by
    rcases z with z|z
    .cases e2:H5 b with
     |none=>exact R5.mt b z.1 e2
     |some u=>rw[o6 b u e2 z.2]at w;cases w
    .obtain⟨_,h⟩:=bb.at_.dK z;rw[w]at h;cases h)
   have a5:∀b,(TD.mk y.p y.fs ab ((G,e)::y.t)).eD b->((O b/\¬ y.eD b)\/(TD.mk y.p y.fs ab ((G,e)::y.t)).eD b)/\¬ a.own W b/\H b=none/\b≠Y:=λb z=>by
    rcases n6 b z with w|w
    .exact⟨.inr z,(L b w).2⟩
    .exact⟨.inr z,(bi w).1,(bi w).2,λy=>by rw[y,s5 _ _ ba]at w;cases w⟩
   have bc:=ad.trans (U.iE s5);have b3:Step H M (a.own W) H6 (λb=>(O b/\¬ y.eD b)\/(TD.mk y.p y.fs ab ((G,e)::y.t)).eD b) (a.own W):=⟨λb o e z=>o6 _ _ (bc.off b o e z) (λw=>by rw[(L b w).2.2.1]at e;cases e),λb z w=>.inl ⟨bc.mm b z w,λy=>R.mt b z (L b y).2.2.1⟩,λb z=>z.elim (λz=>bc.mn b z.1) λz=>.inr (a5 b z).2.2.1,λb z=>.inl z,R.mt,R.dH⟩;have bz:=o6 _ _ (s5 _ _ ba) λz=>(L _ z).2.2.2 rfl;have bm:∀j,Tb.look ((G,e)::y.t) j=if j∈ns.take (i+1)then Tb.look x.t j else none:=λj=>by
    rw[Tb.aN,ap j,take_add_one,hp];by_cases z:G=j
    .rw[if_pos z, <-z,if_pos (by simp),he]
    .rw[if_neg z];by_cases z2:j∈ns.take i
     .rw[if_pos z2,if_pos (mem_append_left _ z2)]
     .rw[if_neg z2,if_neg (by simp[Ne.symm z,z2])]
   have bJ:(qD y.t++ents W).length<(I.ow true).length+(I.ow false).length:=by
    have e1:(qD y.t).length=i:=(by unfold qD;rw[length_map];exact a4);rw[length_append,e1,am,am];unfold bO at b5;omega
   have b1:=a0 t x hx G e he;refine⟨_,rfl,tt,aB,_,_,rfl,rfl,bV.of be,iA.sq (.inr sB),?_⟩;cases e with
   |none =>
    refine⟨rfl,rfl,_,rfl,bu ?_⟩;refine⟨_,_,_,I,⟨y.p,y.fs,ab,(G,none)::y.t⟩,rfl,R6,bb,a5,as,bm,ac.lay bJ,by rw[length_cons,a4],a0,λj J h'=>?_,b3,bz,am⟩;have h':Tb.look ((G,none)::y.t) j=some J:=h';rw[Tb.aN]at h';by_cases z:G=j
    .rw[if_pos z]at h';cases h';rw[<-z];exact b1
    .rw[if_neg z]at h';exact a3 j J h'
   |some k =>
    refine⟨rfl,rfl,_,rfl,dU ?_⟩;obtain⟨dm,c1⟩:=R6.ob;obtain⟨ce,b8⟩:=R6.pg.ob;obtain⟨cs,cc,hv⟩:=ac.is k (mem_append_right _ (gN hx he));obtain⟨b0,n0,hk,_,_⟩:=id hv;refine⟨_,rfl,a.rp,c.C,dm,_,_,rfl,c1,T.cl,T.nP,kq _ _ _,a.A.pg,ce,_,rfl,b8,cG _ _ ao ao ao ao ao,_,rfl,tt,_,1,_,rfl,rfl,bV.of be,rfl,_,a.A,I,k,b0,n0,cs,cc,rfl,R6.FH ac,hk,hv,λH7 G7 O7=>?_⟩;have sm:=λJ=>Pg.sG (es:=[J]) ac.good hk hv J (List.mem_singleton.mpr rfl);have bv:∀b,((Pg.cz I b0 n0 (cc+1)).ow b).length=(I.ow b).length:=λb=>Pg.dv b;refine⟨_,_,_,_,⟨y.p,y.fs,ab,(G,some k)::y.t⟩,rfl,R6.j6 G7 O7 bv,bb.off O7 as (λb z w=>(a5 b z).2.1 (.inl w)) R6.pg.jw,a5,as,bm,ac.share hk hv bJ,by rw[length_cons,a4],a0.keep λJ _=>sm J,λj J h'=>?_,b3.trans (R6.DK G7 O7),O7 _ _ bz (λz=>dp (.inl z)),λb=>(bv b).trans (am b)⟩;have h':Tb.look ((G,some k)::y.t) j=some J:=h';rw[Tb.aN]at h';by_cases z:G=j
    .rw[if_pos z]at h';cases h';rw[<-z];exact sm _ _ b1
    .rw[if_neg z]at h';exact sm _ _ (a3 j J h')
  .rintro σ H4 ⟨v6,v7,O,I,y,rfl,U,T4,L,as,ap,ac,a4,a0,a3,ad,ba,am⟩;rw[length_map,take_length]at ap;have hy:∀j,Tb.look y.t j=Tb.look x.t j:=λj=>by
    rw[ap j];by_cases z:j∈ns
    .rw[if_pos z]
    .rw[if_neg z];cases w:Tb.look x.t j with
     |none=>rfl
     |some e=>exact absurd ((TX.mem pm j).mpr (by rw[w];simp)) z
   obtain⟨db,ca⟩:=U.ob;refine⟨_,rfl,_,rfl,a.rp,c.C,db,_,_,rfl,ca,T.cl,T.nR,fg _ _ _,_,rfl,a.rd,_,rfl,eO.k (k:=Sum.inl o) U.hd (by rw[Tb.cu];omega),?_⟩;rw[show(V.ref y.p)=fR y from rfl,Tb.cA a2];have R5:=U.xW a2 T4 (λb z=>⟨(L b z).1,(L b z).2.1⟩) as;refine q _ O I y hy R5 (by rw[qU];exact ac.perm perm_append_comm) ?_ ⟨?_,ad.mm,ad.mn,λb z=>?_,R.mt,R.dH⟩ am
   .intro t' x' h' j J bx;rw[Tb.bN t' a2]at h';unfold yd;by_cases z:t'=o
    .rw[if_pos z]at h' ⊢;cases h';exact a3 j J bx
    .rw[if_neg z]at h' ⊢;exact a0 t' x' h' j J bx
   .intro b u e z;rw[ah (λw=>z (.inr (.inl w)))];exact ad.off b u e z
   .rcases z with z|z|⟨x',aT,z⟩
    .exact .inl (.inl z)
    .exact .inl (.inr (.inl z))
    .rcases List.mem_append.mp aT with aT|aT
     .exact .inl (.inr (.inr ⟨x',aT,z⟩))
     .rw[List.mem_singleton.mp aT]at z;exact .inr (L b z).2.2.1
end
noncomputable abbrev uX:Stmt:=inClass (top 14) 0
noncomputable abbrev t4:Stmt:=inClass (top 33) 0
noncomputable def s0 (nf ns:Nat):Pg.PS:=⟨λb=>replicate (if b=true then nf else ns) 0,λb=>replicate (if b=true then nf else ns) none,λ_=>none,0,[]⟩
theorem E1 {nf ns:Nat}(h:0<nf):Pg.RI (s0 nf ns) []:=by
 have I:∀(b:Bool) (n:Nat) (c:Int),((s0 nf ns).ow b)[n]?=some c->c=0:=λb n c e=>by
  have e:(replicate (if b=true then nf else ns) (0:Int))[n]?=some c:=e;exact(List.mem_replicate.mp (mem_of_getElem? e)).2
 have F:∀n:Nat,(replicate n (0:Int)).sum=0:=λn=>by
  induction n with
  |zero=>rfl
  |succ n G=>rw[replicate_succ,sum_cons,G];rfl
 refine⟨⟨(λk p e=>by cases e),(λk b n e=>by cases e),(λk j p e=>by cases e),λb n c e=>.inl (I b n c e),λb=>?_,nodup_nil,λk=>⟨(λz=>by cases z),(λ⟨n,e⟩=>by cases e)⟩⟩,Int.le_refl _,λe=>?_,(λk z=>by cases z),λk cs c z=>?_,?_,zero_le _⟩
 .show(replicate _ _).length=(replicate _ _).length;rw[length_replicate,length_replicate]
 .have:(replicate nf (0:Int)).length=0:=(by rw[show replicate nf (0:Int)=[]from e];rfl);rw[length_replicate]at this;omega
 .obtain⟨b,n,e,_⟩:=z;cases e
 .show(replicate nf (0:Int)).sum+(replicate ns (0:Int)).sum=0;rw[F,F];rfl
noncomputable def PA.nine (A:PA):List Addr:=[A.pg,A.fp,A.fo,A.fc,A.sp,A.so,A.sc,A.pd,A.il]
inductive pU (C CS:Addr) (vs:List V) (H:Hp) (Q:VK) (e3:XK):Prop
 |mk (p dx:Addr) (nf ns:Nat) (_:vs=[.ref p,.int nf,.int ns]) (_:nf<=60) (_:ns<=60) (_:H p=some (.ins C dx [])) (_:∀(H':Hp) (A:PA),A.pg=p->A.nine.Nodup->(∀b∈A.nine,b=p\/H b=none)->(∀M,bL C CS H' M A (s0 nf ns))->Off (· = p) H H'->Q .non H'):pU C CS vs H Q e3
inductive oX (c:CA) (vs:List V) (H:Hp) (Q:VK) (e3:XK):Prop
 |mk (p dx:Addr) (nf ns:Nat) (_:vs=[.ref p,.int nf,.int ns]) (_:nf<=60) (_:ns<=60) (_:0<nf) (_:H p=some (.ins c.C dx [])) (_:∀(H':Hp) (M:Addr->Prop) (a:RA),a.rp=p->ax c H' M a (s0 nf ns) []->(∀b,M b->H b=none)->Off (· = p) H H'->Q .non H'):oX c vs H Q e3
theorem cD {H:Hp}{a b:Addr}{o:HO}(h:upd H a o b=none):b≠a/\H b=none:=by
 by_cases z:b=a
 .rw[z,ae]at h;cases h
 .rw[ah z]at h;exact⟨z,h⟩
theorem gO {C p ow co:Addr}{B:Addr->Prop}{os:List Int}{pg:List (Option (List Int))}{H H':Hp}(S:∀M,aQ C H M p ow co os pg) (o:Off B H H') (F:¬ B p) (G:¬ B ow) (I:¬ B co):∀M,aQ C H' M p ow co os pg:=λM =>
 ((S λb=>M b\/B b).off o (λb z=>.inr z) F G I).less λb z=>.inl z
theorem gD {C CS p dx q ow co:Addr}{fs:List (Str×V)}{os:List Int}{pg:List (Option (List Int))}{H:Hp}(F:H p=some (.ins C dx fs)) (S:∀M,aQ CS H M q ow co os pg):∀b,b=p\/b=q\/b=ow\/b=co->H b≠none:=by
 intro b z e;have S:=S λ_=>False;obtain⟨I,h2⟩:=S.ob;obtain⟨_,G,_⟩:=S.hc;rcases z with z|z|z|z<;>rw[z]at e
 .rw[F]at e;cases e
 .rw[h2]at e;cases e
 .rw[S.hw]at e;cases e
 .rw[G]at e;cases e
theorem mG {C CS:Addr}{H:Hp}{M:Addr->Prop}{A:PA}{s:Pg.PS}(G:bL C CS H M A s):∀b∈A.nine,H b≠none:=by
 intro b z e;unfold PA.nine at z;simp only[mem_cons,not_mem_nil,or_false]at z;obtain⟨dx,h1⟩:=G.ob;obtain⟨_,F⟩:=G.fr.ob;obtain⟨_,J⟩:=G.sl.ob;obtain⟨_,L,_⟩:=G.fr.hc;obtain⟨_,N,_⟩:=G.sl.hc;obtain⟨l,I,_⟩:=G.pd;rcases z with z|z|z|z|z|z|z|z|z<;>rw[z]at e
 .rw[h1]at e;cases e
 .rw[F]at e;cases e
 .rw[G.fr.hw]at e;cases e
 .rw[L]at e;cases e
 .rw[J]at e;cases e
 .rw[G.sl.hw]at e;cases e
 .rw[N]at e;cases e
 .rw[I]at e;cases e
 .rw[G.il]at e;cases e
section
variable {P:Program}{w:World}{K:PySem.W.Frag}{mg:Str->Option Value}{base:Heap}
theorem Gb:aA ["self","frames","slots"] ["self","frames","slots"] (ar uX):=L2.bD
theorem xK {f C CS bc:Addr}{fd bx:FuncData}(F:cQ K "__init__" "Paging.__init__" uX f fd) (T:mQ K mg C) (MS:Mk K CS bc) (bz:mg "Store" = some (.ref CS))
  (bI:bj P w K mg base aW 1 bc bx ["self","many"] (gM CS)) (be:Binds K bx ["self","many"] []):bj P w K mg base aW 3 f fd ["self","frames","slots"] (pU C CS):=by
 refine F.ok Gb (λvs H Q E h=>?_) (λcp A outer s H vs Q E hr h=>?_)
 .obtain⟨p,dx,nf,ns,rfl,_⟩:=h;rfl
 .obtain⟨p,dx,nf,ns,rfl,n1,n2,hp,k⟩:=h;refine⟨_,(ag (eT (pv 0) (kZ MS bI (hr.mono av) (by rfl) bz be .nil aw (aa (pv 1) ai)) rfl)
   (ag (eT (pv 0) (kZ MS bI (hr.mono av) (by rfl) bz be .nil aw (aa (pv 2) ai)) rfl)
   (ag (eT (pv 0) cR rfl)
   (ag (eT (pv 0) ak rfl)
   (aj (eT (pv 0) (ck ai) rfl)))))),?_⟩
  refine⟨_,rfl,λfp ce aT bv b0=>⟨fp,ce,nf,rfl,n1,ae,λR O H1 Y ab b6 S1 o1=>⟨rfl,?_⟩⟩⟩;have m1:bf H H1:=λb u e=>o1 b u (by rw[ah (aq e aT),ah (aq e bv)];exact e) (aq e aT);obtain⟨q1,Y⟩:=cD Y;obtain⟨q2,ab⟩:=cD ab;have Y:=(cD Y).2;have ab:=(cD ab).2;have b9:=m1 _ _ hp;have aB:fp≠p:=Ne.symm (aq hp aT);have am:R≠p:=Ne.symm (aq hp Y);have as:O≠p:=Ne.symm (aq hp ab);clear o1 bv b0;refine⟨_,rfl,p,C,dx,[],rfl,b9,T.cl,T.nF,av,?_⟩;have o2:Off (· = p) H1 (upd H1 p (.ins C dx (bo "frames" (.ref fp) []))):=Off.wr rfl;have bJ:upd H1 p (.ins C dx (bo "frames" (.ref fp) [])) p=some (.ins C dx (bo "frames" (.ref fp) [])):=ae;generalize upd H1 p (.ins C dx (bo "frames" (.ref fp) []))=H2 at *;have S2:=gO S1 o2 aB am as;have O2:Off (· = p) H H2:=λb o e z=>o2 b o (m1 b o e) z;refine⟨_,rfl,λsp cc a6 bn b7=>⟨sp,cc,ns,rfl,n2,ae,λso sc H3 ap ad ca S3 o3=>⟨rfl,?_⟩⟩⟩;have m3:bf H2 H3:=λb u e=>o3 b u (by rw[ah (aq e a6),ah (aq e bn)];exact e) (aq e a6);obtain⟨q3,ap⟩:=cD ap;obtain⟨q4,ad⟩:=cD ad;have ap:=(cD ap).2;have ad:=(cD ad).2;clear o3 bn b7;have ac:∀b,b=p\/b=fp\/b=R\/b=O->H2 b≠none:=gD bJ S2;have b8:=gO (B:=λ_=>False) S2 (λb o e _=>m3 b o e) id id id;have ci:=m3 _ _ bJ;refine⟨_,rfl,p,C,dx,_,rfl,ci,T.cl,T.nS,by show 1<1000;decide,?_⟩;have ba:∀{b},H2 b=none->b≠p/\b≠fp/\b≠R/\b≠O/\H b=none:=λ{b} h=>⟨λz=>ac b (.inl z) h,λz=>ac b (.inr (.inl z)) h,λz=>ac b (.inr (.inr (.inl z))) h,λz=>ac b (.inr (.inr (.inr z))) h,by
   cases e:H b with
   |none=>rfl
   |some u=>rw[O2 b u e λz=>ac b (.inl z) h]at h;cases h⟩
  obtain⟨a1,a2,a3,a4,a5⟩:=ba a6;obtain⟨b1,b2,b3,b4,b5⟩:=ba ap;obtain⟨c1,c2,c3,c4,c5⟩:=ba ad;have o4:Off (· = p) H3 (upd H3 p (.ins C dx (bo "slots" (.ref sp) (bo "frames" (.ref fp) [])))):=Off.wr rfl;have a0:upd H3 p (.ins C dx (bo "slots" (.ref sp) (bo "frames" (.ref fp) []))) p=some (.ins C dx (bo "slots" (.ref sp) (bo "frames" (.ref fp) []))):=ae;generalize upd H3 p (.ins C dx (bo "slots" (.ref sp) (bo "frames" (.ref fp) [])))=S at *;have bm:=gO b8 o4 aB am as;have bd:=gO S3 o4 a1 b1 c1;have O4:Off (· = p) H S:=λb o e z=>o4 b o (m3 b o (O2 b o e z)) z;have ch:∀{b},S b=none->b≠p/\b≠fp/\b≠R/\b≠O/\b≠sp/\b≠so/\b≠sc/\H b=none:=λ{b} h=>by
   have N:=gD a0 bm;have U:=gD a0 bd;refine⟨λz=>N b (.inl z) h,λz=>N b (.inr (.inl z)) h,λz=>N b (.inr (.inr (.inl z))) h,λz=>N b (.inr (.inr (.inr z))) h,λz=>U b (.inr (.inl z)) h,λz=>U b (.inr (.inr (.inl z))) h,λz=>U b (.inr (.inr (.inr z))) h,?_⟩;cases e:H b with
   |none=>rfl
   |some u=>rw[O4 b u e λz=>N b (.inl z) h]at h;cases h
  intro I bl;obtain⟨d1,d2,d3,d4,d5,d6,d7,d8⟩:=ch bl;refine⟨_,rfl,p,C,dx,_,rfl,by rw[ah (Ne.symm d1)];exact a0,T.cl,T.nP,by show 2<1000;decide,?_⟩;refine⟨_,rfl,p,C,dx,_,rfl,ae,T.cl,T.nL,by show 3<1000;decide,?_⟩;have o7:Off (· = p) S (upd (upd (upd S I (.dK [])) p (.ins C dx (bo "places" (.ref I) (bo "slots" (.ref sp) (bo "frames" (.ref fp) []))))) p (.ins C dx (bo "last_sheet" (.int 0) (bo "places" (.ref I) (bo "slots" (.ref sp) (bo "frames" (.ref fp) [])))))):=λb o e z=>by
   rw[ah z,ah z,ah (aq e bl)];exact e
  have a7:upd (upd (upd S I (.dK [])) p (.ins C dx (bo "places" (.ref I) (bo "slots" (.ref sp) (bo "frames" (.ref fp) []))))) p (.ins C dx (bo "last_sheet" (.int 0) (bo "places" (.ref I) (bo "slots" (.ref sp) (bo "frames" (.ref fp) []))))) p=some (.ins C dx (bo "last_sheet" (.int 0) (bo "places" (.ref I) (bo "slots" (.ref sp) (bo "frames" (.ref fp) []))))):=ae;have bb:upd (upd (upd S I (.dK [])) p (.ins C dx (bo "places" (.ref I) (bo "slots" (.ref sp) (bo "frames" (.ref fp) []))))) p (.ins C dx (bo "last_sheet" (.int 0) (bo "places" (.ref I) (bo "slots" (.ref sp) (bo "frames" (.ref fp) []))))) I=some (.dK []):=(by rw[ah d1,ah d1,ae]);generalize upd (upd (upd S I (.dK [])) p (.ins C dx (bo "places" (.ref I) (bo "slots" (.ref sp) (bo "frames" (.ref fp) []))))) p (.ins C dx (bo "last_sheet" (.int 0) (bo "places" (.ref I) (bo "slots" (.ref sp) (bo "frames" (.ref fp) [])))))=H7 at *;have bY:=gO bm o7 aB am as;have bi:=gO bd o7 a1 b1 c1;have O7:Off (· = p) H H7:=λb o e z=>o7 b o (O4 b o e z) z;refine⟨av,λG L=>?_⟩;have N:=gD a7 bY;have U:=gD a7 bi;have i1:G≠p:=λz=>N G (.inl z) L;have i2:G≠fp:=λz=>N G (.inr (.inl z)) L;have i3:G≠R:=λz=>N G (.inr (.inr (.inl z))) L;have i4:G≠O:=λz=>N G (.inr (.inr (.inr z))) L;have i5:G≠sp:=λz=>U G (.inr (.inl z)) L;have i6:G≠so:=λz=>U G (.inr (.inr (.inl z))) L;have i7:G≠sc:=λz=>U G (.inr (.inr (.inr z))) L;have i8:G≠I:=λz=>(by rw[z,bb]at L;cases L);have i9:H G=none:=by
   cases e:H G with
   |none=>rfl
   |some u=>rw[O7 G u e i1]at L;cases L
  refine⟨_,rfl,p,C,dx,_,rfl,by rw[ah (Ne.symm i1)];exact a7,T.cl,T.nI,by show 4<1000;decide,?_⟩;have o9:Off (· = p) H7 (upd (upd H7 G (.lst [])) p (.ins C dx (cJ ⟨p,fp,R,O,sp,so,sc,I,G⟩ 0))):=λb o e z=>by
   rw[ah z,ah (aq e L)];exact e
  refine k _ ⟨p,fp,R,O,sp,so,sc,I,G⟩ rfl ?_ ?_ (λM=>⟨⟨dx,ae⟩,gO bY o9 aB am as M,gO bi o9 a1 b1 c1 M,?_,?_,[],?_,nodup_nil,(λx hx=>by cases hx),λ_=>rfl,zero_le _⟩) (λb o e z=>o9 b o (O7 b o e z) z)
  .unfold PA.nine;simp only[List.nodup_cons,mem_cons,not_mem_nil,or_false,not_or,not_false_eq_true,nodup_nil,and_true];exact⟨⟨λh=>aB h.symm,λh=>am h.symm,λh=>as h.symm,λh=>a1 h.symm,λh=>b1 h.symm,λh=>c1 h.symm,λh=>d1 h.symm,λh=>i1 h.symm⟩,⟨λh=>q1 h.symm,λh=>q2 h.symm,λh=>a2 h.symm,λh=>b2 h.symm,λh=>c2 h.symm,λh=>d2 h.symm,λh=>i2 h.symm⟩,⟨λh=>(Ne.symm b6) h.symm,λh=>a3 h.symm,λh=>b3 h.symm,λh=>c3 h.symm,λh=>d3 h.symm,λh=>i3 h.symm⟩,⟨λh=>a4 h.symm,λh=>b4 h.symm,λh=>c4 h.symm,λh=>d4 h.symm,λh=>i4 h.symm⟩,⟨λh=>q3 h.symm,λh=>q4 h.symm,λh=>d5 h.symm,λh=>i5 h.symm⟩,⟨λh=>(Ne.symm ca) h.symm,λh=>d6 h.symm,λh=>i6 h.symm⟩,⟨λh=>d7 h.symm,λh=>i7 h.symm⟩,λh=>i8 h.symm⟩
  .intro b J;unfold PA.nine at J;simp only[mem_cons,not_mem_nil,or_false]at J;rcases J with J|J|J|J|J|J|J|J|J<;>rw[J]
   .exact .inl rfl
   .exact .inr aT
   .exact .inr Y
   .exact .inr ab
   .exact .inr a5
   .exact .inr b5
   .exact .inr c5
   .exact .inr d8
   .exact .inr i9
  .show upd (upd H7 G (.lst [])) p _ G=_;rw[ah i1,ae];rfl
  .intro b;show(replicate _ _).length<=60;rw[length_replicate];cases b
   .exact n2
   .exact n1
  .show upd (upd H7 G (.lst [])) p _ I=_;rw[ah d1,ah (Ne.symm i8)];exact bb
theorem GY:aA ["self","frames","slots"] ["self","frames","slots"] (ar t4):=L2.bD
theorem xG {f aB:Addr}{fd ad:FuncData}{c:CA}(F:cQ K "__init__" "Rooms.__init__" t4 f fd) (T:oq K mg c) (MP:Mk K c.P aB) (aT:mg "Paging" = some (.ref c.P))
  (a1:bj P w K mg base aW 3 aB ad ["self","frames","slots"] (pU c.P c.S)) (a6:Binds K ad ["self","frames","slots"] []):bj P w K mg base aW 5 f fd ["self","frames","slots"] (oX c):=by
 refine F.ok GY (λvs H Q E h=>?_) (λbc A outer s H vs Q E hr h=>?_)
 .obtain⟨p,dx,nf,ns,rfl,_⟩:=h;rfl
 .obtain⟨p,dx,nf,ns,rfl,n1,n2,n3,hp,k⟩:=h;refine⟨_,(ag (eT (pv 0) (kZ MP a1 (hr.mono av) (by rfl) aT a6 .nil aw (aa (pv 1) (aa (pv 2) ai))) rfl)
   (ag (eT (pv 0) (az bq (pv 1) (pv 2)) rfl)
   (aj (eT (pv 0) cR rfl)))),?_⟩
  refine⟨_,rfl,_,rfl,λpg a7 U ba bb=>⟨pg,a7,nf,ns,rfl,n1,n2,ae,λH1 G eA a2 am GA o1=>⟨rfl,?_⟩⟩⟩;have m1:bf H H1:=λb u e=>o1 b u (by rw[ah (aq e U),ah (aq e ba)];exact e) (aq e U);have fr:∀b∈G.nine,H b=none:=λb N=>by
   rcases am b N with h|h
   .rw[h];exact U
   .exact(cD (cD h).2).2
  have ac:=m1 _ _ hp;clear o1 am;refine⟨_,rfl,p,c.C,dx,[],rfl,ac,T.cl,T.nP,av,?_⟩;refine⟨_,rfl,_,rfl,_,_,rfl,rfl,?_⟩;refine⟨_,rfl,p,c.C,dx,_,rfl,ae,T.cl,T.nT,by show 1<1000;decide,?_⟩;rw[<-eA];have R:Off (· = p) H1 (upd (upd H1 p (.ins c.C dx (bo "paging" (.ref G.pg) []))) p (.ins c.C dx (bo "total" (.int ((nf:Int)+ns)) (bo "paging" (.ref G.pg) [])))):=λb o e z=>(by rw[ah z,ah z];exact e);have ap:upd (upd H1 p (.ins c.C dx (bo "paging" (.ref G.pg) []))) p (.ins c.C dx (bo "total" (.int ((nf:Int)+ns)) (bo "paging" (.ref G.pg) []))) p=some (.ins c.C dx (bo "total" (.int ((nf:Int)+ns)) (bo "paging" (.ref G.pg) []))):=ae;generalize upd (upd H1 p (.ins c.C dx (bo "paging" (.ref G.pg) []))) p (.ins c.C dx (bo "total" (.int ((nf:Int)+ns)) (bo "paging" (.ref G.pg) [])))=L at *;intro rd J;have O:rd≠p:=Ne.symm (aq ap J);refine⟨_,rfl,p,c.C,dx,_,rfl,by rw[ah (Ne.symm O)];exact ap,T.cl,T.nR,by show 2<1000;decide,?_⟩;have o5:Off (· = p) H1 (upd (upd L rd (.dK [])) p (.ins c.C dx (eG G.pg ((nf:Int)+ns) rd))):=λb o e z=>(by rw[ah z,ah (aq (R b o e z) J)];exact R b o e z);have ab:∀b∈G.nine,b≠p:=λb N z=>(by rw[z]at N;have:=fr p N;rw[hp]at this;cases this);have Y:∀b,G.own b->b∈G.nine:=λb h=>by
   unfold PA.own at h;unfold PA.nine;simp only[mem_cons,not_mem_nil,or_false]at h ⊢;rcases h with h|h|h|h|h|h|h<;>simp[h]
  have n9:∀i {b},G.nine[i]?=some b->b≠p:=λi b h=>ab b (mem_of_getElem? h);have G5:∀M,bL c.P c.S (upd (upd L rd (.dK [])) p (.ins c.C dx (eG G.pg ((nf:Int)+ns) rd))) M G (s0 nf ns):=λM=>(GA λb=>M b\/b=p).move o5 (λb z=>.inr z) (λb z=>.inl (.inl z)) (λb z=>ab b (Y b z)) (n9 1 rfl) (n9 4 rfl) (λb xs e z=>by rw[z,ac]at e;cases e);have a5:upd (upd L rd (.dK [])) p (.ins c.C dx (eG G.pg ((nf:Int)+ns) rd)) p=some (.ins c.C dx (eG G.pg ((nf:Int)+ns) rd)):=ae;have as:upd (upd L rd (.dK [])) p (.ins c.C dx (eG G.pg ((nf:Int)+ns) rd)) rd=some (.dK []):=(by rw[ah O,ae]);have AX:¬ rd∈G.nine:=λz=>by
   have a3:=mG (GA λ_=>False) rd z;cases e:H1 rd with
   |none=>exact a3 e
   |some u=>rw[R _ _ e O]at J;cases J
  have a4:H rd=none:=by
   cases e:H rd with
   |none=>rfl
   |some u=>rw[R _ _ (m1 _ _ e) O]at J;cases J
  have a0:Off (· = p) H (upd (upd L rd (.dK [])) p (.ins c.C dx (eG G.pg ((nf:Int)+ns) rd))):=λb o e z=>o5 b o (m1 b o e) z;refine k _ (λb=>b∈G.nine\/b=rd) ⟨G,p,rd⟩ rfl ⟨⟨dx,?_⟩,G5 _,⟨a2,λx I=>.inl I⟩,λb z=>?_,as,nodup_nil,(λx I=>by cases I),(λx I=>by cases I),(λx I=>by cases I),(λx I=>by cases I),.inr rfl,λz=>AX (Y _ z),λz=>ab _ (Y _ z) rfl⟩ (λb z=>z.elim (fr b) λz=>by rw[z];exact a4) a0
  .have e:bO (s0 nf ns)=(nf:Int)+ns:=by
    unfold bO;rw[show((s0 nf ns).ow true).length=nf from length_replicate,show((s0 nf ns).ow false).length=ns from length_replicate];omega
   rw[e];exact a5
  .rcases z with z|z
   .exact mG (G5 λ_=>False) b z
   .intro w;rw[z]at w;exact absurd (as.symm.trans w) (by simp)
end
end St
namespace HT
open PySem PySem.Spec PyProof.Rows
section
variable {prog:Program}{w:World}{A:Around}{E:Value->Shared->Prop}{s:Shared}
theorem iY {t sl:Addr}{items:Array Value}{G I:Value}{lo hi:Option Int}{Q:Value->Shared->Prop}(F:IsTup s.heap t items) (hs:s.heap.IsSliceOf sl G I .none) (pl:IsPart G lo) (R:IsPart I hi)
  (J:cZ items.size 0 lo=0/\cZ items.size items.size hi=items.size) (h:Q (.ref t) s):wpAny (model prog w) A (getItem (.ref t) (.ref sl)) Q E s:=by
 obtain⟨os,O,S,U⟩:=id hs;have N:s.TypeIs (.ref sl) "slice" := ⟨os,O,S⟩;unfold getItem
 try with_reducible refine wpAny_holding ?_
 first|refine wpAny_bind (wpAny_pure ?_)|skip
 refine wpAny_bind (wpAny_sequenceKey F.typeIs av ?_);refine wpAny_bind (wpAny_callSpecial?_slot (name:=Str.ofString "__getitem__") F.typeIs PyProof.Rows.slot_tuple_getitem
  (wpAny_call_entry PyProof.Rows.slot_tuple_getitem F.typeIs entry_tuple_getitem ?_ (args_tuple_getitem _ _)))
 show wpAny _ _ (Builtin.Tuple.tupleItemsOf (.ref t)>>=_) _ _ s;refine wpAny_bind (tupleItemsOf_ F ?_);refine wpAny_bind (wpAny_typeOf N ?_);rw[if_pos av];refine wpAny_bind (fU hs pl R ?_);have L:(((cZ items.size 0 lo:Nat):Int)==0&&(1:Int)==1&&(cZ items.size items.size hi-cZ items.size 0 lo)==items.size)=true:=by
  rw[J.1,J.2];simp
 show wpAny _ _ (if (((cZ items.size 0 lo:Nat):Int)==0&&(1:Int)==1&&(cZ items.size items.size hi-cZ items.size 0 lo)==items.size)=true then _ else _) _ _ s;rw[if_pos L];unfold Builtin.Tuple.tupleIsExact;refine wpAny_bind (wpAny_bind (wpAny_typeOf F.typeIs (wpAny_pure ?_)));rw[if_pos av];refine wpAny_bind (wpAny_rule ?_);exact wpAny_pure ⟨_,rfl,wpAny_pure h⟩
end
end HT
namespace L2
open PySem PySem.Spec PyProof.Rows
inductive Bo (K:PySem.W.Frag) (x:V) (lo:Option Int) (hi:Option Int) (H:Hp) (Q:VK):Prop
 |mk (a:_) (xs:_) (_:x=.ref a) (_:bV K H a xs) (_:((HT.cZ xs.length 0 lo=0/\HT.cZ xs.length xs.length hi=xs.length)->Q (.ref a) H)) (_:(¬ (HT.cZ xs.length 0 lo=0/\HT.cZ xs.length xs.length hi=xs.length)->∀p,H p=none->Q (.ref p) (upd H p (.tup (eX xs lo hi))))):Bo K x lo hi H Q
theorem kN {X:Cx}:Eo X (Bo X.K):=by
 intro pins s σ H x v R N lo hi sl Q I F hs pl G h;obtain⟨a,xs,rfl,L,S,U⟩:=h;by_cases c:HT.cZ xs.length 0 lo=0/\HT.cZ xs.length xs.length hi=xs.length
 .cases F;obtain⟨its,r,J,Y⟩:=I.tuple L;have O:its.toArray.size=xs.length:=(by rw[size_toArray];exact r.length.symm);refine⟨"tuple",_,PyProof.Rows.slot_tuple_getitem.lookup,J.typeIs,?_⟩;exact HT.iY J hs pl G (by rw[O];exact c) ⟨.ref a,H,I,rfl,S c⟩
 .exact CU pins s σ H (.ref a) v R N lo hi sl Q I F hs pl G ⟨a,xs,rfl,L,c,U c⟩
theorem jT {a:Addr}{o:Obj}{kvs:List (Key×V)}{g:TG}{tb:TS}{D:Ends}{σ:St}{H:Hp}(Pv:Nat->St->Hp->Prop) (L:Pv 0 σ H) (U:∀i σ H,i<=kvs.length->Pv i σ H->H a=some (.frz o (.dK kvs)))
  (hs:∀i k v σ H T,kvs[i]?=some (k,v)->H T=none->Pv i σ H->g (.ref T) σ (upd H T (.tup [kV k,v])) λG H2=>tb { D with nx:=Pv (i+1),ct:=Pv (i+1),bk:=D.nx } G H2) (hd:∀σ H,Pv kvs.length σ H->D.nx σ H) :
  ∃W:Nat->Nat->St->Hp->Prop,(∃m,W 0 m σ H)/\∀i m σ H,W i m σ H ->
   ((DG a o kvs).stop i H/\D.nx σ H)\/((DG a o kvs).go i H/\∃N:St->Hp->Prop,(∀F H',N F H'->∃I,I<m/\W (i+1) I F H')/\∀x H',(DG a o kvs).Ak i H x H'->g x σ H' λG H2=>tb { D with nx:=N,ct:=N,bk:=D.nx } G H2):=by
 refine⟨λi m σ H=>m=kvs.length-i/\i<=kvs.length/\Pv i σ H,⟨kvs.length,by simp,zero_le _,L⟩,?_⟩;rintro i m σ H ⟨rfl,hi,p⟩;have q:=U i σ H hi p;by_cases J:i<kvs.length
 .refine .inr ⟨⟨q,J⟩,Pv (i+1),λF H' R=>⟨kvs.length-(i+1),af,rfl,J,R⟩,?_⟩;rintro v H' ⟨T,k,x,rfl,S,O,rfl⟩;exact hs i k x σ H T O S p
 .have e:i=kvs.length:=af;subst e;exact .inl ⟨⟨q,le_refl _⟩,hd σ H p⟩
theorem uh {a:Addr}{o:Obj}{kvs:List (Key×V)}{caps:List (Str×Nat)}{te:TE}{σ:St}{H:Hp}{G:List V->Hp->Prop}(Pv:Nat->List V->Hp->Prop) (J:Pv 0 [] H)
  (R:∀i zs H,i<=kvs.length->Pv i zs H->H a=some (.frz o (.dK kvs)))
  (hs:∀i k v zs H,kvs[i]?=some (k,v)->Pv i zs H->te (gz caps σ (some v)) H (λz L=>zs.length<sizeLine/\Pv (i+1) (zs++[z]) L))
  (hd:∀zs H,Pv kvs.length zs H->G zs H):∃W:Nat->Nat->List V->Hp->Prop,(∃m,W 0 m [] H)/\jH caps oH te σ (Fn a o kvs) G W:=by
 refine⟨λi m zs H=>m=kvs.length-i/\i<=kvs.length/\Pv i zs H,⟨kvs.length,by simp,zero_le _,J⟩,?_⟩;rintro i m zs H ⟨rfl,hi,p⟩;have I:=R i zs H hi p;by_cases F:i<kvs.length
 .refine .inr ⟨⟨I,F⟩,Pv (i+1),λS H' O=>⟨kvs.length-(i+1),af,rfl,F,O⟩,?_⟩;rintro v H' ⟨rfl,k,N⟩;unfold oH;dsimp only;rw[if_pos rfl];exact hs i k v zs H' N p
 .have e:i=kvs.length:=af;subst e;exact .inl ⟨⟨I,le_refl _⟩,hd zs H p⟩
section
variable {X:Cx}
theorem uM:dr X (.type "dict") (λxs H Q=>∃(d:Addr) (kvs:List (Key×V)),xs=[.ref d]/\H d=some (.dK kvs)/\∀a,H a=none->Q (.ref a) (upd H a (.dK kvs))):=by
 intro pins s σ H xs us Q I r h;obtain⟨d,kvs,rfl,hd,q⟩:=h;obtain⟨u,rfl,R⟩:=vals1 r;obtain rfl:u=Value.ref d:=R;obtain⟨J,L,vs,F,O⟩:=gv I.bJ hd;have S:=F.length;refine kt_call_dict (knd:=br X.prog X.w) L O af λh' N G=>?_;refine⟨.ref s.heap.objs.size,_,I.laid (t':=s.toks) (h':=h') (λb o e=>?_) (le_refl _) (mi J ?_ F N),rfl,q _ I.fresh⟩
 .exact(G.2 b (ne_of_lt (Heap.lt_size e))).trans (Heap.get?_push_of_some _ e)
 .exact beq_false_of_ne (ne_of_gt I.big)
theorem range_any (bs:List Bool):((List.range bs.length).any λi=>(bs[i]?).getD true)=bs.any id:=by
 rw[Bool.eq_iff_iff,List.any_eq_true,List.any_eq_true];constructor
 .rintro⟨i,hi,e⟩;have F:=List.mem_range.mp hi;rw[getElem?_eq_getElem F,getD_some]at e;exact⟨_,getElem_mem F,e⟩
 .rintro⟨b,I,e⟩;obtain⟨i,hi,G⟩:=getElem_of_mem I;refine⟨i,List.mem_range.mpr hi,?_⟩;rw[getElem?_eq_getElem hi,getD_some,G];exact e
theorem BR:bootBuiltins "any" = some (.builtin "any"):=ao
theorem vX (Y:X.calm=true):dr X (.builtin "any") (λxs H Q=>∃(l:Addr) (bs:List Bool),xs=[.ref l]/\bE X.K H l (bs.map V.bl)/\Q (.bl (bs.any id)) H):=by
 intro pins s σ H xs us Q I r h;obtain⟨l,bs,rfl,hl,q⟩:=h;obtain⟨u,rfl,ru⟩:=vals1 r;obtain rfl:u=Value.ref l:=ru;obtain⟨its,S,p,_⟩:=I.list hl;have R:=qv S;subst R;have G:=p.isList;have ab:l<s.heap.objs.size:=let ⟨_,e,_⟩:=G;Heap.lt_size e;refine call_any_walk (wpAny_pyIter_list G ?_);refine⟨s.heap.objs.size,[s.heap.objs.size,l],[s.heap.objs.size],(bs.map Value.bool).toArray.size,_,_,λi=>(bs[i]?).getD true,rfl,Walks.list (A:=X.A.in1) (I.ok.hd Y) _ l (ne_of_lt ab) (bs.map Value.bool).toArray,
  ⟨⟨_,Heap.get?_push_size _ rfl,rfl,rfl⟩,G.push _⟩,λi v s' Q' E' N L=>?_,λh' tk hk=>?_⟩
 .have O:(bs.map Value.bool).toArray[i]?=some v:=N;have F:(bs.map Value.bool)[i]?=some v:=(by simpa using O);rw[getElem?_map]at F;cases J:bs[i]? with
  |none=>rw[J]at F;cases F
  |some b =>
   rw[J]at F;have U:Value.bool b=v:=Option.some.inj F;subst U;simp only[J,getD_some]at L;exact wpAny_truthy_bool L
 .have e:((List.range (bs.map Value.bool).toArray.size).any λi=>(bs[i]?).getD true)=bs.any id:=by
   rw[size_toArray,length_map];exact range_any bs
  rw[e];exact⟨.bl _,H,I.kept (LSm.kept_iter hk),rfl,q⟩
noncomputable def EF:xf:=λo i v H Q=>∃a H',o=.ref a/\eO H a i v H'/\Q H'
theorem set_dict (G:X.A.units+1<cLine):AH X EF:=by
 intro pins s σ H o i v ov O u Q I F N J h;obtain⟨a,H',rfl,g,q⟩:=h;obtain rfl:ov=Value.ref a:=F;exact nQ G I g N J λs' L=>⟨H',L,q⟩
end
end L2
namespace Lw
open PySem L2 St
noncomputable abbrev uC:Stmt:=top 35
noncomputable abbrev pJ:Stmt:=top 36
noncomputable abbrev lJ:Stmt:=top 38
noncomputable abbrev uf:Stmt:=top 39
noncomputable abbrev sR:Stmt:=top 40
noncomputable abbrev lD:Stmt:=top 41
noncomputable abbrev BV:Stmt:=top 42
noncomputable abbrev yK:Stmt:=top 43
noncomputable abbrev oz:Stmt:=top 44
noncomputable abbrev sk:Stmt:=top 46
noncomputable abbrev yi:Stmt:=top 47
noncomputable abbrev tU:Stmt:=top 48
structure mV (mg:Str->Option Value):Prop where
 range:mg "range" = none
 enumerate:mg "enumerate" = none
 sum:mg "sum" = none
 int:mg "int" = none
 CN:mg "isinstance" = none
 min:mg "min" = none
 max:mg "max" = none
 list:mg "list" = none
 len:mg "len" = none
 dict:mg "dict" = none
 bool:mg "bool" = none
 tuple:mg "tuple" = none
 sorted:mg "sorted" = none
 all:mg "all" = none
 any:mg "any" = none
inductive pj (vs:List V) (H:Hp) (Q:VK) (e3:XK):Prop
 |mk (c k:Int) (_:vs=[.int c,.int k]) (_:∀v:Int,Q (.int v) H):pj vs H Q e3
inductive mK (K:PySem.W.Frag) (vs:List V) (H:Hp) (Q:VK) (e3:XK):Prop
 |mk (a:Addr) (ns:List Int) (k:Nat) (_:vs=[.ref a,.int k]) (_:bE K H a (ns.map V.int)) (_:ns.length<=100) (_:k<=100) (_:∀(v:Int) (H':Hp),bf H H'->Q (.int v) H'):mK K vs H Q e3
inductive jP (vs:List V) (H:Hp) (Q:VK) (e3:XK):Prop
 |mk (m:Int) (n:Nat) (_:vs=[.int m,.int n]) (_:n<=100) (_:∀(cs:List Int) (H':Hp) (l:Addr),cs.length=n->bf H H'->H l=none->H' l=some (.lst (cs.map V.int))->Q (.ref l) H'):jP vs H Q e3
noncomputable def m5 (m:Int):List Int:=[2,3,2+m/4%5,2+m/4%39]
noncomputable def rH (m:Int):List Int:=[m/200%8,m/200%61,60]
noncomputable def k6 (m:Int):Nat:=((m5 m).getD (m%4).toNat 0).toNat
noncomputable def mZ (m:Int):Nat:=((rH m).getD (m/9%3).toNat 0).toNat
theorem at_of {xs:List Int}{i n:Int}(G:0<=i) (h1:i<n) (I:n=xs.length):xA (xs.map V.int) i=some (.int (xs.getD i.toNat 0))/\xs.getD i.toNat 0∈xs:=by
 obtain⟨j,rfl⟩:∃j:Nat,i=j:=⟨i.toNat,af⟩;have F:j<xs.length:=af;have e:xs.getD (toNat (j:Int)) 0=xs[j]:=(by simp[F]);rw[e];exact⟨ie (by rw[getElem?_map,getElem?_eq_getElem F];rfl),getElem_mem F⟩
theorem yH (m:Int):xA ((m5 m).map V.int) (m%4)=some (.int (k6 m))/\2<=k6 m/\k6 m<=40:=by
 obtain⟨h1,h2⟩:=at_of (xs:=m5 m) (i:=m%4) (n:=4) af af rfl;have F:2<=(m5 m).getD (m%4).toNat 0/\(m5 m).getD (m%4).toNat 0<=40:=by
  unfold m5 at h2 ⊢;simp only[mem_cons,not_mem_nil,or_false]at h2;rcases h2 with h|h|h|h<;>rw[h]<;>omega
 have e:((k6 m:Nat):Int)=(m5 m).getD (m%4).toNat 0:=(by unfold k6;omega);rw[e];exact⟨h1,by unfold k6;omega,by unfold k6;omega⟩
theorem zS (m:Int):xA ((rH m).map V.int) (m/9%3)=some (.int (mZ m))/\mZ m<=60:=by
 obtain⟨h1,h2⟩:=at_of (xs:=rH m) (i:=m/9%3) (n:=3) af af rfl;have F:0<=(rH m).getD (m/9%3).toNat 0/\(rH m).getD (m/9%3).toNat 0<=60:=by
  unfold rH at h2 ⊢;simp only[mem_cons,not_mem_nil,or_false]at h2;rcases h2 with h|h|h<;>rw[h]<;>omega
 have e:((mZ m:Nat):Int)=(rH m).getD (m/9%3).toNat 0:=(by unfold mZ;omega);rw[e];exact⟨h1,by unfold mZ;omega⟩
inductive pI (vs:List V) (H:Hp) (Q:VK) (e3:XK):Prop
 |mk (m:Int) (_:vs=[.int m]) (_:∀(H':Hp) (t:Addr),bf H H'->H t=none->H' t=some (.tup [.int (k6 m),.int (mZ m)])->Q (.ref t) H'):pI vs H Q e3
theorem FU (x y:Int):xB (x%2305843009213693951) y:=by
 have:=emod_nonneg x (show(2305843009213693951:Int)≠0 by decide);have:=emod_lt_of_pos x (show(0:Int)<2305843009213693951 by decide);exact .inl ⟨af,af⟩
theorem EK (x y:Int):xB (x%2305843009213693907) y:=by
 have:=emod_nonneg x (show(2305843009213693907:Int)≠0 by decide);have:=emod_lt_of_pos x (show(0:Int)<2305843009213693907 by decide);exact .inl ⟨af,af⟩
section
variable {P:Program}{w:World}{K:PySem.W.Frag}{mg:Str->Option Value}{base:Heap}
theorem Fo:aA ["_law_cell","_law_k","_law_once","_law_twice"] ["_law_cell","_law_k"] (ar uC):=L2.bD
theorem yA {f:Addr}{fd:FuncData}(F:cQ K "_law_mixed" "_law_mixed" uC f fd):bj P w K mg base aW 1 f fd ["_law_cell","_law_k"] pj:=by
 refine F.ok Fo (λvs H Q E h=>?_) (λI A outer s H vs Q E G h=>?_)
 .obtain⟨c,j,rfl,_⟩:=h;rfl
 .obtain⟨c,j,rfl,k⟩:=h;refine⟨_,(ag (aL (i:=2) Fo.nd rfl (Or.inl rfl) (az bH (az eS (az bq (az bq (az bH (pv 0) ak) (az eS ak (pv 1))) ak) ak) ak))
   (ag (aL (i:=2) Fo.nd rfl (Or.inl rfl) (az bH (az eS (pv 2) (pv 2)) ak))
   (ag (aL (i:=3) Fo.nd rfl (Or.inl rfl) (az bH (az eS (az bq (az bq (pv 2) (az eS ak (pv 1))) ak) ak) ak))
   (aj (aE (az bq (az eS (az bH (az eS (pv 3) (pv 3)) ak) ak) (pv 2))))))),?_⟩
  refine⟨_,rfl,_,_,rfl,rfl,(by show(0:Int)<2305843009213693951;decide),_,rfl,_,_,rfl,rfl,.inl ⟨av,av⟩,_,_,rfl,rfl,_,_,rfl,rfl,_,_,rfl,rfl,.inr ⟨av,av⟩,_,_,rfl,rfl,(by show(0:Int)<2305843009213693951;decide),?_⟩;refine⟨_,rfl,_,rfl,_,_,rfl,rfl,FU _ _,_,_,rfl,rfl,(by show(0:Int)<2305843009213693921;decide),?_⟩;refine⟨_,rfl,_,rfl,_,_,rfl,rfl,.inl ⟨av,av⟩,_,_,rfl,rfl,_,_,rfl,rfl,_,_,rfl,rfl,.inr ⟨av,av⟩,_,_,rfl,rfl,(by show(0:Int)<2305843009213693907;decide),?_⟩;exact⟨_,rfl,_,rfl,_,_,rfl,rfl,EK _ _,_,_,rfl,rfl,(by show(0:Int)<2305843009213693951;decide),_,_,rfl,rfl,.inr ⟨av,av⟩,_,rfl,_,_,rfl,rfl,k _⟩
theorem DR:aA ["_law_script","_law_k","_law_cell"] ["_law_script","_law_k"] (ar pJ):=L2.bD
theorem wJ {f:Addr}{fd:FuncData}(F:cQ K "_law_number" "_law_number" pJ f fd) (T:mV mg) (GM:Df P w K mg base aW 1 "_law_mixed" pj):bj P w K mg base aW 2 f fd ["_law_script","_law_k"] (mK K):=by
 refine F.ok DR (λvs H Q E h=>?_) (λap A outer s H vs Q E S h=>?_)
 .obtain⟨a,ns,j,rfl,_⟩:=h;rfl
 .obtain⟨a,ns,j,rfl,O,hn,hj,k⟩:=h;have hs:sizeLine=16777216:=sizeLine_eq;refine⟨_,(ag (aL (i:=2) DR.nd rfl (Or.inl rfl) (aX cg (az sN (dg gb (pv 0) (de (pv 1)) (de (az bq (pv 1) ak))) (ck (aa (az bq (az eS (pv 1) (pv 1)) ak) ai))) ak (λ_ _=>rfl)))
   (ag (aR (aC bS (az bH (aV (mI rfl) (by rfl) T.sum tK (aa (dg gb (pv 0) eY (de ak)) ai)) ak) ak (aG _)) (aj (aE (az bH (pv 2) (az tP ak ak)))) aF)
   (aj (aE (pc GM S aw (aa (pv 2) (aa (pv 1) ai))))))),?_⟩
  refine fX λ_ jt=>?_;have ec:eX (ns.map V.int) (some (j:Int)) (some ((j:Int)+1))=((ns.drop j).take 1).map V.int:=Rm.oO (n:=1);refine⟨_,rfl,_,rfl,_,rfl,_,rfl,_,_,rfl,rfl,_,rfl,a,_,rfl,O,λp U=>?_⟩;show Fh _ _ (upd H p (.lst (eX (ns.map V.int) (some (j:Int)) (some ((j:Int)+1))))) _;rw[ec];have s1:=Tb.au (X:=.lst (((ns.drop j).take 1).map V.int)) U;have h1:upd H p (.lst (((ns.drop j).take 1).map V.int)) p=some (.lst (((ns.drop j).take 1).map V.int)):=ae;generalize upd H p (.lst (((ns.drop j).take 1).map V.int))=H1 at *;refine⟨_,rfl,_,rfl,_,_,rfl,rfl,.inl ⟨af,af⟩,_,_,rfl,rfl,(by show 1<=sizeLine;decide),λp2 am=>?_⟩;have L:=Tb.au (X:=.lst [V.int ((j:Int)*j+3)]) am;refine⟨p,p2,_,_,rfl,rfl,L _ _ h1,ae,?_,λG ab=>?_⟩
  .rw[length_map,length_take];show min 1 _+1<=sizeLine;omega
  have Y:=Tb.au (X:=.lst (((ns.drop j).take 1).map V.int++[V.int ((j:Int)*j+3)])) ab;have e3:((ns.drop j).take 1).map V.int++[V.int ((j:Int)*j+3)]=((ns.drop j).take 1++[(j:Int)*j+3]).map V.int:=(by rw[map_append];rfl);have I:=s1.trans (L.trans Y);obtain⟨R,_⟩:=at_of (xs:=(ns.drop j).take 1++[(j:Int)*j+3]) (i:=0) (n:=((ns.drop j).take 1++[(j:Int)*j+3]).length) (Int.le_refl _) (by rw[length_append,length_singleton];omega) rfl;rw[<-e3]at R;refine⟨G,_,0,_,rfl,rfl,bE.of ae,R,jt _ _ ?_⟩;generalize ((ns.drop j).take 1++[(j:Int)*j+3]).getD (toNat 0) 0=cl;have ad:=Rm.eE O (I _);show kC _ _ _ _ (upd (upd H1 p2 (.lst [V.int ((j:Int)*j+3)])) G (.lst (((ns.drop j).take 1).map V.int++[V.int ((j:Int)*j+3)])));generalize upd (upd H1 p2 (.lst [V.int ((j:Int)*j+3)])) G (.lst (((ns.drop j).take 1).map V.int++[V.int ((j:Int)*j+3)]))=H3 at *;have N:eX (ns.map V.int) none (some (1:Int))=(ns.take 1).map V.int:=Rm.uP (s:=1);refine⟨_,rfl,_,rfl,a,_,rfl,ad,λp4 ac=>?_⟩;have J:=Tb.au (X:=.lst ((ns.take 1).map V.int)) ac;refine⟨p4,ns.take 1,rfl,bE.of (by rw[<-N];exact ae),_,_,rfl,rfl,(by show(0:Int)<2;decide),rfl,_,rfl,?_⟩;rw[show eX (ns.map V.int) none (some (1:Int))=(ns.take 1).map V.int from N];refine iD (λ_=>?_) (λ_=>?_)
  .exact⟨_,rfl,_,_,rfl,rfl,⟨av,av,av⟩,_,_,rfl,rfl,(by show(0:Int)<10^40;decide),k _ _ (I.trans J)⟩
  .exact⟨_,rfl,_,rfl,cl,j,rfl,λv=>k v _ (I.trans J)⟩
theorem Bf:aA ["_law_m","_law_many","_law_cells_here","_law_k"] ["_law_m","_law_many"] (ar lJ):=L2.bD
theorem uO {f:Addr}{fd:FuncData}(F:cQ K "_law_cells" "_law_cells" lJ f fd) (T:mV mg):bj P w K mg base aW 1 f fd ["_law_m","_law_many"] jP:=by
 refine F.ok Bf (λvs H Q E h=>?_) (λab A outer s H vs Q E Y h=>?_)
 .obtain⟨m,n,rfl,_⟩:=h;rfl
 .obtain⟨m,n,rfl,hn,k⟩:=h;have hs:sizeLine=16777216:=sizeLine_eq;refine⟨_,(ag (aL (i:=2) Bf.nd rfl (Or.inl rfl) (ck ai))
   (ag (cY PassesOwn.never rfl (wU (by rfl) T.range (aa (pv 1) ai)) (aZ (i:=3) Bf.nd rfl (Or.inl rfl)) (ag (aM (gK plainAttrs_list PySem.F.slot_list_append PySem.F.type_list_append jS (pv 2) (aa (az bH (az bq (pv 0) (az eS (az eS ak (pv 3)) (az bH (az bF (pv 0) ak) ak))) ak) ai)))
   (aj (aR (aC bS (az bH (pv 3) ak) ak (aG _)) (aj (aL (i:=0) Bf.nd rfl (Or.inl rfl) (az bF (pv 0) ak))) aF))))
   (aj (aE (pv 2))))),?_⟩
  refine⟨av,λl N=>?_⟩;have s0:=Tb.au (X:=.lst []) N;refine⟨_,rfl,_,rfl,af,af,?_⟩;refine fP (lo:=0) (n:=(n:Int).toNat) (λi σ H2=>Eh λ(G:Int) (L:Option V) (cs:List Int)=>DH (σ=[some (.int G),some (.int n),some (.ref l),L]) (cs.length=i) (H2 l=some (.lst (cs.map V.int))) (bf H H2)) ⟨m,_,[],rfl,rfl,ae,s0⟩ ?_ ?_
  .rintro i σ H2 hi ⟨G,L,cs,rfl,O,h2,J⟩;refine⟨_,rfl,.inl ⟨rfl,_,bE.of h2⟩,_,rfl,_,rfl,_,_,rfl,rfl,.inl ⟨av,av⟩,_,rfl,_,_,rfl,rfl,⟨av,av⟩,_,_,rfl,rfl,(by show(0:Int)<7;decide),_,_,rfl,rfl,.inr ⟨?_,?_⟩,_,_,rfl,rfl,_,_,rfl,rfl,(by show(0:Int)<256;decide),l,_,_,rfl,rfl,h2,by rw[length_map];omega,?_⟩
   .have:=emod_nonneg (G/256) (show(7:Int)≠0 by decide);omega
   .have:=emod_lt_of_pos (G/256) (show(0:Int)<7 by decide);omega
   have I:=Rm.AK J N (X:=.lst ((cs++[(G+37*(0+(i:Int))*(G/256%7))%256]).map V.int));have R:cs.map V.int++[V.int ((G+37*(0+(i:Int))*(G/256%7))%256)]=(cs++[(G+37*(0+(i:Int))*(G/256%7))%256]).map V.int:=(by rw[map_append];rfl);refine⟨_,rfl,_,_,rfl,rfl,(by show(0:Int)<8;decide),rfl,_,rfl,?_⟩;have S:(cs++[(G+37*(0+(i:Int))*(G/256%7))%256]).length=i+1:=(by rw[length_append,O];rfl);rw[<-R]at I;have U:upd H2 l (.lst (cs.map V.int++[V.int ((G+37*(0+(i:Int))*(G/256%7))%256)])) l=some (.lst ((cs++[(G+37*(0+(i:Int))*(G/256%7))%256]).map V.int)):=(by rw[<-R];exact ae);exact iD (λ_=>⟨_,rfl,_,_,rfl,rfl,⟨av,av⟩,_,_,_,rfl,S,U,I⟩) (λ_=>⟨_,_,_,rfl,S,U,I⟩)
  .rintro σ H2 ⟨G,L,cs,rfl,O,h2,J⟩;exact⟨_,rfl,k cs H2 l af J N h2⟩
theorem Ec:aA ["_law_m","_law_frames"] ["_law_m"] (ar sk):=L2.bD
theorem yR {f:Addr}{fd:FuncData}(F:cQ K "_law_sizes" "_law_sizes" sk f fd):bj P w K mg base aW 1 f fd ["_law_m"] pI:=by
 refine F.ok Ec (λvs H Q E h=>?_) (λab A outer s H vs Q E hr h=>?_)
 .obtain⟨m,rfl,_⟩:=h;rfl
 .obtain⟨m,rfl,k⟩:=h;refine⟨_,(ag (aL (i:=1) Ec.nd rfl (Or.inl rfl) (aX cg (ck (aa ak (aa ak (aa (az bq ak (az bH (az bF (pv 0) ak) ak)) (aa (az bq ak (az bH (az bF (pv 0) ak) ak)) ai))))) (az bH (pv 0) ak) (λ_ _=>rfl)))
   (aj (aE (cL (aa (pv 1) (aa (aX cg (ck (aa (az bH (az bF (pv 0) ak) ak) (aa (az bH (az bF (pv 0) ak) ak) (aa ak ai)))) (az bH (az bF (pv 0) ak) ak) (λ_ _=>rfl)) ai)))))),?_⟩
  obtain⟨N,_⟩:=yH m;obtain⟨R,_⟩:=zS m;refine fX λ_ S=>?_;refine⟨_,rfl,_,_,rfl,rfl,⟨av,av⟩,_,_,rfl,rfl,(by show(0:Int)<5;decide),_,_,rfl,rfl,_,rfl,_,_,rfl,rfl,⟨av,av⟩,_,_,rfl,rfl,(by show(0:Int)<39;decide),_,_,rfl,rfl,(by show 4<=sizeLine;decide),λG L=>⟨_,rfl,_,_,rfl,rfl,(by show(0:Int)<4;decide),G,_,_,.int (k6 m),rfl,rfl,bE.of ae,N,S _ _ ?_⟩⟩;have s0:=Tb.au (X:=.lst ((m5 m).map V.int)) L;show Ct _ _ _ (upd H G (.lst ((m5 m).map V.int)));generalize upd H G (.lst ((m5 m).map V.int))=H1 at *;refine⟨_,rfl,_,rfl,_,_,rfl,rfl,⟨av,av⟩,_,_,rfl,rfl,(by show(0:Int)<8;decide),_,rfl,_,_,rfl,rfl,⟨av,av⟩,_,_,rfl,rfl,(by show(0:Int)<61;decide),(by show 3<=sizeLine;decide),λU Y=>⟨_,rfl,_,_,rfl,rfl,⟨av,av⟩,_,_,rfl,rfl,(by show(0:Int)<3;decide),U,_,_,.int (mZ m),rfl,rfl,bE.of ae,R,(by show 2<=sizeLine;decide),λt J=>?_⟩⟩;have I:=Tb.au (X:=.lst ((rH m).map V.int)) Y;have O:=Tb.au (X:=.tup [.int (k6 m),.int (mZ m)]) J;exact k _ t (s0.trans (I.trans O)) (s0.free (I.free J)) ae
end
structure MT where
 ra:Addr
 sa:Addr
 pl:List (Int×Addr×Int)
noncomputable abbrev Zs:=List (Int×MT)
noncomputable def iX (z:MT):V:=.ref z.ra
noncomputable def iB (z:MT):V:=.ref z.sa
noncomputable def fW (x:Addr×Int):V:=.ref x.1
noncomputable def gB (x:Addr×Int):V:=.int x.2
noncomputable def mX (F ls:Addr) (bO pk:Int):List (Key×V):=[(Sum.inr "rooms",.ref F),(Sum.inr "stands",.ref ls),(Sum.inr "total",.int bO),(Sum.inr "pokes",.int pk)]
structure MA where
 md:Addr
 lr:Addr
 ls:Addr
structure cB (H:Hp) (m:MA) (bO pk:Int) (Z:Zs):Prop where
 hm:H m.md=some (.dK (mX m.lr m.ls bO pk))
 hr:H m.lr=some (.dK (Tb.dk iX Z))
 hs:H m.ls=some (.dK (Tb.dk iB Z))
 rm:∀x∈Z,H x.2.ra=some (.dK (Tb.dk fW x.2.pl))
 st:∀x∈Z,H x.2.sa=some (.dK (Tb.dk gB x.2.pl))
 cl:∀x∈Z,∀y∈x.2.pl,∃ns:List Int,H y.2.1=some (.lst (ns.map V.int))/\ns.length=8
 nd:(Z.map (·.1)).Nodup
 np:∀x∈Z,(x.2.pl.map (·.1)).Nodup
 rg:∀x∈Z,∀y∈x.2.pl,0<=y.1/\y.1<64
 da:∀x∈Z,∀y∈Z,x.1≠y.1->x.2.ra≠y.2.ra/\x.2.sa≠y.2.sa
 rs:∀x∈Z,∀y∈Z,x.2.ra≠y.2.sa
 d3:∀x∈Z,x.2.ra≠m.md/\x.2.ra≠m.lr/\x.2.ra≠m.ls/\x.2.sa≠m.md/\x.2.sa≠m.lr/\x.2.sa≠m.ls
 n3:m.md≠m.lr/\m.md≠m.ls/\m.lr≠m.ls
noncomputable def cW (m:MA) (Z:Zs):Addr->Prop:=λb=>b=m.md\/b=m.lr\/b=m.ls\/∃x∈Z,b=x.2.ra\/b=x.2.sa\/∃y∈x.2.pl,b=y.2.1
theorem ks_ne {a b:Str}(h:a≠b):¬ V.str a=V.str b:=λe=>h (by injection e)
theorem Af (F ls:Addr) (bO pk:Int):cq (mX F ls bO pk) (Sum.inr "rooms")=some (.ref F):=cf rfl
theorem Hz:¬ ((Sum.inr ("rooms" : Str):Key)=Sum.inr ("stands" : Str)):=ao
theorem Hm:¬ ((Sum.inr ("rooms" : Str):Key)=Sum.inr ("total" : Str)):=ao
theorem FZ:¬ ((Sum.inr ("rooms" : Str):Key)=Sum.inr ("pokes" : Str)):=ao
theorem Hu:¬ ((Sum.inr ("stands" : Str):Key)=Sum.inr ("total" : Str)):=ao
theorem FL:¬ ((Sum.inr ("stands" : Str):Key)=Sum.inr ("pokes" : Str)):=ao
theorem Gr:¬ ((Sum.inr ("total" : Str):Key)=Sum.inr ("pokes" : Str)):=ao
theorem E4 (F ls:Addr) (bO pk:Int):cq (mX F ls bO pk) (Sum.inr "stands")=some (.ref ls):=by
 unfold mX;rw[bC Hz,cf rfl]
theorem Dy (F ls:Addr) (bO pk:Int):cq (mX F ls bO pk) (Sum.inr "total")=some (.int bO):=by
 unfold mX;rw[bC Hm,bC Hu,cf rfl]
theorem EB (F ls:Addr) (bO pk:Int):cq (mX F ls bO pk) (Sum.inr "pokes")=some (.int pk):=by
 unfold mX;rw[bC FZ,bC FL,bC Gr,cf rfl]
theorem xm (F ls:Addr) (bO pk:Int):jM [] (mX F ls bO pk)=mX F ls bO pk:=by
 have J:putK ([(Sum.inr "rooms",V.ref F)]:List (Key×V)) (Sum.inr "stands") (V.ref ls)=([(Sum.inr "rooms",V.ref F),(Sum.inr "stands",V.ref ls)]:List (Key×V)):=jB _ (bC Hz);have I:putK ([(Sum.inr "rooms",V.ref F),(Sum.inr "stands",V.ref ls)]:List (Key×V)) (Sum.inr "total") (V.int bO)=([(Sum.inr "rooms",V.ref F),(Sum.inr "stands",V.ref ls),(Sum.inr "total",V.int bO)]:List (Key×V)):=jB _ ((bC Hm).trans (bC Hu));have G:putK ([(Sum.inr "rooms",V.ref F),(Sum.inr "stands",V.ref ls),(Sum.inr "total",V.int bO)]:List (Key×V)) (Sum.inr "pokes") (V.int pk)=([(Sum.inr "rooms",V.ref F),(Sum.inr "stands",V.ref ls),(Sum.inr "total",V.int bO),(Sum.inr "pokes",V.int pk)]:List (Key×V)):=jB _ ((bC FZ).trans ((bC FL).trans (bC Gr)));show putK (putK (putK ([(Sum.inr "rooms",V.ref F)]:List (Key×V)) (Sum.inr "stands") (V.ref ls)) (Sum.inr "total") (V.int bO)) (Sum.inr "pokes") (V.int pk)=_;rw[J,I,G];rfl
theorem yU (G ls:Addr) (bO pk:Int):(mX G ls bO pk).map (λF=>(kV F.1,F.2))=[(.str "rooms",.ref G),(.str "stands",.ref ls),(.str "total",.int bO),(.str "pokes",.int pk)]:=rfl
section
variable {H H':Hp}{m:MA}{bO pk:Int}{Z:Zs}
theorem cB.g {k:Str}{v:V}(M:cB H m bO pk Z) (h:cq (mX m.lr m.ls bO pk) (Sum.inr k)=some v):dh H m.md (.str k) (some v):=by
 have q:=dh.k (k:=Sum.inr k) M.hm;rw[h]at q;exact q
theorem cB.off {B:Addr->Prop}(M:cB H m bO pk Z) (o:Off B H H') (h:∀b,cW m Z b->¬ B b):cB H' m bO pk Z:=by
 refine⟨o _ _ M.hm (h _ (.inl rfl)),o _ _ M.hr (h _ (.inr (.inl rfl))),o _ _ M.hs (h _ (.inr (.inr (.inl rfl)))),λx F=>o _ _ (M.rm x F) (h _ (.inr (.inr (.inr ⟨x,F,.inl rfl⟩)))),λx F=>o _ _ (M.st x F) (h _ (.inr (.inr (.inr ⟨x,F,.inr (.inl rfl)⟩)))),λx F y G=>?_,M.nd,M.np,M.rg,M.da,M.rs,M.d3,M.n3⟩;obtain⟨ns,h1,h2⟩:=M.cl x F y G;exact⟨ns,o _ _ h1 (h _ (.inr (.inr (.inr ⟨x,F,.inr (.inr ⟨y,G,rfl⟩)⟩)))),h2⟩
theorem cB.same (M:cB H m bO pk Z) (s:bf H H'):cB H' m bO pk Z:=M.off (B:=λ_=>False) (λb o e _=>s b o e) λ_ _=>id
end
noncomputable def sj (Z:Zs):Int:=(Z.map λx=>(x.2.pl.length:Int)).sum
inductive ph (vs:List V) (H:Hp) (Q:VK) (e3:XK):Prop
 |mk (bO:Int) (_:vs=[.int bO]) (_:∀(H':Hp) (m:MA),bf H H'->H m.md=none->H m.lr=none->H m.ls=none->cB H' m bO 0 []->Q (.ref m.md) H'):ph vs H Q e3
inductive kP (vs:List V) (H:Hp) (Q:VK) (e3:XK):Prop
 |mk (m:MA) (bO pk:Int) (Z:Zs) (_:vs=[.ref m.md]) (_:cB H m bO pk Z) (_:Z.length<=1000) (_:∀H',bf H H'->Q (.int (sj Z)) H'):kP vs H Q e3
noncomputable def vz (pl:List (Int×Addr×Int)) (ad:Int) (n:Nat):Prop:=ad+n<=512/\∀i:Nat,i<n->Tb.look pl ((ad+i)/8)≠none
inductive jY (vs:List V) (H:Hp) (Q:VK) (e3:XK):Prop
 |mk (ra:Addr) (pl:List (Int×Addr×Int)) (ad:Int) (n:Nat) (_:vs=[.ref ra,.int ad,.int n]) (_:H ra=some (.dK (Tb.dk fW pl))) (_:0<=ad) (_:ad<=1000) (_:1<=n) (_:n<=100) (_:∀(b:Bool) (H':Hp),bf H H'->(b=true->vz pl ad n)->Q (.bl b) H'):jY vs H Q e3
section
variable {P:Program}{w:World}{K:PySem.W.Frag}{mg:Str->Option Value}{base:Heap}
theorem G8:aA ["_law_total"] ["_law_total"] (ar uf):=L2.bD
theorem yk {f:Addr}{fd:FuncData}(F:cQ K "_law_model" "_law_model" uf f fd):bj P w K mg base aW 1 f fd ["_law_total"] ph:=by
 refine F.ok G8 (λvs H Q E h=>?_) (λac A outer s H vs Q E hr h=>?_)
 .obtain⟨bO,rfl,_⟩:=h;rfl
 .obtain⟨bO,rfl,k⟩:=h;refine⟨_,(aj (aE (Ag (keys:=[some _,some _,some _,some _]) (values:=[_,_,_,_]) (jh aJ cR (jh aJ cR (jh aJ (pv 0) (jh aJ ak Bk)))) rfl rfl (List.cons_ne_nil _ _) (Nat.le_of_ble_eq_true rfl)))),?_⟩;refine λL ab I N ls J=>⟨_,rfl,?_⟩;have O:I≠L:=λe=>(by rw[e,ae]at N;cases N);have U:H I=none:=(by rw[ah O]at N;exact N);have S:ls≠I:=λe=>(by rw[e,ae]at J;cases J);rw[ah S]at J;have R:ls≠L:=λe=>(by rw[e,ae]at J;cases J);have Y:H ls=none:=(by rw[ah R]at J;exact J);refine⟨by rw[ah (Ne.symm R),ah (Ne.symm O),ae],mX I ls bO 0,(yU I ls bO 0).symm,by show 4<=15;decide,?_⟩;rw[xm];refine k _ ⟨L,I,ls⟩ (λb o e=>?_) ab U Y ⟨ae,?_,?_,(λx G=>by cases G),(λx G=>by cases G),(λx G=>by cases G),nodup_nil,(λx G=>by cases G),(λx G=>by cases G),(λx G=>by cases G),(λx G=>by cases G),(λx G=>by cases G),⟨Ne.symm O,Ne.symm R,Ne.symm S⟩⟩
  .have a1:b≠L:=aq e ab;rw[ah a1,ah (aq e Y),ah (aq e U),ah a1];exact e
  .show upd _ L _ I=_;rw[ah O,ah (Ne.symm S),ae];rfl
  .show upd _ L _ ls=_;rw[ah R,ae];rfl
theorem Gd:aA ["_law_model_here"] ["_law_model_here"] (ar sR):=L2.bD
theorem zQ {f:Addr}{fd:FuncData}(F:cQ K "_law_held" "_law_held" sR f fd) (T:mV mg):bj P w K mg base aW 1 f fd ["_law_model_here"] kP:=by
 refine F.ok Gd (λvs H Q E h=>?_) (λab A outer s H vs Q E Y h=>?_)
 .obtain⟨m,bO,pk,Z,rfl,_⟩:=h;rfl
 .obtain⟨m,bO,pk,Z,rfl,M,lz,k⟩:=h;have hs:sizeLine=16777216:=sizeLine_eq;refine⟨_,(aj (aE (aV (mI rfl) (by rfl) T.sum tK (aa (vQ (gZ (cl:=[]) (caps:=[]) ⟨rfl,ao,ao,rfl,by kernel_rfl,by intro p J;simp at J,by kernel_rfl,by intro p J;simp at J,ao⟩ rfl (Ai (bw (bg Y) (pv 0) aJ (λ_ _=>rfl))) (λ_ _ _ _=>gk) (λ_ _ _ _=>(aV jX (by rfl) T.len boot_len (aa (pv 0) ai))))) ai)))),?_⟩;have S:∀(o:Obj) O,H m.lr≠some (.frz o O):=λo O z=>(by rw[M.hr]at z;cases z);refine⟨_,rfl,m.md,.ref m.lr,rfl,M.g (Af _ _ _ _),m.lr,_,rfl,M.hr,S,λo=>?_⟩;have oF:Off (· = m.lr) H (upd H m.lr (.frz o (.dK (Tb.dk iX Z)))):=Off.wr rfl;have L:(upd H m.lr (.frz o (.dK (Tb.dk iX Z)))) m.lr=some (.frz o (.dK (Tb.dk iX Z))):=ae;refine uh (a:=m.lr) (o:=o) (kvs:=Tb.dk iX Z) (λi ys H2=>ys=((Z.take i).map λx=>(x.2.pl.length:Int)).map V.int/\H2=upd H m.lr (.frz o (.dK (Tb.dk iX Z)))) ⟨rfl,rfl⟩ (λi zs H2 _ ⟨_,e⟩=>by rw[e];exact L) ?_ ?_
  .rintro i kk v zs H2 hk ⟨rfl,rfl⟩;have U:(Z.map λx:Int×MT=>((Sum.inl x.1:Key),iX x.2))[i]?=some (kk,v):=hk;rw[getElem?_map]at U;obtain⟨x,N,e⟩:=Option.map_eq_some_iff.mp U;cases e;have R:=mem_of_getElem? N;have hi:i<Z.length:=(List.getElem?_eq_some_iff.mp N).1;refine⟨_,rfl,x.2.ra,_,rfl,oF _ _ (M.rm x R) (M.d3 x R).2.1,?_,?_,rfl⟩
   .rw[length_map,length_map,length_take];omega
   .rw[Tb.cu,take_add_one,N,map_append,map_append];rfl
  .rintro zs H2 ⟨rfl,rfl⟩ l G;have I:l≠m.lr:=λz=>(by rw[z,L]at G;cases G);refine⟨m.lr,o,Tb.dk iX Z,by rw[ah (Ne.symm I)];exact L,S,l,(Z.map λx=>(x.2.pl.length:Int)),rfl,bE.of ?_,?_⟩
   .rw[ah I,ae,Tb.cu,take_length]
   .refine k _ λb u e=>?_;by_cases z:b=m.lr
    .rw[z,ae, <-e,z,M.hr]
    .rw[ah z,ah (λy=>by rw[y]at e;rw[ah I,e]at G;cases G),ah z];exact e
theorem AS:aA ["_law_room","_law_address","_law_many"] ["_law_room","_law_address","_law_many"] (ar lD):=L2.bD
theorem tf {f:Addr}{fd:FuncData}(F:cQ K "_law_stretch" "_law_stretch" lD f fd) (T:mV mg):bj P w K mg base aW 1 f fd ["_law_room","_law_address","_law_many"] jY:=by
 refine F.ok AS (λvs H Q E h=>?_) (λR A outer s H vs Q E J h=>?_)
 .obtain⟨I,pl,ad,n,rfl,_⟩:=h;rfl
 .obtain⟨I,pl,ad,n,rfl,N,U,Y,S,O,k⟩:=h;have hs:sizeLine=16777216:=sizeLine_eq;refine⟨_,(ag (aR (aC gu (pv 2) ak (aG _)) (aj (aE jz)) aF)
   (ag (aR (PW.pt (qm (aC gU (pv 2) ak (aG _)) (kD (PW.pt (fM (aC gu (pv 1) ak (aG _)) (fw (aC gU (az bq (pv 1) (pv 2)) ak (aG _)))))))) (aj (aE jz)) aF)
   (aj (aE (ED (kM bS (pv 2) ak (aG _)) (Dj (aV (nA rfl) (by rfl) T.all yx (aa (gZ (cl:=[("_law_room",s.heap.objs.size+1)]) (caps:=[("_law_room",0)]) ⟨rfl,ao,ao,rfl,by kernel_rfl,by intro p G;simp only[mem_cons,not_mem_nil,or_false]at G;rcases G with rfl<;>first|rfl|exact⟨rfl,.inl rfl,.inl rfl⟩|exact⟨rfl,.inl rfl,.inr rfl⟩,by kernel_rfl,by intro p G;simp only[mem_cons,not_mem_nil,or_false]at G;rcases G with rfl<;>first|rfl|exact⟨rfl,.inl rfl,.inl rfl⟩|exact⟨rfl,.inl rfl,.inr rfl⟩,ao⟩ rfl (dW (by rfl) T.range (aa (pv 1) (aa (az bq (pv 1) (pv 2)) ai))) (λ_ _ _ _=>gk) (λ_ _ _ _=>(uj (my (bg J) (az bF (pv 0) ak) (pv 1))))) ai)))))))),?_⟩
  refine⟨_,rfl,_,_,rfl,rfl,_,rfl,?_⟩;rw[decide_eq_false af];refine bu (xN ?_);dsimp only;refine⟨_,rfl,_,_,rfl,rfl,_,rfl,?_⟩;rw[decide_eq_true af];refine dU ?_;refine⟨_,rfl,_,_,rfl,rfl,_,rfl,?_⟩;rw[decide_eq_false af];refine bu ?_;refine⟨_,rfl,_,rfl,_,_,rfl,rfl,_,_,rfl,rfl,_,rfl,?_⟩;by_cases c:(512:Int)<ad+n
  .rw[decide_eq_true c];exact dU (k false H (bf.refl H) (λz=>by cases z))
  .rw[decide_eq_false c];refine bu (xN ?_);dsimp only;refine⟨_,rfl,rfl,_,rfl,?_⟩;refine iD (λz=>?_) (λ_=>?_)
   .exfalso;have:((n:Nat):Int)=0:=(by simpa using z);omega
   refine⟨_,rfl,_,rfl,_,rfl,_,_,rfl,rfl,_,_,rfl,⟨af,af,af,af⟩,?_⟩;refine fb (lo:=ad) (n:=(ad+(n:Int)-ad).toNat) (λi ys H2=>ys=((List.range i).map λj:Nat=>(Tb.look pl ((ad+j)/8)).isSome).map V.bl/\H2=H) ⟨rfl,rfl⟩ ?_ ?_
   .rintro i ys H2 hi ⟨rfl,rfl⟩;refine⟨_,rfl,_,_,rfl,rfl,⟨av,av⟩,_,rfl,I,_,rfl,fj N,?_,?_,rfl⟩
    .rw[length_map,length_map,length_range];omega
    .rw[range_succ,map_append,map_append];show _++[V.bl ((Tb.look pl ((ad+(i:Int))/8)).map fW).isSome]=_;rw[isSome_map];rfl
   .rintro ys H2 ⟨rfl,rfl⟩ l L;refine⟨l,_,rfl,bE.of ae,k _ _ (Tb.au L) λz=>⟨af,λi hi=>?_⟩⟩;have e:=List.all_eq_true.mp z ((Tb.look pl ((ad+(i:Int))/8)).isSome) (List.mem_map.mpr ⟨i,List.mem_range.mpr af,rfl⟩);intro w;rw[w]at e;cases e
end
inductive Dd where
 |begin (t:Int)
 |close (t:Int)
 |map (t p m:Int)
 |drop (t p m:Int)
 |peek (t ad:Int) (n:Nat)
 |poke (t ad:Int) (c:Addr) (cs:List Int)
 |copy (t o:Int)
noncomputable def vd:Dd->List V
 |.begin t=>[.str "begin",.int t]
 |.close t=>[.str "close",.int t]
 |.map t p m=>[.str "map",.int t,.int p,.int m]
 |.drop t p m=>[.str "drop",.int t,.int p,.int m]
 |.peek t ad n=>[.str "peek",.int t,.int ad,.int n]
 |.poke t ad c _=>[.str "poke",.int t,.int ad,.ref c]
 |.copy t o=>[.str "copy",.int t,.int o]
noncomputable def Bh:Dd->Str
 |.begin _ => "begin" |.close _ => "close" |.map .. => "map" |.drop .. => "drop" |.peek .. => "peek" |.poke .. => "poke" |.copy .. => "copy"
noncomputable def BB:Dd->Int
 |.begin t=>t|.close t=>t|.map t _ _=>t|.drop t _ _=>t|.peek t _ _=>t|.poke t _ _ _=>t|.copy t _=>t
noncomputable def tX (H:Hp) (d:Addr) (D:Dd):Prop:=H d=some (.tup (vd D))/\∀t ad c cs,D=.poke t ad c cs->H c=some (.lst (cs.map V.int))
noncomputable def Ax:Dd->Prop
 |.begin _=>False
 |.map _ p m=>0<=p/\p<64/\1<=m/\m<=64
 |.drop _ p m=>0<=p/\p<64/\1<=m/\m<=64
 |.peek _ ad n=>0<=ad/\ad<=1000/\1<=n/\n<=100
 |.poke _ ad _ cs=>0<=ad/\ad<=1000/\1<=cs.length/\cs.length<=100
 |_=>True
noncomputable def Cj (Z:Zs) (bO:Int):Dd->Prop
 |.begin t=>Tb.look Z t=none
 |.close t=>∃z,Tb.look Z t=some z
 |.map t p m=>∃z,Tb.look Z t=some z/\¬ Rm.cy p m/\(∀q∈Rm.aO p m,Tb.look z.pl q=none)/\sj Z+m<=bO
 |.drop t p m=>∃z,Tb.look Z t=some z/\¬ Rm.cy p m/\∀q∈Rm.aO p m,Tb.look z.pl q≠none
 |.peek t ad n=>∃z,Tb.look Z t=some z/\vz z.pl ad n
 |.poke t ad _ cs=>∃z,Tb.look Z t=some z/\vz z.pl ad cs.length
 |.copy t o=>∃z,Tb.look Z t=some z/\Tb.look Z o=none/\sj Z+z.pl.length<=bO
inductive zp (vs:List V) (H:Hp) (Q:VK) (e3:XK):Prop
 |mk (m:MA) (bO pk:Int) (Z:Zs) (d:Addr) (D:Dd) (_:vs=[.ref m.md,.ref d]) (_:cB H m bO pk Z) (_:Z.length<=1000) (_:tX H d D) (_:Ax D) (_:∀(r:Str) (H':Hp),bf H H'->(r = "" -> Cj Z bO D)->Q (.str r) H'):zp vs H Q e3
theorem at2 {a b:V}(k:Bool):xA [a,b] (if k=true then 1 else 0)=some (if k=true then b else a):=by cases k<;>rfl
theorem CB (D:Dd):eX (vd D) none (some 2)=[.str (Bh D),.int (BB D)]:=by cases D<;>rfl
theorem zY {D:Dd}(h:HT.cZ (vd D).length 0 none=0/\HT.cZ (vd D).length (vd D).length (some 2)=(vd D).length):vd D=[.str (Bh D),.int (BB D)]:=by
 obtain⟨_,h⟩:=h;cases D<;>first|rfl|(exact absurd (show HT.cZ 4 4 (some 2)=4 from h) av)|(exact absurd (show HT.cZ 3 3 (some 2)=3 from h) av)
section
variable {P:Program}{w:World}{K:PySem.W.Frag}{mg:Str->Option Value}{base:Heap}
theorem rq:aA ["_law_model_here","_law_deed","_law_rooms","_law_name","_law_task","_law_room","_law_page","_law_many","_law_there"] ["_law_model_here","_law_deed"] (ar BV):=L2.bD
theorem bP {a b:Str}(h:a≠b:=by dsimp only[Bh];decide +kernel):¬ V.str a=V.str b:=ks_ne h
theorem BL {f:Addr}{fd:FuncData}(F:cQ K "_law_due" "_law_due" BV f fd) (T:mV mg) (a5:Df P w K mg base aW 1 "_law_held" kP) (a4:Df P w K mg base aW 1 "_law_stretch" jY) :
  bj P w K mg base aW 2 f fd ["_law_model_here","_law_deed"] zp:=by
 refine F.ok rq (λvs H Q E h=>?_) (λba A outer s H vs Q E S h=>?_)
 .obtain⟨m,bO,pk,Z,d,D,rfl,_⟩:=h;rfl
 .obtain⟨m,bO,pk,Z,d,D,rfl,M,lz,hd,ab,k⟩:=h;have hs:sizeLine=16777216:=sizeLine_eq;refine⟨_,(ag (aL (i:=2) rq.nd rfl (Or.inl rfl) (bw (bg S) (pv 0) aJ (λ_ _=>rfl)))
   (ag (cF (dg kN (pv 1) eY (de ak)) (dB rfl (bh (aZ (i:=3) rq.nd rfl (Or.inl rfl)) (bh (aZ (i:=4) rq.nd rfl (Or.inl rfl)) cK))))
   (ag (aR (aC bS (pv 3) aJ (aG _)) (aj (aE (aX cg (ck (aa aJ (aa aJ ai))) (bK dX (by rfl) T.int iS (aa (uj (my (bg S) (pv 4) (pv 2))) ai)) (λ_ _=>rfl)))) aF)
   (ag (aR (iK (fG (bg S) (pv 4) (pv 2))) (aj (aE aJ)) aF)
   (ag (aL (i:=5) rq.nd rfl (Or.inr rfl) (bw (bg S) (pv 2) (pv 4) (λ_ _=>rfl)))
   (ag (aR (PW.pt (fM (aC bS (pv 3) aJ (aG _)) (fw (aC bS (pv 3) aJ (aG _))))) (ag (cF (dg kN (pv 1) (de ak) eY) (dB rfl (bh (aZ (i:=6) rq.nd rfl (Or.inl rfl)) (bh (aZ (i:=7) rq.nd rfl (Or.inl rfl)) cK))))
   (ag (aR (PW.pt (fM (aC gu (pv 7) ak (aG _)) (fM (aC gu (pv 6) ak (aG _)) (fw (aC gU (az bq (pv 6) (pv 7)) ak (aG _)))))) (aj (aE aJ)) aF)
   (ag (Ay (i:=8) (cl:=[("_law_room",s.heap.objs.size+1)]) (caps:=[("_law_room",5)]) rq.nd rfl (Or.inl rfl) ⟨rfl,ao,ao,rfl,by kernel_rfl,by intro p hp;simp only[mem_cons,not_mem_nil,or_false]at hp;rcases hp with rfl<;>first|rfl|exact⟨rfl,.inl rfl,.inl rfl⟩|exact⟨rfl,.inl rfl,.inr rfl⟩,by kernel_rfl,by intro p hp;simp only[mem_cons,not_mem_nil,or_false]at hp;rcases hp with rfl<;>first|rfl|exact⟨rfl,.inl rfl,.inl rfl⟩|exact⟨rfl,.inl rfl,.inr rfl⟩,ao⟩ rfl (dW (by rfl) T.range (aa (pv 6) (aa (az bq (pv 6) (pv 7)) ai))) (λ_ _ _ _=>gk) (λ_ _ _ _=>(uj (my (bg S) (pv 0) (pv 1)))))
   (ag (aR (aC bS (pv 3) aJ (aG _)) (aj (aE (aX cg (ck (aa aJ (aa aJ ai))) (bK dX (by rfl) T.int iS (aa (aV (nA rfl) (by rfl) T.all yx (aa (pv 8) ai)) ai)) (λ_ _=>rfl)))) aF)
   (ag (aR (gp (aV (vX rfl) (by rfl) T.any BR (aa (pv 8) ai))) (aj (aE aJ)) aF)
   (aj (aE (aX cg (ck (aa aJ (aa aJ ai))) (bK dX (by rfl) T.int iS (aa (kM gU (az bq (pc a5 S aw (aa (pv 0) ai)) (pv 7)) (bw (bg S) (pv 0) aJ (λ_ _=>rfl)) (aG _)) ai)) (λ_ _=>rfl))))))))) aF)
   (ag (aR (aC bS (pv 3) aJ (aG _)) (aj (aE (aX cg (ck (aa aJ (aa aJ ai))) (bK dX (by rfl) T.int iS (aa (pc a4 S aw (aa (pv 5) (aa (aX a8 (pv 1) ak (λ_ _=>rfl)) (aa (aX a8 (pv 1) ak (λ_ _=>rfl)) ai)))) ai)) (λ_ _=>rfl)))) aF)
   (ag (aR (aC bS (pv 3) aJ (aG _)) (aj (aE (aX cg (ck (aa aJ (aa aJ ai))) (bK dX (by rfl) T.int iS (aa (pc a4 S aw (aa (pv 5) (aa (aX a8 (pv 1) ak (λ_ _=>rfl)) (aa (aV bG (by rfl) T.len boot_len (aa (aX a8 (pv 1) ak (λ_ _=>rfl)) ai)) ai)))) ai)) (λ_ _=>rfl)))) aF)
   (ag (aR (aC bS (pv 3) aJ (aG _)) (ag (aR (iK (my (bg S) (aX a8 (pv 1) ak (λ_ _=>rfl)) (pv 2))) (aj (aE aJ)) aF)
   (aj (aE (aX cg (ck (aa aJ (aa aJ ai))) (bK dX (by rfl) T.int iS (aa (kM gU (az bq (pc a5 S aw (aa (pv 0) ai)) (aV jX (by rfl) T.len boot_len (aa (pv 5) ai))) (bw (bg S) (pv 0) aJ (λ_ _=>rfl)) (aG _)) ai)) (λ_ _=>rfl))))) aF)
   (aj (aE aJ))))))))))),?_⟩
  refine fX λ_ jt=>?_;refine⟨_,rfl,m.md,.ref m.lr,rfl,M.g (Af _ _ _ _),jt _ _ ?_⟩;refine share (λσ H1=>bf H H1/\σ=[some (.ref m.md),some (.ref d),some (.ref m.lr),some (.str (Bh D)),some (.int (BB D)),none,none,none,none]) (λu' a3=>?A) ?B
  case A =>
   refine⟨_,rfl,_,rfl,d,_,rfl,bV.of hd.1,λc=>?_,λ_ p hp=>?_⟩
   .exact⟨d,_,rfl,bV.of hd.1,by rw[zY c];rfl,by rw[zY c];exact⟨_,_,rfl,_,_,rfl,rfl,a3 _ _ ⟨bf.refl H,rfl⟩⟩⟩
   .rw[CB];exact⟨p,_,rfl,bV.of ae,rfl,_,_,rfl,_,_,rfl,rfl,a3 _ _ ⟨Tb.au hp,rfl⟩⟩
  case B =>
  rintro σ H1 ⟨R,rfl⟩;have M1:=M.same R;have U:H1 d=some (.tup (vd D)):=R _ _ hd.1;have a7:∀t ad c cs,D=.poke t ad c cs->H1 c=some (.lst (cs.map V.int)):=λt ad c cs e=>R _ _ (hd.2 t ad c cs e);have nb:Bh D ≠ "begin" := by
   cases D with
   |begin t=>exact absurd ab id
   |close t=>exact(show ¬ (("close" : Str) = "begin")by decide +kernel)
   |map t p m=>exact(show ¬ (("map" : Str) = "begin")by decide +kernel)
   |drop t p m=>exact(show ¬ (("drop" : Str) = "begin")by decide +kernel)
   |peek t p m=>exact(show ¬ (("peek" : Str) = "begin")by decide +kernel)
   |poke t p m q=>exact(show ¬ (("poke" : Str) = "begin")by decide +kernel)
   |copy t p=>exact(show ¬ (("copy" : Str) = "begin")by decide +kernel)
  refine bW λ_ J G=>?_;refine dR (bB rfl) bA rfl (ks_ne nb) (G _ ?_);clear J G;refine bW λ_ J G=>?_;refine⟨_,rfl,_,rfl,m.lr,_,rfl,fj (t:=BB D) M1.hr,?_⟩;cases ez:Tb.look Z (BB D)with
  |none=>exact⟨true,rfl,J _ (k "NoTask" H1 R (λz=>absurd z ao))⟩
  |some z =>
  refine⟨false,rfl,G _ ?_⟩;clear J G;have hg:=fj (t:=BB D) M1.hr;rw[ez]at hg;have ac:=Tb.ay ez;refine fX λ_ jt=>?_;refine⟨_,rfl,_,rfl,m.lr,iX z,rfl,hg,jt _ _ ?_⟩;clear jt;cases D with
  |begin t=>exact absurd ab id
  |close t =>
   refine bW λ_ J G=>?_;refine dR (bB rfl) bA rfl bP (bu (dR (bB rfl) bA rfl bP (G _ ?_)));refine bW λ_ J G=>?_;refine dR (bB rfl) bA rfl bP (G _ ?_);refine bW λ_ J G=>?_;refine dR (bB rfl) bA rfl bP (G _ ?_);refine bW λ_ J G=>?_;refine dR (bB rfl) bA rfl bP (G _ ?_);exact k "" H1 R λ_=>⟨z,ez⟩
  |peek t ad n =>
   refine bW λ_ J G=>?_;refine dR (bB rfl) bA rfl bP (bu (dR (bB rfl) bA rfl bP (G _ ?_)));refine bW λ_ J G=>?_;refine eqT (bB rfl) bA rfl (J _ ?_);obtain⟨a0,a1,n0,n1⟩:=ab;refine⟨by show 2<=sizeLine;decide,λl Y=>?_⟩;have L:=Tb.au (X:=.lst [.str "NoPage",.str ""]) Y;have h2:upd H1 l (.lst [.str "NoPage",.str ""]) l=some (.lst [.str "NoPage",.str ""]):=ae;refine⟨_,rfl,_,rfl,d,_,_,.int ad,rfl,rfl,bV.of (L _ _ U),rfl,_,rfl,d,_,_,.int n,rfl,rfl,bV.of (L _ _ U),rfl,z.ra,z.pl,ad,n,rfl,L _ _ (M1.rm _ ac),a0,a1,n0,n1,λb N O hb=>?_⟩;refine .inr ⟨b,rfl,l,_,_,_,rfl,rfl,bE.of (O _ _ h2),at2 b,?_⟩;cases b
   .exact k "NoPage" N (R.trans (L.trans O)) (λw=>absurd w ao)
   .exact k "" N (R.trans (L.trans O)) (λ_=>⟨z,ez,hb rfl⟩)
  |poke t ad c cs =>
   refine bW λ_ J G=>?_;refine dR (bB rfl) bA rfl bP (bu (dR (bB rfl) bA rfl bP (G _ ?_)));refine bW λ_ J G=>?_;refine dR (bB rfl) bA rfl bP (G _ ?_);refine bW λ_ J G=>?_;refine eqT (bB rfl) bA rfl (J _ ?_);obtain⟨a0,a1,n0,n1⟩:=ab;refine⟨by show 2<=sizeLine;decide,λl Y=>?_⟩;have L:=Tb.au (X:=.lst [.str "NoPage",.str ""]) Y;have h2:upd H1 l (.lst [.str "NoPage",.str ""]) l=some (.lst [.str "NoPage",.str ""]):=ae;refine⟨_,rfl,_,rfl,d,_,_,.int ad,rfl,rfl,bV.of (L _ _ U),rfl,_,rfl,d,_,_,.ref c,rfl,rfl,bV.of (L _ _ U),rfl,c,_,rfl,.inl (bE.of (L _ _ (a7 _ _ _ _ rfl))),z.ra,z.pl,ad,cs.length,by rw[length_map];rfl,L _ _ (M1.rm _ ac),a0,a1,n0,n1,λb N O hb=>?_⟩;refine .inr ⟨b,rfl,l,_,_,_,rfl,rfl,bE.of (O _ _ h2),at2 b,?_⟩;cases b
   .exact k "NoPage" N (R.trans (L.trans O)) (λw=>absurd w ao)
   .exact k "" N (R.trans (L.trans O)) (λ_=>⟨z,ez,hb rfl⟩)
  |copy t o =>
   refine bW λ_ J G=>?_;refine dR (bB rfl) bA rfl bP (bu (dR (bB rfl) bA rfl bP (G _ ?_)));refine bW λ_ J G=>?_;refine dR (bB rfl) bA rfl bP (G _ ?_);refine bW λ_ J G=>?_;refine dR (bB rfl) bA rfl bP (G _ ?_);refine bW λ_ J G=>?_;refine eqT (bB rfl) bA rfl (J _ ?_);refine bW λ_ J G=>?_;refine⟨_,rfl,d,_,_,.int o,rfl,rfl,bV.of U,rfl,_,rfl,m.lr,_,rfl,fj (t:=o) M1.hr,?_⟩;cases eo:Tb.look Z o with
   |some _=>exact⟨true,rfl,J _ (k "Taken" H1 R (λw=>absurd w ao))⟩
   |none =>
   refine⟨false,rfl,G _ ?_⟩;refine⟨by show 2<=sizeLine;decide,λl Y=>?_⟩;have L:=Tb.au (X:=.lst [.str "",.str "NoRoom"]) Y;have h2:upd H1 l (.lst [.str "",.str "NoRoom"]) l=some (.lst [.str "",.str "NoRoom"]):=ae;refine⟨_,rfl,m,bO,pk,Z,rfl,M1.same L,lz,λN O=>?_⟩;have M3:=(M1.same L).same O;refine⟨_,rfl,z.ra,_,rfl,M3.rm _ ac,_,_,rfl,rfl,_,rfl,m.md,.int bO,rfl,M3.g (Dy _ _ _ _),_,_,rfl,rfl,?_⟩;refine .inr ⟨_,rfl,l,_,_,_,rfl,rfl,bE.of (O _ _ h2),at2 _,?_⟩;rw[Tb.cu];by_cases c:bO<sj Z+z.pl.length
   .rw[decide_eq_true c];exact k "NoRoom" N (R.trans (L.trans O)) (λw=>absurd w ao)
   .rw[decide_eq_false c];exact k "" N (R.trans (L.trans O)) (λ_=>⟨z,ez,eo,af⟩)
  |map t p I =>
   refine bW λ_ J G=>?_;refine eqT (bB rfl) bA rfl (dU (J _ ?_));obtain⟨p0,p1,m0,m1⟩:=ab;refine⟨_,rfl,_,rfl,d,_,rfl,bV.of U,λc=>absurd c (by rintro⟨c,_⟩;exact absurd (show HT.cZ 4 0 (some 2)=0 from c) av),λ_ p' aT=>?_⟩;have L:=Tb.au (X:=.tup [.int p,.int I]) aT;have ec:∀x:Str,eX [V.str x,V.int t,V.int p,V.int I] (some 2) none=[V.int p,V.int I]:=λ_=>rfl;dsimp only[vd];rw[ec];refine⟨p',[.int p,.int I],rfl,bV.of ae,rfl,_,_,rfl,_,_,rfl,rfl,?_⟩;have a6:=L _ _ U;have M2:=M1.same L;generalize upd H1 p' (.tup [.int p,.int I])=H2 at *;refine bW λ_ am ap=>?_;refine⟨_,rfl,_,_,rfl,rfl,_,rfl,?_⟩;rw[decide_eq_false af];refine bu ?_;refine⟨_,rfl,_,_,rfl,rfl,_,rfl,?_⟩;rw[decide_eq_false af];refine bu ?_;refine⟨_,rfl,_,rfl,_,_,rfl,rfl,_,_,rfl,rfl,_,rfl,?_⟩;by_cases c:(64:Int)<p+I
   .rw[decide_eq_true c];exact am _ (k "NoPage" H2 (R.trans L) (λw=>absurd w ao))
   rw[decide_eq_false c];refine ap _ ?_;clear am ap;have as:¬ Rm.cy p I:=λh=>by
    rcases h with h|h|h<;>omega
   refine⟨_,rfl,_,rfl,_,rfl,_,_,rfl,rfl,_,_,rfl,⟨af,af,af,af⟩,?_⟩;refine fb (lo:=p) (n:=(p+I-p).toNat) (λi ys N=>ys=((List.range i).map λj:Nat=>(Tb.look z.pl (p+j)).isSome).map V.bl/\N=H2) ⟨rfl,rfl⟩ ?_ ?_
   .rintro i ys N hi ⟨rfl,rfl⟩;refine⟨_,rfl,_,rfl,z.ra,_,rfl,fj (M2.rm _ ac),?_,?_,rfl⟩
    .rw[length_map,length_map,length_range];omega
    .rw[range_succ,map_append,map_append];show _++[V.bl ((Tb.look z.pl (p+(i:Int))).map fW).isSome]=_;rw[isSome_map];rfl
   rintro ys N ⟨rfl,rfl⟩ l Y;have O:=Tb.au (X:=.lst (((List.range (p+I-p).toNat).map λj:Nat=>(Tb.look z.pl (p+j)).isSome).map V.bl)) Y;have h3:upd N l (.lst (((List.range (p+I-p).toNat).map λj:Nat=>(Tb.look z.pl (p+j)).isSome).map V.bl)) l=some (.lst (((List.range (p+I-p).toNat).map λj:Nat=>(Tb.look z.pl (p+j)).isSome).map V.bl)):=ae;have a2:Rm.aO p I=(List.range (p+I-p).toNat).map λj:Nat=>p+j:=(by unfold Rm.aO;rw[show p+I-p=I by omega]);generalize upd N l (.lst (((List.range (p+I-p).toNat).map λj:Nat=>(Tb.look z.pl (p+j)).isSome).map V.bl))=H4 at *;have M4:=M2.same O;have S4:=R.trans (L.trans O);refine nameQ ?_;dsimp only;refine bW λ_ J G=>?_;refine dR (bB rfl) bA rfl bP (G _ ?_);refine bW λ_ J G=>?_;refine⟨_,rfl,l,_,rfl,bE.of h3,_,rfl,?_⟩;cases ea:(((List.range (p+I-p).toNat).map λj:Nat=>(Tb.look z.pl (p+j)).isSome)).any id with
   |true=>exact J _ (k "Taken" H4 S4 (λw=>absurd w ao))
   |false =>
   refine G _ ?_;refine⟨by show 2<=sizeLine;decide,λl2 aB=>?_⟩;have s5:=Tb.au (X:=.lst [.str "",.str "NoRoom"]) aB;have h5:upd H4 l2 (.lst [.str "",.str "NoRoom"]) l2=some (.lst [.str "",.str "NoRoom"]):=ae;refine⟨_,rfl,m,bO,pk,Z,rfl,M4.same s5,lz,λH6 s6=>?_⟩;have M6:=(M4.same s5).same s6;refine⟨_,rfl,_,_,rfl,rfl,_,rfl,m.md,.int bO,rfl,M6.g (Dy _ _ _ _),_,_,rfl,rfl,?_⟩;refine .inr ⟨_,rfl,l2,_,_,_,rfl,rfl,bE.of (s6 _ _ h5),at2 _,?_⟩;by_cases c2:bO<sj Z+I
   .rw[decide_eq_true c2];exact k "NoRoom" H6 (S4.trans (s5.trans s6)) (λw=>absurd w ao)
   .rw[decide_eq_false c2];refine k "" H6 (S4.trans (s5.trans s6)) (λ_=>⟨z,ez,as,λq hq=>?_,af⟩);rw[a2]at hq;obtain⟨j,hj,rfl⟩:=List.mem_map.mp hq;have e:=List.any_eq_false.mp ea ((Tb.look z.pl (p+(j:Int))).isSome) (List.mem_map.mpr ⟨j,hj,rfl⟩);cases w:Tb.look z.pl (p+(j:Int))with
    |none=>rfl
    |some _=>rw[w]at e;exact absurd rfl e
  |drop t p I =>
   refine bW λ_ J G=>?_;refine dR (bB rfl) bA rfl bP (bu (eqT (bB rfl) bA rfl (J _ ?_)));obtain⟨p0,p1,m0,m1⟩:=ab;refine⟨_,rfl,_,rfl,d,_,rfl,bV.of U,λc=>absurd c (by rintro⟨c,_⟩;exact absurd (show HT.cZ 4 0 (some 2)=0 from c) av),λ_ p' aT=>?_⟩;have L:=Tb.au (X:=.tup [.int p,.int I]) aT;have ec:∀x:Str,eX [V.str x,V.int t,V.int p,V.int I] (some 2) none=[V.int p,V.int I]:=λ_=>rfl;dsimp only[vd];rw[ec];refine⟨p',[.int p,.int I],rfl,bV.of ae,rfl,_,_,rfl,_,_,rfl,rfl,?_⟩;have a6:=L _ _ U;have M2:=M1.same L;generalize upd H1 p' (.tup [.int p,.int I])=H2 at *;refine bW λ_ am ap=>?_;refine⟨_,rfl,_,_,rfl,rfl,_,rfl,?_⟩;rw[decide_eq_false af];refine bu ?_;refine⟨_,rfl,_,_,rfl,rfl,_,rfl,?_⟩;rw[decide_eq_false af];refine bu ?_;refine⟨_,rfl,_,rfl,_,_,rfl,rfl,_,_,rfl,rfl,_,rfl,?_⟩;by_cases c:(64:Int)<p+I
   .rw[decide_eq_true c];exact am _ (k "NoPage" H2 (R.trans L) (λw=>absurd w ao))
   rw[decide_eq_false c];refine ap _ ?_;clear am ap;have as:¬ Rm.cy p I:=λh=>by
    rcases h with h|h|h<;>omega
   refine⟨_,rfl,_,rfl,_,rfl,_,_,rfl,rfl,_,_,rfl,⟨af,af,af,af⟩,?_⟩;refine fb (lo:=p) (n:=(p+I-p).toNat) (λi ys N=>ys=((List.range i).map λj:Nat=>(Tb.look z.pl (p+j)).isSome).map V.bl/\N=H2) ⟨rfl,rfl⟩ ?_ ?_
   .rintro i ys N hi ⟨rfl,rfl⟩;refine⟨_,rfl,_,rfl,z.ra,_,rfl,fj (M2.rm _ ac),?_,?_,rfl⟩
    .rw[length_map,length_map,length_range];omega
    .rw[range_succ,map_append,map_append];show _++[V.bl ((Tb.look z.pl (p+(i:Int))).map fW).isSome]=_;rw[isSome_map];rfl
   rintro ys N ⟨rfl,rfl⟩ l Y;have O:=Tb.au (X:=.lst (((List.range (p+I-p).toNat).map λj:Nat=>(Tb.look z.pl (p+j)).isSome).map V.bl)) Y;have h3:upd N l (.lst (((List.range (p+I-p).toNat).map λj:Nat=>(Tb.look z.pl (p+j)).isSome).map V.bl)) l=some (.lst (((List.range (p+I-p).toNat).map λj:Nat=>(Tb.look z.pl (p+j)).isSome).map V.bl)):=ae;have a2:Rm.aO p I=(List.range (p+I-p).toNat).map λj:Nat=>p+j:=(by unfold Rm.aO;rw[show p+I-p=I by omega]);generalize upd N l (.lst (((List.range (p+I-p).toNat).map λj:Nat=>(Tb.look z.pl (p+j)).isSome).map V.bl))=H4 at *;have M4:=M2.same O;have S4:=R.trans (L.trans O);refine nameQ ?_;dsimp only;refine bW λ_ J G=>?_;refine eqT (bB rfl) bA rfl (J _ ?_);refine⟨by show 2<=sizeLine;decide,λl2 aB=>?_⟩;have s5:=Tb.au (X:=.lst [.str "NoPage",.str ""]) aB;have h5:upd H4 l2 (.lst [.str "NoPage",.str ""]) l2=some (.lst [.str "NoPage",.str ""]):=ae;refine⟨_,rfl,l,_,rfl,bE.of (s5 _ _ h3),?_⟩;refine .inr ⟨_,rfl,l2,_,_,_,rfl,rfl,bE.of h5,at2 _,?_⟩;cases ea:(((List.range (p+I-p).toNat).map λj:Nat=>(Tb.look z.pl (p+j)).isSome)).all id with
   |false=>exact k "NoPage" _ (S4.trans s5) (λw=>absurd w ao)
   |true =>
    refine k "" _ (S4.trans s5) (λ_=>⟨z,ez,as,λq hq=>?_⟩);rw[a2]at hq;obtain⟨j,hj,rfl⟩:=List.mem_map.mp hq;have e:=List.all_eq_true.mp ea ((Tb.look z.pl (p+(j:Int))).isSome) (List.mem_map.mpr ⟨j,hj,rfl⟩);intro w;rw[w]at e;cases e
end
noncomputable def xJ (D:Dd) (h h':Int->Bool):Prop:=match D with
 |.begin t=>∀t',h' t'=(decide (t'=t)||h t')
 |.close t=>∀t',h' t'=(decide (t'≠t)&&h t')
 |.copy _ o=>∀t',h' t'=(decide (t'=o)||h t')
 |_=>∀t',h' t'=h t'
noncomputable def tq {α:Type}(G:α) (ok:α->Prop) (D:Dd) (e F:Int->Int->Option α):Prop:=match D with
 |.begin t=>∀t' q,F t' q=if t'=t then none else e t' q
 |.close t=>∀t' q,F t' q=if t'=t then none else e t' q
 |.map t p m=>∀t' q,F t' q=if t'=t/\q∈Rm.aO p m then some G else e t' q
 |.drop t p m=>∀t' q,F t' q=if t'=t/\q∈Rm.aO p m then none else e t' q
 |.peek _ _ _=>∀t' q,F t' q=e t' q
 |.poke t ad _ cs=>∀t' q,if t'=t/\q∈Rm.aI ad cs.length then ∃k,F t' q=some k/\ok k else F t' q=e t' q
 |.copy t o=>∀t' q,F t' q=if t'=o then e t q else e t' q
noncomputable def hW (W:dS) (t:Int):Bool:=(Tb.look W t).isSome
noncomputable def eW (W:dS) (t q:Int):Option Pg.Ent:=(Tb.look W t).bind λx=>Tb.look x.t q
noncomputable def hZ (Z:Zs) (t:Int):Bool:=(Tb.look Z t).isSome
noncomputable def eZ (Z:Zs) (t q:Int):Option Int:=(Tb.look Z t).bind λz=>(Tb.look z.pl q).map (·.2)
structure Tw (W:dS) (Z:Zs):Prop where
 h:∀t,hW W t=hZ Z t
 e:∀t q,(eW W t q).map isNone=(eZ Z t q).map λv=>decide (v=0)
theorem map_if {α F:Type}{c:Prop} [Decidable c] {f:α->F}{a b:Option α}:(if c then a else b).map f=if c then a.map f else b.map f:=by split<;>rfl
theorem Tw.next {W W':dS}{Z Z':Zs}{D:Dd}(T:Tw W Z) (h1:xJ D (hW W) (hW W')) (h2:xJ D (hZ Z) (hZ Z')) {ok:Pg.Ent->Prop}(G:tq none (λx=>∃k,x=some k/\ok x) D (eW W) (eW W')) (F:tq 0 (λv=>v≠0) D (eZ Z) (eZ Z')):Tw W' Z':=by
 refine⟨λt'=>?_,λt' q=>?_⟩
 .cases D with
  |begin t=>exact(h1 t').trans (by rw[T.h t'];exact(h2 t').symm)
  |close t=>exact(h1 t').trans (by rw[T.h t'];exact(h2 t').symm)
  |copy t o=>exact(h1 t').trans (by rw[T.h t'];exact(h2 t').symm)
  |map t p m=>exact(h1 t').trans ((T.h t').trans (h2 t').symm)
  |drop t p m=>exact(h1 t').trans ((T.h t').trans (h2 t').symm)
  |peek t ad n=>exact(h1 t').trans ((T.h t').trans (h2 t').symm)
  |poke t ad c cs=>exact(h1 t').trans ((T.h t').trans (h2 t').symm)
 .cases D with
  |begin t=>rw[G t' q,F t' q,map_if,map_if,T.e];rfl
  |close t=>rw[G t' q,F t' q,map_if,map_if,T.e];rfl
  |copy t o=>rw[G t' q,F t' q,map_if,map_if,T.e,T.e]
  |map t p m=>rw[G t' q,F t' q,map_if,map_if,T.e];rfl
  |drop t p m=>rw[G t' q,F t' q,map_if,map_if,T.e];rfl
  |peek t ad n=>rw[G t' q,F t' q,T.e]
  |poke t ad c cs =>
   have J:=G t' q;have I:=F t' q;by_cases z:t'=t/\q∈Rm.aI ad cs.length
   .rw[if_pos z]at J I;obtain⟨k,L,j,rfl,_⟩:=J;obtain⟨v,N,O⟩:=I;rw[L,N];show some (isNone (some j))=some (decide (v=0));rw[decide_eq_false O];rfl
   .rw[if_neg z]at J I;rw[J,I];exact T.e t' q
theorem ug {W:dS}{t:Int}{x y:TD}(h:Tb.look W t=some x) (t':Int):hW (Tb.aS W t y) t'=hW W t':=by
 unfold hW;rw[Tb.bR t' h];by_cases z:t'=t
 .rw[if_pos z,z,h];rfl
 .rw[if_neg z]
theorem sJ {W:dS}{t:Int}{x y:TD}(h:Tb.look W t=some x) (t' q:Int):eW (Tb.aS W t y) t' q=if t'=t then Tb.look y.t q else eW W t' q:=by
 unfold eW;rw[Tb.bR t' h];by_cases z:t'=t
 .rw[if_pos z,if_pos z];rfl
 .rw[if_neg z,if_neg z]
theorem mh {W:dS}{t:Int}{x:TD}(h:Tb.look W t=some x) (q:Int):eW W t q=Tb.look x.t q:=by unfold eW;rw[h];rfl
noncomputable def Bp (W:dS) (tt:Int):Dd->Prop
 |.begin _=>False
 |.close t=>∃x,Tb.look W t=some x
 |.map t p m=>∃x,Tb.look W t=some x/\¬ Rm.cy p m/\(∀q∈Rm.aO p m,Tb.look x.t q=none)/\(ents W).length+m<=tt
 |.drop t p m=>∃x,Tb.look W t=some x/\¬ Rm.cy p m/\∀q∈Rm.aO p m,Tb.look x.t q≠none
 |.peek t ad n=>∃x,Tb.look W t=some x/\¬ Rm.dq ad n (x.t.map (·.1))/\0<=ad/\ad<=1000/\n<=100
 |.poke t ad _ cs=>∃x,Tb.look W t=some x/\¬ Rm.dq ad cs.length (x.t.map (·.1))/\0<=ad/\ad<=1000/\cs.length<=100
 |.copy t o=>∃x,Tb.look W t=some x/\Tb.look W o=none/\(ents W).length+x.t.length<=tt
structure DM (P:Program) (w:World) (K:PySem.W.Frag) (mg:Str->Option Value) (base:Heap) (c:CA):Prop where
 Hn:Md P w K mg base aW 3 c.C "begin" (mM c)
 HM:Md P w K mg base aW 6 c.C "close" (mq c)
 HK:Md P w K mg base aW 4 c.C "map" (uK c)
 HL:Md P w K mg base aW 6 c.C "drop" (uB c)
 HP:Md P w K mg base aW 5 c.C "copy" (pK c)
 FJ:Md P w K mg base aW 8 c.C "peek" (oj c)
 Ia:Md P w K mg base aW 10 c.C "poke" (pZ K c)
 zU:Md P w K mg base aW 4 c.C "place" (lX c)
inductive lI (c:CA) (vs:List V) (H:Hp) (Q:VK) (e3:XK):Prop
 |mk (M:Addr->Prop) (a:RA) (s:Pg.PS) (W:dS) (cv:Int->Int->List Int) (d:Addr) (D:Dd) (_:vs=[.ref a.rp,.ref d]) (_:ax c H M a s W) (_:Pg.RI s (ents W)) (_:Cv s W cv) (_:W.length<=1000) (_:tX H d D) (_:Bp W (bO s) D) (_:∀(H':Hp) (M':Addr->Prop) (s':Pg.PS) (W':dS) (cv':Int->Int->List Int) (v:V),ax c H' M' a s' W'->Pg.RI s' (ents W')->Cv s' W' cv'->Step H M (a.own W) H' M' (a.own W')->(∀b,(s'.ow b).length=(s.ow b).length)->W'.length<=W.length+1->xJ D (hW W) (hW W')->tq none (λx=>∃k,x=some k/\(ents W').count x=1) D (eW W) (eW W')->Q v H'):lI c vs H Q e3
section
variable {P:Program}{w:World}{K:PySem.W.Frag}{mg:Str->Option Value}{base:Heap}
theorem CM:aA ["_law_kept","_law_deed","_law_name","_law_task"] ["_law_kept","_law_deed"] (ar oz):=L2.bD
theorem wq {f:Addr}{fd:FuncData}{c:CA}(F:cQ K "_law_called" "_law_called" oz f fd) (T:oq K mg c) (M:DM P w K mg base c):bj P w K mg base aW 11 f fd ["_law_kept","_law_deed"] (lI c):=by
 refine F.ok CM (λvs H Q E h=>?_) (λaT A outer s H vs Q E hr h=>?_)
 .obtain⟨MM,a,s',W,cv,d,D,rfl,_⟩:=h;rfl
 .obtain⟨MM,a,s',W,cv,d,D,rfl,R,ri,am,lw,hd,fi,q⟩:=h;refine⟨_,(ag (cF (dg kN (pv 1) eY (de ak)) (dB rfl (bh (aZ (i:=2) CM.nd rfl (Or.inl rfl)) (bh (aZ (i:=3) CM.nd rfl (Or.inl rfl)) cK))))
   (ag (aR (aC bS (pv 2) aJ (aG _)) (aj (aE (pm (pv 0) T.cl M.Hn hr aw (aa (pv 3) ai)))) aF)
   (ag (aR (aC bS (pv 2) aJ (aG _)) (aj (aE (pm (pv 0) T.cl M.HM hr aw (aa (pv 3) ai)))) aF)
   (ag (aR (aC bS (pv 2) aJ (aG _)) (aj (aE (pm (pv 0) T.cl M.HK hr aw (aa (pv 3) (aa (aX a8 (pv 1) ak (λ_ _=>rfl)) (aa (aX a8 (pv 1) ak (λ_ _=>rfl)) ai)))))) aF)
   (ag (aR (aC bS (pv 2) aJ (aG _)) (aj (aE (pm (pv 0) T.cl M.HL hr aw (aa (pv 3) (aa (aX a8 (pv 1) ak (λ_ _=>rfl)) (aa (aX a8 (pv 1) ak (λ_ _=>rfl)) ai)))))) aF)
   (ag (aR (aC bS (pv 2) aJ (aG _)) (aj (aE (pm (pv 0) T.cl M.HP hr aw (aa (pv 3) (aa (aX a8 (pv 1) ak (λ_ _=>rfl)) ai))))) aF)
   (ag (aR (aC bS (pv 2) aJ (aG _)) (aj (aE (pm (pv 0) T.cl M.FJ hr aw (aa (pv 3) (aa (aX a8 (pv 1) ak (λ_ _=>rfl)) (aa (aX a8 (pv 1) ak (λ_ _=>rfl)) ai)))))) aF)
   (aj (aE (pm (pv 0) T.cl M.Ia hr aw (aa (pv 3) (aa (aX a8 (pv 1) ak (λ_ _=>rfl)) (aa (aX a8 (pv 1) ak (λ_ _=>rfl)) ai))))))))))))),?_⟩
  refine share (λσ H1=>bf H H1/\σ=[some (.ref a.rp),some (.ref d),some (.str (Bh D)),some (.int (BB D))]) (λu' ap=>?A) ?B
  case A =>
   refine⟨_,rfl,_,rfl,d,_,rfl,bV.of hd.1,λc=>?_,λ_ p hp=>?_⟩
   .exact⟨d,_,rfl,bV.of hd.1,by rw[zY c];rfl,by rw[zY c];exact⟨_,_,rfl,_,_,rfl,rfl,ap _ _ ⟨bf.refl H,rfl⟩⟩⟩
   .rw[CB];exact⟨p,_,rfl,bV.of ae,rfl,_,_,rfl,_,_,rfl,rfl,ap _ _ ⟨Tb.au hp,rfl⟩⟩
  case B =>
  rintro σ H1 ⟨s1,rfl⟩;have R1:=R.same s1;have S1:=R.iE s1;have ab:H1 d=some (.tup (vd D)):=s1 _ _ hd.1;obtain⟨dx,ho⟩:=R1.ob;have no:∀mm:Str,¬ mm = "rooms" -> ¬ mm = "total" -> ¬ mm = "paging" -> (eG a.A.pg (bO s') a.rd).lookup mm=none:=λmm=>gr _ _ _;have l0:∀{t y},(Tb.aS W t y).length<=W.length+1:=λ{t y}=>(by rw[Tb.gi];omega);cases D with
  |begin t=>exact absurd fi id
  |close t =>
   obtain⟨x,J⟩:=fi;refine bW λ_ I G=>?_;refine dR (bB rfl) bA rfl bP (G _ ?_);refine bW λ_ I G=>?_;refine eqT (bB rfl) bA rfl (I _ ?_);refine⟨_,rfl,a.rp,dx,_,rfl,ho,no "close" ao ao ao,_,rfl,MM,a,s',W,cv,t,x,rfl,R1,ri,am,J,λH2 M2 Y R2 N U S ac=>q H2 M2 Y _ cv _ R2 N U (S1.trans S) ac (le_trans (List.length_filter_le _ _) (le_succ _)) ?_ ?_⟩
   .intro t';unfold hW;rw[Tb.cw];by_cases z:t'=t
    .rw[if_pos z,decide_eq_false (λy=>y z)];rfl
    .rw[if_neg z,decide_eq_true z];rfl
   .intro t' q;unfold eW;rw[Tb.cw];by_cases z:t'=t
    .rw[if_pos z,if_pos z];rfl
    .rw[if_neg z,if_neg z]
  |map t p m =>
   obtain⟨x,J,O,f2,f3⟩:=fi;refine bW λ_ I G=>?_;refine dR (bB rfl) bA rfl bP (G _ ?_);refine bW λ_ I G=>?_;refine dR (bB rfl) bA rfl bP (G _ ?_);refine bW λ_ I G=>?_;refine eqT (bB rfl) bA rfl (I _ ?_);refine⟨_,rfl,a.rp,dx,_,rfl,ho,no "map" ao ao ao,_,rfl,_,rfl,d,_,_,.int p,rfl,rfl,bV.of ab,rfl,_,rfl,d,_,_,.int m,rfl,rfl,bV.of ab,rfl,MM,a,s',W,cv,t,p,m,x,rfl,R1,ri,am,lw,J,O,f2,f3,λH2 M2 y R2 N U hy S=>q H2 M2 s' _ _ _ R2 N U (S1.trans S) (λ_=>rfl) l0 (ug J) λt' j=>?_⟩;rw[sJ J];by_cases z:t'=t
   .rw[if_pos z,hy j];by_cases L:j∈Rm.aO p m
    .rw[if_pos L,if_pos ⟨z,L⟩]
    .rw[if_neg L,if_neg (λh=>L h.2),z,mh J]
   .rw[if_neg z,if_neg (λh=>z h.1)]
  |drop t p m =>
   obtain⟨x,J,O,f2⟩:=fi;refine bW λ_ I G=>?_;refine dR (bB rfl) bA rfl bP (G _ ?_);refine bW λ_ I G=>?_;refine dR (bB rfl) bA rfl bP (G _ ?_);refine bW λ_ I G=>?_;refine dR (bB rfl) bA rfl bP (G _ ?_);refine bW λ_ I G=>?_;refine eqT (bB rfl) bA rfl (I _ ?_);refine⟨_,rfl,a.rp,dx,_,rfl,ho,no "drop" ao ao ao,_,rfl,_,rfl,d,_,_,.int p,rfl,rfl,bV.of ab,rfl,_,rfl,d,_,_,.int m,rfl,rfl,bV.of ab,rfl,MM,a,s',W,cv,t,p,m,x,rfl,R1,ri,am,J,O,f2,λH2 M2 Y y R2 N U hy S ac=>q H2 M2 Y _ _ _ R2 N U (S1.trans S) ac l0 (ug J) λt' j=>?_⟩;rw[sJ J];by_cases z:t'=t
   .rw[if_pos z,hy j];by_cases L:j∈Rm.aO p m
    .rw[if_pos L,if_pos ⟨z,L⟩]
    .rw[if_neg L,if_neg (λh=>L h.2),z,mh J]
   .rw[if_neg z,if_neg (λh=>z h.1)]
  |copy t o =>
   obtain⟨x,J,O,f2⟩:=fi;refine bW λ_ I G=>?_;refine dR (bB rfl) bA rfl bP (G _ ?_);refine bW λ_ I G=>?_;refine dR (bB rfl) bA rfl bP (G _ ?_);refine bW λ_ I G=>?_;refine dR (bB rfl) bA rfl bP (G _ ?_);refine bW λ_ I G=>?_;refine dR (bB rfl) bA rfl bP (G _ ?_);refine bW λ_ I G=>?_;refine eqT (bB rfl) bA rfl (I _ ?_);refine⟨_,rfl,a.rp,dx,_,rfl,ho,no "copy" ao ao ao,_,rfl,_,rfl,d,_,_,.int o,rfl,rfl,bV.of ab,rfl,MM,a,s',W,cv,t,o,x,rfl,R1,ri,am,lw,J,O,f2,λH2 M2 Y y hy R2 N U S ac=>q H2 M2 Y _ _ _ R2 N U (S1.trans S) ac (by rw[length_append];exact le_refl _) ?_ ?_⟩
   .intro t';unfold hW;rw[Tb.bN t' O];by_cases z:t'=o
    .rw[if_pos z,decide_eq_true z];rfl
    .rw[if_neg z,decide_eq_false z];rfl
   .intro t' j;unfold eW;rw[Tb.bN t' O];by_cases z:t'=o
    .rw[if_pos z,if_pos z,J];exact hy j
    .rw[if_neg z,if_neg z]
  |peek t ad n =>
   obtain⟨x,J,O,f2,f3,f4⟩:=fi;refine bW λ_ I G=>?_;refine dR (bB rfl) bA rfl bP (G _ ?_);refine bW λ_ I G=>?_;refine dR (bB rfl) bA rfl bP (G _ ?_);refine bW λ_ I G=>?_;refine dR (bB rfl) bA rfl bP (G _ ?_);refine bW λ_ I G=>?_;refine dR (bB rfl) bA rfl bP (G _ ?_);refine bW λ_ I G=>?_;refine dR (bB rfl) bA rfl bP (G _ ?_);refine bW λ_ I G=>?_;refine eqT (bB rfl) bA rfl (I _ ?_);refine⟨_,rfl,a.rp,dx,_,rfl,ho,no "peek" ao ao ao,_,rfl,_,rfl,d,_,_,.int ad,rfl,rfl,bV.of ab,rfl,_,rfl,d,_,_,.int n,rfl,rfl,bV.of ab,rfl,MM,a,s',W,cv,t,ad,n,x,rfl,R1,ri,am,J,af,f2,f3,O,λH2 M2 Y l R2 N U S ac _ _=>q H2 M2 Y _ _ _ R2 N U (S1.trans S) ac (le_succ _) (λ_=>rfl) λ_ _=>rfl⟩
  |poke t ad cc cs =>
   obtain⟨x,J,O,f2,f3,f4⟩:=fi;refine bW λ_ I G=>?_;refine dR (bB rfl) bA rfl bP (G _ ?_);refine bW λ_ I G=>?_;refine dR (bB rfl) bA rfl bP (G _ ?_);refine bW λ_ I G=>?_;refine dR (bB rfl) bA rfl bP (G _ ?_);refine bW λ_ I G=>?_;refine dR (bB rfl) bA rfl bP (G _ ?_);refine bW λ_ I G=>?_;refine dR (bB rfl) bA rfl bP (G _ ?_);refine bW λ_ I G=>?_;refine dR (bB rfl) bA rfl bP (G _ ?_);refine⟨_,rfl,a.rp,dx,_,rfl,ho,no "poke" ao ao ao,_,rfl,_,rfl,d,_,_,.int ad,rfl,rfl,bV.of ab,rfl,_,rfl,d,_,_,.ref cc,rfl,rfl,bV.of ab,rfl,MM,a,s',W,cv,t,ad,cc,cs,x,rfl,R1,ri,am,J,bE.of (s1 _ _ (hd.2 _ _ _ _ rfl)),af,f2,f3,O,λH2 M2 Y y R2 N U as aB S ac=>q H2 M2 Y _ _ _ R2 N U (S1.trans S) ac l0 (ug J) λt' j=>?_⟩;rw[sJ J];by_cases z:t'=t
   .by_cases L:j∈Rm.aI ad cs.length
    .rw[if_pos ⟨z,L⟩,if_pos z];obtain⟨k,hk,h1⟩:=aB j L;exact⟨some k,hk,k,rfl,h1⟩
    .rw[if_neg (λh=>L h.2),if_pos z,as j L,z,mh J]
   .rw[if_neg (λh=>z h.1),if_neg z]
end
theorem dZ {α:Type}{f:α->V}{H:Hp}{a:Addr}{l:List (Int×α)}{t:Int}{x:α}(h:H a=some (.dK (Tb.dk f l))) (F:Tb.look l t=some x):dh H a (.int t) (some (f x)):=by
 have q:=fj (t:=t) h;rw[F]at q;exact q
section
variable {H H':Hp}{m:MA}{bO pk:Int}{Z:Zs}{t:Int}{z:MT}
theorem cB.alive (M:cB H m bO pk Z):∀b,cW m Z b->(∃xs,H b=some (.lst xs))\/∃kvs,H b=some (.dK kvs):=by
 intro b h;rcases h with h|h|h|⟨x,F,h|h|⟨y,G,h⟩⟩<;>rw[h]
 .exact .inr ⟨_,M.hm⟩
 .exact .inr ⟨_,M.hr⟩
 .exact .inr ⟨_,M.hs⟩
 .exact .inr ⟨_,M.rm x F⟩
 .exact .inr ⟨_,M.st x F⟩
 .obtain⟨ns,h1,_⟩:=M.cl x F y G;exact .inl ⟨_,h1⟩
theorem cB.add (M:cB H m bO pk Z) (Y:Tb.look Z t=none) (o:Off (λb=>b=m.lr\/b=m.ls) H H') (S:H' m.lr=some (.dK (Tb.dk iX (Z++[(t,z)])))) (hs:H' m.ls=some (.dK (Tb.dk iB (Z++[(t,z)])))) (h1:H' z.ra=some (.dK (Tb.dk fW z.pl))) (h2:H' z.sa=some (.dK (Tb.dk gB z.pl)))
  (h3:∀y∈z.pl,∃ns:List Int,H' y.2.1=some (.lst (ns.map V.int))/\ns.length=8) (np:(z.pl.map (·.1)).Nodup) (hg:∀y∈z.pl,0<=y.1/\y.1<64) (I:H z.ra=none) (J:H z.sa=none) (f3:z.ra≠z.sa):cB H' m bO pk (Z++[(t,z)]):=by
 have U:∀{b xs},H b=some (.lst xs)->¬ (b=m.lr\/b=m.ls):=λe w=>by
  rcases w with w|w
  .rw[w,M.hr]at e;cases e
  .rw[w,M.hs]at e;cases e
 have L:∀x∈Z,z.ra≠x.2.ra/\z.sa≠x.2.sa/\z.ra≠x.2.sa/\z.sa≠x.2.ra:=λx F=>⟨(λe=>by rw[e,M.rm x F]at I;cases I),(λe=>by rw[e,M.st x F]at J;cases J),(λe=>by rw[e,M.st x F]at I;cases I),(λe=>by rw[e,M.rm x F]at J;cases J)⟩;refine⟨o _ _ M.hm (fO M.n3.1 M.n3.2.1),S,hs,λx F=>?_,λx F=>?_,λx F y G=>?_,?_,λx F=>?_,λx F=>?_,λx F y G N=>?_,λx F y G=>?_,λx F=>?_,M.n3⟩
 .rcases List.mem_append.mp F with F|F
  .exact o _ _ (M.rm x F) (fO (M.d3 x F).2.1 (M.d3 x F).2.2.1)
  .rw[List.mem_singleton.mp F];exact h1
 .rcases List.mem_append.mp F with F|F
  .exact o _ _ (M.st x F) (fO (M.d3 x F).2.2.2.2.1 (M.d3 x F).2.2.2.2.2)
  .rw[List.mem_singleton.mp F];exact h2
 .rcases List.mem_append.mp F with F|F
  .obtain⟨ns,O,R⟩:=M.cl x F y G;exact⟨ns,o _ _ O (U O),R⟩
  .rw[List.mem_singleton.mp F]at G;exact h3 y G
 .rw[map_append];exact gf M.nd (Tb.cn Y)
 .rcases List.mem_append.mp F with F|F
  .exact M.np x F
  .rw[List.mem_singleton.mp F];exact np
 .rcases List.mem_append.mp F with F|F
  .exact M.rg x F
  .rw[List.mem_singleton.mp F];exact hg
 .rcases List.mem_append.mp F with F|F<;>rcases List.mem_append.mp G with G|G
  .exact M.da x F y G N
  .rw[List.mem_singleton.mp G];exact⟨Ne.symm (L x F).1,Ne.symm (L x F).2.1⟩
  .rw[List.mem_singleton.mp F];exact⟨(L y G).1,(L y G).2.1⟩
  .exact absurd (by rw[List.mem_singleton.mp F,List.mem_singleton.mp G]) N
 .rcases List.mem_append.mp F with F|F<;>rcases List.mem_append.mp G with G|G
  .exact M.rs x F y G
  .rw[List.mem_singleton.mp G];exact Ne.symm (L x F).2.2.2
  .rw[List.mem_singleton.mp F];exact(L y G).2.2.1
  .rw[List.mem_singleton.mp F,List.mem_singleton.mp G];exact f3
 .rcases List.mem_append.mp F with F|F
  .exact M.d3 x F
  .rw[List.mem_singleton.mp F];exact⟨(λe=>by rw[e,M.hm]at I;cases I),(λe=>by rw[e,M.hr]at I;cases I),(λe=>by rw[e,M.hs]at I;cases I),(λe=>by rw[e,M.hm]at J;cases J),(λe=>by rw[e,M.hr]at J;cases J),(λe=>by rw[e,M.hs]at J;cases J)⟩
theorem cB.del (M:cB H m bO pk Z) (o:Off (λb=>b=m.lr\/b=m.ls) H H') (L:H' m.lr=some (.dK (Tb.dk iX (Tb.a9 Z t)))) (hs:H' m.ls=some (.dK (Tb.dk iB (Tb.a9 Z t)))):cB H' m bO pk (Tb.a9 Z t):=by
 have N:∀{b xs},H b=some (.lst xs)->¬ (b=m.lr\/b=m.ls):=λe w=>by
  rcases w with w|w
  .rw[w,M.hr]at e;cases e
  .rw[w,M.hs]at e;cases e
 have sub:∀{x},x∈Tb.a9 Z t->x∈Z:=λh=>(Tb.bX h).1;refine⟨o _ _ M.hm (fO M.n3.1 M.n3.2.1),L,hs,λx F=>?_,λx F=>?_,λx F y G=>?_,Tb.lY M.nd,λx F=>M.np x (sub F),λx F=>M.rg x (sub F),λx F y G=>M.da x (sub F) y (sub G),λx F y G=>M.rs x (sub F) y (sub G),λx F=>M.d3 x (sub F),M.n3⟩
 .have F:=sub F;exact o _ _ (M.rm x F) (fO (M.d3 x F).2.1 (M.d3 x F).2.2.1)
 .have F:=sub F;exact o _ _ (M.st x F) (fO (M.d3 x F).2.2.2.2.1 (M.d3 x F).2.2.2.2.2)
 .obtain⟨ns,I,J⟩:=M.cl x (sub F) y G;exact⟨ns,o _ _ I (N I),J⟩
theorem cB.CF (M:cB H m bO pk Z) (R:Tb.look Z t=some z) {pk':Int}{pl:List (Int×Addr×Int)}(o:Off (λb=>b=m.md\/b=z.ra\/b=z.sa) H H') (hm:H' m.md=some (.dK (mX m.lr m.ls bO pk'))) (h1:H' z.ra=some (.dK (Tb.dk fW pl))) (h2:H' z.sa=some (.dK (Tb.dk gB pl)))
  (h3:∀y∈pl,∃ns:List Int,H' y.2.1=some (.lst (ns.map V.int))/\ns.length=8) (np:(pl.map (·.1)).Nodup) (hg:∀y∈pl,0<=y.1/\y.1<64):cB H' m bO pk' (Tb.aS Z t ⟨z.ra,z.sa,pl⟩):=by
 have G:=Tb.ay R;have nl:∀{b xs},H b=some (.lst xs)->¬ (b=m.md\/b=z.ra\/b=z.sa):=λe w=>by
  rcases w with w|w|w
  .rw[w,M.hm]at e;cases e
  .rw[w,M.rm _ G]at e;cases e
  .rw[w,M.st _ G]at e;cases e
 have N:∀{b},b≠m.md->b≠z.ra->b≠z.sa->¬ (b=m.md\/b=z.ra\/b=z.sa):=λa b c w=>w.elim a λw=>w.elim b c;have L:=M.d3 _ G;refine⟨hm,?_,?_,λx F=>?_,λx F=>?_,λx F y I=>?_,by rw[Tb.eU];exact M.nd,λx F=>?_,λx F=>?_,λx F y I J=>?_,λx F y I=>?_,λx F=>?_,M.n3⟩
 .rw[Tb.oJ (f:=iX) (a:=(⟨z.ra,z.sa,pl⟩:MT)) (b:=z) M.nd R rfl];exact o _ _ M.hr (N (Ne.symm M.n3.1) (Ne.symm L.2.1) (Ne.symm L.2.2.2.2.1))
 .rw[Tb.oJ (f:=iB) (a:=(⟨z.ra,z.sa,pl⟩:MT)) (b:=z) M.nd R rfl];exact o _ _ M.hs (N (Ne.symm M.n3.2.1) (Ne.symm L.2.2.1) (Ne.symm L.2.2.2.2.2))
 .rcases Tb.mem_set F with rfl|⟨F,J⟩
  .exact h1
  .exact o _ _ (M.rm x F) (N (M.d3 x F).1 (M.da x F _ G J).1 (M.rs x F _ G))
 .rcases Tb.mem_set F with rfl|⟨F,J⟩
  .exact h2
  .exact o _ _ (M.st x F) (N (M.d3 x F).2.2.2.1 (Ne.symm (M.rs _ G x F)) (M.da x F _ G J).2)
 .rcases Tb.mem_set F with rfl|⟨F,J⟩
  .exact h3 y I
  .obtain⟨ns,U,Y⟩:=M.cl x F y I;exact⟨ns,o _ _ U (nl U),Y⟩
 .rcases Tb.mem_set F with rfl|⟨F,J⟩
  .exact np
  .exact M.np x F
 .rcases Tb.mem_set F with rfl|⟨F,J⟩
  .exact hg
  .exact M.rg x F
 .rcases Tb.mem_set F with rfl|⟨F,O⟩<;>rcases Tb.mem_set I with rfl|⟨I,S⟩
  .exact absurd rfl J
  .exact M.da (t,z) G y I (Ne.symm S)
  .exact M.da x F (t,z) G O
  .exact M.da x F y I J
 .rcases Tb.mem_set F with rfl|⟨F,O⟩<;>rcases Tb.mem_set I with rfl|⟨I,S⟩
  .exact M.rs (t,z) G (t,z) G
  .exact M.rs (t,z) G y I
  .exact M.rs x F (t,z) G
  .exact M.rs x F y I
 .rcases Tb.mem_set F with rfl|⟨F,O⟩
  .exact L
  .exact M.d3 x F
theorem cB.Cf (M:cB H m bO pk Z) {l:Addr}{xs:List V}(J:H l=some (.lst xs)) {ns':List Int}(L:ns'.length=8):cB (upd H l (.lst (ns'.map V.int))) m bO pk Z:=by
 have o:Off (· = l) H (upd H l (.lst (ns'.map V.int))):=Off.wr rfl;have G:∀{b kvs},H b=some (.dK kvs)->¬ b=l:=λe w=>(by rw[w,J]at e;cases e);refine⟨o _ _ M.hm (G M.hm),o _ _ M.hr (G M.hr),o _ _ M.hs (G M.hs),λx F=>o _ _ (M.rm x F) (G (M.rm x F)),λx F=>o _ _ (M.st x F) (G (M.st x F)),λx F y N=>?_,M.nd,M.np,M.rg,M.da,M.rs,M.d3,M.n3⟩;by_cases w:y.2.1=l
 .exact⟨ns',by rw[w,ae],L⟩
 .obtain⟨ns,O,I⟩:=M.cl x F y N;exact⟨ns,o _ _ O w,I⟩
end
section
variable {Z:Zs}{t:Int}{z y:MT}
theorem uz (h:Tb.look Z t=some z) (t':Int):hZ (Tb.aS Z t y) t'=hZ Z t':=by
 unfold hZ;rw[Tb.bR t' h];by_cases c:t'=t
 .rw[if_pos c,c,h];rfl
 .rw[if_neg c]
theorem ox (h:Tb.look Z t=some z) (t' q:Int):eZ (Tb.aS Z t y) t' q=if t'=t then(Tb.look y.pl q).map (·.2)else eZ Z t' q:=by
 unfold eZ;rw[Tb.bR t' h];by_cases c:t'=t
 .rw[if_pos c,if_pos c];rfl
 .rw[if_neg c,if_neg c]
theorem nE (h:Tb.look Z t=some z) (q:Int):eZ Z t q=(Tb.look z.pl q).map (·.2):=by unfold eZ;rw[h];rfl
end
theorem Ez {t u:TS}{D:Ends}{σ:L2.St}{H:Hp}(h:t { D with nx:=u D } σ H):kC t u D σ H:=h
theorem yh {α:Type}{W:List (Int×α)}{t:Int}{x y:α}:Tb.aS (Tb.aS W t x) t y=Tb.aS W t y:=by
 unfold Tb.aS;rw[map_map];refine map_congr_left λz _=>?_;show(if (if z.1=t then(t,x)else z).1=t then(t,y)else(if z.1=t then(t,x)else z))=if z.1=t then(t,y)else z
 by_cases c:z.1=t
 .rw[if_pos c,if_pos rfl,if_pos c]
 .simp only[if_neg c]
theorem x9 {α:Type}{W:List (Int×α)}{t:Int}{x y:α}(h:Tb.look W t=some x):Tb.look (Tb.aS W t y) t=some y:=by rw[Tb.bR t h,if_pos rfl]
theorem BU {Z:Zs}{t:Int}{z:MT}(G:(Z.map (·.1)).Nodup) (h:Tb.look Z t=some z):Tb.aS Z t ⟨z.ra,z.sa,z.pl⟩=Z:=by
 unfold Tb.aS
 conv=>rhs;rw[<-List.map_id Z]
 refine map_congr_left λy F=>?_;show(if y.1=t then(t,(⟨z.ra,z.sa,z.pl⟩:MT))else y)=y;by_cases c:y.1=t
 .have:=Tb.bZ G F;rw[c,h]at this;rw[if_pos c,Option.some.inj this, <-c]
 .rw[if_neg c]
theorem cB.len {H:Hp}{m:MA}{bO pk:Int}{Z:Zs}(M:cB H m bO pk Z) {x:Int×MT}(F:x∈Z):x.2.pl.length<=64:=by
 have:=Tb.zW 64 0 (x.2.pl.map (·.1)) (M.np x F) λq G=>by
  obtain⟨y,I,rfl⟩:=List.mem_map.mp G;have:=M.rg x F y I;omega
 rwa [length_map]at this
theorem l9 {m:MA}{Z:Zs}{t:Int}{z:MT}{pl:List (Int×Addr×Int)}{H:Hp}(J:Tb.look Z t=some z) (h:∀y∈pl,(∃G∈z.pl,y.2.1=G.2.1)\/H y.2.1=none):∀b,cW m (Tb.aS Z t ⟨z.ra,z.sa,pl⟩) b->cW m Z b\/H b=none:=by
 intro b w;have F:=Tb.ay J;rcases w with w|w|w|⟨x,I,w⟩
 .exact .inl (.inl w)
 .exact .inl (.inr (.inl w))
 .exact .inl (.inr (.inr (.inl w)))
 .rcases Tb.mem_set I with rfl|⟨I,_⟩
  .rcases w with w|w|⟨y,L,w⟩
   .exact .inl (.inr (.inr (.inr ⟨_,F,.inl w⟩)))
   .exact .inl (.inr (.inr (.inr ⟨_,F,.inr (.inl w)⟩)))
   .rcases h y L with⟨G,h1,h2⟩|h
    .exact .inl (.inr (.inr (.inr ⟨_,F,.inr (.inr ⟨G,h1,w.trans h2⟩)⟩)))
    .rw[w];exact .inr h
  .exact .inl (.inr (.inr (.inr ⟨x,I,w⟩)))
theorem cE {ad q:Int}{n:Nat}:q∈Rm.aI ad n↔∃j:Nat,j<n/\(ad+j)/8=q:=by
 unfold Rm.aI;by_cases e:((n:Nat):Int)=0
 .rw[if_pos e];exact⟨(λh=>nomatch h),(λ⟨j,h,_⟩=>by omega)⟩
 .rw[if_neg e];unfold Rm.aO Rm.jl Rm.iC;rw[mem_map];constructor
  .rintro⟨k,F,rfl⟩;have F:=List.mem_range.mp F;exact⟨(8*(ad/8+k)-ad).toNat,af,af⟩
  .rintro⟨j,G,rfl⟩;exact⟨((ad+j)/8-ad/8).toNat,List.mem_range.mpr af,af⟩
theorem Az (F ls:Addr) (bO pk pk':Int):putK (mX F ls bO pk) (Sum.inr "pokes") (.int pk')=mX F ls bO pk':=by
 unfold putK mX;rw[if_pos (by simp)];simp only[map_cons,map_nil,if_neg FZ,if_neg FL,if_neg Gr,if_true,decide_eq_true_eq]
theorem wc {pl F:List (Int×Addr×Int)}(h:(F.map λy=>(y.1,y.2.1))=pl.map λy=>(y.1,y.2.1)) (q:Int):Tb.look F q=none↔Tb.look pl q=none:=by
 have I:F.map (·.1)=pl.map (·.1):=by
  have:=congrArg (List.map (·.1)) h;rw[map_map,map_map]at this;exact this
 have G:∀{l:List (Int×Addr×Int)},Tb.look l q=none↔¬ q∈l.map (·.1):=λ{l}=>⟨Tb.cn,λh=>by
  cases e:Tb.look l q with
  |none=>rfl
  |some a=>exact absurd (List.mem_map.mpr ⟨_,Tb.ay e,rfl⟩) h⟩
 rw[G,G,I]
theorem jQ {α F:Type}(g:α->F) (k:Int):∀l:List (Int×α),Tb.look (l.map λx=>(x.1,g x.2)) k=(Tb.look l k).map g
 | []=>rfl
 |x::l=>by
  rw[map_cons,Tb.aN,Tb.aN,jQ g k l];by_cases e:x.1=k
  .rw[if_pos e,if_pos e];rfl
  .rw[if_neg e,if_neg e]
theorem k4 {α:Type}(f:α->V) (l:List (Int×α)) (o:Int) (a:α):Tb.dk f (l++[(o,a)])=Tb.dk f l++[(Sum.inl o,f a)]:=by
 unfold Tb.dk;rw[map_append];rfl
theorem EW {pl F:List (Int×Addr×Int)}(h:(F.map λy=>(y.1,y.2.2))=pl.map λy=>(y.1,y.2.2)):Tb.dk gB F=Tb.dk gB pl:=by
 have e:∀l:List (Int×Addr×Int),Tb.dk gB l=(l.map λy=>(y.1,y.2.2)).map λp=>((Sum.inl p.1:Key),V.int p.2):=λl=>by
  unfold Tb.dk;rw[map_map];rfl
 rw[e,e,h]
noncomputable def zF (m:MA) (H:Hp) (Z:Zs) (H':Hp) (Z':Zs):Prop:=Off (cW m Z) H H'/\∀b,cW m Z' b->cW m Z b\/H b=none
noncomputable def xP (pk pk':Int) (D:Dd) (F:Int->Int->Option Int):Prop:=pk<=pk'/\match D with
 |.poke t ad _ cs=>(∀q∈Rm.aI ad cs.length,∃v,F t q=some v/\pk<v/\v<=pk')/\∀q∈Rm.aI ad cs.length,∀q'∈Rm.aI ad cs.length,F t q=F t q'->q=q'
 |_=>True
structure CQ (pk pk2:Int) (pl:List (Int×Addr×Int)) (T:Int->Prop):Prop where
 up:pk<=pk2
 at_:∀q,T q->∃v,(Tb.look pl q).map (·.2)=some v/\pk<v/\v<=pk2
 inj:∀q q',T q->T q'->(Tb.look pl q).map (·.2)=(Tb.look pl q').map (·.2)->q=q'
theorem CQ.mono {pk F:Int}{pl:List (Int×Addr×Int)}{T G:Int->Prop}(I:CQ pk F pl T) (h:∀q,G q->T q):CQ pk F pl G:=⟨I.up,λq a=>I.at_ q (h q a),λq q' a b=>I.inj q q' (h q a) (h q' b)⟩
theorem CQ.put {pk J F:Int}{pl:List (Int×Addr×Int)}{T N:Int->Prop}{y:Addr×Int}{a:Addr}(I:CQ pk J pl T) (R:Tb.look pl F=some y) (h:∀q,N q->q=F\/T q):CQ pk (J+1) (Tb.aS pl F (a,J+1)) N:=by
 have S:=I.up;have g:∀q,(Tb.look (Tb.aS pl F (a,J+1)) q).map (·.2)=if q=F then some (J+1)else(Tb.look pl q).map (·.2):=λq=>by
  rw[Tb.bR q R];by_cases c:q=F
  .rw[if_pos c,if_pos c];rfl
  .rw[if_neg c,if_neg c]
 have O:∀q,N q->¬ q=F->∃v,(Tb.look pl q).map (·.2)=some v/\pk<v/\v<=J:=λq t c=>I.at_ q ((h q t).resolve_left c);refine⟨af,λq t=>?_,λq q' t t' e=>?_⟩
 .rw[g];by_cases c:q=F
  .rw[if_pos c];exact⟨_,rfl,af,Int.le_refl _⟩
  .rw[if_neg c];obtain⟨v,e,h1,h2⟩:=O q t c;exact⟨v,e,h1,af⟩
 .rw[g,g]at e;by_cases c:q=F
  .by_cases G:q'=F
   .rw[c,G]
   .obtain⟨v,L,_,h2⟩:=O q' t' G;rw[if_pos c,if_neg G,L]at e;have:=Option.some.inj e;omega
  .by_cases G:q'=F
   .obtain⟨v,L,_,h2⟩:=O q t c;rw[if_neg c,if_pos G,L]at e;have:=Option.some.inj e;omega
   .rw[if_neg c,if_neg G]at e;exact I.inj q q' ((h q t).resolve_left c) ((h q' t').resolve_left G) e
inductive qt (vs:List V) (H:Hp) (Q:VK) (e3:XK):Prop
 |mk (m:MA) (bO pk:Int) (Z:Zs) (d:Addr) (D:Dd) (_:vs=[.ref m.md,.ref d]) (_:cB H m bO pk Z) (_:0<=pk) (_:Z.length<=1000) (_:tX H d D) (_:Cj Z bO D) (_:(∀t ad c cs,D=.poke t ad c cs->¬ cW m Z c/\0<=ad/\ad<=1000/\cs.length<=100)) (_:(∀t ad n,D=.peek t ad n->0<=ad/\ad<=1000/\n<=100)) (_:∀(H':Hp) (pk':Int) (Z':Zs) (v:V),cB H' m bO pk' Z'->(0<=pk'/\xP pk pk' D (eZ Z'))->zF m H Z H' Z'->Z'.length<=Z.length+1->xJ D (hZ Z) (hZ Z')->tq 0 (λv=>v≠0) D (eZ Z) (eZ Z')->Q v H'):qt vs H Q e3
section
variable {P:Program}{w:World}{K:PySem.W.Frag}{mg:Str->Option Value}{base:Heap}
theorem kB:aA ["_law_model_here","_law_deed","_law_rooms","_law_stands","_law_name","_law_task","_law_page","_law_cells_here","_law_k","_law_cell","_law_at"] ["_law_model_here","_law_deed"] (ar yK):=L2.bD
theorem Be {f:Addr}{fd:FuncData}(F:cQ K "_law_done" "_law_done" yK f fd) (T:mV mg):bj P w K mg base aW 1 f fd ["_law_model_here","_law_deed"] qt:=by
 refine F.ok kB (λvs H Q E h=>?_) (λeH A outer s H vs Q E hr h=>?_)
 .obtain⟨m,bO,pk,Z,d,D,rfl,_⟩:=h;rfl
 .obtain⟨m,bO,pk,Z,d,D,rfl,M,p0,lz,hd,fi,dj,dd,k⟩:=h;have hs:sizeLine=16777216:=sizeLine_eq;refine⟨_,(ag (cF (cL (aa (bw (bg hr) (pv 0) aJ (λ_ _=>rfl)) (aa (bw (bg hr) (pv 0) aJ (λ_ _=>rfl)) ai))) (dB rfl (bh (aZ (i:=2) kB.nd rfl (Or.inr rfl)) (bh (aZ (i:=3) kB.nd rfl (Or.inl rfl)) cK))))
   (ag (cF (dg kN (pv 1) eY (de ak)) (dB rfl (bh (aZ (i:=4) kB.nd rfl (Or.inl rfl)) (bh (aZ (i:=5) kB.nd rfl (Or.inr rfl)) cK))))
   (ag (aR (aC bS (pv 4) aJ (aG _)) (aj (cF (cL (aa cR (aa cR ai))) (dB rfl (bh (dA (pv 2) (pv 5) (set_dict (bg hr))) (bh (dA (pv 3) (pv 5) (set_dict (bg hr))) cK))))) (aj (aR (aC bS (pv 4) aJ (aG _)) (ag (aM (eg (pv 2) (pv 5) ⟨rfl,rfl,rfl,rfl⟩))
   (aj (aM (eg (pv 3) (pv 5) ⟨rfl,rfl,rfl,rfl⟩)))) (aj (aR (aC bS (pv 4) aJ (aG _)) (aj (cY PassesOwn.never rfl (dW (by rfl) T.range (aa (aX a8 (pv 1) ak (λ_ _=>rfl)) (aa (az bq (aX a8 (pv 1) ak (λ_ _=>rfl)) (aX a8 (pv 1) ak (λ_ _=>rfl))) ai))) (aZ (i:=6) kB.nd rfl (Or.inl rfl)) (aj (cF (cL (aa (az lS (ck (aa ak ai)) ak) (aa ak ai))) (dB rfl (bh (dA (bw (bg hr) (pv 2) (pv 5) (λ_ _=>rfl)) (pv 6) (set_dict (bg hr))) (bh (dA (bw (bg hr) (pv 3) (pv 5) (λ_ _=>rfl)) (pv 6) (set_dict (bg hr))) cK))))))) (aj (aR (aC bS (pv 4) aJ (aG _)) (aj (cY PassesOwn.never rfl (dW (by rfl) T.range (aa (aX a8 (pv 1) ak (λ_ _=>rfl)) (aa (az bq (aX a8 (pv 1) ak (λ_ _=>rfl)) (aX a8 (pv 1) ak (λ_ _=>rfl))) ai))) (aZ (i:=6) kB.nd rfl (Or.inl rfl)) (ag (aM (eg (bw (bg hr) (pv 2) (pv 5) (λ_ _=>rfl)) (pv 6) ⟨rfl,rfl,rfl,rfl⟩))
   (aj (aM (eg (bw (bg hr) (pv 3) (pv 5) (λ_ _=>rfl)) (pv 6) ⟨rfl,rfl,rfl,rfl⟩)))))) (aj (aR (aC bS (pv 4) aJ (aG _)) (ag (cF (bK uM (by rfl) T.dict o8 (aa (bw (bg hr) (pv 3) (pv 5) (λ_ _=>rfl)) ai)) (dA (pv 3) (aX a8 (pv 1) ak (λ_ _=>rfl)) (set_dict (bg hr))))
   (ag (cF cR (dA (pv 2) (aX a8 (pv 1) ak (λ_ _=>rfl)) (set_dict (bg hr))))
   (aj (kO (cY PassesOwn.never rfl (lT (bw (bg hr) (pv 2) (pv 5) (λ_ _=>rfl))) (dB rfl (bh (aZ (i:=6) kB.nd rfl (Or.inl rfl)) (bh (aZ (i:=7) kB.nd rfl (Or.inl rfl)) cK))) (aj (cF (bK cO (by rfl) T.list d0 (aa (pv 7) ai)) (dA (bw (bg hr) (pv 2) (aX a8 (pv 1) ak (λ_ _=>rfl)) (λ_ _=>rfl)) (pv 6) (set_dict (bg hr)))))))))) (aj (aR (aC bS (pv 4) aJ (aG _)) (aj (aE (gZ (cl:=[("_law_task",s.heap.objs.size+2),("_law_rooms",s.heap.objs.size+1)]) (caps:=[("_law_rooms",2),("_law_task",5)]) ⟨rfl,ao,ao,rfl,by kernel_rfl,by intro p hp;simp only[mem_cons,not_mem_nil,or_false]at hp;rcases hp with rfl|rfl<;>first|rfl|exact⟨rfl,.inl rfl,.inl rfl⟩|exact⟨rfl,.inl rfl,.inr rfl⟩,by kernel_rfl,by intro p hp;simp only[mem_cons,not_mem_nil,or_false]at hp;rcases hp with rfl|rfl<;>first|rfl|exact⟨rfl,.inl rfl,.inl rfl⟩|exact⟨rfl,.inl rfl,.inr rfl⟩,ao⟩ rfl (dW (by rfl) T.range (aa (aX a8 (pv 1) ak (λ_ _=>rfl)) (aa (az bq (aX a8 (pv 1) ak (λ_ _=>rfl)) (aX a8 (pv 1) ak (λ_ _=>rfl))) ai))) (λ_ _ _ _=>gk) (λ_ _ _ _=>(aX (show FG _ (Ae K)from cg) (bw (bg hr) (bw (bg hr) (pv 1) (pv 2) (λ_ _=>rfl)) (az bF (pv 0) ak) (λ_ _=>rfl)) (az bH (pv 0) ak) (λ_ _=>rfl)))))) (aj (cY PassesOwn.never rfl (AF (by rfl) T.enumerate (aa (aX a8 (pv 1) ak (λ_ _=>rfl)) ai)) (dB rfl (bh (aZ (i:=8) kB.nd rfl (Or.inl rfl)) (bh (aZ (i:=9) kB.nd rfl (Or.inl rfl)) cK))) (ag (aL (i:=10) kB.nd rfl (Or.inl rfl) (az bq (aX a8 (pv 1) ak (λ_ _=>rfl)) (pv 8)))
   (ag (cF (pv 9) (dA (bw (bg hr) (bw (bg hr) (pv 2) (pv 5) (λ_ _=>rfl)) (az bF (pv 10) ak) (λ_ _=>rfl)) (az bH (pv 10) ak) set_list))
   (aj (aR (PW.pt (fM (aC bS (pv 8) ak (aG _)) (fw (aC bS (az bH (pv 10) ak) ak (aG _))))) (ag (cF (az bq (bw (bg hr) (pv 0) aJ (λ_ _=>rfl)) ak) (dA (pv 0) aJ (set_dict (bg hr))))
   (aj (cF (bw (bg hr) (pv 0) aJ (λ_ _=>rfl)) (dA (bw (bg hr) (pv 3) (pv 5) (λ_ _=>rfl)) (az bF (pv 10) ak) (set_dict (bg hr)))))) aF)))))))))))))))))
   (aj (aE lK))))),?_⟩
  refine share (λσ H1=>bf H H1/\σ=[some (.ref m.md),some (.ref d),some (.ref m.lr),some (.ref m.ls),none,none,none,none,none,none,none]) (λu' ap=>?A) ?B
  case A =>
   refine⟨_,rfl,m.md,.ref m.lr,rfl,M.g (Af _ _ _ _),_,rfl,m.md,.ref m.ls,rfl,M.g (E4 _ _ _ _),by show 2<=sizeLine;decide,λtp bl=>?_⟩;exact⟨tp,_,rfl,bV.of ae,rfl,_,_,rfl,_,_,rfl,rfl,ap _ _ ⟨Tb.au bl,rfl⟩⟩
  case B =>
  rintro σ H0 ⟨s0,rfl⟩;have da:H0 d=some (.tup (vd D)):=s0 _ _ hd.1;refine share (λσ H1=>bf H H1/\σ=[some (.ref m.md),some (.ref d),some (.ref m.lr),some (.ref m.ls),some (.str (Bh D)),some (.int (BB D)),none,none,none,none,none]) (λu' ap=>?A2) ?B2
  case A2 =>
   refine⟨_,rfl,_,rfl,d,_,rfl,bV.of da,λc=>?_,λ_ p hp=>?_⟩
   .exact⟨d,_,rfl,bV.of da,by rw[zY c];rfl,by rw[zY c];exact⟨_,_,rfl,_,_,rfl,rfl,ap _ _ ⟨s0,rfl⟩⟩⟩
   .rw[CB];exact⟨p,_,rfl,bV.of ae,rfl,_,_,rfl,_,_,rfl,rfl,ap _ _ ⟨s0.trans (Tb.au hp),rfl⟩⟩
  case B2 =>
  rintro σ H1 ⟨s1,rfl⟩;have M1:=M.same s1;have am:H1 d=some (.tup (vd D)):=s1 _ _ hd.1;refine share (λσ H2=>xy λ(pk':Int) (Z':Zs)=>wo (cB H2 m bO pk' Z') (0<=pk'/\xP pk pk' D (eZ Z')) (zF m H Z H2 Z') (Z'.length<=Z.length+1) (xJ D (hZ Z) (hZ Z')) (tq 0 (λv=>v≠0) D (eZ Z) (eZ Z'))) (λu' ap=>?A3) ?B3
  case B3 =>
   rintro σ H2 ⟨pk',Z',a1,a2,a3,a4,a5,a6⟩;exact k H2 pk' Z' .non a1 a2 a3 a4 a5 a6
  case A3 =>
  refine Ez ?_;dsimp only;have zo:∀{b},H b=none->H1 b=none->True:=λ_ _=>trivial;cases D with
  |begin t =>
   refine dY λ_ _ J G=>?_;refine eqT (bB rfl) bA rfl (dU (J _ _ _ ?_));clear J G;have fi:Tb.look Z t=none:=fi;intro d1 h1 d2 h2;have bc:d2≠d1:=λe=>(by rw[e,ae]at h2;cases h2);have em:H1 d2=none:=(by rw[ah bc]at h2;exact h2);have sA:=(Tb.au (X:=.dK []) h1).trans (Tb.au (X:=.dK []) h2);have e1:upd (upd H1 d1 (.dK [])) d2 (.dK []) d1=some (.dK []):=(by rw[ah (Ne.symm bc),ae]);have e2:upd (upd H1 d1 (.dK [])) d2 (.dK []) d2=some (.dK []):=ae;generalize upd (upd H1 d1 (.dK [])) d2 (.dK [])=H2 at *;refine⟨by show 2<=sizeLine;decide,λtp bl=>?_⟩;have sB:=Tb.au (X:=.tup [.ref d1,.ref d2]) bl;refine⟨tp,_,rfl,bV.of ae,rfl,_,_,rfl,?_⟩;have M3:=(M1.same sA).same sB;have e1:=sB _ _ e1;have e2:=sB _ _ e2;have S3:=s1.trans (sA.trans sB);generalize upd H2 tp (.tup [.ref d1,.ref d2])=H3 at *;refine⟨_,rfl,_,rfl,m.lr,_,rfl,eO.k (k:=Sum.inl t) M3.hr (by rw[Tb.cu];omega),?_⟩;rw[show(V.ref d1)=iX ⟨d1,d2,[]⟩from rfl,Tb.cA (f:=iX) fi];refine⟨_,_,rfl,_,rfl,_,rfl,m.ls,_,rfl,eO.k (k:=Sum.inl t) (by rw[ah (Ne.symm M3.n3.2.2)];exact M3.hs) (by rw[Tb.cu];omega),rfl,?_⟩;rw[show(V.ref d2)=iB ⟨d1,d2,[]⟩from rfl,Tb.cA (f:=iB) fi];have oC:Off (λb=>b=m.lr\/b=m.ls) H3 (upd (upd H3 m.lr (.dK (Tb.dk iX (Z++[(t,⟨d1,d2,[]⟩)])))) m.ls (.dK (Tb.dk iB (Z++[(t,⟨d1,d2,[]⟩)])))):=λb o e w=>(by rw[ah (λy=>w (.inr y)),ah (λy=>w (.inl y))];exact e);have b4:∀{b},H b=none->b≠m.lr/\b≠m.ls:=λh=>⟨(λe=>by rw[e,M.hr]at h;cases h),(λe=>by rw[e,M.hs]at h;cases h)⟩;have f1:H d1=none:=s1.free h1;have f2:H d2=none:=s1.free em;have U:cB (upd (upd H3 m.lr (.dK (Tb.dk iX (Z++[(t,⟨d1,d2,[]⟩)])))) m.ls (.dK (Tb.dk iB (Z++[(t,⟨d1,d2,[]⟩)])))) m bO pk (Z++[(t,⟨d1,d2,[]⟩)]):=
    M.add fi (λb o e w=>oC b o (S3 b o e) w) (by rw[ah M.n3.2.2,ae]) ae (oC _ _ e1 λw=>w.elim (b4 f1).1 (b4 f1).2) (oC _ _ e2 λw=>w.elim (b4 f2).1 (b4 f2).2) (λy I=>by cases I) nodup_nil (λy I=>by cases I) f1 f2 (Ne.symm bc)
   refine ap _ _ ⟨pk,_,U,⟨p0,Int.le_refl _,trivial⟩,⟨λb o e w=>oC b o (S3 b o e) λy=>w (y.elim (λy=>.inr (.inl y)) λy=>.inr (.inr (.inl y))),λb w=>?_⟩,by rw[length_append];exact le_refl _,λt'=>?_,λt' q=>?_⟩
   .rcases w with w|w|w|⟨x,hx,w⟩
    .exact .inl (.inl w)
    .exact .inl (.inr (.inl w))
    .exact .inl (.inr (.inr (.inl w)))
    .rcases List.mem_append.mp hx with hx|hx
     .exact .inl (.inr (.inr (.inr ⟨x,hx,w⟩)))
     .rw[List.mem_singleton.mp hx]at w;rcases w with w|w|⟨y,I,_⟩
      .rw[w];exact .inr f1
      .rw[w];exact .inr f2
      .cases I
   .unfold hZ;rw[Tb.bN t' fi];by_cases c:t'=t
    .rw[if_pos c,decide_eq_true c];rfl
    .rw[if_neg c,decide_eq_false c];rfl
   .unfold eZ;rw[Tb.bN t' fi];by_cases c:t'=t
    .rw[if_pos c,if_pos c];rfl
    .rw[if_neg c,if_neg c]
  |close t =>
   refine dY λ_ _ J G=>?_;refine dR (bB rfl) bA rfl bP (bu (G _ _ _ ?_));clear J G;refine dY λ_ _ J G=>?_;refine eqT (bB rfl) bA rfl (dU (J _ _ _ ?_));clear J G;obtain⟨z,L⟩:=fi;refine⟨_,rfl,m.lr,rfl,.inl ⟨_,.inl M1.hr⟩,_,rfl,_,Sum.inl t,iX z,M1.hr,rfl,by rw[Tb.cN,L];rfl,?_⟩;rw[Tb.eB];refine⟨_,rfl,m.ls,rfl,.inl ⟨_,.inl (by rw[ah (Ne.symm M1.n3.2.2)];exact M1.hs)⟩,_,rfl,_,Sum.inl t,iB z,by rw[ah (Ne.symm M1.n3.2.2)];exact M1.hs,rfl,by rw[Tb.cN,L];rfl,?_⟩;rw[Tb.eB];have oC:Off (λb=>b=m.lr\/b=m.ls) H1 (upd (upd H1 m.lr (.dK (Tb.dk iX (Tb.a9 Z t)))) m.ls (.dK (Tb.dk iB (Tb.a9 Z t)))):=λb o e w=>(by rw[ah (λy=>w (.inr y)),ah (λy=>w (.inl y))];exact e);have U:=M1.del (t:=t) oC (by rw[ah M.n3.2.2,ae]) ae;refine ap _ _ ⟨pk,_,U,⟨p0,Int.le_refl _,trivial⟩,⟨λb o e w=>oC b o (s1 b o e) λy=>w (y.elim (λy=>.inr (.inl y)) λy=>.inr (.inr (.inl y))),λb w=>.inl ?_⟩,le_trans (List.length_filter_le _ _) (le_succ _),λt'=>?_,λt' q=>?_⟩
   .rcases w with w|w|w|⟨x,hx,w⟩
    .exact .inl w
    .exact .inr (.inl w)
    .exact .inr (.inr (.inl w))
    .exact .inr (.inr (.inr ⟨x,(Tb.bX hx).1,w⟩))
   .unfold hZ;rw[Tb.cw];by_cases c:t'=t
    .rw[if_pos c,decide_eq_false (λy=>y c)];rfl
    .rw[if_neg c,decide_eq_true c];rfl
   .unfold eZ;rw[Tb.cw];by_cases c:t'=t
    .rw[if_pos c,if_pos c];rfl
    .rw[if_neg c,if_neg c]
  |map t p mm =>
   refine dY λ_ _ J G=>?_;refine dR (bB rfl) bA rfl bP (bu (G _ _ _ ?_));clear J G;refine dY λ_ _ J G=>?_;refine dR (bB rfl) bA rfl bP (bu (G _ _ _ ?_));clear J G;refine dY λ_ _ J G=>?_;refine eqT (bB rfl) bA rfl (dU (J _ _ _ ?_));clear J G;obtain⟨z,L,aT,dM,_⟩:=fi;have N:=Tb.ay L;have b1:¬ mm<1:=λw=>aT (.inl w);have b2:¬ p<0:=λw=>aT (.inr (.inl w));have b3:¬ 64<p+mm:=λw=>aT (.inr (.inr w));refine⟨_,rfl,d,_,_,.int p,rfl,rfl,bV.of am,rfl,_,rfl,d,_,_,.int p,rfl,rfl,bV.of am,rfl,_,rfl,d,_,_,.int mm,rfl,rfl,bV.of am,rfl,_,_,rfl,rfl,_,_,rfl,⟨af,af,af,af⟩,?_⟩;refine fP (lo:=p) (n:=(p+mm-p).toNat) (λi σ H2=>xy λ(v6:Option V) (pl:List (Int×Addr×Int))=>wo (σ=[some (.ref m.md),some (.ref d),some (.ref m.lr),some (.ref m.ls),some (.str "map"),some (.int t),v6,none,none,none,none]) (cB H2 m bO pk (Tb.aS Z t ⟨z.ra,z.sa,pl⟩)) ((∀q,(Tb.look pl q).map (·.2)=if p<=q/\q<p+(i:Int)then some 0 else(Tb.look z.pl q).map (·.2))) ((∀y∈pl,y∈z.pl\/H y.2.1=none)) (Off (cW m Z) H H2) (∀b,H2 b=none->H b=none)) ⟨_,z.pl,rfl,by rw[BU M.nd L];exact M1,λq=>by rw[if_neg af],λy I=>.inl I,λb o e _=>s1 b o e,λb e=>s1.free e⟩ ?_ ?_
   .rintro i σ H2 hi ⟨v6,pl,rfl,M2,ab,bb,o2,bJ⟩;have ac:=x9 (y:=(⟨z.ra,z.sa,pl⟩:MT)) L;have R:=Tb.ay ac;have b7:p+(i:Int)∈Rm.aO p mm:=by
     unfold Rm.aO;exact List.mem_map.mpr ⟨i,List.mem_range.mpr af,rfl⟩
    have bI:Tb.look pl (p+(i:Int))=none:=by
     have:=ab (p+(i:Int));rw[if_neg af,dM _ b7]at this;exact Option.map_eq_none_iff.mp this
    have ca:=M2.len R;refine⟨av,λl1 cT=>?_⟩;refine⟨l1,8,_,rfl,rfl,ae,af,af,by rw[length_singleton];omega,λl2 bz=>?_⟩;have sA:=(Tb.au (X:=.lst [V.int 0]) cT).trans (Tb.au (X:=.lst ((replicate (8:Int).toNat [V.int 0]).flatten)) bz);have f2:H2 l2=none:=(Tb.au (X:=.lst [V.int 0]) cT).free bz;have e2:upd (upd H2 l1 (.lst [V.int 0])) l2 (.lst ((replicate (8:Int).toNat [V.int 0]).flatten)) l2=some (.lst ((replicate 8 (0:Int)).map V.int)):=ae;generalize upd (upd H2 l1 (.lst [V.int 0])) l2 (.lst ((replicate (8:Int).toNat [V.int 0]).flatten))=H3 at *;refine⟨by show 2<=sizeLine;decide,λtp bl=>?_⟩;have sB:=Tb.au (X:=.tup [.ref l2,.int 0]) bl;refine⟨tp,_,rfl,bV.of ae,rfl,_,_,rfl,?_⟩;have U:=(M2.same sA).same sB;have S4:=sA.trans sB;have e4:=sB _ _ e2;generalize upd H3 tp (.tup [.ref l2,.int 0])=H4 at *;refine⟨_,rfl,_,rfl,m.lr,_,rfl,dZ U.hr ac,_,rfl,z.ra,_,rfl,eO.k (k:=Sum.inl (p+(i:Int))) (U.rm _ R) (by rw[Tb.cu];have:pl.length<=64:=ca;show pl.length<_;omega),?_⟩;have e5:putK (Tb.dk fW pl) (Sum.inl (p+(i:Int))) (.ref l2)=Tb.dk fW (pl++[(p+(i:Int),(l2,0))]):=Tb.cA (f:=fW) (a:=(l2,0)) bI;have e6:putK (Tb.dk gB pl) (Sum.inl (p+(i:Int))) (.int 0)=Tb.dk gB (pl++[(p+(i:Int),(l2,0))]):=Tb.cA (f:=gB) (a:=(l2,0)) bI;have dz:=M.d3 _ N;have aB:=M.rs _ N _ N;show yu _ _ _ _ (upd H4 z.ra (.dK (putK (Tb.dk fW pl) (Sum.inl (p+(i:Int))) (.ref l2)))) _;rw[e5];have o5:Off (· = z.ra) H4 (upd H4 z.ra (.dK (Tb.dk fW (pl++[(p+(i:Int),(l2,0))])))):=Off.wr rfl;refine⟨_,_,rfl,_,rfl,_,rfl,m.ls,_,rfl,dZ (o5 _ _ U.hs (Ne.symm dz.2.2.1)) ac,_,rfl,z.sa,_,rfl,eO.k (k:=Sum.inl (p+(i:Int))) (o5 _ _ (U.st _ R) (Ne.symm aB)) (by rw[Tb.cu];have:pl.length<=64:=ca;show pl.length<_;omega),rfl,?_⟩;have o6:Off (λb=>b=m.md\/b=z.ra\/b=z.sa) H4 (upd (upd H4 z.ra (.dK (Tb.dk fW (pl++[(p+(i:Int),(l2,0))])))) z.sa (.dK (putK (Tb.dk gB pl) (Sum.inl (p+(i:Int))) (.int 0)))):=λb o e w=>(by rw[ah (λy=>w (.inr (.inr y))),ah (λy=>w (.inr (.inl y)))];exact e);have M7:=U.CF (pk':=pk) (pl:=pl++[(p+(i:Int),(l2,0))]) ac o6 (by rw[ah (Ne.symm dz.2.2.2.1),ah (Ne.symm dz.1)];exact U.hm) (by show upd _ z.sa _ z.ra=_;rw[ah aB,ae]) (by show upd _ z.sa _ z.sa=_;rw[ae,e6]) (λy I=>by
      rcases List.mem_append.mp I with I|I
      .obtain⟨ns,O,S⟩:=U.cl _ R y I;exact⟨ns,o6 _ _ O (λw=>by
        rcases w with w|w|w
        .rw[w,U.hm]at O;cases O
        .rw[w,U.rm _ R]at O;cases O
        .rw[w,U.st _ R]at O;cases O),S⟩
      .rw[List.mem_singleton.mp I];exact⟨replicate 8 0,o6 _ _ e4 (λw=>by
        have w:l2=m.md\/l2=z.ra\/l2=z.sa:=w;rcases w with w|w|w
        .rw[w,U.hm]at e4;cases e4
        .rw[w,U.rm _ R]at e4;cases e4
        .rw[w,U.st _ R]at e4;cases e4),by simp⟩) (by rw[map_append];exact gf (M2.np _ R) (Tb.cn bI)) (λy I=>by
      rcases List.mem_append.mp I with I|I
      .exact M2.rg _ R y I
      .rw[List.mem_singleton.mp I];show 0<=p+(i:Int)/\p+(i:Int)<64;omega)
    rw[yh]at M7;refine⟨_,pl++[(p+(i:Int),(l2,0))],rfl,M7,λq=>?_,λy I=>?_,λb o e w=>o6 b o (S4 b o (o2 b o e w)) λy=>w ?_,λb e=>bJ b (S4.free (cD (cD e).2).2)⟩
    .rw[Tb.bN q bI];by_cases c:q=p+(i:Int)
     .rw[if_pos c,if_pos (by rw[c];omega)];rfl
     .rw[if_neg c,ab q];by_cases S:p<=q/\q<p+(i:Int)
      .rw[if_pos S,if_pos af]
      .rw[if_neg S,if_neg af]
    .rcases List.mem_append.mp I with I|I
     .exact bb y I
     .rw[List.mem_singleton.mp I];exact .inr (bJ l2 f2)
    .rcases y with y|y|y
     .exact .inl y
     .exact .inr (.inr (.inr ⟨_,N,.inl y⟩))
     .exact .inr (.inr (.inr ⟨_,N,.inr (.inl y)⟩))
   .rintro σ H2 ⟨v6,pl,rfl,M2,ab,bb,o2,bJ⟩;refine ap _ _ ⟨pk,_,M2,⟨p0,Int.le_refl _,trivial⟩,⟨o2,l9 L λy I=>(bb y I).imp (λh=>⟨y,h,rfl⟩) id⟩,by rw[Tb.gi];omega,uz L,λt' q=>?_⟩;rw[ox L];have be:q∈Rm.aO p mm↔(p<=q/\q<p+((p+mm-p).toNat:Int)):=by
     unfold Rm.aO;rw[mem_map];constructor
     .rintro⟨j,hj,rfl⟩;have:=List.mem_range.mp hj;omega
     .intro h;exact⟨(q-p).toNat,List.mem_range.mpr af,af⟩
    by_cases c:t'=t
    .rw[if_pos c,ab q];by_cases S:q∈Rm.aO p mm
     .rw[if_pos (be.mp S),if_pos ⟨c,S⟩]
     .rw[if_neg (λh=>S (be.mpr h)),if_neg (λh=>S h.2),c,nE L]
    .rw[if_neg c,if_neg (λh=>c h.1)]
  |drop t p mm =>
   refine dY λ_ _ J G=>?_;refine dR (bB rfl) bA rfl bP (bu (G _ _ _ ?_));clear J G;refine dY λ_ _ J G=>?_;refine dR (bB rfl) bA rfl bP (bu (G _ _ _ ?_));clear J G;refine dY λ_ _ J G=>?_;refine dR (bB rfl) bA rfl bP (bu (G _ _ _ ?_));clear J G;refine dY λ_ _ J G=>?_;refine eqT (bB rfl) bA rfl (dU (J _ _ _ ?_));clear J G;obtain⟨z,L,aT,dO⟩:=fi;have N:=Tb.ay L;have b1:¬ mm<1:=λw=>aT (.inl w);have b2:¬ p<0:=λw=>aT (.inr (.inl w));have b3:¬ 64<p+mm:=λw=>aT (.inr (.inr w));refine⟨_,rfl,d,_,_,.int p,rfl,rfl,bV.of am,rfl,_,rfl,d,_,_,.int p,rfl,rfl,bV.of am,rfl,_,rfl,d,_,_,.int mm,rfl,rfl,bV.of am,rfl,_,_,rfl,rfl,_,_,rfl,⟨af,af,af,af⟩,?_⟩;refine fP (lo:=p) (n:=(p+mm-p).toNat) (λi σ H2=>xy λ(v6:Option V) (pl:List (Int×Addr×Int))=>wo (σ=[some (.ref m.md),some (.ref d),some (.ref m.lr),some (.ref m.ls),some (.str "drop"),some (.int t),v6,none,none,none,none]) (cB H2 m bO pk (Tb.aS Z t ⟨z.ra,z.sa,pl⟩)) ((∀q,(Tb.look pl q).map (·.2)=if p<=q/\q<p+(i:Int)then none else(Tb.look z.pl q).map (·.2))) ((∀y∈pl,y∈z.pl\/H y.2.1=none)) (Off (cW m Z) H H2) True) ⟨_,z.pl,rfl,by rw[BU M.nd L];exact M1,λq=>by rw[if_neg af],λy I=>.inl I,λb o e _=>s1 b o e,trivial⟩ ?_ ?_
   .rintro i σ H2 hi ⟨v6,pl,rfl,M2,ab,bb,o2,_⟩;have ac:=x9 (y:=(⟨z.ra,z.sa,pl⟩:MT)) L;have R:=Tb.ay ac;have b7:p+(i:Int)∈Rm.aO p mm:=by
     unfold Rm.aO;exact List.mem_map.mpr ⟨i,List.mem_range.mpr af,rfl⟩
    obtain⟨y,I⟩:∃y,Tb.look pl (p+(i:Int))=some y:=by
     have h1:=ab (p+(i:Int));rw[if_neg af]at h1;cases e:Tb.look pl (p+(i:Int))with
     |some y=>exact⟨y,rfl⟩
     |none =>
      rw[e]at h1;exact absurd (Option.map_eq_none_iff.mp h1.symm) (dO _ b7)
    have dz:=M.d3 _ N;have aB:=M.rs _ N _ N;refine⟨_,rfl,_,rfl,m.lr,_,rfl,dZ M2.hr ac,z.ra,rfl,.inl ⟨_,.inl (M2.rm _ R)⟩,_,rfl,_,Sum.inl (p+(i:Int)),fW y,M2.rm _ R,rfl,by rw[Tb.cN,I];rfl,?_⟩;rw[Tb.eB];have o5:Off (· = z.ra) H2 (upd H2 z.ra (.dK (Tb.dk fW (Tb.a9 pl (p+(i:Int)))))):=Off.wr rfl;have h5:=o5 _ _ (M2.st _ R) (Ne.symm aB);refine⟨_,rfl,_,rfl,m.ls,_,rfl,dZ (o5 _ _ M2.hs (Ne.symm dz.2.2.1)) ac,z.sa,rfl,.inl ⟨_,.inl h5⟩,_,rfl,_,Sum.inl (p+(i:Int)),gB y,h5,rfl,by rw[Tb.cN,I];rfl,?_⟩;rw[Tb.eB];have o6:Off (λb=>b=m.md\/b=z.ra\/b=z.sa) H2 (upd (upd H2 z.ra (.dK (Tb.dk fW (Tb.a9 pl (p+(i:Int)))))) z.sa (.dK (Tb.dk gB (Tb.a9 pl (p+(i:Int)))))):=λb o e w=>(by rw[ah (λy=>w (.inr (.inr y))),ah (λy=>w (.inr (.inl y)))];exact e);have M7:=M2.CF (pk':=pk) (pl:=Tb.a9 pl (p+(i:Int))) ac o6 (by rw[ah (Ne.symm dz.2.2.2.1),ah (Ne.symm dz.1)];exact M2.hm) (by show upd _ z.sa _ z.ra=_;rw[ah aB,ae]) (by show upd _ z.sa _ z.sa=_;rw[ae]) (λy I=>by
      obtain⟨ns,O,S⟩:=M2.cl _ R y (Tb.bX I).1;exact⟨ns,o6 _ _ O (λw=>by
        rcases w with w|w|w
        .rw[w,M2.hm]at O;cases O
        .rw[w,M2.rm _ R]at O;cases O
        .rw[w,M2.st _ R]at O;cases O),S⟩) (Tb.lY (M2.np _ R)) (λy I=>M2.rg _ R y (Tb.bX I).1)
    rw[yh]at M7;refine⟨_,Tb.a9 pl (p+(i:Int)),rfl,M7,λq=>?_,λy I=>bb y (Tb.bX I).1,λb o e w=>o6 b o (o2 b o e w) λy=>w ?_,trivial⟩
    .rw[Tb.cw];by_cases c:q=p+(i:Int)
     .rw[if_pos c,if_pos (by rw[c];omega)];rfl
     .rw[if_neg c,ab q];by_cases S:p<=q/\q<p+(i:Int)
      .rw[if_pos S,if_pos af]
      .rw[if_neg S,if_neg af]
    .rcases y with y|y|y
     .exact .inl y
     .exact .inr (.inr (.inr ⟨_,N,.inl y⟩))
     .exact .inr (.inr (.inr ⟨_,N,.inr (.inl y)⟩))
   .rintro σ H2 ⟨v6,pl,rfl,M2,ab,bb,o2,bJ⟩;refine ap _ _ ⟨pk,_,M2,⟨p0,Int.le_refl _,trivial⟩,⟨o2,l9 L λy I=>(bb y I).imp (λh=>⟨y,h,rfl⟩) id⟩,by rw[Tb.gi];omega,uz L,λt' q=>?_⟩;rw[ox L];have be:q∈Rm.aO p mm↔(p<=q/\q<p+((p+mm-p).toNat:Int)):=by
     unfold Rm.aO;rw[mem_map];constructor
     .rintro⟨j,hj,rfl⟩;have:=List.mem_range.mp hj;omega
     .intro h;exact⟨(q-p).toNat,List.mem_range.mpr af,af⟩
    by_cases c:t'=t
    .rw[if_pos c,ab q];by_cases S:q∈Rm.aO p mm
     .rw[if_pos (be.mp S),if_pos ⟨c,S⟩]
     .rw[if_neg (λh=>S (be.mpr h)),if_neg (λh=>S h.2),c,nE L]
    .rw[if_neg c,if_neg (λh=>c h.1)]
  |copy t o =>
   refine dY λ_ _ J G=>?_;refine dR (bB rfl) bA rfl bP (bu (G _ _ _ ?_));clear J G;refine dY λ_ _ J G=>?_;refine dR (bB rfl) bA rfl bP (bu (G _ _ _ ?_));clear J G;refine dY λ_ _ J G=>?_;refine dR (bB rfl) bA rfl bP (bu (G _ _ _ ?_));clear J G;refine dY λ_ _ J G=>?_;refine dR (bB rfl) bA rfl bP (bu (G _ _ _ ?_));clear J G;refine dY λ_ _ J G=>?_;refine eqT (bB rfl) bA rfl (dU (J _ _ _ ?_));clear J G;obtain⟨z,L,eo,_⟩:=fi;have N:=Tb.ay L;have dz:=M.d3 _ N;have aB:=M.rs _ N _ N;have dV:t≠o:=λe=>(by rw[e,eo]at L;cases L);refine⟨_,rfl,_,rfl,m.ls,_,rfl,dZ M1.hs L,z.sa,_,rfl,M1.st _ N,λd2 h2=>?_⟩;have f2:H d2=none:=s1.free h2;have sA:=Tb.au (X:=.dK (Tb.dk gB z.pl)) h2;have e2:upd H1 d2 (.dK (Tb.dk gB z.pl)) d2=some (.dK (Tb.dk gB z.pl)):=ae;have M2:=M1.same sA;have S2:=s1.trans sA;have ee:=sA _ _ am;generalize upd H1 d2 (.dK (Tb.dk gB z.pl))=H2 at *;refine⟨_,rfl,_,rfl,d,_,_,.int o,rfl,rfl,bV.of ee,rfl,m.ls,_,rfl,eO.k (k:=Sum.inl o) M2.hs (by rw[Tb.cu];omega),?_⟩;rw[show(V.ref d2)=iB ⟨d2,d2,[]⟩from rfl,Tb.cA (f:=iB) eo,k4];show kC _ _ _ _ (upd H2 m.ls (.dK (Tb.dk iB Z++[(Sum.inl o,V.ref d2)])));have o3:Off (· = m.ls) H2 (upd H2 m.ls (.dK (Tb.dk iB Z++[(Sum.inl o,V.ref d2)]))):=Off.wr rfl;have cx:upd H2 m.ls (.dK (Tb.dk iB Z++[(Sum.inl o,V.ref d2)])) m.ls=some (.dK (Tb.dk iB Z++[(Sum.inl o,V.ref d2)])):=ae;generalize upd H2 m.ls (.dK (Tb.dk iB Z++[(Sum.inl o,V.ref d2)]))=H3 at *;have db:d2≠m.ls:=λe=>(by rw[e,M.hs]at f2;cases f2);have dI:d2≠m.lr:=λe=>(by rw[e,M.hr]at f2;cases f2);have d8:∀{b kvs},H b=some (.dK kvs)->b≠m.ls->H3 b=some (.dK kvs):=λe n=>o3 _ _ (S2 _ _ e) n;have et:∀{b xs},H b=some (.tup xs)->H3 b=some (.tup xs):=λe=>o3 _ _ (S2 _ _ e) (λw=>by rw[w,M.hs]at e;cases e);have eA:∀{b xs},H b=some (.lst xs)->H3 b=some (.lst xs):=λe=>o3 _ _ (S2 _ _ e) (λw=>by rw[w,M.hs]at e;cases e);intro d1 h1;have f1:H d1=none:=by
    cases e:H d1 with
    |none=>rfl
    |some u =>
     by_cases w:d1=m.ls
     .rw[w,cx]at h1;cases h1
     .rw[o3 _ _ (S2 _ _ e) w]at h1;cases h1
   have bc:d1≠d2:=λe=>(by rw[e,o3 _ _ e2 db]at h1;cases h1);have bx:d1≠m.lr:=λe=>(by rw[e,M.hr]at f1;cases f1);have cS:d1≠m.ls:=λe=>(by rw[e,M.hs]at f1;cases f1);have dm:upd H3 d1 (.dK []) m.lr=some (.dK (Tb.dk iX Z)):=(by rw[ah (Ne.symm bx)];exact d8 M.hr M.n3.2.2);refine⟨_,rfl,_,rfl,d,_,_,.int o,rfl,rfl,bV.of (Tb.au h1 _ _ (et hd.1)),rfl,m.lr,_,rfl,eO.k (k:=Sum.inl o) dm (by rw[Tb.cu];omega),?_⟩;rw[show(V.ref d1)=iX ⟨d1,d2,[]⟩from rfl,Tb.cA (f:=iX) eo];have o5:Off (λb=>b=m.lr\/b=m.ls) H (upd (upd H3 d1 (.dK [])) m.lr (.dK (Tb.dk iX (Z++[(o,⟨d1,d2,[]⟩)])))):=λb u e w=>by
    rw[ah (λy=>w (.inl y)),ah (aq e f1)];exact o3 _ _ (S2 _ _ e) λy=>w (.inr y)
   have c4:upd (upd H3 d1 (.dK [])) m.lr (.dK (Tb.dk iX (Z++[(o,⟨d1,d2,[]⟩)]))) m.lr=some (.dK (Tb.dk iX (Z++[(o,⟨d1,d2,[]⟩)]))):=ae;have dL:upd (upd H3 d1 (.dK [])) m.lr (.dK (Tb.dk iX (Z++[(o,⟨d1,d2,[]⟩)]))) m.ls=some (.dK (Tb.dk iB Z++[(Sum.inl o,V.ref d2)])):=(by rw[ah (Ne.symm M.n3.2.2),ah (Ne.symm cS)];exact cx);have ep:upd (upd H3 d1 (.dK [])) m.lr (.dK (Tb.dk iX (Z++[(o,⟨d1,d2,[]⟩)]))) d1=some (.dK []):=(by rw[ah bx,ae]);have dp:upd (upd H3 d1 (.dK [])) m.lr (.dK (Tb.dk iX (Z++[(o,⟨d1,d2,[]⟩)]))) d2=some (.dK (Tb.dk gB z.pl)):=(by rw[ah dI,ah (Ne.symm bc)];exact o3 _ _ e2 db);generalize upd (upd H3 d1 (.dK [])) m.lr (.dK (Tb.dk iX (Z++[(o,⟨d1,d2,[]⟩)])))=H5 at *;have bi:∀{b},b≠m.lr->b≠m.ls->¬ (b=m.lr\/b=m.ls):=λa b w=>w.elim a b;have hn:∀(ob:Obj) u',H z.ra≠some (.frz ob u'):=λob u' w=>(by rw[M.rm _ N]at w;cases w);have ek:Tb.look (Z++[(o,(⟨d1,d2,[]⟩:MT))]) t=some z:=(by rw[Tb.bN t eo,if_neg dV];exact L);have ej:Tb.look (Z++[(o,(⟨d1,d2,[]⟩:MT))]) o=some ⟨d1,d2,[]⟩:=(by rw[Tb.bN o eo,if_pos rfl]);have dT:=o5 _ _ (M.rm _ N) (bi dz.2.1 dz.2.2.1);refine⟨_,rfl,_,rfl,m.lr,_,rfl,dZ c4 ek,z.ra,_,rfl,dT,hn,λob=>?_⟩;have bn:d1≠z.ra:=λe=>(by rw[e,M.rm _ N]at f1;cases f1);have c5:d2≠z.ra:=λe=>(by rw[e,M.rm _ N]at f2;cases f2);have oF:Off (· = z.ra) H5 (upd H5 z.ra (.frz ob (.dK (Tb.dk fW z.pl)))):=Off.wr rfl;have hF:upd H5 z.ra (.frz ob (.dK (Tb.dk fW z.pl))) z.ra=some (.frz ob (.dK (Tb.dk fW z.pl))):=ae;have bY:=oF _ _ ep bn;have dl:=oF _ _ dp c5;have bv:=oF _ _ c4 (Ne.symm dz.2.1);have cr:=oF _ _ dL (Ne.symm dz.2.2.1);have cp:=oF _ _ (o5 _ _ hd.1 (bi (λw=>by have:=hd.1;rw[w,M.hr]at this;cases this) (λw=>by have:=hd.1;rw[w,M.hs]at this;cases this))) (λw=>by have:=hd.1;rw[w,M.rm _ N]at this;cases this);have ef:∀{b},upd H5 z.ra (.frz ob (.dK (Tb.dk fW z.pl))) b=none->H b=none:=λ{b} e=>by
    cases e2:H b with
    |none=>rfl
    |some u =>
     exfalso;by_cases w1:b=z.ra
     .rw[w1,hF]at e;cases e
     .by_cases w2:b=m.lr
      .rw[w2,bv]at e;cases e
      .by_cases w3:b=m.ls
       .rw[w3,cr]at e;cases e
       .rw[oF _ _ (o5 _ _ e2 (bi w2 w3)) w1]at e;cases e
   have en:∀y∈z.pl,∃ns:List Int,upd H5 z.ra (.frz ob (.dK (Tb.dk fW z.pl))) y.2.1=some (.lst (ns.map V.int))/\ns.length=8:=λy I=>by
    obtain⟨ns,O,S⟩:=M.cl _ N y I;exact⟨ns,oF _ _ (o5 _ _ O (bi (λw=>by rw[w,M.hr]at O;cases O) (λw=>by rw[w,M.hs]at O;cases O))) (λw=>by rw[w,M.rm _ N]at O;cases O),S⟩
   have OF:∀b u,H b=some u->b≠m.lr->b≠m.ls->b≠z.ra->upd H5 z.ra (.frz ob (.dK (Tb.dk fW z.pl))) b=some u:=λb u e a1 a2 a3=>oF _ _ (o5 _ _ e (bi a1 a2)) a3;generalize upd H5 z.ra (.frz ob (.dK (Tb.dk fW z.pl)))=HF at *;have b0:(z.pl.map (·.1)).Nodup:=M.np _ N;refine jT (a:=z.ra) (o:=ob) (kvs:=Tb.dk fW z.pl) (λi σ H6=>Eh λ(v6 v7:Option V) (pl:List (Int×Addr×Int))=>Ca (σ=[some (.ref m.md),some (.ref d),some (.ref m.lr),some (.ref m.ls),some (.str "copy"),some (.int t),v6,v7,none,none,none]) (H6 d1=some (.dK (Tb.dk fW pl))) ((pl.map λy=>(y.1,y.2.2))=((z.pl.take i).map λy=>(y.1,y.2.2))) ((∀y∈pl,(∃ns:List Int,H6 y.2.1=some (.lst (ns.map V.int))/\ns.length=8)/\HF y.2.1=none)) (Off (· = d1) HF H6))
    ⟨_,_,[],rfl,bY,rfl,(λy I=>by cases I),λ_ _ e _=>e⟩ (λi σ H6 _ z0=>by obtain⟨_,_,_,_,_,_,_,o6⟩:=z0;exact o6 _ _ hF (Ne.symm bn)) ?_ ?_
   .rintro i kk v σ H6 T' hk hT ⟨v6,v7,pl,rfl,b9,as,b5,o6⟩;have c9:(z.pl.map λx:Int×Addr×Int=>((Sum.inl x.1:Key),fW x.2))[i]?=some (kk,v):=hk;rw[getElem?_map]at c9;obtain⟨y,I,e⟩:=Option.map_eq_some_iff.mp c9;cases e;have el:=mem_of_getElem? I;obtain⟨hi,ey⟩:=List.getElem?_eq_some_iff.mp I;have ca:z.pl.length<=64:=M.len N;have eC:pl.length=i:=by
     have:=congrArg List.length as;rw[length_map,length_map,length_take]at this;omega
    have d7:Tb.look pl y.1=none:=by
     cases e:Tb.look pl y.1 with
     |none=>rfl
     |some u =>
      exfalso;have h1:(y.1,u.2)∈pl.map λy=>(y.1,y.2.2):=List.mem_map.mpr ⟨_,Tb.ay e,rfl⟩;rw[as]at h1;obtain⟨y',h2,h3⟩:=List.mem_map.mp h1;obtain⟨j,hj,e3⟩:=getElem_of_mem h2;rw[getElem_take]at e3;rw[length_take]at hj;refine nZ b0 j i (a:=y'.1) (b:=y.1) ?_ ?_ af (Prod.mk.inj h3).1
      .rw[getElem?_map,getElem?_eq_getElem af,e3];rfl
      .rw[getElem?_map,I];rfl
    obtain⟨ns,O,S⟩:=en y el;have d9:y.2.1≠d1:=λw=>(by rw[w,bY]at O;cases O);have sT:=Tb.au (X:=.tup [kV (Sum.inl y.1),fW y.2]) hT;refine⟨T',[.int y.1,.ref y.2.1],rfl,bV.of ae,rfl,_,_,rfl,_,_,rfl,rfl,?_⟩;have c7:=sT _ _ (o6 _ _ O d9);have b8:=sT _ _ b9;have d5:=sT _ _ (o6 _ _ bv (Ne.symm bx));have df:=sT _ _ (o6 _ _ cp (λw=>by rw[w,bY]at cp;cases cp));have O7:Off (· = d1) HF (upd H6 T' (.tup [kV (Sum.inl y.1),fW y.2])):=λb u e w=>sT _ _ (o6 _ _ e w);have C7:∀u∈pl,(∃ns:List Int,upd H6 T' (.tup [kV (Sum.inl y.1),fW y.2]) u.2.1=some (.lst (ns.map V.int))/\ns.length=8)/\HF u.2.1=none:=λu hu=>by
     obtain⟨⟨ba,a1,a2⟩,a3⟩:=b5 u hu;exact⟨⟨ba,sT _ _ a1,a2⟩,a3⟩
    generalize upd H6 T' (.tup [kV (Sum.inl y.1),fW y.2])=H7 at *;refine⟨_,rfl,y.2.1,_,rfl,.inl (bE.of c7),λl hl=>?_⟩;have sL:=Tb.au (X:=.lst (ns.map V.int)) hl;have ce:HF l=none:=by
     cases e:HF l with
     |none=>rfl
     |some u =>
      by_cases w:l=d1
      .rw[w,b8]at hl;cases hl
      .rw[O7 _ _ e w]at hl;cases hl
    have d4:l≠d1:=λw=>(by rw[w,bY]at ce;cases ce);refine⟨_,rfl,_,rfl,d,_,_,.int o,rfl,rfl,bV.of (sL _ _ df),rfl,m.lr,_,rfl,dZ (sL _ _ d5) ej,_,rfl,d1,_,rfl,eO.k (k:=Sum.inl y.1) (sL _ _ b8) (by rw[Tb.cu];omega),?_⟩;have e8:putK (Tb.dk fW pl) (Sum.inl y.1) (.ref l)=Tb.dk fW (pl++[(y.1,(l,y.2.2))]):=Tb.cA (f:=fW) (a:=(l,y.2.2)) d7;refine⟨_,_,pl++[(y.1,(l,y.2.2))],rfl,by rw[<-e8];exact ae,?_,λu hu=>?_,λb u e w=>by rw[ah w];exact sL _ _ (O7 _ _ e w)⟩
    .rw[map_append,as,take_add_one,I,map_append];rfl
    .rcases List.mem_append.mp hu with hu|hu
     .obtain⟨⟨ba,a1,a2⟩,a3⟩:=C7 u hu;exact⟨⟨ba,by rw[ah (λw=>by rw[w,b8]at a1;cases a1)];exact sL _ _ a1,a2⟩,a3⟩
     .rw[List.mem_singleton.mp hu];exact⟨⟨ns,by show upd _ d1 _ l=_;rw[ah d4,ae],S⟩,ce⟩
   .rintro σ H6 ⟨v6,v7,pl,rfl,b9,as,b5,o6⟩;rw[Tb.cu,take_length]at as;refine⟨z.ra,ob,_,o6 _ _ hF (Ne.symm bn),hn,?_⟩;have o7:Off (λb=>b=m.lr\/b=m.ls) H (upd H6 z.ra (.dK (Tb.dk fW z.pl))):=λb u e w=>by
     by_cases w1:b=z.ra
     .rw[w1,ae, <-e,w1,M.rm _ N]
     .rw[ah w1];exact o6 _ _ (OF b u e (λy=>w (.inl y)) (λy=>w (.inr y)) w1) (aq e f1)
    have cP:(pl.map (·.1))=z.pl.map (·.1):=by
     have:=congrArg (List.map (·.1)) as;rw[map_map,map_map]at this;exact this
    have M8:cB (upd H6 z.ra (.dK (Tb.dk fW z.pl))) m bO pk (Z++[(o,⟨d1,d2,pl⟩)]):=M.add (z:=⟨d1,d2,pl⟩) eo o7
     (by rw[ah (Ne.symm dz.2.1),k4];rw[k4]at bv;exact o6 _ _ bv (Ne.symm bx))
     (by rw[ah (Ne.symm dz.2.2.1),k4];exact o6 _ _ cr (Ne.symm cS))
     (by show upd H6 z.ra _ d1=_;rw[ah bn];exact b9)
     (by show upd H6 z.ra _ d2=_;rw[ah c5,o6 _ _ dl (Ne.symm bc),EW as])
     (λy I=>by
      obtain⟨⟨ba,a1,a2⟩,a3⟩:=b5 y I;exact⟨ba,by rw[ah (λw=>by rw[w,hF]at a3;cases a3)];exact a1,a2⟩)
     (by rw[cP];exact b0)
     (λy I=>by
      have h1:y.1∈pl.map (·.1):=List.mem_map.mpr ⟨y,I,rfl⟩;rw[cP]at h1;obtain⟨y',h2,h3⟩:=List.mem_map.mp h1;rw[<-h3];exact M.rg _ N y' h2) f1 f2 bc
    refine ap _ _ ⟨pk,_,M8,⟨p0,Int.le_refl _,trivial⟩,⟨λb u e w=>o7 b u e λy=>w (y.elim (λy=>.inr (.inl y)) λy=>.inr (.inr (.inl y))),λb w=>?_⟩,by rw[length_append];exact le_refl _,λt'=>?_,λt' q=>?_⟩
    .rcases w with w|w|w|⟨x,hx,w⟩
     .exact .inl (.inl w)
     .exact .inl (.inr (.inl w))
     .exact .inl (.inr (.inr (.inl w)))
     .rcases List.mem_append.mp hx with hx|hx
      .exact .inl (.inr (.inr (.inr ⟨x,hx,w⟩)))
      .rw[List.mem_singleton.mp hx]at w;rcases w with w|w|⟨y,I,w⟩
       .rw[w];exact .inr f1
       .rw[w];exact .inr f2
       .rw[w];exact .inr (ef (b5 y I).2)
    .unfold hZ;rw[Tb.bN t' eo];by_cases c:t'=o
     .rw[if_pos c,decide_eq_true c];rfl
     .rw[if_neg c,decide_eq_false c];rfl
    .unfold eZ;rw[Tb.bN t' eo];by_cases c:t'=o
     .rw[if_pos c,if_pos c,L];show(Tb.look pl q).map (·.2)=(Tb.look z.pl q).map (·.2);have h1:=jQ (λx:Addr×Int=>x.2) q pl;have h2:=jQ (λx:Addr×Int=>x.2) q z.pl;rw[<-h1, <-h2];show Tb.look (pl.map λy=>(y.1,y.2.2)) q=Tb.look (z.pl.map λy=>(y.1,y.2.2)) q;rw[as]
     .rw[if_neg c,if_neg c]
  |peek t ad n =>
   refine dY λ_ _ J G=>?_;refine dR (bB rfl) bA rfl bP (bu (G _ _ _ ?_));clear J G;refine dY λ_ _ J G=>?_;refine dR (bB rfl) bA rfl bP (bu (G _ _ _ ?_));clear J G;refine dY λ_ _ J G=>?_;refine dR (bB rfl) bA rfl bP (bu (G _ _ _ ?_));clear J G;refine dY λ_ _ J G=>?_;refine dR (bB rfl) bA rfl bP (bu (G _ _ _ ?_));clear J G;refine dY λ_ _ J G=>?_;refine dR (bB rfl) bA rfl bP (bu (G _ _ _ ?_));clear J G;refine dY λ_ _ J G=>?_;refine eqT (bB rfl) bA rfl (dU (J _ _ _ ?_));clear J G;obtain⟨z,L,eq,ci⟩:=fi;obtain⟨a0,a1,n1⟩:=dd _ _ _ rfl;have N:=Tb.ay L;refine⟨_,rfl,d,_,_,.int ad,rfl,rfl,bV.of am,rfl,_,rfl,d,_,_,.int ad,rfl,rfl,bV.of am,rfl,_,rfl,d,_,_,.int n,rfl,rfl,bV.of am,rfl,_,_,rfl,rfl,_,_,rfl,⟨af,af,af,af⟩,?_⟩;refine fb (lo:=ad) (n:=(ad+(n:Int)-ad).toNat) (λi ys H2=>ys.length=i/\H2=H1) ⟨rfl,rfl⟩ ?_ ?_
   .rintro i ys H2 hi ⟨hl,rfl⟩;obtain⟨y,I⟩:∃y,Tb.look z.pl ((ad+(i:Int))/8)=some y:=by
     cases e:Tb.look z.pl ((ad+(i:Int))/8)with
     |some y=>exact⟨y,rfl⟩
     |none=>exact absurd e (ci i af)
    obtain⟨ns,O,S⟩:=M1.cl _ N _ (Tb.ay I);obtain⟨b1,_⟩:=at_of (xs:=ns) (i:=(ad+(i:Int))%8) (n:=8) af af af;exact⟨_,rfl,_,rfl,m.lr,iX z,rfl,dZ M1.hr L,_,rfl,_,_,rfl,rfl,⟨av,av⟩,z.ra,fW y,rfl,dZ (M1.rm _ N) I,_,rfl,_,_,rfl,rfl,(by show(0:Int)<8;decide),y.1,_,_,_,rfl,rfl,bE.of O,b1,af,by rw[length_append,hl];rfl,rfl⟩
   .rintro ys H2 ⟨hl,rfl⟩ l bz;have s2:=Tb.au (X:=.lst ys) bz;exact k _ pk Z (.ref l) (M1.same s2) ⟨p0,Int.le_refl _,trivial⟩ ⟨λb o e _=>s2 _ _ (s1 _ _ e),λb w=>.inl w⟩ (le_succ _) (λ_=>rfl) λ_ _=>rfl
  |poke t ad c cs =>
   refine dY λ_ _ J G=>?_;refine dR (bB rfl) bA rfl bP (bu (G _ _ _ ?_));clear J G;refine dY λ_ _ J G=>?_;refine dR (bB rfl) bA rfl bP (bu (G _ _ _ ?_));clear J G;refine dY λ_ _ J G=>?_;refine dR (bB rfl) bA rfl bP (bu (G _ _ _ ?_));clear J G;refine dY λ_ _ J G=>?_;refine dR (bB rfl) bA rfl bP (bu (G _ _ _ ?_));clear J G;refine dY λ_ _ J G=>?_;refine dR (bB rfl) bA rfl bP (bu (G _ _ _ ?_));clear J G;refine dY λ_ _ J G=>?_;refine dR (bB rfl) bA rfl bP (bu (G _ _ _ ?_));clear J G;obtain⟨z,L,eq,ci⟩:=fi;obtain⟨ea,a0,a1,n1⟩:=dj _ _ _ _ rfl;have N:=Tb.ay L;have c3:=s1 _ _ (hd.2 _ _ _ _ rfl);have dz:=M.d3 _ N;have aB:=M.rs _ N _ N;have b0:¬ cW m Z d:=λw=>by
    rcases M1.alive d w with⟨_,e⟩|⟨_,e⟩
    .rw[am]at e;cases e
    .rw[am]at e;cases e
   refine⟨_,rfl,d,_,_,.ref c,rfl,rfl,bV.of am,rfl,c,rfl,⟨_,bE.of c3⟩,?_⟩;refine ye (K:=K) (a:=c) (xs:=cs.map V.int) (λi σ H2=>zX λ(v8 v9 b6:Option V) (Y:Int) (pl:List (Int×Addr×Int))=>FA (σ=[some (.ref m.md),some (.ref d),some (.ref m.lr),some (.ref m.ls),some (.str "poke"),some (.int t),none,none,v8,v9,b6]) (cB H2 m bO Y (Tb.aS Z t ⟨z.ra,z.sa,pl⟩)) (0<=Y) ((pl.map λy=>(y.1,y.2.1))=(z.pl.map λy=>(y.1,y.2.1))) (CQ pk Y pl λq=>∃j:Nat,j<i/\(ad+j)/8=q) ((∀q,(¬ ∃j:Nat,j<i/\(ad+j)/8=q)->(Tb.look pl q).map (·.2)=(Tb.look z.pl q).map (·.2))) (Off (cW m Z) H1 H2))
    ⟨_,_,_,pk,z.pl,rfl,by rw[BU M.nd L];exact M1,p0,rfl,⟨Int.le_refl _,λq ⟨j,h,_⟩=>absurd h (Nat.not_lt_zero _),λq _ ⟨j,h,_⟩=>absurd h (Nat.not_lt_zero _)⟩,λ_ _=>rfl,λ_ _ e _=>e⟩ (λi σ H2 _ z0=>by obtain⟨_,_,_,_,_,_,_,_,_,_,_,o2⟩:=z0;exact bE.of (o2 _ _ c3 ea)) ?_ ?_
   .rintro i x σ H2 T' hx hT ⟨v8,v9,b6,Y,pl,rfl,M2,p2,bd,ab,bm,o2⟩;have hi:i<cs.length:=(by simpa using(List.getElem?_eq_some_iff.mp hx).1);rw[getElem?_map]at hx;obtain⟨a7,_,rfl⟩:=Option.map_eq_some_iff.mp hx;have ac:=x9 (y:=(⟨z.ra,z.sa,pl⟩:MT)) L;have R:=Tb.ay ac;have sT:=Tb.au (X:=.tup [.int i,.int a7]) hT;have M3:=M2.same sT;refine⟨T',[.int i,.int a7],rfl,bV.of ae,rfl,_,_,rfl,_,_,rfl,rfl,?_⟩;have ei:=sT _ _ (o2 _ _ am b0);have O3:Off (cW m Z) H1 (upd H2 T' (.tup [.int i,.int a7])):=λb o e w=>sT _ _ (o2 _ _ e w);generalize upd H2 T' (.tup [.int i,.int a7])=H3 at *;refine⟨_,rfl,d,_,_,.int ad,rfl,rfl,bV.of ei,rfl,_,rfl,_,_,rfl,rfl,?_⟩;obtain⟨y,I⟩:∃y,Tb.look pl ((ad+(i:Int))/8)=some y:=by
     cases e:Tb.look pl ((ad+(i:Int))/8)with
     |some y=>exact⟨y,rfl⟩
     |none=>exact absurd ((wc bd _).mp e) (ci i hi)
    obtain⟨ns,O,S⟩:=M3.cl _ R _ (Tb.ay I);have O:H3 y.1=some (.lst (ns.map V.int)):=O;have hj:u7 (ns.map V.int).length ((ad+(i:Int))%8)=some ((ad+(i:Int))%8).toNat:=by
     unfold u7;rw[length_map,if_pos af,if_pos af]
    refine⟨_,rfl,_,rfl,_,rfl,m.lr,_,rfl,dZ M3.hr ac,_,rfl,_,_,rfl,rfl,⟨av,av⟩,z.ra,_,rfl,dZ (M3.rm _ R) I,_,rfl,_,_,rfl,rfl,(by show(0:Int)<8;decide),y.1,_,_,_,rfl,rfl,O,hj,?_⟩;rw[<-map_set];have U:=M3.Cf O (ns':=ns.set ((ad+(i:Int))%8).toNat a7) (by rw[length_set];exact S);obtain⟨y',d6,ec⟩:∃y'∈z.pl,y'.2.1=y.1:=by
     have h1:((ad+(i:Int))/8,y.1)∈pl.map λy=>(y.1,y.2.1):=List.mem_map.mpr ⟨_,Tb.ay I,rfl⟩;rw[bd]at h1;obtain⟨y',h2,h3⟩:=List.mem_map.mp h1;exact⟨y',h2,(Prod.mk.inj h3).2⟩
    have O4:Off (cW m Z) H1 (upd H3 y.1 (.lst ((ns.set ((ad+(i:Int))%8).toNat a7).map V.int))):=λb o e w=>by
     rw[ah (λh=>w (.inr (.inr (.inr ⟨_,N,.inr (.inr ⟨y',d6,h.trans ec.symm⟩)⟩))))];exact O3 b o e w
    generalize upd H3 y.1 (.lst ((ns.set ((ad+(i:Int))%8).toNat a7).map V.int))=H4 at *;dsimp only;refine vq λQ J G=>?_;refine⟨_,rfl,rfl,_,rfl,?_⟩;have cC:∀Hx,Hx=H4->Q true Hx:=λHx ex=>by
     subst ex;refine J _ ?_;refine⟨_,rfl,m.md,.int Y,rfl,U.g (EB _ _ _ _),_,_,rfl,rfl,_,rfl,m.md,_,rfl,eO.k (k:=Sum.inr "pokes") U.hm (by show 4<sizeLine;omega),?_⟩;dsimp only;rw[Az];have o5:Off (· = m.md) Hx (upd Hx m.md (.dK (mX m.lr m.ls bO (Y+1)))):=Off.wr rfl;have g5:dh (upd Hx m.md (.dK (mX m.lr m.ls bO (Y+1)))) m.md (.str "pokes") (some (.int (Y+1))):=by
      have q:=dh.k (k:=Sum.inr "pokes") (H:=upd Hx m.md (.dK (mX m.lr m.ls bO (Y+1)))) ae;rw[EB]at q;exact q
     refine⟨_,rfl,m.md,.int (Y+1),rfl,g5,_,rfl,_,rfl,m.ls,_,rfl,dZ (o5 _ _ U.hs (Ne.symm M.n3.2.1)) ac,_,rfl,_,_,rfl,rfl,⟨av,av⟩,z.sa,_,rfl,eO.k (k:=Sum.inl ((ad+(i:Int))/8)) (o5 _ _ (U.st _ R) dz.2.2.2.1) (by rw[Tb.cu];have:pl.length<=64:=M2.len R;show pl.length<_;omega),?_⟩;have e6:putK (Tb.dk gB pl) (Sum.inl ((ad+(i:Int))/8)) (.int (Y+1))=Tb.dk gB (Tb.aS pl ((ad+(i:Int))/8) (y.1,Y+1)):=Tb.gL (f:=gB) (a:=(y.1,Y+1)) I;have e7:Tb.dk fW (Tb.aS pl ((ad+(i:Int))/8) (y.1,Y+1))=Tb.dk fW pl:=Tb.oJ (f:=fW) (a:=(y.1,Y+1)) (b:=y) (M2.np _ R) I rfl;have o6:Off (λb=>b=m.md\/b=z.ra\/b=z.sa) Hx (upd (upd Hx m.md (.dK (mX m.lr m.ls bO (Y+1)))) z.sa (.dK (putK (Tb.dk gB pl) (Sum.inl ((ad+(i:Int))/8)) (.int (Y+1))))):=λb o e w=>(by rw[ah (λy=>w (.inr (.inr y))),ah (λy=>w (.inl y))];exact e);have M7:=U.CF (pk':=Y+1) (pl:=Tb.aS pl ((ad+(i:Int))/8) (y.1,Y+1)) ac o6 (by rw[ah (Ne.symm dz.2.2.2.1),ae]) (by show upd _ z.sa _ z.ra=_;rw[ah aB,ah dz.1,e7];exact U.rm _ R) (by show upd _ z.sa _ z.sa=_;rw[ae,e6]) (λu hu=>by
       have eb:∃u'∈pl,u'.2.1=u.2.1:=by
        rcases Tb.mem_set hu with rfl|⟨hu,_⟩
        .exact⟨_,Tb.ay I,rfl⟩
        .exact⟨u,hu,rfl⟩
       obtain⟨u',h1,h2⟩:=eb;obtain⟨ba,d1,d2⟩:=U.cl _ R u' h1;rw[<-h2];exact⟨ba,o6 _ _ d1 (λw=>by
        rcases w with w|w|w
        .rw[w,U.hm]at d1;cases d1
        .rw[w,U.rm _ R]at d1;cases d1
        .rw[w,U.st _ R]at d1;cases d1),d2⟩) (by rw[Tb.eU];exact M2.np _ R) (λu hu=>by
       rcases Tb.mem_set hu with rfl|⟨hu,_⟩
       .have h9:=M2.rg _ R ((ad+(i:Int))/8,y) (Tb.ay I);exact h9
       .exact M2.rg _ R u hu)
     rw[yh]at M7;refine⟨_,_,_,Y+1,Tb.aS pl ((ad+(i:Int))/8) (y.1,Y+1),rfl,M7,af,?_,ab.put I (λq hq=>?_),λq hq=>?_,λb o e w=>o6 b o (O4 b o e w) λu=>w ?_⟩
     .rw[<-bd];unfold Tb.aS;rw[map_map];refine map_congr_left λu hu=>?_;show((if u.1=(ad+(i:Int))/8 then((ad+(i:Int))/8,(y.1,Y+1))else u).1,(if u.1=(ad+(i:Int))/8 then((ad+(i:Int))/8,(y.1,Y+1))else u).2.1)=(u.1,u.2.1);by_cases cc:u.1=(ad+(i:Int))/8
      .have h1:=Tb.bZ (M2.np _ R) hu;rw[cc,I]at h1;rw[if_pos cc, <-cc,Option.some.inj h1]
      .rw[if_neg cc]
     .obtain⟨j,h1,h2⟩:=hq;by_cases ch:j=i
      .subst ch;exact .inl h2.symm
      .exact .inr ⟨j,af,h2⟩
     .rw[Tb.bR q I,if_neg (λcc=>hq ⟨i,Nat.lt_succ_self _,cc.symm⟩)];exact bm q λ⟨j,h1,h2⟩=>hq ⟨j,lt_succ_of_lt h1,h2⟩
     .rcases u with u|u|u
      .exact .inl u
      .exact .inr (.inr (.inr ⟨_,N,.inl u⟩))
      .exact .inr (.inr (.inr ⟨_,N,.inr (.inl u)⟩))
    refine iD (λ_=>cC _ rfl) (λc0=>?_);refine⟨_,rfl,_,_,rfl,rfl,(by show(0:Int)<8;decide),rfl,_,rfl,?_⟩;refine wj (λ_=>cC _ rfl) (λc8=>G _ ?_);have c0:¬ ((i:Nat):Int)=0:=λh=>c0 (by rw[h];simp);have c8:¬ (ad+(i:Int))%8=0:=λh=>c8 (decide_eq_true (show V.int ((ad+(i:Int))%8)=V.int 0 by rw[h]));refine⟨_,_,_,Y,pl,rfl,U,p2,bd,ab.mono (λq ⟨j,h1,h2⟩=>?_),λq hq=>bm q λ⟨j,h1,h2⟩=>hq ⟨j,lt_succ_of_lt h1,h2⟩,O4⟩;by_cases ch:j=i
    .subst ch;exact⟨j-1,af,af⟩
    .exact⟨j,af,h2⟩
   .rintro σ H2 ⟨v8,v9,b6,Y,pl,rfl,M2,p2,bd,ab,bm,o2⟩;rw[length_map]at ab bm;have ew:∀y∈pl,(∃y'∈z.pl,y.2.1=y'.2.1)\/H y.2.1=none:=λy I=>by
     have h1:(y.1,y.2.1)∈pl.map λy=>(y.1,y.2.1):=List.mem_map.mpr ⟨y,I,rfl⟩;rw[bd]at h1;obtain⟨y',h2,h3⟩:=List.mem_map.mp h1;exact .inl ⟨y',h2,(Prod.mk.inj h3).2.symm⟩
    have gT:∀q,eZ (Tb.aS Z t ⟨z.ra,z.sa,pl⟩) t q=(Tb.look pl q).map (·.2):=λq=>(by rw[ox L,if_pos rfl]);refine ap _ _ ⟨Y,_,M2,⟨p2,ab.up,λq hq=>by rw[gT];exact ab.at_ q (cE.mp hq),λq hq q' ev e=>by rw[gT,gT]at e;exact ab.inj q q' (cE.mp hq) (cE.mp ev) e⟩,⟨λb o e w=>o2 b o (s1 b o e) w,l9 L ew⟩,by rw[Tb.gi];omega,uz L,λt' q=>?_⟩;rw[ox L];by_cases cc:t'=t
    .by_cases S:q∈Rm.aI ad cs.length
     .rw[if_pos ⟨cc,S⟩,if_pos cc];obtain⟨v,h1,h2,_⟩:=ab.at_ q (cE.mp S);exact⟨v,h1,af⟩
     .rw[if_neg (λh=>S h.2),if_pos cc,bm q (λh=>S (cE.mpr h)),cc,nE L]
    .rw[if_neg (λh=>cc h.1),if_neg cc]
end
inductive uw (vs:List V) (H:Hp) (Q:VK) (e3:XK):Prop
 |mk (n:Int) (m:MA) (bO pk:Int) (Z:Zs) (tl:Addr) (ts:List Int) (_:vs=[.int n,.ref m.md,.ref tl]) (_:cB H m bO pk Z) (_:Z≠[]) (_:Z.length<=1000) (_:H tl=some (.lst (ts.map V.int))) (_:ts.length=5) (_:∀(H':Hp) (d:Addr) (D:Dd),bf H H'->tX H' d D->Ax D->(∀t ad c cs,D=.poke t ad c cs->H c=none)->(∀o,D=.close o->∃t,t≠o/\∃z,Tb.look Z t=some z)->Q (.ref d) H'):uw vs H Q e3
section
variable {P:Program}{w:World}{K:PySem.W.Frag}{mg:Str->Option Value}{base:Heap}
theorem mU:aA ["_law_m","_law_model_here","_law_tasks","_law_rooms","_law_there","_law_kind","_law_rest","_law_task","_law_pages","_law_other","_law_left","_law_at","_law_address"] ["_law_m","_law_model_here","_law_tasks"] (ar yi):=L2.bD
theorem Bg {f:Addr}{fd:FuncData}(F:cQ K "_law_busy" "_law_busy" yi f fd) (T:mV mg) (bc:Df P w K mg base aW 1 "_law_held" kP) (be:Df P w K mg base aW 1 "_law_cells" jP):bj P w K mg base aW 2 f fd ["_law_m","_law_model_here","_law_tasks"] uw:=by
 refine F.ok mU (λvs H Q E h=>?_) (λbx A outer s H vs Q E hr h=>?_)
 .obtain⟨n,m,bO,pk,Z,tl,ts,rfl,_⟩:=h;rfl
 .obtain⟨n,m,bO,pk,Z,tl,ts,rfl,M,zn,lz,a5,l5,k⟩:=h;have hs:sizeLine=16777216:=sizeLine_eq;refine⟨_,(ag (aL (i:=3) mU.nd rfl (Or.inl rfl) (bw (bg hr) (pv 1) aJ (λ_ _=>rfl)))
   (ag (aL (i:=4) mU.nd rfl (Or.inl rfl) (aV (jn rfl) (by rfl) T.sorted jR (aa (pv 3) ai)))
   (ag (Dr (i:=5) (j:=6) rfl mU.nd rfl rfl av rfl rfl (aa (az bH (pv 0) ak) (aa (az bF (pv 0) ak) ai)) rfl)
   (ag (aL (i:=7) mU.nd rfl (Or.inl rfl) (aX cg (pv 4) (az bH (az bF (pv 0) ak) (aV bG (by rfl) T.len boot_len (aa (pv 4) ai))) (λ_ _=>rfl)))
   (ag (aL (i:=8) mU.nd rfl (Or.inl rfl) (aV (jn rfl) (by rfl) T.sorted jR (aa (bw (bg hr) (pv 3) (pv 7) (λ_ _=>rfl)) ai)))
   (ag (aL (i:=9) mU.nd rfl (Or.inl rfl) (aX cg (pv 2) (az bH (pv 6) (aV bG (by rfl) T.len boot_len (aa (pv 2) ai))) (λ_ _=>rfl)))
   (ag (aR (PW.pt (fM (aC gu (pv 5) ak (aG _)) (fw (aC (BS hr.gH) (pv 8) (ck ai) (aG _))))) (ag (aL (i:=10) mU.nd rfl (Or.inl rfl) (az oS (bw (bg hr) (pv 1) aJ (λ_ _=>rfl)) (pc bc hr aw (aa (pv 1) ai))))
   (aj (aE (cL (aa aJ (aa (pv 7) (aa (az bH (pv 6) ak) (aa (az bq ak (az bH (az bF (pv 6) ak) (aV (oi rfl) (by rfl) T.max yn (aa ak (aa (aV (wI rfl) (by rfl) T.min BZ (aa ak (aa (pv 10) ai))) ai))))) ai)))))))) aF)
   (ag (aR (PW.pt (qm (aC gu (pv 5) ak (aG _)) (kD (iK (fG (bg hr) (pv 9) (pv 3)))))) (aj (aE (cL (aa aJ (aa (pv 7) (aa (pv 9) ai)))))) aF)
   (ag (aR (PW.pt (qm (aC bS (pv 5) ak (aG _)) (kD (aC yZ (pv 9) (pv 7) (aG _))))) (aj (aE (cL (aa aJ (aa (pv 9) ai))))) aF)
   (ag (aL (i:=11) mU.nd rfl (Or.inl rfl) (az bH (pv 6) (aV bG (by rfl) T.len boot_len (aa (pv 8) ai))))
   (ag (aR (aC bS (pv 5) ak (aG _)) (aj (aE (cL (aa aJ (aa (pv 7) (aa (aX cg (pv 8) (pv 11) (λ_ _=>rfl)) (aa ak ai))))))) aF)
   (ag (aL (i:=12) mU.nd rfl (Or.inl rfl) (az bq (az eS ak (aX cg (pv 8) (pv 11) (λ_ _=>rfl))) (az bH (az bF (pv 6) ak) ak)))
   (ag (aR (aC gu (pv 5) ak (aG _)) (aj (aE (cL (aa aJ (aa (pv 7) (aa (pv 12) (aa (az bq ak (az bH (az bF (pv 6) ak) ak)) ai))))))) aF)
   (aj (aE (cL (aa aJ (aa (pv 7) (aa (pv 12) (aa (pc be hr aw (aa (az bF (pv 6) ak) (aa (az bq ak (az bH (az bF (pv 6) ak) ak)) ai))) ai)))))))))))))))))))),?_⟩
  have bb:(Tb.dk iX Z).map (·.1)=(Z.map (·.1)).map Sum.inl:=(by unfold Tb.dk;rw[map_map,map_map];rfl);refine fX λ_ I=>?_;refine⟨_,rfl,m.md,.ref m.lr,rfl,M.g (Af _ _ _ _),I _ _ ?_⟩;clear I;refine fX λ_ I=>?_;refine⟨_,rfl,m.lr,_,Z.map (·.1),rfl,M.hr,bb,M.nd,by rw[length_map];exact lz,λS ks bi as _=>I _ _ ?_⟩;clear I;have s1:=Tb.au (X:=.lst (ks.map V.int)) bi;have h1:upd H S (.lst (ks.map V.int)) S=some (.lst (ks.map V.int)):=ae;have M1:=M.same s1;generalize upd H S (.lst (ks.map V.int))=H1 at *;have bJ:0<ks.length:=by
   rw[as.length_eq,length_map];exact List.length_pos_iff.mpr zn
  refine⟨_,rfl,_,_,rfl,rfl,(by show(0:Int)<16;decide),_,rfl,_,_,rfl,rfl,⟨av,av⟩,_,_,rfl,?_⟩;have bv:=emod_nonneg n (show(16:Int)≠0 by decide);have bn:=emod_lt_of_pos n (show(0:Int)<16 by decide);dsimp only;generalize n%16=kd at *;generalize n/96=G;refine fX λ_ I=>?_;obtain⟨b1,b2⟩:=at_of (xs:=ks) (i:=n/16%(ks.length:Int)) (n:=ks.length) (emod_nonneg _ af) (emod_lt_of_pos _ af) rfl;generalize ks.getD (n/16%(ks.length:Int)).toNat 0=tk at b1 b2;refine⟨_,rfl,_,rfl,_,_,rfl,rfl,⟨av,av⟩,_,rfl,S,_,rfl,.inl (bE.of h1),_,_,rfl,rfl,by show(0:Int)<((ks.map V.int).length:Nat);rw[length_map];lia,S,_,_,.int tk,rfl,rfl,bE.of h1,by rw[length_map];exact b1,I _ _ ?_⟩;clear I;obtain⟨z,ez⟩:∃z,Tb.look Z tk=some z:=by
   have h2:=as.mem_iff.mp b2;cases e:Tb.look Z tk with
   |some z=>exact⟨z,rfl⟩
   |none=>exact absurd h2 (Tb.cn e)
  have ac:=Tb.ay ez;have a6:(Tb.dk fW z.pl).map (·.1)=(z.pl.map (·.1)).map Sum.inl:=(by unfold Tb.dk;rw[map_map,map_map];rfl);refine fX λ_ I=>?_;refine⟨_,rfl,_,rfl,m.lr,_,rfl,dZ M1.hr ez,z.ra,_,z.pl.map (·.1),rfl,M1.rm _ ac,a6,M1.np _ ac,by rw[length_map];have:z.pl.length<=64:=M1.len ac;lia,λN ps bl ba _=>I _ _ ?_⟩;clear I;have s2:=Tb.au (X:=.lst (ps.map V.int)) bl;have h2:upd H1 N (.lst (ps.map V.int)) N=some (.lst (ps.map V.int)):=ae;have M2:=M1.same s2;have S2:=s1.trans s2;generalize upd H1 N (.lst (ps.map V.int))=H2 at *;have ap:=S2 _ _ a5;refine fX λ_ I=>?_;obtain⟨b3,_⟩:=at_of (xs:=ts) (i:=G%5) (n:=5) af af af;generalize ts.getD (G%5).toNat 0=O at b3;refine⟨_,rfl,_,rfl,_,rfl,tl,_,rfl,.inl (bE.of ap),_,_,rfl,rfl,by show(0:Int)<((ts.map V.int).length:Nat);rw[length_map,l5];decide,tl,_,_,.int O,rfl,rfl,bE.of ap,by rw[length_map,l5];exact b3,I _ _ ?_⟩;clear I;have bz:∀q∈ps,0<=q/\q<64:=λq hq=>by
   obtain⟨y,hy,e⟩:=List.mem_map.mp (ba.mem_iff.mp hq);rw[<-e];exact M.rg _ ac y hy
  have ab:∀{U d} (D:Dd),bf H2 U->tX U d D->Ax D->(∀t ad c cs,D=.poke t ad c cs->H c=none)->(∀o,D=.close o->∃t,t≠o/\∃z,Tb.look Z t=some z)->Q (.ref d) U:=λ{U d} D sx a1 a2 a3 a4=>k U d D (S2.trans sx) a1 a2 a3 a4;refine mz (λσ H9=>bf H2 H9/\ps≠[]/\σ=[some (.int n),some (.ref m.md),some (.ref tl),some (.ref m.lr),some (.ref S),some (.int kd),some (.int G),some (.int tk),some (.ref N),some (.int O),none,none,none]) (λ_ QQ R L=>?A) ?B
  case A =>
   have mp:∀U,bf H2 U->QQ true U:=λU sx=>by
    have Mx:=M2.same sx;refine R _ ?_;refine⟨_,rfl,m.md,.int bO,rfl,Mx.g (Dy _ _ _ _),_,rfl,m,bO,pk,Z,rfl,Mx,lz,λH4 s4=>?_⟩;refine⟨_,_,rfl,rfl,?_⟩;have mx:∀Y:Int,0<(if (if Y<9 then Y else 9)>1 then(if Y<9 then Y else 9)else 1)/\(if (if Y<9 then Y else 9)>1 then(if Y<9 then Y else 9)else 1)<=(9:Int):=λY=>(by split<;>split<;>lia);obtain⟨x1,x2⟩:=mx (bO-sj Z);have r0:=emod_nonneg G (show(64:Int)≠0 by decide);have r1:=emod_lt_of_pos G (show(0:Int)<64 by decide);have q0:=emod_nonneg (G/64) (show(if (if bO-sj Z<9 then bO-sj Z else 9)>1 then(if bO-sj Z<9 then bO-sj Z else 9)else 1)≠0 by omega +splitNatSub);have q1:=emod_lt_of_pos (G/64) x1;refine⟨_,rfl,_,rfl,_,_,rfl,rfl,(by show(0:Int)<64;decide),_,rfl,_,_,rfl,rfl,⟨av,av⟩,_,rfl,_,_,rfl,_,_,rfl,_,_,rfl,rfl,x1,_,_,rfl,rfl,by show 4<=sizeLine;decide,λd hd=>?_⟩;refine ab (.map tk (G%64) (1+G/64%(if (if bO-sj Z<9 then bO-sj Z else 9)>1 then(if bO-sj Z<9 then bO-sj Z else 9)else 1))) (sx.trans (s4.trans (Tb.au hd))) ⟨ae,λ_ _ _ _ e=>by cases e⟩ ⟨r0,r1,by omega +splitNatSub,by omega +splitNatSub⟩ (λ_ _ _ _ e=>by cases e) (λ_ e=>by cases e)
   refine⟨_,rfl,_,_,rfl,rfl,_,rfl,?_⟩;by_cases c2:kd<2
   .rw[decide_eq_true c2];exact dU (mp _ (bf.refl H2))
   .rw[decide_eq_false c2];refine bu ?_;refine⟨_,rfl,av,λl3 bd=>?_⟩;have J:=Tb.au (X:=.lst []) bd;refine⟨N,l3,_,_,rfl,rfl,bE.of (J _ _ h2),bE.of ae,iw _,rfl,_,rfl,?_⟩;cases ps with
    |nil=>exact mp _ J
    |cons q r=>exact L _ ⟨J,(λe=>by cases e),rfl⟩
  case B =>
  rintro σ H3 ⟨J,pn,rfl⟩;have M3:=M2.same J;have bI:0<ps.length:=List.length_pos_iff.mpr pn;refine mz (λσ H9=>H9=H3/\σ=[some (.int n),some (.ref m.md),some (.ref tl),some (.ref m.lr),some (.ref S),some (.int kd),some (.int G),some (.int tk),some (.ref N),some (.int O),none,none,none]) (λ_ QQ R L=>?A2) ?B2
  case A2 =>
   refine⟨_,rfl,_,_,rfl,rfl,_,rfl,?_⟩;by_cases c2:kd<5
   .rw[decide_eq_true c2];refine dU ?_;refine⟨_,rfl,_,rfl,m.lr,_,rfl,fj (t:=O) M3.hr,?_⟩;cases eo:Tb.look Z O with
    |some _=>exact⟨false,rfl,L _ ⟨rfl,rfl⟩⟩
    |none =>
     refine⟨true,rfl,R _ ?_⟩;exact⟨_,rfl,_,rfl,by show 3<=sizeLine;decide,λd hd=>ab (.copy tk O) (J.trans (Tb.au hd)) ⟨ae,λ_ _ _ _ e=>by cases e⟩ trivial (λ_ _ _ _ e=>by cases e) (λ_ e=>by cases e)⟩
   .rw[decide_eq_false c2];exact bu (L _ ⟨rfl,rfl⟩)
  case B2 =>
  rintro σ bm ⟨e3,rfl⟩;subst e3;refine mz (λσ H9=>H9=bm/\σ=[some (.int n),some (.ref m.md),some (.ref tl),some (.ref m.lr),some (.ref S),some (.int kd),some (.int G),some (.int tk),some (.ref N),some (.int O),none,none,none]) (λ_ QQ R L=>?A3) ?B3
  case A3 =>
   refine⟨_,rfl,rfl,_,rfl,?_⟩;refine iD (λ_=>?_) (λ_=>L _ ⟨rfl,rfl⟩);refine⟨_,rfl,_,rfl,rfl,_,rfl,?_⟩;refine wj (λc3=>R _ ?_) (λ_=>L _ ⟨rfl,rfl⟩);have c3:O≠tk:=λe=>(by rw[e]at c3;simp at c3);exact⟨_,rfl,by show 2<=sizeLine;decide,λd hd=>ab (.close O) (J.trans (Tb.au hd)) ⟨ae,λ_ _ _ _ e=>by cases e⟩ trivial (λ_ _ _ _ e=>by cases e) (λo e=>by cases e;exact⟨tk,Ne.symm c3,z,ez⟩)⟩
  case B3 =>
  rintro σ H4 ⟨e4,rfl⟩;subst e4;have am:=J _ _ h2;have p0:0<=G%(ps.length:Int):=emod_nonneg _ af;have p1:G%(ps.length:Int)<ps.length:=emod_lt_of_pos _ af;obtain⟨b5,b6⟩:=at_of (xs:=ps) (i:=G%(ps.length:Int)) (n:=ps.length) p0 p1 rfl;generalize ps.getD (G%(ps.length:Int)).toNat 0=pq at b5 b6;obtain⟨z0,z1⟩:=bz pq b6;refine fX λ_ I=>?_;refine⟨_,rfl,_,rfl,N,_,rfl,.inl (bE.of am),_,_,rfl,rfl,by show(0:Int)<((ps.map V.int).length:Nat);rw[length_map];lia,I _ _ ?_⟩;clear I;rw[length_map];refine mz (λσ H9=>H9=H4/\σ=[some (.int n),some (.ref m.md),some (.ref tl),some (.ref m.lr),some (.ref S),some (.int kd),some (.int G),some (.int tk),some (.ref N),some (.int O),none,some (.int (G%(ps.length:Int))),none]) (λ_ QQ R L=>?A4) ?B4
  case A4 =>
   refine⟨_,rfl,rfl,_,rfl,?_⟩;refine wj (λ_=>R _ ?_) (λ_=>L _ ⟨rfl,rfl⟩);exact⟨_,rfl,_,rfl,_,rfl,N,_,_,.int pq,rfl,rfl,bE.of am,b5,by show 4<=sizeLine;decide,λd hd=>ab (.drop tk pq 1) (J.trans (Tb.au hd)) ⟨ae,λ_ _ _ _ e=>by cases e⟩ ⟨z0,z1,av,av⟩ (λ_ _ _ _ e=>by cases e) (λ_ e=>by cases e)⟩
  case B4 =>
  rintro σ H5 ⟨e5,rfl⟩;subst e5;have a0:=emod_nonneg (G/64) (show(8:Int)≠0 by decide);have a1:=emod_lt_of_pos (G/64) (show(0:Int)<8 by decide);have m0:=emod_nonneg (G/512) (show(11:Int)≠0 by decide);have m1:=emod_lt_of_pos (G/512) (show(0:Int)<11 by decide);obtain⟨nn,aB⟩:∃nn:Nat,(nn:Int)=1+G/512%11:=⟨(1+G/512%11).toNat,af⟩;refine fX λ_ I=>?_;refine⟨_,rfl,_,rfl,N,_,_,.int pq,rfl,rfl,bE.of am,b5,_,_,rfl,rfl,.inl ⟨av,av⟩,_,rfl,_,_,rfl,rfl,⟨av,av⟩,_,_,rfl,rfl,(by show(0:Int)<8;decide),_,_,rfl,rfl,I _ _ ?_⟩;clear I
  try dsimp only
  refine bW λQQ R L=>?_;refine⟨_,rfl,_,_,rfl,rfl,_,rfl,?_⟩;by_cases aT:kd<10
  .rw[decide_eq_true aT];refine R _ ?_;refine⟨_,rfl,_,rfl,_,rfl,_,_,rfl,rfl,⟨av,av⟩,_,_,rfl,rfl,(by show(0:Int)<11;decide),_,_,rfl,rfl,by show 4<=sizeLine;decide,λd hd=>?_⟩;dsimp only at *;refine ab (.peek tk (8*pq+G/64%8) nn) (J.trans (Tb.au hd)) ⟨?_,λ_ _ _ _ e=>by cases e⟩ ⟨af,af,af,af⟩ (λ_ _ _ _ e=>by cases e) (λ_ e=>by cases e);show upd H5 d _ d=some (.tup [.str "peek",.int tk,.int (8*pq+G/64%8),.int nn]);rw[ae,aB]
  .rw[decide_eq_false aT];refine L _ ?_;refine⟨_,rfl,_,rfl,_,rfl,_,_,rfl,rfl,⟨av,av⟩,_,rfl,_,_,rfl,rfl,⟨av,av⟩,_,_,rfl,rfl,(by show(0:Int)<11;decide),_,_,rfl,rfl,G/4096,nn,by rw[aB];rfl,af,λcs H6 cl lc s6 a7 h6=>?_⟩;refine⟨by show 4<=sizeLine;decide,λd hd=>?_⟩;have s7:=Tb.au (X:=.tup [V.str "poke",V.int tk,V.int (8*pq+G/64%8),V.ref cl]) hd;refine ab (.poke tk (8*pq+G/64%8) cl cs) (J.trans (s6.trans s7)) ⟨ae,λ_ _ _ _ e=>by cases e;exact s7 _ _ h6⟩ ⟨af,af,af,af⟩ (λ_ _ _ _ e=>by cases e;exact S2.free (J.free a7)) (λ_ e=>by cases e)
end
structure zx (c:CA) (H:Hp) (M:Addr->Prop) (a:RA) (m:MA) (nf ns k:Nat) (s:Pg.PS) (cv:Int->Int->List Int) (pk:Int) (W:dS) (Z:Zs):Prop where
 R:ax c H M a s W
 ri:Pg.RI s (ents W)
 cv:Cv s W cv
 D:cB H m (bO s) pk Z
 p0:0<=pk
 sp:∀b,cW m Z b->M b/\¬ a.own W b
 tw:Tw W Z
 lf:(s.ow true).length=nf
 ls:(s.ow false).length=ns
 zn:Z≠[]
 lw:W.length<=k
 lz:Z.length<=k
section
variable {c:CA}{H H' H2:Hp}{M M':Addr->Prop}{a:RA}{m:MA}{nf ns k:Nat}{s s':Pg.PS}{cv:Int->Int->List Int}{pk tt:Int}{W W':dS}{Z Z':Zs}
theorem zx.same (S:zx c H M a m nf ns k s cv pk W Z) (e:bf H H'):zx c H' M a m nf ns k s cv pk W Z:=⟨S.R.same e,S.ri,S.cv,S.D.same e,S.p0,S.sp,S.tw,S.lf,S.ls,S.zn,S.lw,S.lz⟩
theorem zz (R:ax c H M a s W) (D:cB H m tt pk Z) (sp:∀b,cW m Z b->M b/\¬ a.own W b) {pk':Int}(G:cB H' m tt pk' Z') (st:zF m H Z H' Z') :
  ax c H' (λb=>(M b/\¬ cW m Z b)\/cW m Z' b) a s W/\∀b,cW m Z' b->((M b/\¬ cW m Z b)\/cW m Z' b)/\¬ a.own W b:=by
 refine⟨R.AR (B:=cW m Z) st.1 sp D.alive (λb z=>z.elim (λz=>.inl z.1) λz=>(st.2 b z).elim (λz=>.inl (sp b z).1) .inr) (λb z w=>.inl ⟨z,w⟩) (λb z e=>?_),λb z=>⟨.inr z,?_⟩⟩
 .rcases z with z|z
  .cases F:H b with
   |none=>exact R.mt b z.1 F
   |some u=>rw[st.1 b u F z.2]at e;cases e
  .rcases G.alive b z with⟨_,h⟩|⟨_,h⟩
   .rw[e]at h;cases h
   .rw[e]at h;cases h
 .rcases st.2 b z with z|z
  .exact(sp b z).2
  .exact λw=>R.mt b (R.dH b w) z
theorem qM (D:cB H m tt pk Z) (sp:∀b,cW m Z b->M b/\¬ a.own W b) (st:Step H M (a.own W) H' M' (a.own W')):cB H' m tt pk Z/\∀b,cW m Z b->M' b/\¬ a.own W' b:=by
 refine⟨D.off st.off λb z=>(sp b z).2,λb z=>⟨st.mm b (sp b z).1 (sp b z).2,λw=>?_⟩⟩;rcases st.on b w with w|w
 .exact(sp b z).2 w
 .rcases D.alive b z with⟨_,h⟩|⟨_,h⟩
  .rw[w]at h;cases h
  .rw[w]at h;cases h
theorem rN {α L:Type}{l:List (Int×α)}{F:List (Int×L)}(N:(l.map (·.1)).Nodup) (J:(F.map (·.1)).Nodup) (h:∀q,Tb.look l q=none↔Tb.look F q=none):(l.map (·.1)).Perm (F.map (·.1)):=by
 have I:∀{G:Type}{l:List (Int×G)}{q:Int},q∈l.map (·.1)↔¬ Tb.look l q=none:=λ{G l q}=>⟨λh e=>Tb.cn e h,λh=>by
  cases e:Tb.look l q with
  |none=>exact absurd e h
  |some a=>exact List.mem_map.mpr ⟨_,Tb.ay e,rfl⟩⟩
 rw[List.perm_ext_iff_of_nodup N J];intro q;rw[I,I,h q]
theorem Tw.look (T:Tw W Z) (t:Int):Tb.look W t=none↔Tb.look Z t=none:=by
 have h:=T.h t;unfold hW hZ at h;cases G:Tb.look W t with
 |none=>cases F:Tb.look Z t with
  |none=>exact⟨λ_=>rfl,λ_=>rfl⟩
  |some z=>rw[G,F]at h;cases h
 |some x=>cases F:Tb.look Z t with
  |none=>rw[G,F]at h;cases h
  |some z=>exact⟨nofun,nofun⟩
theorem Tw.yQ (T:Tw W Z) {t:Int}{x:TD}{z:MT}(J:Tb.look W t=some x) (I:Tb.look Z t=some z) (q:Int):Tb.look x.t q=none↔Tb.look z.pl q=none:=by
 have h:=T.e t q;rw[mh J,nE I]at h;cases G:Tb.look x.t q with
 |none=>cases F:Tb.look z.pl q with
  |none=>exact⟨λ_=>rfl,λ_=>rfl⟩
  |some z=>rw[G,F]at h;cases h
 |some x=>cases F:Tb.look z.pl q with
  |none=>rw[G,F]at h;cases h
  |some z=>exact⟨nofun,nofun⟩
theorem Tw.get (T:Tw W Z) {t:Int}{z:MT}(F:Tb.look Z t=some z):∃x,Tb.look W t=some x:=by
 cases e:Tb.look W t with
 |some x=>exact⟨x,rfl⟩
 |none=>rw[(T.look t).mp e]at F;cases F
theorem yg {l F:List Int}(p:l.Perm F):l.sum=F.sum:=by
 induction p with
 |nil=>rfl
 |cons x _ I=>rw[sum_cons,sum_cons,I]
 |swap x y l=>rw[sum_cons,sum_cons,sum_cons,sum_cons];lia
 |trans _ _ J G=>exact J.trans G
theorem Tw.len (T:Tw W Z) (R:ax c H M a s W) (D:cB H m tt pk Z) {t:Int}{x:TD}{z:MT}(F:Tb.look W t=some x) (G:Tb.look Z t=some z):x.t.length=z.pl.length:=by
 have:=(rN (R.tb _ (Tb.ay F)).nd (D.np _ (Tb.ay G)) (T.yQ F G)).length_eq;rw[length_map,length_map]at this;exact this
theorem Tw.held (T:Tw W Z) (R:ax c H M a s W) (D:cB H m tt pk Z):sj Z=((ents W).length:Int):=by
 rw[<-mC];have p:=(rN R.nd D.nd T.look).symm;have q:=yg (p.map λt:Int=>(((Tb.look W t).map λx=>(x.t.length:Int)).getD 0));rw[map_map,map_map]at q;unfold sj heldW;rw[show(Z.map λx=>(x.2.pl.length:Int))=Z.map ((λt:Int=>(((Tb.look W t).map λx=>(x.t.length:Int)).getD 0))∘(·.1))from map_congr_left λx F=>by
  have G:=Tb.bZ D.nd F;obtain⟨y,I⟩:=T.get G;show((x.2.pl.length:Nat):Int)=(((Tb.look W x.1).map λx=>(x.t.length:Int)).getD 0);rw[I, <-T.len R D I G];rfl]
 rw[q];refine congrArg List.sum (map_congr_left λx F=>?_);show(((Tb.look W x.1).map λx=>(x.t.length:Int)).getD 0)=(x.2.t.length:Int);rw[Tb.bZ R.nd F];rfl
theorem vD {x:TD}{z:MT}{ad:Int}{n:Nat}(L:∀q,Tb.look x.t q=none↔Tb.look z.pl q=none) (R:0<=ad) (h:vz z.pl ad n):¬ Rm.dq ad n (x.t.map (·.1)):=by
 obtain⟨h1,h2⟩:=h;rintro(w|⟨w,F⟩)
 .lia
 .rcases F with F|F
  .unfold Rm.cy Rm.jl Rm.iC at F;lia
  .refine F λq J=>?_;have O:q∈Rm.aI ad n:=by
    unfold Rm.aI;rw[if_neg af];exact J
   obtain⟨j,N,e⟩:=cE.mp O;have G:=h2 j N;rw[e]at G;cases I:Tb.look x.t q with
   |none=>exact absurd ((L q).mp I) G
   |some v=>exact List.mem_map.mpr ⟨_,Tb.ay I,rfl⟩
theorem BA (T:Tw W Z) (R:ax c H M a s W) (D:cB H m tt pk Z) {Dd:Dd}(ok:Ax Dd) (f:Cj Z (bO s) Dd):Bp W (bO s) Dd:=by
 have N:=T.held R D;cases Dd with
 |begin t=>exact ok
 |close t=>obtain⟨z,F⟩:=f;exact T.get F
 |map t p S =>
  obtain⟨z,F,I,J,O⟩:=f;obtain⟨x,G⟩:=T.get F;exact⟨x,G,I,λq L=>(T.yQ G F q).mpr (J q L),by rw[<-N];exact O⟩
 |drop t p S =>
  obtain⟨z,F,I,J⟩:=f;obtain⟨x,G⟩:=T.get F;exact⟨x,G,I,λq L w=>J q L ((T.yQ G F q).mp w)⟩
 |peek t ad n =>
  obtain⟨z,F,I⟩:=f;obtain⟨x,G⟩:=T.get F;exact⟨x,G,vD (T.yQ G F) ok.1 I,ok.1,ok.2.1,ok.2.2.2⟩
 |poke t ad U cs =>
  obtain⟨z,F,I⟩:=f;obtain⟨x,G⟩:=T.get F;exact⟨x,G,vD (T.yQ G F) ok.1 I,ok.1,ok.2.1,ok.2.2.2⟩
 |copy t o =>
  obtain⟨z,F,I,J⟩:=f;obtain⟨x,G⟩:=T.get F;exact⟨x,G,(T.look o).mpr I,by rw[<-N,T.len R D G F];exact J⟩
end
inductive qc (c:CA) (vs:List V) (H:Hp) (Q:VK) (e3:XK):Prop
 |mk (n:Int) (_:vs=[.int n]) (_:∀(H':Hp) (t:Addr) (M:Addr->Prop) (a:RA) (m:MA) (s:Pg.PS) (cv:Int->Int->List Int) (pk:Int) (W:dS) (Z:Zs),bf H H'->zx c H' M a m (k6 n) (mZ n) 1 s cv pk W Z->(∀t q,eZ Z t q=none)->(∀b,M b->H b=none)->H' t=some (.tup [.ref a.rp,.ref m.md])->Q (.ref t) H'):qc c vs H Q e3
section
variable {P:Program}{w:World}{K:PySem.W.Frag}{mg:Str->Option Value}{base:Heap}
theorem yJ:aA ["_law_m","_law_frames","_law_slots","_law_kept","_law_model_here"] ["_law_m"] (ar tU):=L2.bD
theorem zK {f ap:Addr}{fd am:FuncData}{c:CA}(F:cQ K "_law_begun" "_law_begun" tU f fd) (TR:oq K mg c) (MK:DM P w K mg base c) (MR:Mk K c.C ap) (a7:mg "Rooms" = some (.ref c.C)) (bc:Df P w K mg base aW 1 "_law_sizes" pI) (bd:bj P w K mg base aW 5 ap am ["self","frames","slots"] (oX c)) (a6:Binds K am ["self","frames","slots"] []) (bi:Df P w K mg base aW 1 "_law_model" ph) (a5:Df P w K mg base aW 1 "_law_done" qt):bj P w K mg base aW 7 f fd ["_law_m"] (qc c):=by
 refine F.ok yJ (λvs H Q E h=>?_) (λbx A outer s H vs Q E J h=>?_)
 .obtain⟨n,rfl,_⟩:=h;rfl
 .obtain⟨n,rfl,k⟩:=h;have hs:sizeLine=16777216:=sizeLine_eq;obtain⟨_,f2,bn⟩:=yH n;obtain⟨_,bv⟩:=zS n;refine⟨_,(ag (cF (pc bc J aw (aa (pv 0) ai)) (dB rfl (bh (aZ (i:=1) yJ.nd rfl (Or.inl rfl)) (bh (aZ (i:=2) yJ.nd rfl (Or.inl rfl)) cK))))
   (ag (aL (i:=3) yJ.nd rfl (Or.inl rfl) (kZ MR bd (J.mono av) (by rfl) a7 a6 .nil aw (aa (pv 1) (aa (pv 2) ai))))
   (ag (aL (i:=4) yJ.nd rfl (Or.inl rfl) (pc bi J aw (aa (az bq (pv 1) (pv 2)) ai)))
   (ag (aM (pm (pv 3) TR.cl MK.Hn J aw (aa ak ai)))
   (ag (aM (pc a5 J aw (aa (pv 4) (aa (cL (aa aJ (aa ak ai))) ai))))
   (aj (aE (cL (aa (pv 3) (aa (pv 4) ai)))))))))),?_⟩
  refine⟨_,rfl,n,rfl,λH1 t1 s1 bm a4=>⟨t1,_,rfl,bV.of a4,rfl,_,_,rfl,_,_,rfl,rfl,?_⟩⟩;refine⟨_,rfl,_,rfl,λrp dx np bb bl=>⟨rp,dx,k6 n,mZ n,rfl,af,by omega +splitNatSub,af,ae,λH2 M a ea R fr o2=>⟨rfl,?_⟩⟩⟩;have s2:bf H1 H2:=λb u e=>o2 b u (by rw[ah (aq e np),ah (aq e bb)];exact e) (aq e np);have ad:∀b,M b->H b=none:=λb z=>s1.free (cD (cD (fr b z)).2).2;clear o2 fr;rw[<-ea];have et:bO (s0 (k6 n) (mZ n))=((k6 n:Nat):Int)+((mZ n:Nat):Int):=by
   unfold bO;rw[show((s0 (k6 n) (mZ n)).ow true).length=k6 n from length_replicate,show((s0 (k6 n) (mZ n)).ow false).length=mZ n from length_replicate];lia
  refine⟨_,rfl,_,rfl,_,_,rfl,rfl,_,rfl,λH3 m L g1 g2 g3 D3=>?_⟩;rw[<-et]at D3;have S:=s1.trans s2;have as:∀b,cW m [] b->H3 b≠none:=λb z e=>by
   rcases D3.alive b z with⟨_,h⟩|⟨_,h⟩
   .rw[e]at h;cases h
   .rw[e]at h;cases h
  have O:∀b,cW m [] b->H2 b=none:=λb z=>by
   rcases z with z|z|z|⟨x,G,_⟩
   .rw[z];exact g1
   .rw[z];exact g2
   .rw[z];exact g3
   .cases G
  have R3:=R.AR (H':=H3) (B:=λ_=>False) (M':=λb=>M b\/cW m [] b) (λb o e _=>L b o e) (λb z=>z.elim) (λb z=>z.elim) (λb z=>z.elim .inl λz=>.inr (O b z)) (λb z _=>.inl z) (λb z e=>z.elim (λz=>(R.same L).mt b z e) λz=>as b z e);have a2:∀b,cW m [] b->(M b\/cW m [] b)/\¬ a.own [] b:=λb z=>⟨.inr z,λw=>R.mt b (R.dH b w) (O b z)⟩;obtain⟨a0,ho⟩:=R3.ob;refine⟨_,rfl,a.rp,a0,_,rfl,ho,gr _ _ _ ao ao ao,_,a,_,[],1,rfl,R3,rfl,zero_le _,λH4 M4 y ey R4 ac=>?_⟩;obtain⟨D4,U⟩:=qM D3 a2 ac;have ab:∀b,M4 b->H b=none:=λb z=>by
   rcases ac.mn b z with z|z
   .exact z.elim (ad b) λz=>S.free (O b z)
   .exact S.free (L.free z)
  have S4:bf H H4:=λb u e=>ac.off b u (L _ _ (S _ _ e)) λw=>by
   have:=R3.dH b w;rcases this with h|h
   .rw[ad b h]at e;cases e
   .rw[S.free (O b h)]at e;cases e
  refine⟨_,rfl,by show 2<=sizeLine;decide,λd hd=>?_⟩;have I:=Tb.au (X:=.tup [V.str "begin",V.int 1]) hd;refine⟨m,_,0,[],d,.begin 1,rfl,D4.same I,Int.le_refl _,zero_le _,⟨ae,λ_ _ _ _ e=>by cases e⟩,rfl,(λ_ _ _ _ e=>by cases e),(λ_ _ _ e=>by cases e),λH6 be N v D6 p6 Y l6 h6 e6=>?_⟩;have R5:=R4.same I;obtain⟨R6,ba⟩:=zz R5 (D4.same I) U D6 Y;have a1:∀b,((M4 b/\¬ cW m [] b)\/cW m N b)->H b=none:=λb z=>by
   rcases z with z|z
   .exact ab b z.1
   .rcases Y.2 b z with z|z
    .exact ab b (U b z).1
    .exact S4.free (I.free z)
  have S6:bf H H6:=λb u e=>Y.1 b u (I _ _ (S4 _ _ e)) λw=>(by rw[ab b (U b w).1]at e;cases e);refine⟨_,rfl,_,rfl,by show 2<=sizeLine;decide,λtp a3=>?_⟩;have st:=Tb.au (X:=.tup [.ref a.rp,.ref m.md]) a3;have aT:Pg.RI (s0 (k6 n) (mZ n)) (ents ([]++[(1,y)])):=by
   rw[qU,ey];exact E1 af
  have T0:Tw [] []:=⟨λ_=>rfl,λ_ _=>rfl⟩;have T6:Tw ([]++[(1,y)]) N:=T0.next (ok:=λ_=>True) (D:=.begin 1) (λt'=>by
    unfold hW;rw[Tb.bN t' rfl];by_cases z:t'=1
    .rw[if_pos z,decide_eq_true z];rfl
    .rw[if_neg z,decide_eq_false z];rfl) h6 (λt' q=>by
    unfold eW;rw[Tb.bN t' rfl];by_cases z:t'=1
    .rw[if_pos z,if_pos z,bind_some,ey];rfl
    .rw[if_neg z,if_neg z]) e6
  have aB:N≠[]:=λe=>by
   have:=T6.h 1;rw[e]at this;unfold hW hZ at this;rw[Tb.bN 1 rfl,if_pos rfl]at this;cases this
  refine k _ tp _ a m _ (λ_ _=>[]) be _ N (S6.trans st) (zx.same ⟨R6,aT,λt x G q e he=>?_,D6,p6.1,ba,T6,length_replicate,length_replicate,aB,le_refl _,l6⟩ st) (λt q=>by rw[e6 t q];split<;>rfl) a1 ae;rw[Tb.bN t rfl]at G;by_cases z:t=1
  .rw[if_pos z]at G;cases G;rw[ey]at he;cases he
  .rw[if_neg z]at G;cases G
end
structure Ln (W:dS) (Z:Zs) (pk:Int):Prop where
 sb:∀t q v,eZ Z t q=some v->v<=pk
 al:∀t q t' q' v v',eZ Z t q=some v->eZ Z t' q'=some v'->v≠0->v'≠0->(v=v'↔eW W t q=eW W t' q')
section
variable {W W':dS}{Z Z':Zs}{pk pk':Int}{t t' q q':Int}{k:Int}
theorem rE (R:(W.map (·.1)).Nodup) (S:∀x∈W,(x.2.t.map (·.1)).Nodup) (h1:eW W t q=some (some k)) (h2:eW W t' q'=some (some k)) (c:(ents W).count (some k)=1):t=t'/\q=q':=by
 obtain⟨x,F,N⟩:=Option.bind_eq_some_iff.mp h1;obtain⟨J,I,L⟩:=Option.bind_eq_some_iff.mp h2;have O:=(iy R F).trans ((mO (S _ (Tb.ay F)) N).append_right _);rw[O.count_eq,List.cons_append,count_cons_self,List.count_append]at c;by_cases e:t=t'
 .refine⟨e,?_⟩;rw[e]at F;have ex:x=J:=Option.some.inj (F.symm.trans I);subst ex;by_cases G:q=q'
  .exact G
  .exfalso;have m:some k∈qD (Tb.a9 x.t q):=List.mem_map.mpr ⟨(q',some k),Tb.gq (Tb.ay L) (Ne.symm G),rfl⟩;have:=List.count_pos_iff.mpr m;omega
 .exfalso;have m:some k∈ents (Tb.a9 W t):=gN (t:=t') (x:=J) (by rw[Tb.cw,if_neg (Ne.symm e)];exact I) L;have:=List.count_pos_iff.mpr m;omega
theorem Ln.of (L:Ln W Z pk) (Y:0<=pk') (up:pk<=pk') (J:(W'.map (·.1)).Nodup) (N:∀x∈W',(x.2.t.map (·.1)).Nodup)
  (G:∀t q v,eZ Z' t q=some v->v≠0->(∃I O,eZ Z I O=some v/\eW W' t q=eW W I O)\/(pk<v/\v<=pk'/\∃k,eW W' t q=some (some k)/\(ents W').count (some k)=1))
  (inj:∀t q t' q' v,pk<v->eZ Z' t q=some v->eZ Z' t' q'=some v->t=t'/\q=q'):Ln W' Z' pk':=by
 refine⟨λt q v h=>?_,λt q t' q' v v' h h' n R=>?_⟩
 .by_cases n:v=0
  .rw[n];exact Y
  .rcases G t q v h n with⟨_,_,h1,_⟩|⟨_,h1,_⟩
   .exact Int.le_trans (L.sb _ _ _ h1) up
   .exact h1
 .rcases G t q v h n with⟨_,_,h1,h2⟩|⟨h1,_,k,h2,h3⟩
  .rcases G t' q' v' h' R with⟨_,_,S,F⟩|⟨S,_,k',F,U⟩
   .rw[h2,F];exact L.al _ _ _ _ _ _ h1 S n R
   .have:=L.sb _ _ _ h1;refine⟨λe=>by omega,λe=>?_⟩;obtain⟨rfl,rfl⟩:=rE J N (e.trans F) F U;rw[h]at h';exact Option.some.inj h'
  .refine⟨λe=>?_,λe=>?_⟩
   .subst e;obtain⟨rfl,rfl⟩:=inj _ _ _ _ _ h1 h h';rfl
   .obtain⟨rfl,rfl⟩:=rE J N h2 (e.symm.trans h2) h3;rw[h]at h';exact Option.some.inj h'
theorem Ln.next {D:Dd}(L:Ln W Z pk) (pz:0<=pk) (p0:0<=pk') (R:(W'.map (·.1)).Nodup) (nt:∀x∈W',(x.2.t.map (·.1)).Nodup) (G:tq none (λx=>∃k,x=some k/\(ents W').count x=1) D (eW W) (eW W')) (I:tq 0 (λv=>v≠0) D (eZ Z) (eZ Z')) (N:xP pk pk' D (eZ Z')):Ln W' Z' pk':=by
 have S:=N.1;have plain:(∀t q v,eZ Z' t q=some v->v≠0->∃F U,eZ Z F U=some v/\eW W' t q=eW W F U)->Ln W' Z' pk':=λh=>L.of p0 S R nt (λt q v a b=>.inl (h t q v a b)) λt q t' q' v a b c=>by
  obtain⟨_,_,d,_⟩:=h t q v b af;have:=L.sb _ _ _ d;omega
 cases D with
 |begin F =>
  exact plain λt q v h n=>by
   have a:=G t q;have b:=I t q;rw[h]at b;by_cases c:t=F
   .rw[if_pos c]at b;cases b
   .rw[if_neg c]at a b;exact⟨t,q,b.symm,a⟩
 |close F =>
  exact plain λt q v h n=>by
   have a:=G t q;have b:=I t q;rw[h]at b;by_cases c:t=F
   .rw[if_pos c]at b;cases b
   .rw[if_neg c]at a b;exact⟨t,q,b.symm,a⟩
 |map F p m =>
  exact plain λt q v h n=>by
   have a:=G t q;have b:=I t q;rw[h]at b;by_cases c:t=F/\q∈Rm.aO p m
   .rw[if_pos c]at b;exact absurd (Option.some.inj b) n
   .rw[if_neg c]at a b;exact⟨t,q,b.symm,a⟩
 |drop F p m =>
  exact plain λt q v h n=>by
   have a:=G t q;have b:=I t q;rw[h]at b;by_cases c:t=F/\q∈Rm.aO p m
   .rw[if_pos c]at b;cases b
   .rw[if_neg c]at a b;exact⟨t,q,b.symm,a⟩
 |peek F ad n'=>exact plain λt q v h n=>⟨t,q,(I t q).symm.trans h,G t q⟩
 |copy F o =>
  exact plain λt q v h n=>by
   have a:=G t q;have b:=I t q;rw[h]at b;by_cases c:t=o
   .rw[if_pos c]at a b;exact⟨F,q,b.symm,a⟩
   .rw[if_neg c]at a b;exact⟨t,q,b.symm,a⟩
 |poke F ad cc cs =>
  have ab:∀{t q v},eZ Z' t q=some v->¬ (t=F/\q∈Rm.aI ad cs.length)->eZ Z t q=some v/\eW W' t q=eW W t q:=λ{t q v} h c=>by
   have a:=G t q;have b:=I t q;rw[if_neg c]at a b;exact⟨b.symm.trans h,a⟩
  refine L.of p0 S R nt (λt q v h n=>?_) λt q t' q' v hv h h'=>?_
  .by_cases c:t=F/\q∈Rm.aI ad cs.length
   .have a:=G t q;rw[if_pos c]at a;obtain⟨x,a1,k,rfl,a2⟩:=a;obtain⟨v',Y,b2,b3⟩:=N.2.1 q c.2;rw[<-c.1,h]at Y;cases Y;exact .inr ⟨b2,b3,k,a1,a2⟩
   .obtain⟨a,b⟩:=ab h c;exact .inl ⟨t,q,a,b⟩
  .have c:∀{t q},eZ Z' t q=some v->t=F/\q∈Rm.aI ad cs.length:=λ{t q} h=>Decidable.byContradiction λc=>by
    have:=L.sb _ _ _ (ab h c).1;omega
   have J:=c h;have O:=c h';refine⟨J.1.trans O.1.symm,N.2.2 q J.2 q' O.2 ?_⟩;rw[<-J.1,h,J.1, <-O.1,h']
end
noncomputable abbrev mf:Stmt:=inClass (top 14) 13
noncomputable abbrev k8:Stmt:=inClass (top 33) 10
noncomputable abbrev zB:Stmt:=top 49
noncomputable abbrev sD:Stmt:=top 50
noncomputable def two (F G:Addr) (b:Bool):Addr:=if b=true then F else G
structure ES (H H':Hp) (s:Pg.PS) (p l1 l2:Addr):Prop where
 sm:bf H H'
 f1:H l1=none
 f2:H l2=none
 fp:H p=none
 n:l1≠l2
 h1:H' l1=some (.lst ((s.ow true).map V.int))
 h2:H' l2=some (.lst ((s.ow false).map V.int))
 hp:H' p=some (.tup [.ref l1,.ref l2])
inductive j4 (C CS:Addr) (vs:List V) (H:Hp) (Q:VK) (e3:XK):Prop
 |mk (M:Addr->Prop) (A:PA) (s:Pg.PS) (_:vs=[.ref A.pg]) (_:bL C CS H M A s) (_:∀H' p l1 l2,ES H H' s p l1 l2->Q (.ref p) H'):j4 C CS vs H Q e3
inductive j9 (c:CA) (vs:List V) (H:Hp) (Q:VK) (e3:XK):Prop
 |mk (M:Addr->Prop) (a:RA) (s:Pg.PS) (W:dS) (_:vs=[.ref a.rp]) (_:ax c H M a s W) (_:∀H' p l1 l2,ES H H' s p l1 l2->Q (.ref p) H'):j9 c vs H Q e3
noncomputable def DB (s:Pg.PS) (W:dS) (Z:Zs) (v:Int) (b:Bool) (n:Nat):Prop:=∃t q k,eZ Z t q=some v/\v≠0/\eW W t q=some (some k)/\s.pl k=some (b,n)
noncomputable def kT (b:Bool) (n:Nat):List Key:=[.inr (if b=true then "frame" else "slot"),.inl n]
structure LI (HB H:Hp) (s:Pg.PS) (W:dS) (Z:Zs) (d1 d2:Addr) (i:Nat):Prop where
 sm:bf HB H
 d:∃(k1:List (Key×V)) (k2:List (List Key×V)),H d1=some (.dK k1)/\H d2=some (.dT k2)/\k1.length<=i/\k2.length<=i /\
  (∀v x,cq k1 (.inl v)=some x->∃tt b n,x=.ref tt/\H tt=some (.tup (gI b n))/\DB s W Z v b n)/\(∀b n x,cq k2 (kT b n)=some x->∃v,x=.int v/\DB s W Z v b n)
inductive sO (c:CA) (vs:List V) (H:Hp) (Q:VK) (e3:XK):Prop
 |mk (M:Addr->Prop) (a:RA) (m:MA) (nf ns kk:Nat) (s:Pg.PS) (cv:Int->Int->List Int) (pk:Int) (W:dS) (Z:Zs) (_:vs=[.ref a.rp,.ref m.md]) (_:zx c H M a m nf ns kk s cv pk W Z) (_:Ln W Z pk) (_:Z.length<=100) (_:∀H',bf H H'->Q (.bl true) H'):sO c vs H Q e3
inductive pF (c:CA) (vs:List V) (H:Hp) (Q:VK) (e3:XK):Prop
 |mk (M:Addr->Prop) (a:RA) (s:Pg.PS) (W:dS) (md d:Addr) (t ad:Int) (cc:Addr) (cs:List Int) (x:TD) (_:vs=[.ref a.rp,.ref md,.ref d]) (_:ax c H M a s W) (_:Pg.RI s (ents W)) (_:Tb.look W t=some x) (_:H d=some (.tup [.str "poke",.int t,.int ad,.ref cc])) (_:H cc=some (.lst (cs.map V.int))) (_:0<=ad) (_:ad<=1000) (_:cs.length<=100) (_:(∀q∈Rm.aI ad cs.length,∃k,Tb.look x.t q=some (some k)/\(ents W).count (some k)=1)) (_:∀H',bf H H'->Q (.bl true) H'):pF c vs H Q e3
section
variable {HB H H':Hp}{s:Pg.PS}{W:dS}{Z:Zs}{d1 d2:Addr}{i j:Nat}
theorem LI.same (I:LI HB H s W Z d1 d2 i) (h:bf H H'):LI HB H' s W Z d1 d2 i:=by
 obtain⟨S,G,L,h1,h2,R,N,a,b⟩:=I;refine⟨S.trans h,G,L,h _ _ h1,h _ _ h2,R,N,λv x e=>?_,b⟩;obtain⟨tt,b,n,J,F,O⟩:=a v x e;exact⟨tt,b,n,J,h _ _ F,O⟩
theorem LI.le (I:LI HB H s W Z d1 d2 i) (h:i<=j):LI HB H s W Z d1 d2 j:=by
 obtain⟨N,G,J,h1,h2,F,L,a,b⟩:=I;exact⟨N,G,J,h1,h2,le_trans F h,le_trans L h,a,b⟩
theorem LI.wr (I:LI HB H s W Z d1 d2 i) {r:Addr}{o:HO}(G:d1≠r) (L:d2≠r) (S:∀xs,H r≠some (.tup xs)):LI (upd HB r o) (upd H r o) s W Z d1 d2 i:=by
 obtain⟨sm,J,O,h1,h2,Y,R,a,b⟩:=I;refine⟨λc u e=>?_,J,O,by rw[ah G];exact h1,by rw[ah L];exact h2,Y,R,λv x e=>?_,b⟩
 .by_cases z:c=r
  .rw[z,ae]at e ⊢;exact e
  .rw[ah z]at e ⊢;exact sm c u e
 .obtain⟨tt,b,n,N,F,U⟩:=a v x e;exact⟨tt,b,n,N,by rw[ah (λz=>S _ (by rw[<-z];exact F))];exact F,U⟩
theorem LI.back {r:Addr}{o u:HO}(I:LI (upd HB r o) H s W Z d1 d2 i) (J:HB r=some u) (G:d1≠r) (N:d2≠r) (U:∀xs,H r≠some (.tup xs)):LI HB (upd H r u) s W Z d1 d2 i:=by
 obtain⟨sm,L,R,h1,h2,l1,S,a,b⟩:=I;refine⟨λc w e=>?_,L,R,by rw[ah G];exact h1,by rw[ah N];exact h2,l1,S,λv x e=>?_,b⟩
 .by_cases z:c=r
  .rw[z,ae, <-J, <-z];exact e
  .rw[ah z];exact sm c w (by rw[ah z];exact e)
 .obtain⟨tt,b,n,O,F,Y⟩:=a v x e;exact⟨tt,b,n,O,by rw[ah (λz=>U _ (by rw[<-z];exact F))];exact F,Y⟩
theorem CC {b F:Bool}{n G:Nat}(h:kT b n=kT F G):b=F/\n=G:=by
 unfold kT at h;injection h with h1 h2;injection h2 with h2 _;injection h1 with h1;injection h2 with h2;refine⟨?_,af⟩;cases b<;>cases F<;>first|rfl|exact absurd h1 ao
theorem LI.put {F:List (Key×V)}{G:List (List Key×V)}{v:Int}{b:Bool}{n:Nat}{tt:Addr}(sm:bf HB H) (h1:H d1=some (.dK F)) (h2:H d2=some (.dT G)) (l1:F.length<=i) (U:G.length<=i)
  (A:∀v x,cq F (.inl v)=some x->∃tt b n,x=.ref tt/\H tt=some (.tup (gI b n))/\DB s W Z v b n) (B:∀b n x,cq G (kT b n)=some x->∃v,x=.int v/\DB s W Z v b n)
  (R:HB d1=none) (f2:HB d2=none) (Y:d1≠d2) (ht:H tt=some (.tup (gI b n))) (p:DB s W Z v b n):LI HB (upd (upd H d1 (.dK (putK F (.inl v) (.ref tt)))) d2 (.dT (putK G (kT b n) (.int v)))) s W Z d1 d2 (i+1):=by
 have N:∀{c xs},H c=some (.tup xs)->upd (upd H d1 (.dK (putK F (.inl v) (.ref tt)))) d2 (.dT (putK G (kT b n) (.int v))) c=some (.tup xs):=λ{c xs} e=>by
  rw[ah (λz=>by rw[z,h2]at e;cases e),ah (λz=>by rw[z,h1]at e;cases e)];exact e
 refine⟨λc u e=>?_,_,_,by rw[ah Y,ae],ae,le_trans (dG _ _ _) (Nat.succ_le_succ l1),le_trans (dG _ _ _) (Nat.succ_le_succ U),λL x e=>?_,λI J x e=>?_⟩
 .rw[ah (λz=>by rw[z,f2]at e;cases e),ah (λz=>by rw[z,R]at e;cases e)];exact sm c u e
 .rw[rL]at e;by_cases c:(Sum.inl L:Key)=.inl v
  .rw[if_pos c]at e;cases e;cases c;exact⟨tt,b,n,rfl,N ht,p⟩
  .rw[if_neg c]at e;obtain⟨t',I,J,S,O,e3⟩:=A L x e;exact⟨t',I,J,S,N O,e3⟩
 .rw[rL]at e;by_cases c:kT I J=kT b n
  .rw[if_pos c]at e;cases e;obtain⟨rfl,rfl⟩:=CC c;exact⟨v,rfl,p⟩
  .rw[if_neg c]at e;exact B I J x e
end
section
variable {P:Program}{w:World}{K:PySem.W.Frag}{mg:Str->Option Value}{base:Heap}
theorem Cd:aA ["self"] ["self"] (ar mf):=L2.bD
theorem uI {f C CS:Addr}{fd:FuncData}(F:cQ K "counts" "Paging.counts" mf f fd) (T:mQ K mg C) (TS:Txt K mg CS):bj P w K mg base aW 1 f fd ["self"] (j4 C CS):=by
 refine F.ok Cd (λvs H Q E h=>?_) (λab A outer s H vs Q E hr h=>?_)
 .obtain⟨M,A,s',rfl,_⟩:=h;rfl
 .obtain⟨M,I,s',rfl,G,k⟩:=h;obtain⟨dx,S⟩:=G.ob;obtain⟨d1,hf⟩:=G.fr.ob;refine⟨_,(aj (aE (cL (aa (bK cO (by rfl) T.list d0 (aa (aK (aK (pv 0) rfl) rfl) ai)) (aa (bK cO (by rfl) T.list d0 (aa (aK (aK (pv 0) rfl) rfl) ai)) ai))))),?_⟩;refine⟨_,rfl,I.pg,C,dx,_,_,rfl,S,T.cl,T.nF,lH _ _,I.fp,CS,d1,_,_,rfl,hf,TS.cl,TS.nO,ed _ _,I.fo,_,rfl,.inl (bE.of G.fr.hw),λY U=>?_⟩;have J:=Tb.au (X:=.lst ((s'.ow true).map V.int)) U;obtain⟨d2,hg⟩:=G.sl.ob;refine⟨_,rfl,I.pg,C,dx,_,_,rfl,J _ _ S,T.cl,T.nS,qY _ _,I.sp,CS,d2,_,_,rfl,J _ _ hg,TS.cl,TS.nO,ed _ _,I.so,_,rfl,.inl (bE.of (J _ _ G.sl.hw)),λl2 L=>?_⟩;have O:=Tb.au (X:=.lst ((s'.ow false).map V.int)) L;refine⟨by show 2<=sizeLine;decide,λp R=>?_⟩;have N:=Tb.au (X:=.tup [.ref Y,.ref l2]) R;exact k _ p Y l2 ⟨J.trans (O.trans N),U,J.free L,J.free (O.free R),(λz=>by rw[z,ae]at L;cases L),N _ _ (O _ _ ae),N _ _ ae,ae⟩
theorem Gm:aA ["self"] ["self"] (ar k8):=L2.bD
theorem uc {f:Addr}{fd:FuncData}{c:CA}(F:cQ K "counts" "Rooms.counts" k8 f fd) (T:oq K mg c) (TP:mQ K mg c.P) (L:Md P w K mg base aW 1 c.P "counts" (j4 c.P c.S)) :
  bj P w K mg base aW 2 f fd ["self"] (j9 c):=by
 refine F.ok Gm (λvs H Q E h=>?_) (λN A outer s H vs Q E G h=>?_)
 .obtain⟨M,a,s',W,rfl,_⟩:=h;rfl
 .obtain⟨M,a,s',W,rfl,R,k⟩:=h;obtain⟨dx,I⟩:=R.ob;obtain⟨J,h2⟩:=R.pg.ob;refine⟨_,(aj (aE (uo (aK (pv 0) rfl) TP.cl L G aw))),?_⟩;exact⟨_,rfl,a.rp,c.C,dx,_,_,rfl,I,T.cl,T.nP,kq _ _ _,a.A.pg,J,_,rfl,h2,cG _ _ ao ao ao ao ao,M,a.A,s',rfl,R.pg,k⟩
theorem qT:aA ["_law_kept","_law_model_here","_law_place_of","_law_stand_of","_law_task","_law_stands","_law_page","_law_stand","_law_found"] ["_law_kept","_law_model_here"] (ar zB):=L2.bD
theorem AG {f:Addr}{fd:FuncData}{c:CA}(F:cQ K "_law_lies" "_law_lies" zB f fd) (TR:oq K mg c) (MK:DM P w K mg base c) :
  bj P w K mg base aW 5 f fd ["_law_kept","_law_model_here"] (sO c):=by
 refine F.ok qT (λvs H Q E h=>?_) (λbJ A outer s H vs Q E hr h=>?_)
 .obtain⟨M,a,m,nf,ns,kk,s',cv,pk,W,Z,rfl,_⟩:=h;rfl
 .obtain⟨M,a,m,nf,ns,kk,s',cv,pk,W,Z,rfl,S,L,hz,k⟩:=h;have hs:sizeLine=16777216:=sizeLine_eq;have a7:M m.ls/\¬ a.own W m.ls:=S.sp _ (.inr (.inr (.inl rfl)));have hn:∀(G:Obj) u',H m.ls≠some (.frz G u'):=λG u' w=>(by rw[S.D.hs]at w;cases w);refine⟨_,(ag (aL (i:=2) qT.nd rfl (Or.inl rfl) cR)
   (ag (aL (i:=3) qT.nd rfl (Or.inl rfl) yE)
   (ag (kO (cY PassesOwn.never rfl (lT (bw (bg hr) (pv 1) aJ (λ_ _=>rfl))) (dB rfl (bh (aZ (i:=4) qT.nd rfl (Or.inl rfl)) (bh (aZ (i:=5) qT.nd rfl (Or.inl rfl)) cK))) (aj (kO (cY PassesOwn.never rfl (lT (pv 5)) (dB rfl (bh (aZ (i:=6) qT.nd rfl (Or.inl rfl)) (bh (aZ (i:=7) qT.nd rfl (Or.inl rfl)) cK))) (aj (aR (aC gU (pv 7) ak (aG _)) (ag (aL (i:=8) qT.nd rfl (Or.inl rfl) (pm (pv 0) TR.cl MK.zU hr aw (aa (pv 4) (aa (pv 6) ai))))
   (ag (aR (PW.pt (fM (aC zG (pv 8) lK (aG _)) (fM (aC (pC hr.gH) (jo (bg hr) (pv 2) (pv 7) (pv 8) ⟨rfl,rfl,rfl,rfl⟩) (pv 8) (aG _)) (fw (aC yZ (jo (bg hr) (pv 3) (pv 8) (pv 7) ⟨rfl,rfl,rfl,rfl⟩) (pv 7) (aG _)))))) (aj (aE jz)) aF)
   (ag (cF (pv 8) (dA (pv 2) (pv 7) (set_dict (bg hr))))
   (aj (cF (pv 7) (dA (pv 3) (pv 8) (set_dict (bg hr)))))))) aF)))))))
   (aj (aE jz))))),?_⟩
  intro d1 f1 d2 f2;have q1:=Tb.au (X:=.dK []) f1;have q2:=Tb.au (X:=.dT []) f2;have a1:d1≠d2:=λz=>(by rw[<-z,ae]at f2;cases f2);have sm:=q1.trans q2;have e2:H d2=none:=q1.free f2;have I5:LI H (upd (upd H d1 (.dK [])) d2 (.dT [])) s' W Z d1 d2 0:=⟨sm,[],[],q2 _ _ ae,ae,le_refl _,le_refl _,(λv x e=>by cases e),λb n x e=>by cases e⟩;clear q1 q2 f2;show kC _ _ _ _ (upd (upd H d1 (.dK [])) d2 (.dT []));generalize upd (upd H d1 (.dK [])) d2 (.dT [])=H5 at *;have D5:=S.D.same sm;refine⟨_,rfl,m.md,.ref m.ls,rfl,D5.g (E4 _ _ _ _),m.ls,_,rfl,D5.hs,hn,λG=>?_⟩;have oF:Off (· = m.ls) H (upd H m.ls (.frz G (.dK (Tb.dk iB Z)))):=Off.wr rfl;have hF:upd H m.ls (.frz G (.dK (Tb.dk iB Z))) m.ls=some (.frz G (.dK (Tb.dk iB Z))):=ae;have RF:ax c (upd H m.ls (.frz G (.dK (Tb.dk iB Z)))) M a s' W:=S.R.AR (B:=(· = m.ls)) oF (λb z=>by rw[z];exact a7) (λb z=>.inr ⟨_,(congrArg H z).trans S.D.hs⟩) (λb z=>.inl z) (λb z _=>z) (λb z e=>by
   by_cases q:b=m.ls
   .rw[q,hF]at e;cases e
   .rw[ah q]at e;exact S.R.mt b z e)
  have ac:∀x∈Z,upd H m.ls (.frz G (.dK (Tb.dk iB Z))) x.2.sa=some (.dK (Tb.dk gB x.2.pl)):=λx hx=>oF _ _ (S.D.st x hx) (S.D.d3 x hx).2.2.2.2.2;have Y:d1≠m.ls:=λz=>(by rw[z,S.D.hs]at f1;cases f1);have U:d2≠m.ls:=λz=>(by rw[z,S.D.hs]at e2;cases e2);have IF:=I5.wr (r:=m.ls) (o:=.frz G (.dK (Tb.dk iB Z))) Y U (λxs z=>by rw[D5.hs]at z;cases z);have back:∀{H9 i},LI (upd H m.ls (.frz G (.dK (Tb.dk iB Z)))) H9 s' W Z d1 d2 i->LI H (upd H9 m.ls (.dK (Tb.dk iB Z))) s' W Z d1 d2 i:=λI=>I.back S.D.hs Y U λxs z=>(by rw[I.sm _ _ hF]at z;cases z);have aB:upd H m.ls (.frz G (.dK (Tb.dk iB Z))) d1=none:=(by rw[ah Y];exact f1);have ap:upd H m.ls (.frz G (.dK (Tb.dk iB Z))) d2=none:=(by rw[ah U];exact e2);generalize bx:upd H m.ls (.frz G (.dK (Tb.dk iB Z)))=J at *;refine jT (a:=m.ls) (o:=G) (kvs:=Tb.dk iB Z) (λj σ H2=>∃(v4 v5 v6 v7 v8:Option V),σ=[some (.ref a.rp),some (.ref m.md),some (.ref d1),some (.ref d2),v4,v5,v6,v7,v8]/\LI J H2 s' W Z d1 d2 (64*j)) ⟨_,_,_,_,_,rfl,IF⟩ (λj σ H2 _ z0=>by obtain⟨_,_,_,_,_,_,I2⟩:=z0;exact I2.sm _ _ hF) ?_ ?_
  .rintro j a4 v σ H2 T' hk aT ⟨v4,v5,v6,v7,v8,rfl,I2⟩;have ad:(Z.map λx:Int×MT=>((Sum.inl x.1:Key),iB x.2))[j]?=some (a4,v):=hk;rw[getElem?_map]at ad;obtain⟨x,hx,e⟩:=Option.map_eq_some_iff.mp ad;cases e;have O:=mem_of_getElem? hx;have hj:j<Z.length:=(List.getElem?_eq_some_iff.mp hx).1;have ez:Tb.look Z x.1=some x.2:=Tb.bZ S.D.nd O;obtain⟨xx,as⟩:=S.tw.get ez;have bY:x.2.pl.length<=64:=S.D.len O;refine⟨T',[.int x.1,.ref x.2.sa],rfl,bV.of ae,rfl,_,_,rfl,_,_,rfl,rfl,?_⟩;have I3:=I2.same (Tb.au (X:=.tup [kV (Sum.inl x.1),iB x.2]) aT);generalize upd H2 T' (.tup [kV (Sum.inl x.1),iB x.2])=H3 at *;have a0:∀(G:Obj) u',H x.2.sa≠some (.frz G u'):=λG u' w=>(by rw[S.D.st x O]at w;cases w);have a5:M x.2.sa/\¬ a.own W x.2.sa:=S.sp _ (.inr (.inr (.inr ⟨x,O,.inr (.inl rfl)⟩)));have h3:=I3.sm _ _ (ac x O);refine⟨_,rfl,x.2.sa,_,rfl,h3,a0,λN=>?_⟩;have Y:d1≠x.2.sa:=λz=>(by rw[z,ac x O]at aB;cases aB);have U:d2≠x.2.sa:=λz=>(by rw[z,ac x O]at ap;cases ap);have oG:Off (· = x.2.sa) J (upd J x.2.sa (.frz N (.dK (Tb.dk gB x.2.pl)))):=Off.wr rfl;have hG:upd J x.2.sa (.frz N (.dK (Tb.dk gB x.2.pl))) x.2.sa=some (.frz N (.dK (Tb.dk gB x.2.pl))):=ae;have RG:ax c (upd J x.2.sa (.frz N (.dK (Tb.dk gB x.2.pl)))) M a s' W:=RF.AR (B:=(· = x.2.sa)) oG (λb z=>by rw[z];exact a5) (λb z=>.inr ⟨_,(congrArg J z).trans (ac x O)⟩) (λb z=>.inl z) (λb z _=>z) (λb z e=>by
    by_cases q:b=x.2.sa
    .rw[q,hG]at e;cases e
    .rw[ah q]at e;exact RF.mt b z e)
   have IG:=I3.wr (r:=x.2.sa) (o:=.frz N (.dK (Tb.dk gB x.2.pl))) Y U (λxs z=>by rw[h3]at z;cases z);have bi:∀{H9 i},LI (upd J x.2.sa (.frz N (.dK (Tb.dk gB x.2.pl)))) H9 s' W Z d1 d2 i->LI J (upd H9 x.2.sa (.dK (Tb.dk gB x.2.pl))) s' W Z d1 d2 i:=λI=>I.back (ac x O) Y U λxs z=>(by rw[I.sm _ _ hG]at z;cases z);have a6:upd J x.2.sa (.frz N (.dK (Tb.dk gB x.2.pl))) d1=none:=(by rw[ah Y];exact aB);have bb:upd J x.2.sa (.frz N (.dK (Tb.dk gB x.2.pl))) d2=none:=(by rw[ah U];exact ap);generalize bz:upd J x.2.sa (.frz N (.dK (Tb.dk gB x.2.pl)))=HG at *;refine jT (a:=x.2.sa) (o:=N) (kvs:=Tb.dk gB x.2.pl) (λq σ H4=>∃(v6 v7 v8:Option V),σ=[some (.ref a.rp),some (.ref m.md),some (.ref d1),some (.ref d2),some (.int x.1),some (.ref x.2.sa),v6,v7,v8]/\LI HG H4 s' W Z d1 d2 (64*j+q)) ⟨_,_,_,rfl,IG⟩ (λq σ H4 _ z0=>by obtain⟨_,_,_,_,I4⟩:=z0;exact I4.sm _ _ hG) ?_ ?_
   .rintro q kk v σ H4 T' hk aT ⟨bl,bd,be,rfl,I4⟩;have ad:(x.2.pl.map λy:Int×Addr×Int=>((Sum.inl y.1:Key),gB y.2))[q]?=some (kk,v):=hk;rw[getElem?_map]at ad;obtain⟨y,hy,e⟩:=Option.map_eq_some_iff.mp ad;cases e;have bn:=mem_of_getElem? hy;have hq:q<x.2.pl.length:=(List.getElem?_eq_some_iff.mp hy).1;have ey:Tb.look x.2.pl y.1=some y.2:=Tb.bZ (S.D.np x O) bn;refine⟨T',[.int y.1,.int y.2.2],rfl,bV.of ae,rfl,_,_,rfl,_,_,rfl,rfl,?_⟩;have I5:=I4.same (Tb.au (X:=.tup [kV (Sum.inl y.1),gB y.2]) aT);generalize upd H4 T' (.tup [kV (Sum.inl y.1),gB y.2])=bv at *;have R5:=RG.same I5.sm;obtain⟨dx,ho⟩:=R5.ob;dsimp only;refine vq λQQ ji je=>?_;refine⟨_,rfl,_,_,rfl,rfl,_,rfl,?_⟩;refine wj (λcv=>ji _ ?_) (λ_=>je _ ⟨_,_,_,rfl,I5.le (le_succ _)⟩);have vp:0<y.2.2:=of_decide_eq_true cv;have te:=S.tw.e x.1 y.1;rw[mh as,nE ez,ey]at te;have te:(Tb.look xx.t y.1).map isNone=some (decide (y.2.2=0)):=te;rw[decide_eq_false af]at te;obtain⟨en,he,bm⟩:=Option.map_eq_some_iff.mp te;refine fX λ_ jt=>?_;refine⟨_,rfl,a.rp,dx,_,rfl,ho,gr _ _ _ ao ao ao,_,rfl,_,rfl,M,a,s',W,x.1,y.1,xx,rfl,R5,S.ri,as,λH6 v s6 am=>jt _ _ ?_⟩;clear jt;rw[he]at am;cases en with
    |none=>cases bm
    |some kx =>
    obtain⟨tt,b,n,rfl,am,ab⟩:=am;have PN:DB s' W Z y.2.2 b n:=⟨x.1,y.1,kx,by rw[nE ez,ey];rfl,af,by rw[mh as];exact he,am⟩;obtain⟨bc,k1,k2,h1,h2,l1,l2,A1,A2⟩:=I5.same s6;have one:∀{v b' n'},DB s' W Z v b' n'->(v=y.2.2↔(b',n')=(b,n)):=λ{v b' n'} p=>by
     obtain⟨t1,q1,j1,p1,p2,p3,p4⟩:=p;obtain⟨t2,q2,j2,r1,r2,r3,r4⟩:=PN;rw[L.al _ _ _ _ _ _ p1 r1 p2 r2,p3,r3];refine⟨λe=>?_,λe=>?_⟩
     .cases e;exact Option.some.inj (p4.symm.trans r4)
     .rw[S.ri.good.inj j1 j2 (b,n) (p4.trans (by rw[e])) r4]
    obtain⟨t1,g1,g2⟩:∃t1,(cq k1 (.inl y.2.2)).getD (.ref tt)=.ref t1/\H6 t1=some (.tup (gI b n)):=by
     cases e:cq k1 (.inl y.2.2)with
     |none=>exact⟨tt,rfl,ab⟩
     |some u =>
      obtain⟨t1,b',n',rfl,a2,a3⟩:=A1 _ _ e;have:=(one a3).mp rfl;cases this;exact⟨t1,rfl,a2⟩
    have g3:(cq k2 (kT b n)).getD (.int y.2.2)=.int y.2.2:=by
     cases e:cq k2 (kT b n)with
     |none=>rfl
     |some u =>
      obtain⟨v',rfl,a3⟩:=A2 _ _ _ e;rw[(one a3).mpr rfl];rfl
    refine Ez ?_;dsimp only;refine bW λ_ bI ba=>?_;refine⟨_,rfl,rfl,_,rfl,bu ?_⟩;refine⟨_,rfl,d1,rfl,.inl ⟨_,.inl h1⟩,_,rfl,_,rfl,_,dh.k (k:=.inl y.2.2) h1,?_⟩;rw[g1];refine⟨_,rfl,t1,tt,_,_,rfl,rfl,bV.of g2,bV.of ab,rfl,rfl,_,rfl,?_⟩;rw[show iQ (gI b n) (gI b n)=true by unfold gI;simp[iQ,ly]];refine bu ?_;refine⟨_,rfl,d2,rfl,.inr ⟨_,.inl h2⟩,_,rfl,_,rfl,_,dh.t (k:=kT b n) h2 ab,?_⟩;rw[g3];refine⟨_,rfl,rfl,false,by rw[decide_eq_true rfl];rfl,ba _ ?_⟩;refine⟨_,rfl,_,rfl,_,rfl,d1,_,rfl,eO.k (k:=.inl y.2.2) h1 af,?_⟩;exact⟨_,rfl,_,rfl,_,rfl,d2,_,rfl,eO.t (k:=kT b n) (by rw[ah (Ne.symm a1)];exact h2) (by rw[ah (λz=>by rw[z,h1]at ab;cases ab)];exact ab) af,_,_,_,rfl,LI.put bc h1 h2 l1 l2 A1 A2 a6 bb a1 ab PN⟩
   .rintro σ H4 ⟨bl,bd,be,rfl,I4⟩;refine⟨x.2.sa,N,_,I4.sm _ _ hG,a0,_,_,_,_,_,rfl,(bi I4).le ?_⟩;rw[Tb.cu];omega
  .rintro σ H2 ⟨v4,v5,v6,v7,v8,rfl,I2⟩;exact⟨m.ls,G,_,I2.sm _ _ hF,hn,k _ (back I2).sm⟩
theorem zk:aA ["_law_kept","_law_model_here","_law_deed","_law_frames","_law_slots","_law_at","_law_found"] ["_law_kept","_law_model_here","_law_deed"] (ar sD):=L2.bD
theorem yo {f:Addr}{fd:FuncData}{c:CA}(F:cQ K "_law_alone" "_law_alone" sD f fd) (T:mV mg) (TR:oq K mg c) (MK:DM P w K mg base c) (a3:Md P w K mg base aW 2 c.C "counts" (j9 c)) :
  bj P w K mg base aW 5 f fd ["_law_kept","_law_model_here","_law_deed"] (pF c):=by
 refine F.ok zk (λvs H Q E h=>?_) (λa6 A outer s H vs Q E hr h=>?_)
 .obtain⟨M,a,s',W,md,d,t,ad,Y,cs,x,rfl,_⟩:=h;rfl
 .obtain⟨M,a,s',W,md,d,t,ad,Y,cs,x,rfl,R,ri,hx,hd,as,a0,a1,n1,al,k⟩:=h;have hs:sizeLine=16777216:=sizeLine_eq;obtain⟨dx,ho⟩:=R.ob;refine⟨_,(ag (cF (uo (pv 0) TR.cl a3 hr aw) (dB rfl (bh (aZ (i:=3) zk.nd rfl (Or.inl rfl)) (bh (aZ (i:=4) zk.nd rfl (Or.inl rfl)) cK))))
   (ag (cY PassesOwn.never rfl (dW (by rfl) T.range (aa (aX a8 (pv 2) ak (λ_ _=>rfl)) (aa (az bq (aX a8 (pv 2) ak (λ_ _=>rfl)) (aV bG (by rfl) T.len boot_len (aa (aX a8 (pv 2) ak (λ_ _=>rfl)) ai))) ai))) (aZ (i:=5) zk.nd rfl (Or.inl rfl)) (ag (aL (i:=6) zk.nd rfl (Or.inl rfl) (pm (pv 0) TR.cl MK.zU hr aw (aa (aX a8 (pv 2) ak (λ_ _=>rfl)) (aa (az bF (pv 5) ak) ai))))
   (aj (aR (PW.pt (fM (aC fZ (aX a8 (pv 6) ak (λ_ _=>rfl)) (cL (aa aJ (aa aJ ai))) (by with_unfolding_all rfl)) (fw (aC yZ (aX cg (aX cg (ck (aa (pv 3) (aa (pv 4) ai))) (bK dX (by rfl) T.int iS (aa (kM bS (aX a8 (pv 6) ak (λ_ _=>rfl)) aJ (aG _)) ai)) (λ_ _=>rfl)) (aX a8 (pv 6) ak (λ_ _=>rfl)) (λ_ _=>rfl)) ak (aG _))))) (aj (aE jz)) aF))))
   (aj (aE jz)))),?_⟩
  refine⟨_,rfl,a.rp,dx,_,rfl,ho,gr _ _ _ ao ao ao,M,a,s',W,rfl,R,λH1 p I J G=>⟨p,_,rfl,bV.of G.hp,rfl,_,_,rfl,_,_,rfl,rfl,?_⟩⟩;have S:=G.sm _ _ hd;have a5:=G.sm _ _ as;refine⟨_,rfl,d,_,_,.int ad,rfl,rfl,bV.of S,rfl,_,rfl,d,_,_,.int ad,rfl,rfl,bV.of S,rfl,_,rfl,d,_,_,.ref Y,rfl,rfl,bV.of S,rfl,Y,_,rfl,.inl (bE.of a5),?_⟩;rw[length_map];refine⟨_,_,rfl,rfl,_,_,rfl,⟨af,af,af,af⟩,?_⟩;have aB:∀b,H1 (two I J b)=some (.lst ((s'.ow b).map V.int)):=λb=>(by cases b;exact G.h2;exact G.h1);refine fP (lo:=ad) (n:=(ad+(cs.length:Int)-ad).toNat) (λi σ H2=>∃(v5 U:Option V),σ=[some (.ref a.rp),some (.ref md),some (.ref d),some (.ref I),some (.ref J),v5,U]/\bf H1 H2) ⟨_,_,rfl,bf.refl _⟩ ?_ ?_
  .rintro i σ H2 hi ⟨v5,U,rfl,L⟩;have R2:=R.same (G.sm.trans L);obtain⟨a2,aT⟩:=R2.ob;obtain⟨kx,he,hc⟩:=al ((ad+(i:Int))/8) (cE.mpr ⟨i,af,rfl⟩);refine fX λ_ jt=>?_;refine⟨_,rfl,a.rp,a2,_,rfl,aT,gr _ _ _ ao ao ao,_,rfl,d,_,_,.int t,rfl,rfl,bV.of (L _ _ S),rfl,_,rfl,_,_,rfl,rfl,⟨av,av⟩,M,a,s',W,t,(ad+(i:Int))/8,x,rfl,R2,ri,hx,λH3 v s3 N=>jt _ _ ?_⟩;clear jt;rw[he]at N;obtain⟨tt,b,n,rfl,N,ab⟩:=N;have am:=L.trans s3;have one:(s'.ow b)[n]?=some 1:=by
    obtain⟨ap,c0,g1,g2,_,_⟩:=ri.good.va _ _ _ N;have:=ri.ct kx ap c0 ⟨b,n,N,g1,g2⟩;rw[hc]at this;rw[g2,this];rfl
   have eb:xA [V.ref I,V.ref J] (if decide (V.str (if b=true then "frame" else "slot")=V.str "slot")=true then 1 else 0)=some (.ref (two I J b)):=by
    cases b
    .rw[if_pos ao];rfl
    .rw[if_neg ao];rfl
   dsimp only;refine vq λQQ ji je=>?_;refine⟨_,rfl,tt,_,0,_,rfl,rfl,bV.of ab,rfl,by show 2<=sizeLine;decide,λp2 a4=>?_⟩;have s4:=Tb.au (X:=.tup [V.str "frame",V.str "slot"]) a4;refine⟨p2,_,rfl,.inr (bV.of ae),rfl,rfl,_,rfl,?_⟩;have e1:(!BG (V.str (if b=true then "frame" else "slot")) [V.str "frame",V.str "slot"])=false:=(by cases b<;>decide +kernel);rw[e1];refine bu ?_;have h4:=s4 _ _ ab;have ac:=am.trans s4;generalize upd H3 p2 (.tup [V.str "frame",V.str "slot"])=H4 at *;refine⟨_,rfl,_,rfl,by show 2<=sizeLine;decide,λl hl=>?_⟩;have O:=Tb.au (X:=.lst [V.ref I,V.ref J]) hl;have ng:((s'.ow b).map V.int)[n]?=some (.int 1):=(by rw[getElem?_map,one];rfl);refine⟨_,rfl,tt,_,0,_,rfl,rfl,bV.of (O _ _ h4),rfl,rfl,.inr ⟨_,rfl,l,_,_,_,rfl,rfl,bE.of ae,eb,?_⟩⟩;exact⟨_,rfl,tt,_,1,.int n,rfl,rfl,bV.of (O _ _ h4),rfl,two I J b,_,n,.int 1,rfl,rfl,bE.of (O _ _ (ac _ _ (aB b))),ie ng,rfl,false,rfl,je _ ⟨_,_,rfl,ac.trans O⟩⟩
  .rintro σ H2 ⟨v5,U,rfl,L⟩;exact k _ (G.sm.trans L)
end
noncomputable abbrev jx:Stmt:=top 51
inductive rM (K:PySem.W.Frag) (vs:List V) (H:Hp) (Q:VK) (e3:XK):Prop
 |mk (a:Addr) (ns:List Int) (_:vs=[.ref a]) (_:bE K H a (ns.map V.int)) (_:ns.length<=63) (_:∀H',Q (.bl true) H'):rM K vs H Q e3
theorem jw {c:CA}{H:Hp}{M:Addr->Prop}{a:RA}{s:Pg.PS}{W:dS}(R:ax c H M a s W) {b:Addr}{xs:List V}(h:H b=some (.tup xs)):¬ a.own W b:=λw=>by
 rcases w with w|w|⟨x,I,w⟩
 .obtain⟨_,h1⟩:=R.pg.ob;obtain⟨_,h2,_⟩:=R.pg.fr.hc;obtain⟨_,G,_⟩:=R.pg.sl.hc;obtain⟨_,J,_⟩:=R.pg.pd;have w:b∈[a.A.pg,a.A.fo,a.A.fc,a.A.so,a.A.sc,a.A.pd,a.A.il]:=w;simp only[mem_cons,not_mem_nil,or_false]at w;rcases w with w|w|w|w|w|w|w<;>rw[w]at h
  .rw[h1]at h;cases h
  .rw[R.pg.fr.hw]at h;cases h
  .rw[h2]at h;cases h
  .rw[R.pg.sl.hw]at h;cases h
  .rw[G]at h;cases h
  .rw[J]at h;cases h
  .rw[R.pg.il]at h;cases h
 .rw[w,R.hd]at h;cases h
 .have T:=(R.tb x I).at_;rcases w with w|⟨y,F,w⟩
  .rw[w,T.hf]at h;cases h
  .rw[w,T.hd y F]at h;cases h
section
variable {P:Program}{w:World}{K:PySem.W.Frag}{mg:Str->Option Value}{base:Heap}
theorem kj:aA ["_law_script","_law_m","_law_kept","_law_model_here","_law_low","_law_tasks","_law_k","_law_deed"] ["_law_script"] (ar jx):=L2.bD
theorem CZ {f:Addr}{fd:FuncData}{c:CA}(F:cQ K "law" "law" jx f fd) (T:mV mg) (dL:Df P w K mg base aW 2 "_law_number" (mK K)) (en:Df P w K mg base aW 7 "_law_begun" (qc c)) (ea:Df P w K mg base aW 2 "_law_busy" uw) (ez:Df P w K mg base aW 2 "_law_due" zp) (d9:Df P w K mg base aW 1 "_law_done" qt) (ei:Df P w K mg base aW 11 "_law_called" (lI c)) (eH:Df P w K mg base aW 5 "_law_lies" (sO c)) (eq:Df P w K mg base aW 5 "_law_alone" (pF c)) :
  bj P w K mg base aW 12 f fd ["_law_script"] (rM K):=by
 refine F.ok kj (λvs H Q E h=>?_) (λe5 A outer s H vs Q E hr h=>?_)
 .obtain⟨a,ns,rfl,_⟩:=h;rfl
 .obtain⟨sc,ns,rfl,bz,e2,k⟩:=h;have hs:sizeLine=16777216:=sizeLine_eq;have cC:(ar jx).names.lookup ("_law_number" : Str)=some NameKind.globalImplicit:=ao;have d7:(ar jx).names.lookup ("_law_begun" : Str)=some NameKind.globalImplicit:=ao;have dT:(ar jx).names.lookup ("range" : Str)=some NameKind.globalImplicit:=ao;have eC:(ar jx).names.lookup ("max" : Str)=some NameKind.globalImplicit:=ao;have eo:(ar jx).names.lookup ("len" : Str)=some NameKind.globalImplicit:=ao;have ev:(ar jx).names.lookup ("_law_busy" : Str)=some NameKind.globalImplicit:=ao;have ey:(ar jx).names.lookup ("_law_due" : Str)=some NameKind.globalImplicit:=ao;have d6:(ar jx).names.lookup ("_law_done" : Str)=some NameKind.globalImplicit:=ao;have d5:(ar jx).names.lookup ("_law_called" : Str)=some NameKind.globalImplicit:=ao;have em:(ar jx).names.lookup ("_law_alone" : Str)=some NameKind.globalImplicit:=ao;have eb:(ar jx).names.lookup ("_law_lies" : Str)=some NameKind.globalImplicit:=ao;refine⟨_,(ag (aL (i:=1) kj.nd rfl (Or.inl rfl) (pc (hg:=cC) dL hr aw (aa (pv 0) (aa ak ai))))
   (ag (cF (pc (hg:=d7) en hr aw (aa (pv 1) ai)) (dB rfl (bh (aZ (i:=2) kj.nd rfl (Or.inl rfl)) (bh (aZ (i:=3) kj.nd rfl (Or.inl rfl)) cK))))
   (ag (aL (i:=4) kj.nd rfl (Or.inl rfl) (aX cg (ck (aa ak (aa (az oS (DX CV ak) (az bH (az bF (pv 1) ak) (az tP ak ak))) ai))) (az bH (az bF (pv 1) ak) ak) (λ_ _=>rfl)))
   (ag (aL (i:=5) kj.nd rfl (Or.inl rfl) (ck (aa ak (aa ak (aa (az bq (az bH (az bF (pv 1) ak) (az tP ak ak)) ak) (aa (pv 4) (aa ak ai)))))))
   (ag (cY PassesOwn.never rfl (dW dT T.range (aa ak (aa (aV (oi rfl) eC T.max yn (aa ak (aa (aV bG eo T.len boot_len (aa (dg gb (pv 0) eY (de ak)) ai)) ai))) ai))) (aZ (i:=6) kj.nd rfl (Or.inl rfl)) (ag (aL (i:=7) kj.nd rfl (Or.inl rfl) (pc (hg:=ev) ea hr aw (aa (pc (hg:=cC) dL hr aw (aa (pv 0) (aa (pv 6) ai))) (aa (pv 3) (aa (pv 5) ai)))))
   (ag (aR (aC bS (pc (hg:=ey) ez hr aw (aa (pv 3) (aa (pv 7) ai))) aJ (aG _)) (ag (aM (pc (hg:=d6) d9 hr aw (aa (pv 3) (aa (pv 7) ai))))
   (ag (aM (pc (hg:=d5) ei hr aw (aa (pv 2) (aa (pv 7) ai))))
   (aj (aR (PW.pt (qm (aC bS (aX a8 (pv 7) ak (λ_ _=>rfl)) aJ (aG _)) (kD (x6 (gp (pc (hg:=em) eq hr aw (aa (pv 2) (aa (pv 3) (aa (pv 7) ai))))))))) (aj (aE jz)) aF)))) aF)
   (aj (aR (x6 (gp (pc (hg:=eb) eH hr aw (aa (pv 2) (aa (pv 3) ai))))) (aj (aE jz)) aF)))))
   (aj (aE jz))))))),?_⟩
  refine fX λ_ jt=>?_;refine⟨_,rfl,sc,ns,0,rfl,bz,af,af,λG H1 s1=>jt _ _ ?_⟩;clear jt;refine⟨_,rfl,G,rfl,λH3 t3 M a m O cv pk W Z s3 S3 b5 cP h3=>⟨t3,_,rfl,bV.of h3,rfl,_,_,rfl,_,_,rfl,rfl,?_⟩⟩;have fr:∀b,M b->H b=none:=λb z=>s1.free (cP b z);have c3:=s1.trans s3;have L0:Ln W Z pk:=⟨(λt q v e=>by rw[b5]at e;cases e),λt q t' q' v v' e=>by rw[b5]at e;cases e⟩;clear cP h3 s1 s3 b5;dsimp only;refine fX λ_ jt=>?_;have w0:=emod_nonneg (G/20000) (show(2:Int)≠0 by decide);have w1:=emod_lt_of_pos (G/20000) (show(0:Int)<2 by decide);obtain⟨b1,_⟩:=at_of (xs:=[0, -1-G/20000%10^toNat 59]) (i:=G/20000%2) (n:=2) w0 w1 rfl;generalize e3:([0, -1-G/20000%10^toNat 59]:List Int).getD (G/20000%2).toNat 0=lo at b1;refine⟨_,rfl,_,rfl,_,_,rfl,rfl,⟨av,av⟩,_,_,rfl,rfl,⟨av,av,av⟩,_,_,rfl,rfl,(by show(0:Int)<10^toNat 59;decide),_,_,rfl,rfl,by show 2<=sizeLine;decide,λl0 ch=>⟨_,rfl,_,_,rfl,rfl,⟨av,av⟩,_,_,rfl,rfl,(by show(0:Int)<2;decide),l0,_,_,.int lo,rfl,rfl,bE.of ae,b1,jt _ _ ?_⟩⟩;clear jt;have s4:=Tb.au (X:=.lst ([0, -1-G/20000%10^toNat 59].map V.int)) ch;refine fX λ_ jt=>?_;refine⟨_,rfl,_,_,rfl,rfl,⟨av,av⟩,_,_,rfl,rfl,⟨av,av,av⟩,_,_,rfl,rfl,(by show(0:Int)<10^toNat 59;decide),_,_,rfl,rfl,_,rfl,by show 5<=sizeLine;decide,λtl b3=>jt _ _ ?_⟩;clear jt;have s5:=Tb.au (X:=.lst ([1,2,G/20000%10^toNat 59+3,lo,12].map V.int)) b3;generalize dM:([1,2,G/20000%10^toNat 59+3,lo,12]:List Int)=ts at s5;have l5:ts.length=5:=(by rw[<-dM];rfl);have S5:zx c (upd (upd H3 l0 (.lst ([0, -1-G/20000%10^toNat 59].map V.int))) tl (.lst (ts.map V.int))) M a m (k6 G) (mZ G) 1 O cv pk W Z:=S3.same (s4.trans s5);have cT:upd (upd H3 l0 (.lst ([0, -1-G/20000%10^toNat 59].map V.int))) tl (.lst (ts.map V.int)) tl=some (.lst (ts.map V.int)):=ae;have bn:bf H (upd (upd H3 l0 (.lst ([0, -1-G/20000%10^toNat 59].map V.int))) tl (.lst (ts.map V.int))):=c3.trans (s4.trans s5);have cS:¬ M tl:=λz=>S3.R.mt tl z (s4.free b3);subst dM;show kC _ _ _ _ (upd (upd H3 l0 (.lst ([0, -1-G/20000%10^toNat 59].map V.int))) tl (.lst ([1,2,G/20000%10^toNat 59+3,lo,12].map V.int)));clear s4 s5;generalize ([1,2,G/20000%10^toNat 59+3,lo,12]:List Int)=ts at *;clear ch b3 S3 c3;generalize upd (upd H3 l0 (.lst ([0, -1-G/20000%10^toNat 59].map V.int))) tl (.lst (ts.map V.int))=H5 at *;have c1:=Rm.eE bz (bn _);have ec:eX (ns.map V.int) none (some (63:Int))=(ns.take 63).map V.int:=Rm.uP (s:=63);refine⟨_,rfl,_,rfl,sc,_,rfl,c1,λp6 ca=>?_⟩;have s6:=Tb.au (X:=.lst (eX (ns.map V.int) none (some (63:Int)))) ca;refine⟨p6,_,rfl,.inl (bE.of ae),_,_,rfl,?_⟩;rw[ec]at s6 ⊢;rw[length_map,length_take];generalize eN:(if ((min 63 ns.length:Nat):Int)>8 then((min 63 ns.length:Nat):Int)else 8)=N;have hN:8<=N/\N<=63:=(by rw[<-eN];split<;>omega);refine⟨_,_,rfl,⟨av,av,af,af⟩,?_⟩;refine fP (lo:=1) (n:=(N-1).toNat) (λi σ H7=>∃(v6 v7:Option V) (M:Addr->Prop) (O:Pg.PS) (cv:Int->Int->List Int) (pk:Int) (W:dS) (Z:Zs),σ=[some (.ref sc),some (.int G),some (.ref a.rp),some (.ref m.md),some (.int lo),some (.ref tl),v6,v7]/\zx c H7 M a m (k6 G) (mZ G) (i+1) O cv pk W Z/\Ln W Z pk/\bf H H7/\(∀b,M b->H b=none)/\H7 tl=some (.lst (ts.map V.int))/\¬ M tl)
   ⟨_,_,M,O,cv,pk,W,Z,rfl,S5.same s6,L0,bn.trans s6,fr,s6 _ _ cT,cS⟩ ?_ (λσ H7 _=>k H7)
  clear ca s6 cT cS fr S5 bn c1 ec L0 M O cv pk W Z;rintro i σ H7 hi ⟨v6,v7,M,O,cv,pk,W,Z,rfl,S7,L7,bJ,a2,dz,a4⟩;refine fX λ_ jt=>?_;refine⟨_,rfl,_,rfl,sc,ns,1+i,by rw[Int.natCast_add];rfl,Rm.eE bz (bJ _),af,af,λnh H8 s8=>?_⟩;have S8:=S7.same s8;have da:=bJ.trans s8;have bI:=s8 _ _ dz;clear S7 bJ dz s8;refine⟨_,rfl,_,rfl,nh,m,_,pk,Z,tl,ts,rfl,S8.D,S8.zn,by have:=S8.lz;omega,bI,l5,λH9 d D s9 hd U bb ce=>jt _ _ ?_⟩;clear jt;have a3:=S8.same s9;have a6:=da.trans s9;have bl:=s9 _ _ bI;have bY:∀t ad J cs,D=.poke t ad J cs->¬ cW m Z J:=λt ad J cs e w=>by
   rcases S8.D.alive J w with⟨_,h⟩|⟨_,h⟩
   .rw[bb t ad J cs e]at h;cases h
   .rw[bb t ad J cs e]at h;cases h
  have dj:∀t ad J cs,D=.poke t ad J cs->¬ M J:=λt ad J cs e z=>S8.R.mt J z (bb t ad J cs e);clear S8 da bI bb s9;refine mz (λσ am=>∃(M:Addr->Prop) (O:Pg.PS) (cv:Int->Int->List Int) (pk:Int) (W:dS) (Z:Zs),σ=[some (.ref sc),some (.int G),some (.ref a.rp),some (.ref m.md),some (.int lo),some (.ref tl),some (.int (1+(i:Int))),some (.ref d)]/\zx c am M a m (k6 G) (mZ G) (i+1+1) O cv pk W Z/\Ln W Z pk/\bf H am/\(∀b,M b->H b=none)/\am tl=some (.lst (ts.map V.int))/\¬ M tl) (λc4 QQ ji je=>?A2) ?B2
  case A2 =>
   have up:∀{Hx},bf H9 Hx->zx c Hx M a m (k6 G) (mZ G) (i+1+1) O cv pk W Z:=λsx=>by
    have S:=a3.same sx;exact⟨S.R,S.ri,S.cv,S.D,S.p0,S.sp,S.tw,S.lf,S.ls,S.zn,Nat.le_succ_of_le S.lw,Nat.le_succ_of_le S.lz⟩
   refine⟨_,rfl,_,rfl,m,_,pk,Z,d,D,rfl,a3.D,by have:=a3.lz;omega,hd,U,λr am ab ej=>⟨rfl,_,rfl,?_⟩⟩;refine wj (λcr=>ji _ ?_) (λ_=>je _ ⟨M,O,cv,pk,W,Z,rfl,up ab,L7,a6.trans ab,a2,ab _ _ bl,a4⟩);have fi:=ej (V.str.inj (of_decide_eq_true cr));have I:=a3.same ab;have bi:tX am d D:=⟨ab _ _ hd.1,λt ad J cs e=>ab _ _ (hd.2 t ad J cs e)⟩;refine⟨_,rfl,_,rfl,m,_,pk,Z,d,D,rfl,I.D,I.p0,by have:=I.lz;omega,bi,fi,(λt ad J cs e=>?_),(λt ad n e=>?_),λbm ba Z2 v c9 bv ac eP ap dp=>?_⟩
   .subst e;exact⟨bY _ _ _ _ rfl,U.1,U.2.1,U.2.2.2⟩
   .subst e;exact⟨U.1,U.2.1,U.2.2.2⟩
   obtain⟨be,dV⟩:=zz I.R I.D I.sp c9 ac;have c7:bf H bm:=λb u e=>ac.1 b u (ab _ _ (a6 _ _ e)) λw=>(by rw[a2 b (I.sp b w).1]at e;cases e);have dI:∀b,((M b/\¬ cW m Z b)\/cW m Z2 b)->H b=none:=λb z=>by
    rcases z with z|z
    .exact a2 b z.1
    .rcases ac.2 b z with z|z
     .exact a2 b (I.sp b z).1
     .exact(a6.trans ab).free z
   have dd:=ab _ _ bl;have ci:=ac.1 _ _ dd λw=>a4 (I.sp _ w).1;have dm:¬ ((M tl/\¬ cW m Z tl)\/cW m Z2 tl):=λz=>by
    rcases z with z|z
    .exact a4 z.1
    .rcases ac.2 _ z with z|z
     .exact a4 (I.sp _ z).1
     .rw[dd]at z;cases z
   have el:∀{b xs},am b=some (.tup xs)->¬ cW m Z b:=λe w=>by
    rcases I.D.alive _ w with⟨_,h⟩|⟨_,h⟩
    .rw[e]at h;cases h
    .rw[e]at h;cases h
   have bc:tX bm d D:=⟨ac.1 _ _ bi.1 (el bi.1),λt ad J cs e=>ac.1 _ _ (bi.2 t ad J cs e) (bY t ad J cs e)⟩;refine⟨_,rfl,_,rfl,_,a,O,W,cv,d,D,rfl,be,I.ri,I.cv,by have:=I.lw;omega,bc,BA I.tw I.R I.D U fi,λc0 aB bd aT b2 v a7 dl et as bx e0 c8 b0=>?_⟩;obtain⟨ef,ek⟩:=qM c9 dV as;have d8:=I.tw.next c8 ap b0 dp;have b8:bf H c0:=λb u e=>as.off b u (c7 _ _ e) λw=>(by rw[dI b (be.dH b w)]at e;cases e);have db:∀b,aB b->H b=none:=λb z=>(as.mn b z).elim (dI b) λz=>c7.free z;have b9:=as.off _ _ ci λw=>dm (be.dH _ w);have df:¬ aB tl:=λz=>(as.mn _ z).elim dm λz=>(by rw[ci]at z;cases z);have d3:Z2≠[]:=λe=>by
    have hh:∀t,hZ Z2 t=false:=λt=>(by rw[e];rfl);obtain⟨Y,a5⟩:∃Y,hZ Z Y=true:=by
     cases ew:Z with
     |nil=>exact absurd ew I.zn
     |cons x r =>
      refine⟨x.1,?_⟩;unfold hZ;rw[Tb.aN,if_pos rfl];rfl
    cases D with
    |begin t=>exact absurd U id
    |close o =>
     obtain⟨t1,n1,z1,ee⟩:=ce o rfl;have:=ap t1;rw[hh t1,decide_eq_true n1]at this;unfold hZ at this;rw[ee]at this;cases this
    |copy t o=>have:=ap Y;rw[hh Y,a5]at this;simp at this
    |map t p q=>have:=ap Y;rw[hh Y,a5]at this;cases this
    |drop t p q=>have:=ap Y;rw[hh Y,a5]at this;cases this
    |peek t p q=>have:=ap Y;rw[hh Y,a5]at this;cases this
    |poke t p q r=>have:=ap Y;rw[hh Y,a5]at this;cases this
   have b7:zx c c0 aB a m (k6 G) (mZ G) (i+1+1) bd b2 ba aT Z2:=by
    refine⟨a7,dl,et,?_,bv.1,ek,d8,(bx true).trans I.lf,(bx false).trans I.ls,d3,?_,?_⟩
    .rw[zt bx];exact ef
    .have:=I.lw;omega
    .have:=I.lz;omega
   have c5:Ln aT Z2 ba:=L7.next I.p0 bv.1 a7.nd (λx hx=>(a7.tb x hx).nd) b0 dp bv.2;have c2:=as.off _ _ bc.1 (jw be bc.1);have dO:xA (vd D) 0=some (.str (Bh D)):=(by cases D<;>rfl);dsimp only;refine vq λQ2 e1 cx=>?_;refine⟨_,rfl,d,_,0,_,rfl,rfl,bV.of c2,dO,rfl,_,rfl,?_⟩;refine iD (λcp=>?_) (λ_=>cx _ (c4 _ _ ⟨aB,bd,b2,ba,aT,Z2,rfl,b7,c5,b8,db,b9,df⟩));have ep:Bh D = "poke" := V.str.inj (of_decide_eq_true cp);obtain⟨t,ad,J,cs,rfl⟩:∃t ad J cs,D=.poke t ad J cs:=by
    cases D with
    |poke t ad J cs=>exact⟨t,ad,J,cs,rfl⟩
    |begin t=>exact absurd ep (show ¬ (("begin" : Str) = "poke")by decide +kernel)
    |close t=>exact absurd ep (show ¬ (("close" : Str) = "poke")by decide +kernel)
    |map t p q=>exact absurd ep (show ¬ (("map" : Str) = "poke")by decide +kernel)
    |drop t p q=>exact absurd ep (show ¬ (("drop" : Str) = "poke")by decide +kernel)
    |peek t p q=>exact absurd ep (show ¬ (("peek" : Str) = "poke")by decide +kernel)
    |copy t p=>exact absurd ep (show ¬ (("copy" : Str) = "poke")by decide +kernel)
   obtain⟨x0,eA,_⟩:=BA I.tw I.R I.D U fi;obtain⟨a0,a1,n1,n2⟩:=U;have d4:=as.off _ _ (bc.2 _ _ _ _ rfl) λw=>dj _ _ _ _ rfl (I.R.dH _ w);obtain⟨x,hx⟩:∃x,Tb.look aT t=some x:=by
    have:=c8 t;unfold hW at this;rw[eA]at this;exact Option.isSome_iff_exists.mp this
   refine⟨_,rfl,_,rfl,_,rfl,aB,a,bd,aT,m.md,d,t,ad,J,cs,x,rfl,a7,dl,hx,c2,d4,a0,a1,n2,λq hq=>?_,λe4 b4=>⟨true,rfl,cx _ (c4 _ _ ⟨aB,bd,b2,ba,aT,Z2,rfl,b7.same b4,c5,b8.trans b4,db,b4 _ _ b9,df⟩)⟩⟩;have a:=b0 t q;rw[if_pos ⟨rfl,hq⟩]at a;obtain⟨_,g1,k',rfl,g2⟩:=a;exact⟨k',by rw[<-mh hx];exact g1,g2⟩
  case B2 =>
  clear ce bY U hd a3 a6 bl a4 a2 dj L7 M O cv pk W Z;rintro σ am ⟨M,O,cv,pk,W,Z,rfl,S,L,Sm,fr,hT,nM⟩;refine⟨_,rfl,_,rfl,M,a,m,_,_,_,O,cv,pk,W,Z,rfl,S,L,by have:=S.lz;omega,λbm b6=>⟨true,rfl,bu ?_⟩⟩;exact⟨_,_,M,O,cv,pk,W,Z,rfl,S.same b6,L,Sm.trans b6,fr,b6 _ _ hT,nM⟩
end
end Lw
namespace Hd
open PySem PySem.W PyProof.Rows
def pH:List Obj->List Obj×List Obj
 | []=>([],[])
 | [a]=>([a],[])
 |a::b::r=>(a::(pH r).1,b::(pH r).2)
def build:Nat->List Obj->BT
 |0,_=>.nil
 |_+1,[]=>.nil
 |f+1,o::r=>.node o (build f (pH r).1) (build f (pH r).2)
def topT (tb:String->Option Builtin) (p:Program) (w:World) (m:Nat) (an:Option Value):Nat->SharedT->Thread->Option SharedT
 |0,_,_=>none
 |k+1,x,t=>match through t with
  |true=>some x
  |false=>match stepOk m an t with
   |false=>none
   |true=>match stepT (denote tb) p w x t with
    |some (y,u)=>topT tb p w m an k y u
    |none=>none
theorem topT_of {tb:String->Option Builtin}{p:Program}{w:World}{m:Nat}{an:Option Value}:∀{k:Nat}{x z:SharedT}{t:Thread},topT tb p w m an k x t=some z->topRun tb p w m an k x.abs t=some z.abs:=by
 intro k
 induction k with
 |zero=>intro x z t e;cases e
 |succ k F =>
  intro x z t e;unfold topT at e;unfold topRun;cases a:through t with
  |true=>rw[a]at e;cases e;rfl
  |false =>
   rw[a]at e;cases b:stepOk m an t with
   |false=>rw[b]at e;cases e
   |true =>
    rw[b]at e;cases c:stepT (denote tb) p w x t with
    |none=>rw[c]at e;cases e
    |some r =>
     obtain⟨y,u⟩:=r;rw[c]at e;rw[stepT_spec c];exact F e
def yr (p q:Program) (loose:List Str) (F:Shared->Bool) (G:Bool) (h:Heap) (s:Shared):=
 (staticsOk (importedModules p.main.body) h s.heap&&namesBound p s.heap&&gensDone s&&laidKept h s.heap,openSeen q loose (importedModules p.main.body) F G s)
theorem AO {p q:Program}{loose:List Str}{I:Shared->Bool}{α:Type}{J:Shared->α}{O:World->α}{N M m:Nat}{L:Bool}{H:Params->Heap}{T:Params->BT}{life:Life}{gs:Array GenState}{d:Drawn}{k:Nat}{an:Option Value}
  (hO:∀w:World,(fencedOpening treeTable p w N).map (λs=>(s.heap,s.gens,s.drawn,s.toks))=some (H w.params,gs,d,k))
  (hT:∀P,absHeap (T P) m life=H P)
  (U:∀w:World,((H w.params).isNs mainGlobals&&gs.size==0,(H w.params).objs.size,(H w.params).nsMap mainGlobals "__annotations__")=(true,m,an))
  (le:Nat.ble M N=true)
  (run:∀(w:World) (os:OsState),(topT treeTable p w m an M ⟨T w.params,m,life,gs,d,k,os⟩ (topStub p)).map (λs=>(yr p q loose I L (H w.params) s.abs,J s.abs))=some ((true,openGood q loose),O w)) :
  LeftO p q loose I J O N L:=by
 intro w;obtain⟨s,a,b⟩:=Option.map_eq_some_iff.mp (hO w);obtain⟨h,G,d',F,os⟩:=s;simp only[Prod.mk.injEq]at b;obtain⟨rfl,rfl,rfl,rfl⟩:=b;have z:=U w;simp only[Prod.mk.injEq]at z;obtain⟨S,z2,z3⟩:=z;obtain⟨x,c,e⟩:=Option.map_eq_some_iff.mp (run w os);have r:=topT_of c;have ab:(SharedT.mk (T w.params) m life G d' F os).abs=⟨H w.params,G,d',F,os⟩:=by
  unfold SharedT.abs;rw[hT]
 rw[ab]at r;have r:=topRun_mono (N-M) _ _ _ _ r;rw[show M+(N-M)=N from Nat.add_sub_cancel' (Nat.le_of_ble_eq_true le)]at r;simp only[yr,Prod.mk.injEq]at e;obtain⟨⟨e1,R⟩,Y⟩:=e;have t:topFrom treeTable p w N ⟨H w.params,G,d',F,os⟩=some x.abs:=by
  unfold topFrom;dsimp only;rw[S,z2,z3,r];simp only[bind_some,e1]
 unfold openEnds;rw[a];simp only[bind_some,t,map_some,R,Y]
theorem both {r:OpenRow}{q:Program}{loose:List Str}{d:DefRec}{F:List (Str×Expr)}{N:Nat}(H:Hook)
  (h1:defOf q r.name=some (d,F)) (h2:r.prog.theDef r.name=some (d.params,d.body,d.scope)) (J:kwWritten? d.params.kwonlyargs d.params.kw_defaults=some F) (R:(!r.writes||r.records.isEmpty)=true)
  (O:r.wellSaid=true) (I:(chainsOk q&&opensWell r.prog&&(frees r.toRowW&&r.within.isEmpty))=true) (G:r.prog.bare) (L:r.toRowW.promised)
  (h:LeftO r.prog q loose (λs=>xlAt q [] s&&recOk r.records s) H.obs H.val N/\WalkO q loose (XL q []) H.says r.toRowW d F λf vs=>PySem.call f vs):r.Holds :=
 holds_open h.1 H.of H.keeps (λs e=>xl_of s (Bool.and_eq_true_iff.mp e).1) XL.keeps h1 h2 J (λs e=>recFacts_of (Bool.and_eq_true_iff.mp e).2) R O I G L h.2
noncomputable def Bz (P:Params):BT:=build 12 (boot_heap P).objs.toList
def q:Program:=PySem.W.view PySem.Challenge.pw_ownroom_k14_shared_and_alone [51]
def loose:List Str:=[Str.ofString "_wall",Str.ofString "__name__",Str.ofString "KernelError",Str.ofString "ValueError",Str.ofString "NoOwner",Str.ofString "NoTask",Str.ofString "NoPage",Str.ofString "NoRoom",Str.ofString "Taken",Str.ofString "PAGE_CELLS",Str.ofString "Store",Str.ofString "lift",Str.ofString "settle",Str.ofString "Paging",Str.ofString "ROOM_PAGES",Str.ofString "room_of",Str.ofString "refuse_second_room",Str.ofString "refuse_above",Str.ofString "pages_from",Str.ofString "refuse_unmapped",Str.ofString "pages_to_map",Str.ofString "pages_to_drop",Str.ofString "pages_of_cells",Str.ofString "run_within",Str.ofString "pages_with",Str.ofString "STEP_PAGES",Str.ofString "own_copy",Str.ofString "Table",Str.ofString "BLANK",Str.ofString "Rooms",Str.ofString "_law_mixed",Str.ofString "_law_number",Str.ofString "_law_whole",Str.ofString "_law_cells",Str.ofString "_law_model",Str.ofString "_law_held",Str.ofString "_law_stretch",Str.ofString "_law_due",Str.ofString "_law_done",Str.ofString "_law_called",Str.ofString "_law_numbers",Str.ofString "_law_sizes",Str.ofString "_law_busy",Str.ofString "_law_begun",Str.ofString "_law_lies",Str.ofString "_law_alone"]
local macro_rules | `(tactic| o_head $H) => `(tactic| refine Hd.both (q:=Hd.q) (loose:=Hd.loose) (N:=100000) $H (by rfl) (by rfl) (by rfl) (by rfl) (by assumption) ao ⟨rfl,rfl,rfl,rfl,rfl,ao⟩ ?$(Lean.mkIdent `hw):ident ?$(Lean.mkIdent `hc):ident)
open_top top for PySem.Challenge.rw_ownroom_k14_shared_and_alone
def at_:List Addr:=[2,3,15,17,18,20,21,22,29,30,31,32,35,42,43,44,47,54,55,56,59,66,67,68,71,78,79,80,83,90,91,92,102,104,105,107,108,109,111,112,114,115,116,118,119,121,122,123,125,126,128,129,130,132,133,135,136,137,139,140,142,143,144,146,147,149,150,151,153,154,156,157,158,160,161,163,164,165,166,167,168,169,172,174,175,177,178,179,181,182,184,185,193,195,196,198,199,200,202,203,205,206,207,209,210,212,213,214,216,217,219,220,221,223,224,226,227,228,230,231,233,234,235,237,238,240,241,242,244,245,247,248,249,251,252,254,255,256,258,259,261,262,263,265,266,268,269,270,272,273,275,276,277,279,280,282,283,284,286,287,289,290,291,292,293,294,295,298,300,301,303,304,305,307,308,310,311,312,314,315,317,318,319,321,322,324,325,326,328,329,331,332,333,335,336,338,339,340,342,343,345,346,347,349,350,352,353,354,356,357,359,360,361,364,365,366,369,370,378,380,381,383,384,385,387,388,390,391,392,394,395,397,398,399,401,402,404,405,406,408,409,411,412,413,415,416,418,419,420,421,422,423,424,427,435,437,438,440,441,442,444,445,447,448,449,451,452,454,455,456,458,459,461,462,463,465,466,468,469,470,472,473,475,476,477,479,480,482,483,484,486,487,489,490,491,494,495,496,498,499,501,502,503,505,506,508,509,510,512,513,515,516,517,519,520,522,523,524,526,527,529,530,531,532,533,534,535,538,540,541,543,544,545,547,548,550,551,559,561,562,564,565,566,568,569,571,572,573,576,577,578,581,582,583,586,587,588,591,592,593,595,596,598,599,605,607,608,610,611,612,614,615,617,618,619,621,622,624,625,626,628,629,631,632,633,635,636,638,639,640,642,643,645,646]
noncomputable def lhs (w:World) (os:OsState):=
 (topT treeTable PySem.Challenge.pw_ownroom_k14_shared_and_alone w 11 (some (.ref 6)) 100000 ⟨Bz w.params,11, {},Array.mk [],boot_drawn,boot_toks,os⟩ (topStub PySem.Challenge.pw_ownroom_k14_shared_and_alone)).map
  λs=>(yr PySem.Challenge.pw_ownroom_k14_shared_and_alone q loose (λs=>xlAt q [] s&&recOk PySem.Challenge.rw_ownroom_k14_shared_and_alone.row.records s) true (boot_heap w.params) s.abs,at_.map s.abs.heap.get?)
noncomputable def F0 (K:Frag):=some ((true,openGood q loose),K.map λp=>some p.2)
theorem lhs_self:lhs=lhs:=rfl
theorem yL:F0=F0:=rfl
name_quick hdL for Hd.lhs by Hd.lhs_self
name_quick hdR for Hd.F0 by Hd.yL
noncomputable def rhs (w:World):=some ((true,openGood q loose),(Hd.top.heap_39 w.params).map λp=>some p.2)
theorem same_ (w:World) (os:OsState):PySem.W.Fast.hdL w os=PySem.W.Fast.hdR (Hd.top.heap_39 w.params):=by kernel_rfl
theorem run_ (w:World) (os:OsState):lhs w os=rhs w:=((congrFun (congrFun PySem.W.Fast.hdL_eq w) os).trans (same_ w os)).trans (congrFun PySem.W.Fast.hdR_eq (Hd.top.heap_39 w.params)).symm
end Hd
namespace Lw
open PySem L2
def Al:Nat->(List Value->Prop)->Prop
 |0,p=>p []
 |n+1,p=>∀a,Al n λl=>p (a::l)
theorem al:∀{n:Nat}{p:List Value->Prop},Al n p->∀us:List Value,us.length=n->p us
 |0,_,h,us,e=>by cases List.eq_nil_of_length_eq_zero e;exact h
 |n+1,_,h,us,e=>by
  cases us with
  |nil=>cases e
  |cons a us=>exact al (h a) us (Nat.succ.inj e)
inductive MI (K:PySem.W.Frag) (C:Addr) (m q:Str) (st:Stmt) (ps:List Str):Prop
 |mk (f:Addr) (fd:FuncData) (_:cQ K m q st f fd) (_:Binds K fd ps []) (_:Meth K C m f):MI K C m q st ps
inductive DI (K:PySem.W.Frag) (x:Str) (st:Stmt) (ps:List Str):Prop
 |mk (f:Addr) (fd:FuncData) (_:cQ K x x st f fd) (_:Binds K fd ps []) (_:nsIn K mainGlobals x=some (some (.ref f))):DI K x st ps
section
variable {K:PySem.W.Frag}{C f:Addr}{m q:Str}{st:Stmt}{ps:List Str}{od an:Option Addr}{sl:Array (Option Value)}{oc kV dc pm cd ct:Value}
theorem MI.of (a:findIn K (.ref C) m=some (some (.ref f))) (i:isFn K (.ref f)=true) (l:K.lookup f=some ⟨oc,od,.func (fnOf m q (fh st) (eL st) (ar st) .none kV dc pm an cd ct),sl⟩) (c:codeIn K cd q=true) (k:keepIn K (.ref f)=true)
  (b:∀kV G pm an F ct,Al ps.length λus=>bindArgs (fnOf m q (fh st) (eL st) (ar st) .none kV G pm an F ct) ⟨us,[]⟩=pure (ps.zip us)):MI K C m q st ps :=
 ⟨_,_,pP l c k,(pP l c k).binds λ_ _ _ _ _ _=>al (b _ _ _ _ _ _),a,i,k⟩
theorem DI.of (a:nsIn K mainGlobals m=some (some (.ref f))) (l:K.lookup f=some ⟨oc,od,.func (fnOf m m (fh st) (eL st) (ar st) .none kV dc pm an cd ct),sl⟩) (c:codeIn K cd m=true) (k:keepIn K (.ref f)=true)
  (b:∀kV G pm an F ct,Al ps.length λus=>bindArgs (fnOf m m (fh st) (eL st) (ar st) .none kV G pm an F ct) ⟨us,[]⟩=pure (ps.zip us)):DI K m st ps :=
 ⟨_,_,pP l c k,(pP l c k).binds λ_ _ _ _ _ _=>al (b _ _ _ _ _ _),a⟩
inductive CI (K:PySem.W.Frag) (C:Addr) (x:Str):Prop
 |mk (_:nsIn K mainGlobals x=some (some (.ref C))) (_:qE K C) (_:makesIn K C=true) (_:keepIn K (.ref C)=true):CI K C x
end
def NI (K:PySem.W.Frag):List Str->Prop
 | []=>True
 |x::l=>nsIn K mainGlobals x=some none/\NI K l
def AI (K:PySem.W.Frag) (C:Addr):List Str->Prop
 | []=>True
 |x::l=>findIn K (.ref C) x=some none/\AI K C l
theorem all_mk {l:PySem.W.OpenLaw}{w:World}{K:PySem.W.Frag}{h:Heap}{mg:Str->Option Value}{fa J F L I aB:Addr}{l3 t8 t9:Tok}{ca:Value}{lr:Option Addr}{pa:Array (Option Value)}{am:Array Value}{nB:Nat}(X:K.In h) (G:h.Ns mainGlobals mg) (oL:mg "law" = some (.ref fa)) :
  CI K J "Store" -> AI K J ["owners","contents"]->MI K J "__init__" "Store.__init__" St.mD ["self","many"]->MI K J "take" "Store.take" St.zf ["self"]->MI K J "less" "Store.less" St.zq ["self","n"]->MI K J "more" "Store.more" St.xC ["self","n"]->MI K J "free" "Store.free" St.y8 ["self"]->MI K J "count" "Store.count" St.tR ["self","n"]->MI K J "cells" "Store.cells" St.tH ["self","n"]->MI K J "put" "Store.put" St.BW ["self","n","cells"]->MI K J "refuse_free" "Store.refuse_free" St.oM ["self","n"]->CI K F "Paging" -> AI K F ["frames","slots","places","last_sheet","in_frames"]->MI K F "__init__" "Paging.__init__" St.uX ["self","frames","slots"]->MI K F "new_sheet" "Paging.new_sheet" St.jW ["self","cells"]->MI K F "share" "Paging.share" St.sP ["self","sheet"]->MI K F "leave" "Paging.leave" St.sM ["self","sheet"]->MI K F "cells" "Paging.cells" St.qr ["self","sheet"]->MI K F "change" "Paging.change" St.oV ["self","sheet","cells"]->MI K F "fetch" "Paging.fetch" St.uD ["self","sheet"]->MI K F "bring_in" "Paging.bring_in" St.mP ["self","sheet","moved"]->MI K F "put_out" "Paging.put_out" St.oo ["self","sheet"]->MI K F "place" "Paging.place" St.tM ["self","sheet"]->MI K F "number_of" "Paging.number_of" St.jL ["self","sheet"]->MI K F "store_of" "Paging.store_of" St.ml ["self","sheet"]->MI K F "count" "Paging.count" St.oT ["self","sheet"]->MI K F "counts" "Paging.counts" Lw.mf ["self"]->CI K L "Table" -> AI K L ["first_step"]->MI K L "__init__" "Table.__init__" Tb.mD ["self"]->MI K L "get" "Table.get" Tb.Cn ["self","page"]->MI K L "lay" "Table.lay" Tb.Dq ["self","page","entry"]->MI K L "clear" "Table.clear" Tb.uE ["self","page"]->MI K L "pages" "Table.pages" Tb.tO ["self"]->CI K I "Rooms" -> AI K I ["paging","total","rooms"]->MI K I "__init__" "Rooms.__init__" St.t4 ["self","frames","slots"]->MI K I "begin" "Rooms.begin" St.qx ["self","task"]->MI K I "close" "Rooms.close" St.pB ["self","task"]->MI K I "map" "Rooms.map" St.yG ["self","task","page","many"]->MI K I "drop" "Rooms.drop" St.uR ["self","task","page","many"]->MI K I "peek" "Rooms.peek" St.tV ["self","task","address","many"]->MI K I "poke" "Rooms.poke" St.sE ["self","task","address","cells"]->MI K I "copy" "Rooms.copy" St.tQ ["self","task","other"]->MI K I "held" "Rooms.held" St.um ["self"]->MI K I "counts" "Rooms.counts" Lw.k8 ["self"]->MI K I "place" "Rooms.place" St.pO ["self","task","page"]->MI K I "leave_pages" "Rooms.leave_pages" St.pf ["self","table","pages"]->MI K I "cells_of" "Rooms.cells_of" St.pG ["self","entry"]->MI K I "sheet_with" "Rooms.sheet_with" St.qu ["self","entry","cells"]->DI K "lift" St.yc ["store","n"]->DI K "settle" St.pN ["store","moved"]->DI K "own_copy" Tb.vJ ["value"]->DI K "room_of" St.qy ["rooms","task"]->DI K "refuse_second_room" St.qo ["rooms","task"]->DI K "refuse_above" St.sC ["held","total"]->DI K "pages_from" Rm.iI ["page","many"]->DI K "refuse_unmapped" Rm.j7 ["mapped","pages"]->DI K "pages_to_map" Rm.ur ["mapped","page","many"]->DI K "pages_to_drop" Rm.oQ ["mapped","page","many"]->DI K "pages_of_cells" Rm.lR ["mapped","address","many"]->DI K "run_within" Rm.oU ["whole","address","many"]->DI K "pages_with" Rm.xO ["whole","address","cells"]->DI K "_law_mixed" Lw.uC ["_law_cell","_law_k"]->DI K "_law_number" Lw.pJ ["_law_script","_law_k"]->DI K "_law_cells" Lw.lJ ["_law_m","_law_many"]->DI K "_law_model" Lw.uf ["_law_total"]->DI K "_law_held" Lw.sR ["_law_model_here"]->DI K "_law_stretch" Lw.lD ["_law_room","_law_address","_law_many"]->DI K "_law_due" Lw.BV ["_law_model_here","_law_deed"]->DI K "_law_done" Lw.yK ["_law_model_here","_law_deed"]->DI K "_law_called" Lw.oz ["_law_kept","_law_deed"]->DI K "_law_sizes" Lw.sk ["_law_m"]->DI K "_law_busy" Lw.yi ["_law_m","_law_model_here","_law_tasks"]->DI K "_law_begun" Lw.tU ["_law_m"]->DI K "_law_lies" Lw.zB ["_law_kept","_law_model_here"]->DI K "_law_alone" Lw.sD ["_law_kept","_law_model_here","_law_deed"]->DI K "law" Lw.jx ["_law_script"]->nsIn K mainGlobals "ROOM_PAGES" = some (some (.int 64 l3))->nsIn K mainGlobals "PAGE_CELLS" = some (some (.int 8 t8))->nsIn K mainGlobals "STEP_PAGES" = some (some (.int 8 t9))->NI K ["range","enumerate","sum","int","isinstance","min","max","list","len","dict","bool","tuple","sorted","all","any","zip"]->nsIn K mainGlobals "BLANK" = some (some (.ref aB))->K.lookup aB=some ⟨ca,lr,.seq am nB,pa⟩->ca=.type "tuple" -> Vals [V.str "blank"] am.toList->am.size<=1 ->
  ∃fd:FuncData,(∀(s:Shared) (v:Value),BindsTo s fd ⟨[v],[]⟩ [("_law_script",v)])/\∀base:Heap,K.In base->base.Ns mainGlobals mg->bj l.prog w K mg base aW 12 fa fd ["_law_script"] (rM K):=by
 intro h0 h1 h2 h3 h4 h5 h6 h7 h8 h9 fx ql hR hH ll pz ft li n7 py k0 lc i1 hb lv kv o6 hB m2 gT i3 ep p4 ko ik hg on nF lm hq n5 nM eo mp fk pi ek mb g0 ji l7 oR lp pr go l0 o5 nz he hC nl ni e4 hz ov fI eP nh n8 ez p0 ei hE hM fu nT io hh q0 q1 q2 hI yB lB oB vB wB;obtain⟨nS,ln,hf,el⟩:=h0;obtain⟨gs,no,_⟩:=h1;obtain⟨f1,d1,F1,b1,M1⟩:=h2;obtain⟨f2,d2,F2,b2,M2⟩:=h3;obtain⟨f3,d3,F3,b3,M3⟩:=h4;obtain⟨f4,d4,F4,b4,M4⟩:=h5;obtain⟨f5,d5,F5,b5,M5⟩:=h6;obtain⟨f6,d6,F6,b6,M6⟩:=h7;obtain⟨f7,d7,F7,b7,M7⟩:=h8;obtain⟨f8,d8,F8,b8,M8⟩:=h9;obtain⟨f9,d9,F9,b9,M9⟩:=fx;obtain⟨o9,mn,i9,eC⟩:=ql;obtain⟨hn,l6,jt,hm,mv,_⟩:=hR;obtain⟨s1,sU,hp,mm,ee⟩:=hH;obtain⟨vl,u8,eH,en,ld⟩:=ll;obtain⟨s6,t2,lw,g6,ka⟩:=pz;obtain⟨r8,rc,ob,hl,fc⟩:=ft;obtain⟨t3,v9,m8,lf,iN⟩:=li;obtain⟨vu,r1,em,hc,kw⟩:=n7;obtain⟨re,s9,hP,e7,gl⟩:=py;obtain⟨r4,wP,it,hx,kQ⟩:=k0;obtain⟨wl,u1,nw,mt,hj⟩:=lc;obtain⟨wh,sr,mR,p1,jp⟩:=i1;obtain⟨sd,vn,mB,i0,n1⟩:=hb;obtain⟨ti,v0,nx,qj,fl⟩:=lv;obtain⟨q9,rg,nO,qn,hr⟩:=kv;obtain⟨sx,qw,hL,ht,qa⟩:=o6;obtain⟨c3,hk,cr,bI⟩:=hB;obtain⟨n2,_⟩:=m2;obtain⟨sL,ss,ga,a3,as⟩:=gT;obtain⟨v6,sa,oG,hv,oD⟩:=i3;obtain⟨v8,rp,e2,nI,nL⟩:=ep;obtain⟨tn,wS,hD,p8,pn⟩:=p4;obtain⟨up,wf,n0,hw,ki⟩:=ko;obtain⟨o4,gy,e5,hQ⟩:=ik;obtain⟨pD,o0,n3,_⟩:=hg;obtain⟨ub,sK,hT,fy,bm⟩:=on;obtain⟨rr,sB,fH,je,pp⟩:=nF;obtain⟨ul,ry,oI,gt,ej⟩:=lm;obtain⟨sT,v4,g9,ls,fv⟩:=hq;obtain⟨sb,w5,og,ot,ms⟩:=n5;obtain⟨ua,sm,nd,i4,mu⟩:=nM;obtain⟨vr,w2,pq,ib,o1⟩:=eo;obtain⟨wE,rx,fz,p3,i2⟩:=mp;obtain⟨sw,w4,o3,ew,oF⟩:=fk;obtain⟨tr,sS,ng,pe,qb⟩:=pi;obtain⟨ws,r0,ey,nC,oA⟩:=ek;obtain⟨r5,w7,nn,l4,fr⟩:=mb;obtain⟨va,rB,et,jr,ol⟩:=g0;obtain⟨u2,wn,g1,n9,lx⟩:=ji;obtain⟨v1,t0,dM,g5,qe⟩:=l7;obtain⟨xl,w3,bx,fo,o7⟩:=oR;obtain⟨wk,s5,ad,b0,cx⟩:=lp;obtain⟨w8,rm,dl,f0,fi⟩:=pr;obtain⟨w0,sn,dz,ho,op⟩:=go;obtain⟨v3,w1,c0,k2,om⟩:=l0;obtain⟨ri,xo,ec,nk,hu⟩:=o5;obtain⟨so,tp,bY,l2,la⟩:=nz;obtain⟨vp,rz,bi,nP,kk⟩:=he;obtain⟨r7,sy,dm,j3,fD⟩:=hC;obtain⟨v5,r2,a4,e1,ih⟩:=nl;obtain⟨se,v7,c9,nt,ne⟩:=ni;obtain⟨q3,s7,dV,l5,e6⟩:=e4;obtain⟨ra,rt,bc,i8,hA⟩:=hz;obtain⟨xd,ut,be,eN,fT⟩:=ov;obtain⟨wp,uy,dT,eq,m0⟩:=fI;obtain⟨rb,q6,dI,l1,nq⟩:=eP;obtain⟨ru,tz,a7,hy,me⟩:=nh;obtain⟨q4,r3,ea,eA,o2⟩:=n8;obtain⟨q5,ux,df,fe,e9⟩:=ez;obtain⟨wT,tu,ba,im,i7⟩:=p0;obtain⟨sc,s8,dd,pl,kt⟩:=ei;obtain⟨tw,s3,dO,mx,i5⟩:=hE;obtain⟨rn,ro,c7,kn,hG⟩:=hM;obtain⟨sA,rv,db,hd,hS⟩:=fu;obtain⟨wv,rk,da,m3,pT⟩:=nT;obtain⟨t1,xr,ce,m1,na⟩:=io;obtain⟨rs,j1,bn,ww,ge⟩:=hh;obtain⟨c2,qi,bl,k3,cc,md,pw,ac,U,cp,kd,eb,c8,po,ha,pu,_⟩:=hI;have e:=oL.symm.trans (mg_of X G ge);cases e;refine⟨j1,λs v=>?_,λbase _ _=>?_⟩
 .obtain⟨oc,od,kV,s4,pm,an,s2,ct,xe,rfl,lk,q7⟩:=bn.ex;exact .of_eq rfl
 have TS:St.Txt K mg J:=⟨ln,gs,no,mg_none_of X G U,mg_none_of X G ac,⟨_,mg_of X G q1,⟨_,rfl⟩⟩⟩;have TT:Tb.Txt K mg L:=⟨hk,n2,⟨_,mg_of X G q2,⟨_,rfl⟩⟩⟩;have TQ:Tb.yp mg:=⟨mg_none_of X G cc,mg_none_of X G eb,mg_none_of X G ac,mg_none_of X G cp,mg_none_of X G U,mg_none_of X G c8⟩;have SX:Rm.yw mg:=⟨⟨_,mg_of X G q0,⟨_,rfl⟩⟩,⟨_,mg_of X G q1,⟨_,rfl⟩⟩,mg_none_of X G ac,mg_none_of X G c2,mg_none_of X G U⟩;have TP:St.mQ K mg F:=⟨mn,hn,l6,jt,hm,mv,mg_none_of X G ac⟩;have N:St.oq K mg ⟨I,F,J,L⟩:=⟨gy,pD,o0,n3,⟨aB,mg_of X G yB,.inr ⟨_,am,nB,lB,oB,rfl,le_trans wB av,vB⟩⟩,⟨_,mg_of X G q1,⟨_,rfl⟩⟩,mg_none_of X G U,mg_none_of X G bl,mg_none_of X G pu⟩;have MT:Lw.mV mg:=⟨mg_none_of X G c2,mg_none_of X G qi,mg_none_of X G bl,mg_none_of X G k3,mg_none_of X G cc,mg_none_of X G md,mg_none_of X G pw,mg_none_of X G ac,mg_none_of X G U,mg_none_of X G cp,mg_none_of X G kd,mg_none_of X G eb,mg_none_of X G c8,mg_none_of X G po,mg_none_of X G ha⟩;have e8:=St.ou (P:=l.prog) (w:=w) (base:=base) F1 TS;have ab:=Md.mk _ _ _ (St.zO (P:=l.prog) (w:=w) (base:=base) F6 TS) b6 M6;have ap:=Md.mk _ _ _ (St.wL F9 TS ab) b9 M9;have bd:=Md.mk _ _ _ (St.z8 F3 TS ap) b3 M3;have dj:=Md.mk _ _ _ (St.yy F7 TS ap) b7 M7;have ch:=Md.mk _ _ _ (St.CJ F8 TS ap) b8 M8;have bb:=Md.mk _ _ _ (St.AY F4 TS ap) b4 M4;have g2:=Md.mk _ _ _ (St.AL (P:=l.prog) (w:=w) (base:=base) F2 TS) b2 M2;have a5:=Md.mk _ _ _ (St.zZ (P:=l.prog) (w:=w) (base:=base) F5 TS) b5 M5;have hY:=Df.mk _ _ _ (Tb.xD (P:=l.prog) (w:=w) (base:=base) ad TQ) b0 (mg_of X G cx) ad.kp;have GC:=Df.mk _ _ _ (Tb.Ad ad TQ hY) b0 (mg_of X G cx) ad.kp;have bv:=Tb.ou (P:=l.prog) (w:=w) (base:=base) ga TT;have Y:=Md.mk _ _ _ (Tb.Cu oG TT GC) hv oD;have a1:=Md.mk _ _ _ (Tb.Cy e2 TT GC) nI nL;have k1:=Md.mk _ _ _ (Tb.zA (P:=l.prog) (w:=w) (base:=base) hD TT TQ) p8 pn;have R:=Md.mk _ _ _ (Tb.yV (P:=l.prog) (w:=w) (base:=base) n0 TT TQ) hw ki;have GP:=Df.mk _ _ _ (Rm.pW (P:=l.prog) (w:=w) (base:=base) ec SX) nk (mg_of X G hu) ec.kp;have GU:=Df.mk _ _ _ (Rm.rF (P:=l.prog) (w:=w) (base:=base) (mg:=mg) bY) l2 (mg_of X G la) bY.kp;have GM:=Df.mk _ _ _ (Rm.xT bi GP) nP (mg_of X G kk) bi.kp;have GD:=Df.mk _ _ _ (Rm.wx dm GP GU) j3 (mg_of X G fD) dm.kp;have GO:=Df.mk _ _ _ (Rm.sZ a4 SX GP GU) e1 (mg_of X G ih) a4.kp;have il:=Df.mk _ _ _ (Rm.we (P:=l.prog) (w:=w) (base:=base) c9 SX) nt (mg_of X G ne) c9.kp;have gd:=Df.mk _ _ _ (Rm.Ar (P:=l.prog) (w:=w) (base:=base) dV SX) l5 (mg_of X G e6) dV.kp;have ef:=Df.mk _ _ _ (St.AQ dM TS dj ab bd) g5 (mg_of X G qe) dM.kp;have a2:=Df.mk _ _ _ (St.xt bx TS g2 ch ab bb) fo (mg_of X G o7) bx.kp;have aT:=Md.mk _ _ _ (St.yF (CS:=J) (P:=l.prog) (w:=w) (base:=base) mR TP) p1 jp;have S:=Md.mk _ _ _ (St.rZ mB TP aT) i0 n1;have a0:=Md.mk _ _ _ (St.uZ nx TP aT) qj fl;have lz:=Md.mk _ _ _ (St.wY nO TP TS a0 S ab) qn hr;have e0:=Md.mk _ _ _ (St.wM m8 TP TS a0 S dj) lf iN;have p6:=Md.mk _ _ _ (St.sV nw TP ef a2 S) mt hj;have ci:=Md.mk _ _ _ (St.qZ it TP TS a5 p6 a2) hx kQ;have bz:=Md.mk _ _ _ (St.pb eH TP TS a5 ci) en ld;have c5:=Md.mk _ _ _ (St.zN hP TP aT ci ef) e7 gl;have nR:=Md.mk _ _ _ (St.zR lw TP TS a0 S bb) g6 ka;have c4:=Md.mk _ _ _ (St.yD ob TP TS a0 S bd ab) hl fc;have iv:=Md.mk _ _ _ (St.vW em TP TS lz bz c4 c5 S ch) hc kw;have iF:=St.xK hp TP ⟨hf,M1.at_,M1.fn,el⟩ (mg_of X G nS) e8 b1;have O:=Df.mk _ _ _ (St.vV (P:=l.prog) (w:=w) (base:=base) (mg:=mg) dl) f0 (mg_of X G fi) dl.kp;have GS:=Df.mk _ _ _ (St.wA (P:=l.prog) (w:=w) (base:=base) (mg:=mg) dz) ho (mg_of X G op) dz.kp;have GA:=Df.mk _ _ _ (St.yO (P:=l.prog) (w:=w) (base:=base) (mg:=mg) c0) k2 (mg_of X G om) c0.kp;have e3:=St.xG (c:=⟨I,F,J,L⟩) hT N ⟨i9,ee.at_,ee.fn,eC⟩ (mg_of X G o9) iF mm;have bJ:=Md.mk _ _ _ (St.mS (c:=⟨I,F,J,L⟩) nn N TT TP Y k1 c4) l4 fr;have hF:=Md.mk _ _ _ (St.Ab (c:=⟨I,F,J,L⟩) og N TT O GD R bJ) ot ms;have nb:=Md.mk _ _ _ (St.wH (c:=⟨I,F,J,L⟩) oI N TT O R bJ) gt ej;have hK:=Md.mk _ _ _ (St.wm (c:=⟨I,F,J,L⟩) fH N ⟨cr,as.at_,as.fn,bI⟩ (mg_of X G c3) GS bv a3) je pp;have dp:=Md.mk _ _ _ (St.t7 (c:=⟨I,F,J,L⟩) et N TP e0) jr ol;have hO:=Md.mk _ _ _ (St.pQ (c:=⟨I,F,J,L⟩) g1 N TP bz iv) n9 lx;have c1:=Md.mk _ _ _ (St.zI (c:=⟨I,F,J,L⟩) o3 N TT R) ew oF;have g3:=Md.mk _ _ _ (St.w6 (c:=⟨I,F,J,L⟩) ey N TT TP O Y aT) nC oA;have gm:=Md.mk _ _ _ (St.Ah (c:=⟨I,F,J,L⟩) g9 N TT O GM GA R c1 a1) ls fv;have ii:=Md.mk _ _ _ (St.yC (c:=⟨I,F,J,L⟩) nd N TT TP O GO il R Y c5 dp) i4 mu;have j2:=Md.mk _ _ _ (St.y0 (c:=⟨I,F,J,L⟩) pq N TT O GO gd R Y a1 dp hO) ib o1;have n6:=Md.mk _ _ _ (St.zd (c:=⟨I,F,J,L⟩) fz N TT TP ⟨cr,as.at_,as.fn,bI⟩ (mg_of X G c3) O GS GA bv a3 R c1 Y a1 nR) p3 i2;have KT:Lw.DM l.prog w K mg base ⟨I,F,J,L⟩:=⟨hK,nb,gm,hF,n6,ii,j2,g3⟩;have pd:=Df.mk _ _ _ (Lw.yA (P:=l.prog) (w:=w) (base:=base) (mg:=mg) bc) i8 (mg_of X G hA) bc.kp;have qs:=Df.mk _ _ _ (Lw.wJ be MT pd) eN (mg_of X G fT) be.kp;have oC:=Df.mk _ _ _ (Lw.uO (P:=l.prog) (w:=w) (base:=base) dT MT) eq (mg_of X G m0) dT.kp;have ia:=Df.mk _ _ _ (Lw.yR (P:=l.prog) (w:=w) (base:=base) (mg:=mg) dO) mx (mg_of X G i5) dO.kp;have g8:=Df.mk _ _ _ (Lw.yk (P:=l.prog) (w:=w) (base:=base) (mg:=mg) dI) l1 (mg_of X G nq) dI.kp;have dL:=Df.mk _ _ _ (Lw.zQ (P:=l.prog) (w:=w) (base:=base) a7 MT) hy (mg_of X G me) a7.kp;have ev:=Df.mk _ _ _ (Lw.tf (P:=l.prog) (w:=w) (base:=base) ea MT) eA (mg_of X G o2) ea.kp;have i6:=Df.mk _ _ _ (Lw.BL df MT dL ev) fe (mg_of X G e9) df.kp;have a6:=Df.mk _ _ _ (Lw.Be (P:=l.prog) (w:=w) (base:=base) ba MT) im (mg_of X G i7) ba.kp;have mw:=Df.mk _ _ _ (Lw.wq dd N KT) pl (mg_of X G kt) dd.kp;have hN:=Md.mk _ _ _ (Lw.uI (P:=l.prog) (w:=w) (base:=base) hL TP TS) ht qa;have lb:=Md.mk _ _ _ (Lw.uc (c:=⟨I,F,J,L⟩) ng N TP hN) pe qb;have g4:=Df.mk _ _ _ (Lw.AG da N KT) m3 (mg_of X G pT) da.kp;have n4:=Df.mk _ _ _ (Lw.yo ce MT N KT lb) m1 (mg_of X G na) ce.kp;have lA:=Df.mk _ _ _ (Lw.Bg c7 MT dL oC) kn (mg_of X G hG) c7.kp;have g7:=Df.mk _ _ _ (Lw.zK db N KT ⟨e5,bm.at_,bm.fn,hQ⟩ (mg_of X G o4) ia e3 fy g8 a6) hd (mg_of X G hS) db.kp;exact Lw.CZ bn MT qs g7 lA i6 a6 mw g4 n4
theorem walk {l:PySem.W.OpenLaw}{q:Program}{loose:List Str}{J:(Str->Option Value)->Heap->Prop}{G:World->Heap->Prop}{d:DefRec}{K:Params->PySem.W.Frag}(O:l.most=some 63) (R:d.params.defaults=[])
  (L:∀(w:World) (h:Heap),G w h->(K w.params).In h)
  (F:∀(w:World) (mg:Str->Option Value) (I:Addr) (h:Heap),(K w.params).In h->h.Ns mainGlobals mg->mg d.name=some (.ref I) ->
   ∃fd:FuncData,(∀(s:Shared) (u:Value),BindsTo s fd ⟨[u],[]⟩ [("_law_script",u)])/\∀base:Heap,(K w.params).In base->base.Ns mainGlobals mg->bj l.prog w (K w.params) mg base aW 12 I fd ["_law_script"] (rM (K w.params))) :
  PySem.W.WalkO q loose J G l.row.toRowW d [] (λf vs=>PySem.call f vs):=
 L2.Ac (n:=63) (k:=12) (x := "_law_script") (CX:=λ_=>aW) (sp:=λw=>rM (K w.params)) O av R ⟨rfl,av,av⟩ L F (λ_ _ a ns S _ N=>⟨a,ns,rfl,N,S,λ_=>rfl⟩) λ_ _ _ _ _ z=>z
end Lw
open PySem PySem.W PyProof.Rows
theorem PySem.Challenge.cw_ownroom_k14_shared_and_alone_holds : PySem.Challenge.rw_ownroom_k14_shared_and_alone.Holds := by
 refine Hd.top ⟨Hd.AO (H:=boot_heap) (T:=Hd.Bz) (life:={}) (m:=11) (M:=100000) (gs:=Array.mk []) (d:=boot_drawn) (k:=boot_toks) (an:=some (.ref 6)) (boot_open (by kernel_rfl) av (λs=>by kernel_rfl)) (λP=>by kernel_rfl) (λw=>by kernel_rfl) av (λw os=>Hd.run_ w os),?_⟩
 k_fill
 refine Lw.walk (l:=PySem.Challenge.rw_ownroom_k14_shared_and_alone) rfl rfl (λw h Y=>PySem.W.kIn_of Y) ?F
 case F =>
  intro w mg fa h KX G hmg;apply Lw.all_mk KX G hmg
  all_goals first
   |(apply Lw.MI.of<;>first|k_is|(first|exact λ_ _ _ _ _ _ _=>rfl|exact λ_ _ _ _ _ _ _ _=>rfl|exact λ_ _ _ _ _ _ _ _ _=>rfl|exact λ_ _ _ _ _ _ _ _ _ _=>rfl|exact λ_ _ _ _ _ _ _ _ _ _ _=>rfl))
   |(apply Lw.DI.of<;>first|k_is|(first|exact λ_ _ _ _ _ _ _=>rfl|exact λ_ _ _ _ _ _ _ _=>rfl|exact λ_ _ _ _ _ _ _ _ _=>rfl|exact λ_ _ _ _ _ _ _ _ _ _=>rfl|exact λ_ _ _ _ _ _ _ _ _ _ _=>rfl))
   |(apply Lw.CI.mk;k_is;(constructor<;>k_is);k_is;k_is)
   |(unfold Lw.NI;repeat' first|apply And.intro|exact trivial|k_is|unfold Lw.NI)
   |(unfold Lw.AI;repeat' first|apply And.intro|exact trivial|k_is|unfold Lw.AI)
   |k_is|k_exc|rfl|exact .cons ⟨_,rfl⟩ .nil|exact le_refl 1
