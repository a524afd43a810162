import PyProof.Rows.All
import Wide.All
import OpenK.AllK
import Wide.FinOn
import Lean
import PyProof.EqAt
import PyProof.EqKinds
import PyProof.TupleCall
import PySem.Challenge.RW_ownroom_k20_plain_rooms_deeds
set_option Elab.async false
set_option linter.all false
set_option maxRecDepth 100000
namespace L2
open PySem PySem.Spec PyProof.Rows
abbrev Key:=Sum Int Str
def keyIs:Key→Value→Bool
 | .inl k,v=>Value.isInt k v
 | .inr x,v=>Value.isStrOf x v
def keyH (w:World):Key→Int
 | .inl k=>hashInt k
 | .inr x=>hashStr w x
theorem keyIs_shape:∀ {k:Key}{v:Value},keyIs k v=true→(∃ i t,k=Sum.inl i∧v=Value.int i t)∨(∃ x t,k=Sum.inr x∧v=Value.str x t)
 | .inl i,v,h=>by
   obtain ⟨t,e⟩:=Value.isInt_shape (k:=i) (v:=v) h
   exact .inl ⟨i,t,rfl,e⟩
 | .inr x,v,h=>by
   obtain ⟨t,e⟩:=Value.isStrOf_shape (x:=x) (v:=v) h
   exact .inr ⟨x,t,rfl,e⟩
theorem keyIs_int (i:Int) (t:Tok):keyIs (.inl i) (.int i t)=true:=by simp [keyIs,Value.isInt]
theorem keyIs_str (x:Str) (t:Tok):keyIs (.inr x) (.str x t)=true:=by simp [keyIs,Value.isStrOf]
theorem key_ll (a b:Int):decide ((Sum.inl a:Key)=Sum.inl b)=(a == b):=by
 by_cases e:a=b
 · subst e; simp
 · have h:¬ (Sum.inl a:Key)=Sum.inl b:=λ q=>e (Sum.inl.inj q)
   rw [decide_eq_false h]
   exact (beq_eq_false_iff_ne.mpr e).symm
theorem key_rr (a b:Str):decide ((Sum.inr a:Key)=Sum.inr b)=decide (a=b):=by
 by_cases e:a=b
 · subst e; simp
 · have h:¬ (Sum.inr a:Key)=Sum.inr b:=λ q=>e (Sum.inr.inj q)
   rw [decide_eq_false h,decide_eq_false e]
theorem key_lr (a:Int) (b:Str):decide ((Sum.inl a:Key)=Sum.inr b)=false:=decide_eq_false (λ q=>nomatch q)
theorem key_rl (a:Str) (b:Int):decide ((Sum.inr a:Key)=Sum.inl b)=false:=decide_eq_false (λ q=>nomatch q)
def mixKind (prog:Program) (w:World):PySem.KeyKind prog w Key where
 is:=keyIs
 hash:=keyH w
 inj:=λ v a b ha hb=>by
   rcases keyIs_shape ha with ⟨i,t,rfl,rfl⟩ | ⟨x,t,rfl,rfl⟩
   · rcases keyIs_shape hb with ⟨j,u,rfl,e⟩ | ⟨y,u,rfl,e⟩
     · injection e with e1 _; rw [e1]
     · exact nomatch e
   · rcases keyIs_shape hb with ⟨j,u,rfl,e⟩ | ⟨y,u,rfl,e⟩
     · exact nomatch e
     · injection e with e1 _; rw [e1]
 byValue:=λ k v h=>by
   rcases keyIs_shape h with ⟨i,t,rfl,rfl⟩ | ⟨x,t,rfl,rfl⟩ <;> rfl
 pyHash:=λ hv h=>by
   rcases keyIs_shape hv with ⟨i,t,rfl,rfl⟩ | ⟨x,t,rfl,rfl⟩
   · exact wpAny_pyHash_int h
   · exact wpAny_pyHash_str h
 eqBool:=λ hu hv h=>by
   rcases keyIs_shape hu with ⟨i,t,rfl,rfl⟩ | ⟨x,t,rfl,rfl⟩
   · rcases keyIs_shape hv with ⟨j,u,rfl,rfl⟩ | ⟨y,u,rfl,rfl⟩
     · rw [key_ll] at h; exact wpAny_eqBool_int h
     · rw [key_lr] at h; exact SeqAt.EqAt.int_str i t y u _ _ _ _ h
   · rcases keyIs_shape hv with ⟨j,u,rfl,rfl⟩ | ⟨y,u,rfl,rfl⟩
     · rw [key_rl] at h; exact SeqAt.EqAt.str_int x t j u _ _ _ _ h
     · rw [key_rr] at h; exact wpAny_eqBool_str h
 «strs» := λ k x t v h=>by
   rcases keyIs_shape h with ⟨i,u,rfl,e⟩ | ⟨y,u,rfl,e⟩
   · exact nomatch e
   · injection e with e1 _
     subst e1
     cases v <;> rfl
theorem mixKind_int (prog:Program) (w:World) (i:Int) (t:Tok):(mixKind prog w).is (.inl i) (.int i t)=true:=keyIs_int i t
theorem mixKind_str (prog:Program) (w:World) (x:Str) (t:Tok):(mixKind prog w).is (.inr x) (.str x t)=true:=keyIs_str x t
end L2
namespace L2
open PySem PySem.Spec PyProof.Rows
inductive V where
 | non | bl (b:Bool) | int (i:Int) | str (x:Str) | byt (b:Array UInt8) | flt (b:UInt64) | ref (a:Addr) | ty (n:String)
 deriving DecidableEq
def RelV:V→Value→Prop
 | .non,u=>u=Value.none
 | .bl b,u=>u=Value.bool b
 | .int i,u => ∃ t,u=Value.int i t
 | .str x,u => ∃ t,u=Value.str x t
 | .byt b,u => ∃ t,u=Value.bytes b t
 | .flt b,u => ∃ t,u=Value.float b t
 | .ref a,u=>u=Value.ref a
 | .ty n,u=>u=Value.type n
abbrev Vals:List V→List Value→Prop:=Paired RelV
theorem Vals.length {xs:List V}{us:List Value}(r:Vals xs us):xs.length=us.length:=Paired.length r
theorem Vals.get:∀ {xs:List V}{us:List Value}{i:Nat}{x:V},Vals xs us→xs[i]? = some x→∃ u,us[i]? = some u∧RelV x u
 | _,_,_,_,.nil,e=>by simp at e
 | _,_,0,_,.cons r _,e=>by simp at e; subst e; exact ⟨_,rfl,r⟩
 | _,_,i + 1,x,.cons _ t,e=>by
   obtain ⟨u,h1,h2⟩:=Vals.get (i:=i) (x:=x) t (by simpa using e)
   exact ⟨u,by simpa using h1,h2⟩
theorem Vals.set {x:V}{u:Value}(r:RelV x u):∀ {xs:List V}{us:List Value}(i:Nat),Vals xs us→Vals (xs.set i x) (us.set i u)
 | _,_,_,.nil=>.nil
 | _,_,0,.cons _ t=>.cons r t
 | _,_,i + 1,.cons q t=>.cons q (Vals.set r i t)
theorem Vals.append:∀ {xs ys:List V}{us ws:List Value},Vals xs us→Vals ys ws→Vals (xs ++ ys) (us ++ ws)
 | _,_,_,_,.nil,s=>s
 | _,_,_,_,.cons r t,s=>.cons r (Vals.append t s)
theorem Vals.take:∀ {xs:List V}{us:List Value}(n:Nat),Vals xs us→Vals (xs.take n) (us.take n)
 | _,_,0,_=>.nil
 | _,_,_ + 1,.nil=>.nil
 | _,_,n + 1,.cons r t=>.cons r (Vals.take n t)
theorem Vals.drop:∀ {xs:List V}{us:List Value}(n:Nat),Vals xs us→Vals (xs.drop n) (us.drop n)
 | _,_,0,r=>r
 | _,_,_ + 1,.nil=>.nil
 | _,_,n + 1,.cons _ t=>Vals.drop n t
def RelO:Option V→Option Value→Prop
 | some v,some u=>RelV v u
 | none,none=>True
 | _,_=>False
def KV {κ:Type}:List (κ×V)→List (κ×Value)→Prop:=Paired λ (p:κ×V) (q:κ×Value)=>p.1=q.1∧RelV p.2 q.2
def kV:Key→V
 | .inl i=>.int i
 | .inr x=>.str x
inductive HO where
   | lst (xs:List V)
   | tup (xs:List V)
   | dK (kvs:List (Key×V)) | dT (kvs:List (List Key×V))
   | set (S:Int→Bool) (n:Nat)
   | ins (C dx:Addr) (fs:List (Str×V))
   | own (x:Addr)
   | xd (fs:List (Str×V))
   | met (f x:Addr)
   | rng (lo hi:Int)
   | frz (o:Obj) (u:HO)
   | tbl (ps:Array Value)
   | ext (φ:Heap→Prop)
abbrev Hp:=Addr→Option HO
def upd (H:Hp) (a:Addr) (o:HO):Hp:=λ b=>if b=a then some o else H b
theorem upd_same {H:Hp}{a:Addr}{o:HO}:upd H a o a=some o:=by unfold upd; rw [if_pos rfl]
theorem upd_ne {H:Hp}{a b:Addr}{o:HO}(h:b≠a):upd H a o b=H b:=by unfold upd; rw [if_neg h]
theorem ne_of {H:Hp}{a b:Addr}{o u:HO}(h:H a=some o) (h':H b=some u) (d:o≠u):a≠b:=by
 intro e; subst e; rw [h] at h'; exact d (Option.some.inj h')
theorem ne_of_none {H:Hp}{a b:Addr}{o:HO}(h:H a=some o) (h':H b=none):a≠b:=by
 intro e; subst e; rw [h] at h'; cases h'
section
variable (P:Program) (w:World)
def ObjOk (H:Hp) (h:Heap) (a:Addr):HO→Prop
 | .lst xs=>xs.length≤sizeLine∧∃ (its:List Value) (n:Nat),Vals xs its∧h.get? a=some { cls:=.type "list",data:=.seq its.toArray n }
 | .tup xs=>xs.length≤sizeLine∧∃ its:List Value,Vals xs its∧IsTup h a its.toArray
 | .dK kvs=>kvs.length≤sizeLine∧(a == sysModules)=false∧∃ vs,KV kvs vs∧h.DictOf (mixKind P w) a vs
 | .dT kvs=>kvs.length≤sizeLine∧(a == sysModules)=false∧∃ xs:List (List Key×Addr×Value),
     Paired (λ (p:List Key×V) (q:List Key×Addr×Value)=>p.1=q.1∧H q.2.1=some (.tup (p.1.map kV))∧RelV p.2 q.2.2) kvs xs ∧
     ∃ o es ep,h.get? a=some o∧o.ExactDict∧o.data=.dict es ep∧es.toList=xs.map (entryOfKey (tupleKind (mixKind P w)))∧(xs.map (·.1)).Nodup
 | .set S n=>h.SetOf (intKind P w) a S n
 | .ins C dx fs=>H dx=some (.own a)∧fs.length≤1000∧dx≠a∧h.get? a=some (PySem.W.instObj C dx) ∧
     ∃ mA,h.Ns1 dx mA∧(∀ f,RelO (fs.lookup f) (mA f))∧PySem.Within mA (fs.map (·.1))
 | .own _ => ∃ o,h.get? a=some o
 | .xd fs => ∃ mA,h.Ns1 a mA∧∀ f,RelO (fs.lookup f) (mA f)
 | .rng lo hi => ∃ t u v,h.get? a=some { cls:=.type "range",data:=.fields #[.int lo t,.int hi u,.int 1 v] }
 | .frz o u=>h.get? a=some o∧ObjOk H h a u
 | .tbl ps=>h.get? a=some { cls:=.none,data:=.fields ps }
 | .met f x=>h.get? a=some (PySem.W.methodObj (.ref f) (.ref x))
 | .ext φ=>φ h∧(∃ o,h.get? a=some o)∧∀ h1 h2:Heap, φ h1→(∀ o,h1.get? a=some o→h2.get? a=some o)→φ h2
def HOk (H:Hp) (h:Heap):Prop := ∀ a o,H a=some o→ObjOk P w H h a o
end
section
variable {P:Program}{w:World}{H H':Hp}{h h':Heap}{a:Addr}{o:HO}
theorem ObjOk.lt (x:ObjOk P w H h a o):a < h.objs.size:=by
 cases o with
 | lst xs=>obtain ⟨_,_,_,_,e⟩:=x; exact Heap.lt_size e
 | tup xs=>obtain ⟨_,_,_,p⟩:=x; exact p.lt
 | dK kvs=>obtain ⟨_,_,_,_,o,_,_,e,_⟩:=x; exact Heap.lt_size e
 | dT kvs=>obtain ⟨_,_,_,_,o,_,_,e,_⟩:=x; exact Heap.lt_size e
 | set S n=>obtain ⟨o,_,_,_,e,_⟩:=x; exact Heap.lt_size e
 | ins C dx fs=>obtain ⟨_,_,_,e,_⟩:=x; exact Heap.lt_size e
 | own y=>obtain ⟨_,e⟩:=x; exact Heap.lt_size e
 | xd fs=>obtain ⟨_,⟨_,_,_,e,_⟩,_⟩:=x; exact Heap.lt_size e
 | rng lo hi=>obtain ⟨_,_,_,e⟩:=x; exact Heap.lt_size e
 | frz ob u=>obtain ⟨e,_⟩:=x; exact Heap.lt_size e
 | tbl ps=>exact Heap.lt_size (show h.get? a=some _ from x)
 | met f y=>exact Heap.lt_size (show h.get? a=some _ from x)
 | ext φ=>obtain ⟨_,⟨_,e⟩,_⟩:=x; exact Heap.lt_size e
theorem Paired.mapP {α β:Type}{F G:α→β→Prop}:∀ {l₁:List α}{l₂:List β},Paired F l₁ l₂→(∀ a b,F a b→G a b)→Paired G l₁ l₂
 | _,_,.nil,_=>.nil
 | _,_,.cons r t,f=>.cons (f _ _ r) (Paired.mapP t f)
theorem ObjOk.stay (x:ObjOk P w H h a o) (k:∀ b u,(b=a∨H b=some (.own a))→h.get? b=some u→h'.get? b=some u)
   (ho:∀ b,H b=some (.own a)→H' b=some (.own a)) (ht:∀ b xs,H b=some (.tup xs)→H' b=some (.tup xs)):ObjOk P w H' h' a o:=by
 induction o with
 | lst xs=>obtain ⟨z,its,n,r,e⟩:=x; exact ⟨z,its,n,r,k _ _ (.inl rfl) e⟩
 | tup xs=>obtain ⟨z,its,r,ob,e,c⟩:=x; exact ⟨z,its,r,ob,k _ _ (.inl rfl) e,c⟩
 | dK kvs=>obtain ⟨z,y,vs,r,ob,es,ep,e,c⟩:=x; exact ⟨z,y,vs,r,ob,es,ep,k _ _ (.inl rfl) e,c⟩
 | dT kvs =>
   obtain ⟨z,y,xs,r,ob,es,ep,e,c⟩:=x
   exact ⟨z,y,xs,Paired.mapP r λ p q z=>⟨z.1,ht _ _ z.2.1,z.2.2⟩,ob,es,ep,k _ _ (.inl rfl) e,c⟩
 | set S n=>obtain ⟨ob,es,ep,t,e,c⟩:=x; exact ⟨ob,es,ep,t,k _ _ (.inl rfl) e,c⟩
 | ins C dx fs =>
   obtain ⟨d,z,ne,e,mA,⟨od,es,ep,e2,c⟩,r⟩:=x
   exact ⟨ho _ d,z,ne,k _ _ (.inl rfl) e,mA,⟨od,es,ep,k _ _ (.inr d) e2,c⟩,r⟩
 | own y=>obtain ⟨ob,e⟩:=x; exact ⟨ob,k _ _ (.inl rfl) e⟩
 | xd fs=>obtain ⟨mA,⟨od,es,ep,e,c⟩,r⟩:=x; exact ⟨mA,⟨od,es,ep,k _ _ (.inl rfl) e,c⟩,r⟩
 | rng lo hi=>obtain ⟨t,u,v,e⟩:=x; exact ⟨t,u,v,k _ _ (.inl rfl) e⟩
 | frz ob u ih=>obtain ⟨e,q⟩:=x; exact ⟨k _ _ (.inl rfl) e,ih q⟩
 | tbl ps =>
   have e:h.get? a=some { cls:=.none,data:=.fields ps }:=x
   show h'.get? a=some { cls:=.none,data:=.fields ps }
   exact k a _ (.inl rfl) e
 | met f y =>
   have e:h.get? a=some (PySem.W.methodObj (.ref f) (.ref y)):=x
   show h'.get? a=some (PySem.W.methodObj (.ref f) (.ref y))
   exact k a _ (.inl rfl) e
 | ext φ=>obtain ⟨p,⟨o,e⟩,st⟩:=x; exact ⟨st _ _ p λ o q=>k _ _ (.inl rfl) q,⟨o,k _ _ (.inl rfl) e⟩,st⟩
theorem HOk.lt (x:HOk P w H h) (e:H a=some o):a < h.objs.size:=(x a o e).lt
theorem HOk.fresh (x:HOk P w H h) (e:h.objs.size≤a):H a=none:=by
 cases q:H a with
 | none=>rfl
 | some u=>exact absurd (Nat.lt_of_lt_of_le (x.lt q) e) (Nat.lt_irrefl _)
theorem HOk.kept (x:HOk P w H h) (k:∀ b u,h.get? b=some u→h'.get? b=some u):HOk P w H h':=λ a o e =>
 (x a o e).stay (λ b u _ q=>k b u q) (λ _ q=>q) λ _ _ q=>q
theorem HOk.laid (x:HOk P w H h) (k:∀ b u,h.get? b=some u→h'.get? b=some u) (hp:h.objs.size≤a) (new:ObjOk P w (upd H a o) h' a o):HOk P w (upd H a o) h':=λ b u e=>by
 have hn:=x.fresh hp
 by_cases hb:b=a
 · subst hb; rw [upd_same] at e; cases e; exact new
 · rw [upd_ne hb] at e
   exact (x b u e).stay (λ c v _ q=>k c v q) (λ c q=>by rw [upd_ne (ne_of_none q hn)]; exact q) λ c xs q=>by rw [upd_ne (ne_of_none q hn)]; exact q
end
def Rd (H:Hp) (a:Addr) (u:HO):Prop:=H a=some u∨∃ o,H a=some (.frz o u)
theorem Rd.ok {P:Program}{w:World}{H:Hp}{h:Heap}{a:Addr}{u:HO}(r:Rd H a u) (x:HOk P w H h):ObjOk P w H h a u:=by
 rcases r with r | ⟨o,r⟩
 · exact x a u r
 · obtain ⟨_,q⟩:=x a _ r
   exact q
def Mut:Option HO→Prop
 | some (.lst _)=>True
 | some (.dK _)=>True
 | some (.dT _)=>True
 | some (.set _ _)=>True
 | some (.ins _ _ _)=>True
 | some (.ext _)=>True
 | _=>False
section
variable {P:Program}{w:World}{H:Hp}{h h':Heap}{x e:Addr}{o':HO}
theorem HOk.write (ok:HOk P w H h) (mu:Mut (H x)) (he:e=x∨H e=some (.own x)) (k:∀ b u,b≠e→h.get? b=some u→h'.get? b=some u) (heo:∃ u,h'.get? e=some u)
   (new:ObjOk P w (upd H x o') h' x o'):HOk P w (upd H x o') h':=λ b u q=>by
 have nown:∀ c y,H c=some (.own y)→c≠x:=λ c y r z=>by subst z; rw [r] at mu; exact mu
 have ntup:∀ c xs,H c=some (.tup xs)→c≠x:=λ c xs r z=>by subst z; rw [r] at mu; exact mu
 by_cases hb:b=x
 · subst hb; rw [upd_same] at q; cases q; exact new
 · rw [upd_ne hb] at q
   by_cases hbe:b=e
   · have q':H b=some (.own x):=by
       rcases he with z | z
       · exact absurd (hbe.trans z) hb
       · rw [hbe]; exact z
     rw [q] at q'; cases q'
     obtain ⟨v,hv⟩:=heo
     exact ⟨v,by rw [hbe]; exact hv⟩
   · refine (ok b u q).stay (λ c v hc r=>k c v ?_ r) (λ c r=>by rw [upd_ne (nown c b r)]; exact r) λ c xs r=>by rw [upd_ne (ntup c xs r)]; exact r
     rcases hc with rfl | hc
     · exact hbe
     · rintro rfl
       rcases he with z | z
       · exact nown c b hc z
       · rw [hc] at z; cases z; exact hb rfl
end
structure Un (fs ex:List Addr) (H H':Hp) (h h':Heap):Prop where
 keep:∀ b o,h.get? b=some o→H b=none→b∉fs→b∉ex→h'.get? b=some o
 slot:∀ b o,h.get? b=some o→H b=none→b∈fs→b∉ex→∃ sl,h'.get? b=some { o with slots:=sl }
 free:∀ b o,h.get? b=some o→H b=none→b∉ex→H' b=none
 there:∀ b o,h.get? b=some o→b∉ex→∃ o',h'.get? b=some o'
 tups:∀ b xs,H b=some (.tup xs)→H' b=some (.tup xs)
 frzs:∀ b o u,H b=some (.frz o u)→H' b=some (.frz o u)
 tbls:∀ b ps,H b=some (.tbl ps)→∃ more,H' b=some (.tbl (ps ++ more))
section
variable {fs fs' ex ex':List Addr}{H H1 H2:Hp}{h h1 h2 h':Heap}{a x e:Addr}{o:HO}
theorem Un.any (u:Un fs ex H H1 h h1) {b:Addr}{ob:Obj}(q:h.get? b=some ob) (n:H b=none) (hx:b∉ex):∃ sl,h1.get? b=some { ob with slots:=sl }:=by
 by_cases hb:b∈fs
 · exact u.slot b ob q n hb hx
 · exact ⟨ob.slots,u.keep b ob q n hb hx⟩
theorem Un.kept (k:∀ b u,h.get? b=some u→h'.get? b=some u):Un fs ex H H h h' :=
 ⟨λ b ob q _ _ _=>k b ob q,λ b ob q _ _ _=>⟨ob.slots,k b ob q⟩,λ _ _ _ n _=>n,λ b ob q _=>⟨ob,k b ob q⟩,λ _ _ q=>q,λ _ _ _ q=>q,λ _ ps q=>⟨#[],by rw [q]; simp⟩⟩
theorem Un.refl:Un fs ex H H h h:=Un.kept λ _ _ q=>q
theorem Un.laid (k:∀ b u,h.get? b=some u→h'.get? b=some u) (hp:h.objs.size≤a) (hn:H a=none):Un fs ex H (upd H a o) h h' where
 keep:=λ b u q _ _ _=>k b u q
 slot:=λ b u q _ _ _=>⟨u.slots,k b u q⟩
 free:=λ b u q n _=>by rw [upd_ne (Nat.ne_of_lt (Nat.lt_of_lt_of_le (Heap.lt_size q) hp))]; exact n
 there:=λ b u q _=>⟨u,k b u q⟩
 tups:=λ b xs q=>by rw [upd_ne (ne_of_none q hn)]; exact q
 frzs:=λ b u xs q=>by rw [upd_ne (ne_of_none q hn)]; exact q
 tbls:=λ b ps q=>⟨#[],by rw [upd_ne (ne_of_none q hn),q]; simp⟩
theorem Un.write (mu:Mut (H x)) (he:e=x∨H e=some (.own x)) (k:∀ b u,b≠e→h.get? b=some u→h'.get? b=some u) (heo:∃ u,h'.get? e=some u):Un fs ex H (upd H x o) h h':=by
 have hx:∀ b,H b=none→b≠x:=λ b n z=>by subst z; rw [n] at mu; exact mu
 have hb:∀ b,H b=none→b≠e:=λ b n z=>by
   subst z
   rcases he with r | r
   · exact hx b n r
   · rw [n] at r; cases r
 have hm:∀ b u,H b=some u→¬ Mut (some u)→b≠x:=λ b u q nm z=>by subst z; rw [q] at mu; exact nm mu
 refine ⟨λ b u q n _ _=>k b u (hb b n) q,λ b u q n _ _=>⟨u.slots,k b u (hb b n) q⟩,λ b u q n _=>by rw [upd_ne (hx b n)]; exact n,λ b u q _=>?_,
   λ b xs q=>by rw [upd_ne (hm b _ q λ z=>z)]; exact q,λ b u xs q=>by rw [upd_ne (hm b _ q λ z=>z)]; exact q,λ b ps q=>⟨#[],by rw [upd_ne (hm b _ q λ z=>z),q]; simp⟩⟩
 by_cases hbe:b=e
 · subst hbe; exact heo
 · exact ⟨u,k b u hbe q⟩
end
def trk (h:Heap) (H:Hp):List Addr:=(List.range h.objs.size).filter λ a=>(H a).isSome
def hidT (h:Heap) (H:Hp):Heap:=PySem.W.hideAll h (trk h H)
theorem hidT_size (h:Heap) (H:Hp):(hidT h H).objs.size=h.objs.size:=PySem.W.hideAll_size _ _
theorem hidT_get {h:Heap}{H:Hp}{b:Addr}{o:Obj}(e:h.get? b=some o) (n:H b=none):(hidT h H).get? b=some o :=
 PySem.W.hideAll_get _ e λ hm=>by
   have q:(H b).isSome=true:=(List.mem_filter.mp hm).2
   rw [n] at q; simp at q
theorem of_hidT {h:Heap}{H:Hp}{b:Addr}{o:Obj}(e:(hidT h H).get? b=some o):h.get? b=some o∧H b=none:=by
 have e':h.get? b=some o:=PySem.W.of_hideAll (trk h H) e
 refine ⟨e',?_⟩
 cases q:H b with
 | none=>rfl
 | some x =>
   have hm:b∈trk h H:=List.mem_filter.mpr ⟨List.mem_range.mpr (Heap.lt_size e'),by simp [q]⟩
   have z:(hidT h H).get? b=none:=PySem.W.hideAll_none (trk h H) hm
   rw [z] at e; cases e
end L2
namespace L2
open PySem PySem.Spec PyProof.Rows
structure Mod (K:PySem.W.Frag) (mg:Str→Option Value) (base:Heap):Prop where
 kin:K.In base
 glob:base.Ns mainGlobals mg
 blt:∃ mb,base.Ns builtinsNs mb∧∀ x:Str,x ≠ "__name__" → mb x=bootBuiltins x
 nolimit:base.NoLimit
structure Cx where
 prog:Program
 w:World
 K:PySem.W.Frag
 mg:Str→Option Value
 base:Heap
 A:Around
 N:List Str
 s₀:Shared
 H₀:Hp
 env:Env
 outer:List Env
 stack:List Env
 ex:List Addr
 fn:Str→Bool
 calm:Bool
 pn:List (Addr×Obj)
 xe:Value→Shared→Prop
def frs (l:List Env):List Addr:=l.filterMap (·.frame)
abbrev Cx.fs (X:Cx):List Addr:=frs X.outer
def Vis (sc:Scope) (x:Str):Prop:=sc.names.lookup x=some .local∨sc.names.lookup x=some .cell∨sc.names.lookup x=some .free
def Loc (sc:Scope) (x:Str):Prop:=sc.names.lookup x=some .local∨sc.names.lookup x=some .cell
def Look (env:Env) (h:Heap) (m:Str→Option Value) (x:Str) (u:Value):Prop :=
 (env.kindOf x=some .local∧m x=some u)∨((env.kindOf x=some .cell∨env.kindOf x=some .free)∧∃ c,env.cells.lookup x=some c∧h.IsCell c (some u))
structure Cx.Ok (X:Cx):Prop where
 mod:Mod X.K X.mg X.base
 kind:X.env.scope.kind=.function
 glob:X.env.globals=mainGlobals
 blt:X.env.builtins=builtinsNs
 above:X.s₀.heap.objs.size≤X.env.locals
 inj:∀ x y c,X.env.cells.lookup x=some c→X.env.cells.lookup y=some c→x=y
 has:∀ x,(X.env.kindOf x=some .cell∨X.env.kindOf x=some .free)→∃ c,X.env.cells.lookup x=some c
 cab:∀ x c,X.fn x=true→X.env.cells.lookup x=some c→X.s₀.heap.objs.size≤c
 hd:X.calm=true→X.A.handled=none
 frames:X.A.frames=some X.stack
 stk:X.stack=X.outer∨(X.stack=X.env :: X.outer∧X.env.frame=some X.env.locals)
 exf:∀ b∈X.ex,b≠X.env.locals∧∀ x c,X.env.cells.lookup x=some c→c≠b
 bs:∀ b o,X.base.get? b=some o→X.s₀.heap.get? b=some o∧X.H₀ b=none
 bsz:X.base.objs.size≤X.s₀.heap.objs.size
 noex:∀ b o,X.base.get? b=some o→b∉X.ex
 exfs:∀ b∈X.ex,b∉X.fs
 funs:X.s₀.heap.FunFrames X.base X.outer
 frf:∀ b∈X.fs,X.H₀ b=none
structure Inv (X:Cx) (pins:List (Addr×Obj)) (σ:List (Option V)) (H:Hp) (s:Shared):Prop where
 ok:X.Ok
 os:s.os=X.s₀.os
 bare:AllBare s.gens
 base:Un X.fs X.ex X.H₀ H X.s₀.heap s.heap
 loc:∃ m,s.heap.Ns X.env.locals m∧∀ (i:Nat) (x:Str) (v:V),X.N[i]? = some x→σ[i]? = some (some v)→Vis X.env.scope x→∃ u,RelV v u∧Look X.env s.heap m x u
 cell:∀ x c,X.env.cells.lookup x=some c→∃ v,s.heap.IsCell c v
 free:H X.env.locals=none
 freeC:∀ x c,X.env.cells.lookup x=some c→H c=none
 pin:∀ p∈X.pn ++ pins,s.heap.get? p.1=some p.2∧H p.1=none∧p.1≠X.env.locals∧p.1∉X.fs∧∀ v,p.2.data≠.cell v
 hok:HOk X.prog X.w H s.heap
 len:σ.length=X.N.length
section
variable {X:Cx}{pins:List (Addr×Obj)}{σ:List (Option V)}{H H':Hp}{s:Shared}{h':Heap}
theorem Cx.Ok.nofr (ok:X.Ok) {b:Addr}{o:Obj}(e:X.base.get? b=some o):b∉X.fs:=λ hb=>by
 have:=(ok.funs.mem hb).1
 rw [e] at this; cases this
theorem Inv.bs (I:Inv X pins σ H s):∀ b o,X.base.get? b=some o→s.heap.get? b=some o∧H b=none:=λ b o e =>
 ⟨I.base.keep b o (I.ok.bs b o e).1 (I.ok.bs b o e).2 (I.ok.nofr e) (I.ok.noex b o e),I.base.free b o (I.ok.bs b o e).1 (I.ok.bs b o e).2 (I.ok.noex b o e)⟩
theorem Inv.bk (I:Inv X pins σ H s):∀ b o,X.base.get? b=some o→s.heap.get? b=some o:=λ b o e=>(I.bs b o e).1
theorem Inv.mod (I:Inv X pins σ H s):Mod X.K X.mg X.base:=I.ok.mod
theorem Inv.kIn (I:Inv X pins σ H s):X.K.In s.heap:=I.ok.mod.kin.keeps I.bk
theorem Inv.lt (I:Inv X pins σ H s):X.env.locals < s.heap.objs.size:=let ⟨_,hn,_⟩:=I.loc; hn.lt
theorem Inv.sz (I:Inv X pins σ H s):X.s₀.heap.objs.size≤s.heap.objs.size:=Nat.le_trans I.ok.above (Nat.le_of_lt I.lt)
theorem Inv.nofs (I:Inv X pins σ H s) {a:Addr}(h:s.heap.objs.size≤a):a∉X.fs:=λ hb=>by
 obtain ⟨_,o,ho,_⟩:=I.ok.funs.mem hb
 exact absurd (Nat.lt_of_lt_of_le (Heap.lt_size ho) (Nat.le_trans I.sz h)) (Nat.lt_irrefl _)
theorem Inv.cne (I:Inv X pins σ H s):∀ x c,X.env.cells.lookup x=some c→c≠X.env.locals:=λ x c e z=>by
 obtain ⟨v,o,ho,hd⟩:=I.cell x c e
 obtain ⟨m,⟨o',es,ep,ho',hd',_⟩,_⟩:=I.loc
 rw [z,ho'] at ho; cases ho; rw [hd'] at hd; cases hd
theorem Inv.funs (I:Inv X pins σ H s):s.heap.FunFrames X.base X.outer:=by
 have all:∀ (l:List Env),(∀ b∈frs l,b∈X.fs)→X.s₀.heap.FunFrames X.base l→s.heap.FunFrames X.base l:=by
   intro l
   induction l with
   | nil=>intro _ _; trivial
   | cons env r ih =>
     intro hs hl
     obtain ⟨hk,⟨L,o,hf,hn,ho,hd⟩,hr⟩:=hl
     have hL:L∈X.fs:=hs L (by unfold frs; rw [List.filterMap_cons,hf]; exact List.mem_cons_self)
     obtain ⟨sl,e⟩:=I.base.slot L o ho (I.ok.frf L hL) hL λ z=>I.ok.exfs L z hL
     exact ⟨hk,⟨L,_,hf,hn,e,hd⟩,ih (λ b hb=>hs b (by unfold frs; rw [List.filterMap_cons,hf]; exact List.mem_cons_of_mem _ hb)) hr⟩
 exact all X.outer (λ _ hb=>hb) I.ok.funs
theorem Inv.stack (I:Inv X pins σ H s):s.heap.FunFrames X.base X.stack:=by
 rcases I.ok.stk with e | ⟨e,hf⟩
 · rw [e]; exact I.funs
 · rw [e]
   obtain ⟨m,hn,_⟩:=I.loc
   refine .cons (by rw [I.ok.kind]; decide) hf hn ?_ I.funs
   exact Heap.get?_none_of_le (Nat.le_trans I.ok.bsz I.ok.above)
theorem Inv.stkSub (I:Inv X pins σ H s):∀ b∈frs X.stack,b∈X.env.locals :: X.fs:=λ b hb=>by
 rcases I.ok.stk with e | ⟨e,hf⟩
 · rw [e] at hb; exact List.mem_cons_of_mem _ hb
 · rw [e] at hb
   unfold frs at hb
   rw [List.filterMap_cons,hf] at hb
   exact hb
theorem Inv.stkFree (I:Inv X pins σ H s):∀ b∈frs X.stack,H b=none:=λ b hb=>by
 rcases List.mem_cons.mp (I.stkSub b hb) with e | hb
 · rw [e]; exact I.free
 · obtain ⟨_,o,ho,_⟩:=I.ok.funs.mem hb
   exact I.base.free b o ho (I.ok.frf b hb) λ z=>I.ok.exfs b z hb
theorem Inv.step {g':Array GenState}{t':Nat}{d':Drawn}{ch:List Addr}(I:Inv X pins σ H s)
   (hch:∀ b∈ch,(b∈X.ex∨X.s₀.heap.objs.size≤b)∧b≠X.env.locals∧(∀ x c,X.env.cells.lookup x=some c→c≠b)∧∀ p∈X.pn ++ pins,p.1≠b)
   (keep:∀ b o,b≠X.env.locals→b∉X.fs→b∉ch→s.heap.get? b=some o→H b=none→h'.get? b=some o)
   (slot:∀ b o,b≠X.env.locals→b∈X.fs→b∉ch→s.heap.get? b=some o→H b=none→∃ sl,h'.get? b=some { o with slots:=sl }) (free:∀ b o,b∉ch→s.heap.get? b=some o→H b=none→H' b=none)
   (there:∀ b o,b∉ch→s.heap.get? b=some o→∃ o',h'.get? b=some o')
   (tups:∀ b xs,H b=some (.tup xs)→H' b=some (.tup xs)) (frzs:∀ b o u,H b=some (.frz o u)→H' b=some (.frz o u)) (tbls:∀ b ps,H b=some (.tbl ps)→∃ more,H' b=some (.tbl (ps ++ more)))
   (ns:∀ m,s.heap.Ns X.env.locals m→h'.Ns X.env.locals m) (hok:HOk X.prog X.w H' h') (hg:AllBare g') :
   Inv X pins σ H' { s with heap:=h',gens:=g',drawn:=d',toks:=t' }:=by
 have neL:∀ b o,X.s₀.heap.get? b=some o→b≠X.env.locals:=λ b o e=>Nat.ne_of_lt (Nat.lt_of_lt_of_le (Heap.lt_size e) I.ok.above)
 have neC:∀ b o,X.s₀.heap.get? b=some o→b∉X.ex→b∉ch:=λ b o e hx hb=>by
   rcases (hch b hb).1 with z | z
   · exact hx z
   · exact absurd (Nat.lt_of_lt_of_le (Heap.lt_size e) z) (Nat.lt_irrefl _)
 have cellK:∀ x c,X.env.cells.lookup x=some c→∀ v,s.heap.IsCell c v→h'.IsCell c v:=λ x c e v ⟨o,ho,hd⟩=>by
   have nch:c∉ch:=λ z=>(hch c z).2.2.1 x c e rfl
   by_cases hc:c∈X.fs
   · obtain ⟨sl,q⟩:=slot c o (I.cne x c e) hc nch ho (I.freeC x c e)
     exact ⟨_,q,hd⟩
   · exact ⟨o,keep c o (I.cne x c e) hc nch ho (I.freeC x c e),hd⟩
 refine ⟨I.ok,I.os,hg,⟨λ b o e n hb hx=>?_,λ b o e n hb hx=>?_,λ b o e n hx=>?_,λ b o e hx=>?_,λ b xs e=>tups b xs (I.base.tups b xs e),λ b o xs e=>frzs b o xs (I.base.frzs b o xs e),λ b ps e=>?_⟩,?_,λ x c e=>?_,?_,λ x c e=>?_,λ p hp=>?_,hok,I.len⟩
 · exact keep b o (neL b o e) hb (neC b o e hx) (I.base.keep b o e n hb hx) (I.base.free b o e n hx)
 · obtain ⟨sl,e1⟩:=I.base.slot b o e n hb hx
   obtain ⟨sl',e2⟩:=slot b _ (neL b o e) hb (neC b o e hx) e1 (I.base.free b o e n hx)
   exact ⟨sl',e2⟩
 · obtain ⟨o',e1⟩:=I.base.there b o e hx
   exact free b o' (neC b o e hx) e1 (I.base.free b o e n hx)
 · obtain ⟨o',e1⟩:=I.base.there b o e hx
   exact there b o' (neC b o e hx) e1
 · obtain ⟨m1,e1⟩:=I.base.tbls b ps e
   obtain ⟨m2,e2⟩:=tbls b _ e1
   exact ⟨m1 ++ m2,by rw [e2,Array.append_assoc]⟩
 · obtain ⟨m,hn,hl⟩:=I.loc
   refine ⟨m,ns m hn,λ i x v e1 e2 e3=>?_⟩
   obtain ⟨u,r,l⟩:=hl i x v e1 e2 e3
   refine ⟨u,r,?_⟩
   rcases l with l | ⟨k,c,e,z⟩
   · exact .inl l
   · exact .inr ⟨k,c,e,cellK x c e _ z⟩
 · obtain ⟨v,z⟩:=I.cell x c e
   exact ⟨v,cellK x c e v z⟩
 · obtain ⟨m,⟨o,_,_,ho,_⟩,_⟩:=I.loc
   exact free _ o (λ z=>(hch _ z).2.1 rfl) ho I.free
 · obtain ⟨v,o,ho,hd⟩:=I.cell x c e
   exact free c o (λ z=>(hch c z).2.2.1 x c e rfl) ho (I.freeC x c e)
 · obtain ⟨e,n,ne,nf,d⟩:=I.pin p hp
   have nch:p.1∉ch:=λ z=>(hch p.1 z).2.2.2 p hp rfl
   exact ⟨keep p.1 p.2 ne nf nch e n,free p.1 p.2 nch e n,ne,nf,d⟩
theorem Inv.un {t':Nat}(I:Inv X pins σ H s) (u:Un X.fs [] H H' s.heap h') (hok:HOk X.prog X.w H' h'):Inv X pins σ H' { s with heap:=h',toks:=t' }:=by
 obtain ⟨m,⟨o,es,ep,ho,r⟩,_⟩:=id I.loc
 obtain ⟨sl,hL⟩:=u.any ho I.free (by simp)
 exact I.step (g':=s.gens) (d':=s.drawn) (ch:=[]) (λ _ z=>nomatch z) (λ b o _ hb _ e n=>u.keep b o e n hb (by simp)) (λ b o _ hb _ e n=>u.slot b o e n hb (by simp)) (λ b o _ e n=>u.free b o e n (by simp)) (λ b o _ e=>u.there b o e (by simp)) u.tups u.frzs u.tbls (λ m' hm=>by
   obtain ⟨o',es',ep',ho',r'⟩:=hm
   rw [ho] at ho'; cases ho'
   exact ⟨_,es',ep',hL,r'⟩) hok I.bare
theorem Inv.call {g':Array GenState}{t':Nat}{d':Drawn}{ch:List Addr}(I:Inv X pins σ H s) (u:Un (frs X.stack) ch H H' s.heap h') (hok:HOk X.prog X.w H' h') (hg:AllBare g')
   (hch:∀ b∈ch,(b∈X.ex∨X.s₀.heap.objs.size≤b)∧b≠X.env.locals∧(∀ x c,X.env.cells.lookup x=some c→c≠b)∧∀ p∈X.pn ++ pins,p.1≠b) :
   Inv X pins σ H' { s with heap:=h',gens:=g',drawn:=d',toks:=t' }:=by
 obtain ⟨m,⟨o,es,ep,ho,r⟩,_⟩:=id I.loc
 obtain ⟨sl,hL⟩:=u.any ho I.free λ z=>(hch _ z).2.1 rfl
 exact I.step (ch:=ch) hch (λ b o hL hb hc e n=>u.keep b o e n (λ z=>(List.mem_cons.mp (I.stkSub b z)).elim hL hb) hc) (λ b o _ _ hc e n=>u.any e n hc) (λ b o hc e n=>u.free b o e n hc) (λ b o hc e=>u.there b o e hc) u.tups u.frzs u.tbls (λ m' hm=>by
   obtain ⟨o',es',ep',ho',r'⟩:=hm
   rw [ho] at ho'; cases ho'
   exact ⟨_,es',ep',hL,r'⟩) hok hg
theorem Inv.turned {t':Nat}{it:Addr}(I:Inv X pins σ H s) (k:∀ b o,b≠it→s.heap.get? b=some o→h'.get? b=some o) (hn:H it=none) (hL:it≠X.env.locals)
   (h1:it∈X.ex∨X.s₀.heap.objs.size≤it) (h2:∀ x c,X.env.cells.lookup x=some c→c≠it) (h3:∀ p∈X.pn ++ pins,p.1≠it):Inv X pins σ H { s with heap:=h',toks:=t' }:=by
 have nit:∀ b u,H b=some u→b≠it:=λ b u e z=>by rw [z,hn] at e; cases e
 refine I.step (g':=s.gens) (d':=s.drawn) (ch:=[it]) (λ b hb=>?_) (λ b o _ _ hc e _=>k b o (λ z=>hc (by simp [z])) e) (λ b o _ _ hc e _=>⟨o.slots,k b o (λ z=>hc (by simp [z])) e⟩) (λ _ _ _ _ n=>n)
   (λ b o hc e=>⟨o,k b o (λ z=>hc (by simp [z])) e⟩) (λ _ _ e=>e) (λ _ _ _ e=>e) (λ b ps e=>⟨#[],by rw [e]; simp⟩) (λ m hm=>?_) (λ b u e=>?_) I.bare
 · have e:b=it:=by simpa using hb
   subst e
   exact ⟨h1,hL,h2,h3⟩
 · obtain ⟨o,es,ep,ho,r⟩:=hm
   exact ⟨o,es,ep,k _ o (Ne.symm hL) ho,r⟩
 · refine (I.hok b u e).stay (λ c v hc q=>k c v ?_ q) (λ _ q=>q) λ _ _ q=>q
   rcases hc with z | z
   · rw [z]; exact nit b u e
   · exact nit c _ z
theorem Inv.tok (I:Inv X pins σ H s) (t:Nat):Inv X pins σ H { s with toks:=t }:=I.un (h':=s.heap) (t':=t) Un.refl I.hok
theorem Inv.kept {t':Nat}(I:Inv X pins σ H s) (k:∀ b u,s.heap.get? b=some u→h'.get? b=some u):Inv X pins σ H { s with heap:=h',toks:=t' }:=I.un (Un.kept k) (I.hok.kept k)
theorem Inv.laid {a:Addr}{o:HO}{t':Nat}(I:Inv X pins σ H s) (k:∀ b u,s.heap.get? b=some u→h'.get? b=some u) (hp:s.heap.objs.size≤a) (new:ObjOk X.prog X.w (upd H a o) h' a o) :
   Inv X pins σ (upd H a o) { s with heap:=h',toks:=t' }:=I.un (Un.laid k hp (I.hok.fresh hp)) (I.hok.laid k hp new)
theorem Inv.write {x e:Addr}{o:HO}{t':Nat}(I:Inv X pins σ H s) (mu:Mut (H x)) (he:e=x∨H e=some (.own x)) (k:∀ b u,b≠e→s.heap.get? b=some u→h'.get? b=some u) (heo:∃ u,h'.get? e=some u)
   (new:ObjOk X.prog X.w (upd H x o) h' x o):Inv X pins σ (upd H x o) { s with heap:=h',toks:=t' }:=I.un (Un.write mu he k heo) (I.hok.write mu he k heo new)
theorem Inv.pins_of {pins':List (Addr×Obj)}(I:Inv X pins σ H s) (h:∀ p∈pins',s.heap.get? p.1=some p.2∧H p.1=none∧p.1≠X.env.locals∧p.1∉X.fs∧∀ v,p.2.data≠.cell v):Inv X pins' σ H s :=
 ⟨I.ok,I.os,I.bare,I.base,I.loc,I.cell,I.free,I.freeC,λ p hp=>(List.mem_append.mp hp).elim (λ z=>I.pin p (List.mem_append_left _ z)) (h p),I.hok,I.len⟩
theorem nodup_ix {N:List Str}(hN:N.Nodup) {i j:Nat}{x:Str}(a:N[i]? = some x) (b:N[j]? = some x):i=j:=by
 obtain ⟨h1,e1⟩:=List.getElem?_eq_some_iff.mp a
 obtain ⟨h2,e2⟩:=List.getElem?_eq_some_iff.mp b
 exact (List.getElem_inj hN).mp (e1.trans e2.symm)
theorem store_ok2 {M:Model}{A:Around}{E:Value→Shared→Prop}{i:Nat}{x:Str}{v:V}{u:Value}{Q:Unit→Shared→Prop}(I:Inv X pins σ H s) (hN:X.N.Nodup) (hi:X.N[i]? = some x) (hx:Loc X.env.scope x) (r:RelV v u)
   (h:∀ s',Inv X pins (σ.set i (some v)) H s'→(∃ a,Heap.SameBut a s.heap s'.heap∧(a=X.env.locals∨X.env.cells.lookup x=some a))→Q () s') (hf:X.fn x=true∨X.env.scope.names.lookup x=some .local:=by first | exact .inl rfl | exact .inr rfl | assumption):wpAny M A (storeName X.env x u) Q E s:=by
 obtain ⟨m,hn,hl⟩:=id I.loc
 have hcls:(X.env.scope.kind == .class || (X.env.scope.kind == .module && X.env.locals != X.env.globals))=false:=by rw [I.ok.kind]; rfl
 have hiσ:i < σ.length:=by rw [I.len]; exact (List.getElem?_eq_some_iff.mp hi).1
 have cne:=I.cne
 have tracked:∀ {a:Addr}{h':Heap},(∃ o,s.heap.get? a=some o∧H a=none)→Heap.SameBut a s.heap h'→HOk X.prog X.w H h':=λ {a h'} ha hs b ob e=>by
   obtain ⟨_,_,hfree⟩:=ha
   refine (I.hok b ob e).stay (λ c w' hc q=>(hs.2 c ?_).trans q) (λ _ q=>q) λ _ _ q=>q
   rintro rfl
   rcases hc with rfl | hc
   · rw [hfree] at e; cases e
   · rw [hfree] at hc; cases hc
 rcases hx with hk | hk
 · refine wpAny_storeName_local hk hn (λ h' hn' hs=>?_) hcls
   obtain ⟨oL,_,_,hoL,_⟩:=id hn
   refine h _ ⟨I.ok,I.os,I.bare,⟨λ b o e n hb hx=>?_,λ b o e n hb hx=>?_,I.base.free,λ b o e hx=>?_,I.base.tups,I.base.frzs,I.base.tbls⟩,⟨_,hn',λ j y v' e1 e2 e3=>?_⟩,λ y c e=>?_,I.free,I.freeC,λ p hp=>?_,tracked ⟨oL,hoL,I.free⟩ hs,by simpa using I.len⟩ ⟨_,hs,.inl rfl⟩
   · exact (hs.2 b (Nat.ne_of_lt (Nat.lt_of_lt_of_le (Heap.lt_size e) I.ok.above))).trans (I.base.keep b o e n hb hx)
   · obtain ⟨sl,e1⟩:=I.base.slot b o e n hb hx
     exact ⟨sl,(hs.2 b (Nat.ne_of_lt (Nat.lt_of_lt_of_le (Heap.lt_size e) I.ok.above))).trans e1⟩
   · obtain ⟨o',e1⟩:=I.base.there b o e hx
     exact ⟨o',(hs.2 b (Nat.ne_of_lt (Nat.lt_of_lt_of_le (Heap.lt_size e) I.ok.above))).trans e1⟩
   · by_cases hj:j=i
     · subst hj
       rw [hi] at e1; cases e1
       rw [List.getElem?_set_self hiσ] at e2
       cases e2
       exact ⟨u,r,.inl ⟨hk,by simp⟩⟩
     · rw [List.getElem?_set_ne (Ne.symm hj)] at e2
       obtain ⟨u',r',q⟩:=hl j y v' e1 e2 e3
       refine ⟨u',r',?_⟩
       rcases q with ⟨k,e⟩ | ⟨k,c,e,z⟩
       · refine .inl ⟨k,?_⟩
         have:y≠x:=λ e=>hj (nodup_ix hN e1 (e ▸ hi))
         simp [this,e]
       · exact .inr ⟨k,c,e,z.sameBut hs (cne y c e)⟩
   · obtain ⟨w',z⟩:=I.cell y c e
     exact ⟨w',z.sameBut hs (cne y c e)⟩
   · obtain ⟨e,n,ne,nf,d⟩:=I.pin p hp
     exact ⟨(hs.2 p.1 ne).trans e,n,ne,nf,d⟩
 · have hfn:X.fn x=true:=by
     rcases hf with z | z
     · exact z
     · rw [z] at hk; cases hk
   obtain ⟨c,hc⟩:=I.ok.has x (.inl hk)
   obtain ⟨w',z⟩:=I.cell x c hc
   refine wpAny_storeName_cell I.ok.kind hk hc z (λ h' hc' hs=>?_)
   obtain ⟨oc,hoc,hocd⟩:=id z
   refine h { s with heap:=h' } ⟨I.ok,I.os,I.bare,⟨λ b o e n hb hx=>?_,λ b o e n hb hx=>?_,I.base.free,λ b o e hx=>?_,I.base.tups,I.base.frzs,I.base.tbls⟩,⟨m,hn.sameBut hs (Ne.symm (cne x c hc)),λ j y v' e1 e2 e3=>?_⟩,λ y c' e=>?_,I.free,I.freeC,λ p hp=>?_,tracked ⟨oc,hoc,I.freeC x c hc⟩ hs,by simpa using I.len⟩ ⟨c,hs,.inr hc⟩
   · exact (hs.2 b (Nat.ne_of_lt (Nat.lt_of_lt_of_le (Heap.lt_size e) (I.ok.cab x c hfn hc)))).trans (I.base.keep b o e n hb hx)
   · obtain ⟨sl,e1⟩:=I.base.slot b o e n hb hx
     exact ⟨sl,(hs.2 b (Nat.ne_of_lt (Nat.lt_of_lt_of_le (Heap.lt_size e) (I.ok.cab x c hfn hc)))).trans e1⟩
   · obtain ⟨o',e1⟩:=I.base.there b o e hx
     exact ⟨o',(hs.2 b (Nat.ne_of_lt (Nat.lt_of_lt_of_le (Heap.lt_size e) (I.ok.cab x c hfn hc)))).trans e1⟩
   · by_cases hj:j=i
     · subst hj
       rw [hi] at e1; cases e1
       rw [List.getElem?_set_self hiσ] at e2
       cases e2
       exact ⟨u,r,.inr ⟨.inl hk,c,hc,hc'⟩⟩
     · rw [List.getElem?_set_ne (Ne.symm hj)] at e2
       obtain ⟨u',r',q⟩:=hl j y v' e1 e2 e3
       refine ⟨u',r',?_⟩
       rcases q with q | ⟨k,c',e,z'⟩
       · exact .inl q
       · refine .inr ⟨k,c',e,z'.sameBut hs ?_⟩
         rintro rfl
         exact hj (nodup_ix hN e1 (I.ok.inj _ _ _ e hc ▸ hi))
   · by_cases hcc:c'=c
     · subst hcc; exact ⟨_,hc'⟩
     · obtain ⟨w2,z2⟩:=I.cell y c' e
       exact ⟨w2,z2.sameBut hs hcc⟩
   · obtain ⟨e,n,ne,nf,d⟩:=I.pin p hp
     refine ⟨(hs.2 p.1 ?_).trans e,n,ne,nf,d⟩
     intro q
     rw [q,hoc] at e
     have q':oc=p.2:=Option.some.inj e
     exact d w' (by rw [← q']; exact hocd)
theorem store_ok {M:Model}{A:Around}{E:Value→Shared→Prop}{i:Nat}{x:Str}{v:V}{u:Value}{Q:Unit→Shared→Prop}(I:Inv X pins σ H s) (hN:X.N.Nodup) (hi:X.N[i]? = some x) (hx:Loc X.env.scope x) (r:RelV v u)
   (h:∀ s',Inv X pins (σ.set i (some v)) H s'→Q () s') (hf:X.fn x=true∨X.env.scope.names.lookup x=some .local:=by first | exact .inl rfl | exact .inr rfl | assumption):wpAny M A (storeName X.env x u) Q E s :=
 store_ok2 I hN hi hx r (λ s' I' _=>h s' I') hf
theorem Inv.call' {s':Shared}{ch:List Addr}(I:Inv X pins σ H s) (ho:s'.os=s.os) (u:Un (frs X.stack) ch H H' s.heap s'.heap) (hok:HOk X.prog X.w H' s'.heap) (hg:AllBare s'.gens)
   (hch:∀ b∈ch,(b∈X.ex∨X.s₀.heap.objs.size≤b)∧b≠X.env.locals∧(∀ x c,X.env.cells.lookup x=some c→c≠b)∧∀ p∈X.pn ++ pins,p.1≠b):Inv X pins σ H' s':=by
 obtain ⟨h',g',d',t',o'⟩:=s'
 have e:o'=s.os:=ho
 subst e
 exact I.call (g':=g') (t':=t') (d':=d') u hok hg hch
end
abbrev XK:=Value→Option Addr→Hp→Prop
abbrev St:=List (Option V)
abbrev VK:=V→Hp→Prop
abbrev TE:=St→Hp→VK→Prop
abbrev TT:=St→Hp→(Bool→Hp→Prop)→Prop
abbrev TA:=St→Hp→(List V→Hp→Prop)→Prop
structure Ends where
 nx:St→Hp→Prop
 rt:VK
 bk:St→Hp→Prop:=λ _ _=>False
 ct:St→Hp→Prop:=λ _ _=>False
abbrev TS:=Ends→St→Hp→Prop
def EP (X:Cx) (pins:List (Addr×Obj)) (σ:St) (Q:VK) (u:Value) (s':Shared):Prop := ∃ v H',Inv X pins σ H' s'∧RelV v u∧Q v H'
def TP (X:Cx) (pins:List (Addr×Obj)) (σ:St) (Q:Bool→Hp→Prop) (b:Bool) (s':Shared):Prop := ∃ H',Inv X pins σ H' s'∧Q b H'
def AP (X:Cx) (pins:List (Addr×Obj)) (σ:St) (Q:List V→Hp→Prop) (us:List Value) (s':Shared):Prop := ∃ vs H',Inv X pins σ H' s'∧Vals vs us∧Q vs H'
def SP (X:Cx) (pins:List (Addr×Obj)) (D:Ends) (f:Flow) (s':Shared):Prop :=
 match f with
 | .next => ∃ σ' H',Inv X pins σ' H' s'∧D.nx σ' H'
 | .brk => ∃ σ' H',Inv X pins σ' H' s'∧D.bk σ' H'
 | .cont => ∃ σ' H',Inv X pins σ' H' s'∧D.ct σ' H'
 | .ret u => ∃ v σ' H',Inv X pins σ' H' s'∧RelV v u∧D.rt v H'
def PE (X:Cx) (e:Expr) (t:TE):Prop :=
 ∀ (pins:List (Addr×Obj)) (s:Shared) (σ:St) (H:Hp) (Q:VK),Inv X pins σ H s→t σ H Q→wpAny (model X.prog X.w) X.A (eval e X.env) (EP X pins σ Q) X.xe s
def PT (X:Cx) (e:Expr) (t:TT):Prop :=
 ∀ (pins:List (Addr×Obj)) (s:Shared) (σ:St) (H:Hp) (Q:Bool→Hp→Prop),Inv X pins σ H s→t σ H Q→wpAny (model X.prog X.w) X.A (isTrue e X.env (eval e X.env)) (TP X pins σ Q) X.xe s
def PW (X:Cx) (e:Expr) (t:TT):Prop :=
 ∀ (whole:Sem Value) (pins:List (Addr×Obj)) (s:Shared) (σ:St) (H:Hp) (Q:Bool→Hp→Prop),Inv X pins σ H s→t σ H Q→wpAny (model X.prog X.w) X.A (isTrue e X.env whole) (TP X pins σ Q) X.xe s
theorem PW.pt {X:Cx}{e:Expr}{t:TT}(h:PW X e t):PT X e t:=h _
def PA (X:Cx) (es:List Expr) (t:TA):Prop :=
 ∀ (pos:Pos) (pins:List (Addr×Obj)) (s:Shared) (σ:St) (H:Hp) (Q:List V→Hp→Prop),Inv X pins σ H s→t σ H Q→wpAny (model X.prog X.w) X.A (spliced (backTo pos (starEach es X.env))) (AP X pins σ Q) X.xe s
def PS (X:Cx) (st:Stmt) (t:TS):Prop :=
 ∀ (pins:List (Addr×Obj)) (s:Shared) (σ:St) (H:Hp) (D:Ends),Inv X pins σ H s→t D σ H→wpAny (model X.prog X.w) X.A (exec st X.env) (SP X pins D) X.xe s
def PSs (X:Cx) (st:List Stmt) (t:TS):Prop :=
 ∀ (pins:List (Addr×Obj)) (s:Shared) (σ:St) (H:Hp) (D:Ends),Inv X pins σ H s→t D σ H→wpAny (model X.prog X.w) X.A (execs st X.env) (SP X pins D) X.xe s
theorem thn {α:Type}{t:Sem α}{Q Q':α→Shared→Prop}{M:Model}{A:Around}{E:Value→Shared→Prop}{s:Shared}(h:wpAny M A t Q E s) (hQ:∀ a s,Q a s→Q' a s):wpAny M A t Q' E s:=wpAny_mono h hQ λ _ _ x=>x
end L2
namespace L2
open PySem PySem.Spec PyProof.Rows
section
variable {X:Cx}
def tVar (i:Nat):TE:=λ σ H Q => ∃ v,σ[i]? = some (some v)∧Q v H
def tC (v:V):TE:=λ _ H Q=>Q v H
theorem pe_var {i:Nat}{x:Str}{pos:Pos}(hN:X.N[i]? = some x) (hv:Vis X.env.scope x) (hd:(x == ("__debug__" : Str))=false:=by decide) (hcd:(x == ("__classdict__" : Str))=false:=by decide):PE X (.Name x pos) (tVar i):=by
 intro pins s σ H Q I h
 obtain ⟨v,e,h⟩:=h
 obtain ⟨m,hn,hl⟩:=I.loc
 obtain ⟨u,r,l⟩:=hl i x v hN e hv
 have fin:EP X pins σ Q u s:=⟨v,H,I,r,h⟩
 rcases l with ⟨hk,hm⟩ | ⟨hk,c,hc,hcell⟩
 · exact wpAny_Name (wpAny_loadName_local I.ok.kind hk hn hm fin) hd
 · rcases hk with hk | hk
   · exact wpAny_Name (wpAny_loadName_cell I.ok.kind hk hc hcell fin) hd
   · exact wpAny_Name (wpAny_loadName_free I.ok.kind hk hc hcell fin hcd) hd
theorem pe_int {i j pos}:PE X (.Constant (.int i) j pos) (tC (.int i)):=λ _ _ _ H _ I h=>wpAny_Constant_int ⟨.int i,H,I.tok _,⟨_,rfl⟩,h⟩
theorem pe_bl {b j pos}:PE X (.Constant (.bool b) j pos) (tC (.bl b)):=λ _ _ _ H _ I h=>Constant_bool ⟨.bl b,H,I,rfl,h⟩
theorem pe_non {j pos}:PE X (.Constant .none j pos) (tC .non):=λ _ _ _ H _ I h=>Constant_none ⟨.non,H,I,rfl,h⟩
theorem pe_str {x j pos}:PE X (.Constant (.str x) j pos) (tC (.str x)):=λ _ _ _ H _ I h=>Calls.Constant_str ⟨.str x,H,I.tok _,⟨_,rfl⟩,h⟩
def Gl (X:Cx) (x:Str):Prop:=X.env.kindOf x=some .globalImplicit
theorem ld_glob {E:Value→Shared→Prop}{pins:List (Addr×Obj)}{s:Shared}{σ:St}{H:Hp}{x:Str}{u:Value}{pos:Pos}{Q:Value→Shared→Prop}(I:Inv X pins σ H s) (hg:Gl X x) (hm:X.mg x=some u) (h:Q u s)
   (hd:(x == ("__debug__" : Str))=false:=by decide):wpAny (model X.prog X.w) X.A (eval (.Name x pos) X.env) Q E s :=
 Calls.Name_function_global I.ok.kind hg (Calls.loadGlobal_global (by rw [I.ok.glob]; exact I.mod.glob.keeps I.bk) hm h) hd
theorem ld_blt {E:Value→Shared→Prop}{pins:List (Addr×Obj)}{s:Shared}{σ:St}{H:Hp}{x:Str}{u:Value}{pos:Pos}{Q:Value→Shared→Prop}(I:Inv X pins σ H s) (hg:Gl X x) (hm:X.mg x=none) (hv:bootBuiltins x=some u) (h:Q u s)
   (hn:x ≠ "__name__" := by decide) (hd:(x == ("__debug__" : Str))=false:=by decide):wpAny (model X.prog X.w) X.A (eval (.Name x pos) X.env) Q E s:=by
 obtain ⟨mb,h1,h2⟩:=I.mod.blt
 exact Calls.Name_function_global I.ok.kind hg (Calls.loadGlobal_builtin (by rw [I.ok.glob]; exact I.mod.glob.keeps I.bk) hm (by rw [I.ok.blt]; exact h1.keeps I.bk) ((h2 x hn).trans hv) h) hd
theorem pe_glob {x:Str}{v:V}{u:Value}{pos:Pos}(hg:Gl X x) (hm:X.mg x=some u) (r:RelV v u) (hd:(x == ("__debug__" : Str))=false:=by decide):PE X (.Name x pos) (tC v) :=
 λ _ _ _ H _ I h=>ld_glob I hg hm ⟨v,H,I,r,h⟩ hd
theorem pe_bltn {x:Str}{v:V}{u:Value}{pos:Pos}(hg:Gl X x) (hm:X.mg x=none) (hv:bootBuiltins x=some u) (r:RelV v u) (hn:x ≠ "__name__" := by decide) (hd:(x == ("__debug__" : Str))=false:=by decide):PE X (.Name x pos) (tC v) :=
 λ _ _ _ H _ I h=>ld_blt I hg hm hv ⟨v,H,I,r,h⟩ hn hd
variable {a b:Expr}{ta tb:TE}{pos:Pos}
def PC (X:Cx) (op:CmpOp) (a b:Expr) (t:TE):Prop :=
 ∀ (pins:List (Addr×Obj)) (s:Shared) (σ:St) (H:Hp) (Q:VK),Inv X pins σ H s→t σ H Q →
   wpAny (model X.prog X.w) X.A (eval a X.env) (λ v s₁=>wpAny (model X.prog X.w) X.A (eval b X.env) (λ u s₂=>wpAny (model X.prog X.w) X.A (compareOp op v u) (EP X pins σ Q) X.xe s₂) X.xe s₁) X.xe s
def tB (t:TE):TT:=λ σ H Q=>t σ H λ x H1 => ∃ c,x=.bl c∧Q c H1
theorem pt_cmp {op:CmpOp}{t:TE}(h:PC X op a b t) (h1:behindInMarks op b=false:=by first | exact nobehind _ (by decide) (by decide) | rfl):PT X (.Compare a [op] [b] pos) (tB t):=by
 intro pins s σ H Q I hw
 refine wpAny_isTrue_Compare1 (thn (h pins s σ H _ I hw) λ v s1 h1=>thn h1 λ u s2 h2=>thn h2 λ c s3 ⟨x,H1,I1,r1,q1⟩=>?_) h1
 obtain ⟨d,rfl,q⟩:=q1
 cases r1
 exact wpAny_truthy_bool ⟨H1,I1,q⟩
theorem pt_val {e:Expr}{t:TE}(h:PE X e t) (he:∀ whole,isTrue e X.env whole=(do let v ← whole; standAt e.pos; holding [v] (truthy v)):=by intro _; rfl):PT X e (tB t):=by
 intro pins s σ H Q I hw
 refine isTrue_plain (thn (h pins s σ H _ I hw) λ v s1 ⟨x,H1,I1,r1,q1⟩=>?_) (he _)
 obtain ⟨d,rfl,q⟩:=q1
 cases r1
 exact wpAny_truthy_bool ⟨H1,I1,q⟩
variable {tA tB':TT}{rest:List Expr}
def tAnd (t u:TT):TT:=λ σ H Q=>t σ H λ c H1=>if c=true then u σ H1 Q else Q false H1
def tOr (t u:TT):TT:=λ σ H Q=>t σ H λ c H1=>if c=true then Q true H1 else u σ H1 Q
def tNot (t:TT):TT:=λ σ H Q=>t σ H λ c H1=>Q (!c) H1
theorem pw_and1 (ha:PT X a tA):PW X (.BoolOp .And [a] pos) tA:=by
 intro wh pins s σ H Q I h
 refine isTrue_and (thn (ha pins s σ H Q I h) λ c s1 e=>?_)
 cases c with
 | true=>exact isTrue_and_nil e
 | false=>exact e
theorem pw_or1 (ha:PT X a tA):PW X (.BoolOp .Or [a] pos) tA:=by
 intro wh pins s σ H Q I h
 refine isTrue_or (thn (ha pins s σ H Q I h) λ c s1 e=>?_)
 cases c with
 | false=>exact isTrue_or_nil e
 | true=>exact e
theorem pw_and (ha:PT X a tA) (hb:PW X (.BoolOp .And (b :: rest) pos) tB'):PW X (.BoolOp .And (a :: b :: rest) pos) (tAnd tA tB'):=by
 intro wh pins s σ H Q I h
 refine isTrue_and (thn (ha pins s σ H _ I h) λ c s1 ⟨H1,I1,q1⟩=>?_)
 cases c with
 | true=>exact hb wh pins s1 σ H1 Q I1 q1
 | false=>exact ⟨H1,I1,q1⟩
theorem pw_or (ha:PT X a tA) (hb:PW X (.BoolOp .Or (b :: rest) pos) tB'):PW X (.BoolOp .Or (a :: b :: rest) pos) (tOr tA tB'):=by
 intro wh pins s σ H Q I h
 refine isTrue_or (thn (ha pins s σ H _ I h) λ c s1 ⟨H1,I1,q1⟩=>?_)
 cases c with
 | true=>exact ⟨H1,I1,q1⟩
 | false=>exact hb wh pins s1 σ H1 Q I1 q1
theorem pt_not (ha:PT X a tA):PT X (.UnaryOp .Not a pos) (tNot tA):=by
 intro pins s σ H Q I h
 exact isTrue_not (ha pins s σ H (λ c H1=>Q (!c) H1) I h)
def tIf (t:TT) (ta tb:TE):TE:=λ σ H Q=>t σ H λ c H1=>if c=true then ta σ H1 Q else tb σ H1 Q
theorem pe_ifExp {c:Expr}(hc:PT X c tA) (ha:PE X a ta) (hb:PE X b tb):PE X (.IfExp c a b pos) (tIf tA ta tb):=by
 intro pins s σ H Q I h
 refine wpAny_IfExp (thn (hc pins s σ H _ I h) λ d s1 ⟨H1,I1,q1⟩=>?_)
 cases d with
 | true=>exact ha pins s1 σ H1 Q I1 q1
 | false=>exact hb pins s1 σ H1 Q I1 q1
end
end L2
namespace L2
open PySem PySem.Spec PyProof.Rows
def SqL (K:PySem.W.Frag) (H:Hp) (a:Addr) (xs:List V):Prop :=
 Rd H a (.lst xs) ∨
   ∃ (o:Obj) (its:Array Value) (n:Nat),K.lookup a=some o∧o.cls=.type "list" ∧ o.dict=none∧o.data=.seq its n∧its.size≤sizeLine∧Vals xs its.toList
def SqT (K:PySem.W.Frag) (H:Hp) (a:Addr) (xs:List V):Prop :=
 Rd H a (.tup xs) ∨
   ∃ (o:Obj) (its:Array Value) (n:Nat),K.lookup a=some o∧o.cls=.type "tuple" ∧ o.data=.seq its n∧its.size≤sizeLine∧Vals xs its.toList
def absV:Value→Option V
 | .none=>some .non
 | .bool b=>some (.bl b)
 | .int i _=>some (.int i)
 | .str x _=>some (.str x)
 | .bytes b _=>some (.byt b)
 | .float b _=>some (.flt b)
 | .ref a=>some (.ref a)
 | .type n=>some (.ty n)
 | _=>none
theorem RelV.abs {x:V}{u:Value}(r:RelV x u):absV u=some x:=by
 cases x with
 | non=>cases r; rfl
 | bl _=>cases r; rfl
 | int _=>obtain ⟨t,rfl⟩:=r; rfl
 | str _=>obtain ⟨t,rfl⟩:=r; rfl
 | byt _=>obtain ⟨t,rfl⟩:=r; rfl
 | flt _=>obtain ⟨t,rfl⟩:=r; rfl
 | ref _=>cases r; rfl
 | ty _=>cases r; rfl
theorem RelV.inj {x y:V}{u:Value}(r:RelV x u) (q:RelV y u):x=y:=Option.some.inj (r.abs.symm.trans q.abs)
theorem Vals.inj:∀ {xs ys:List V}{us:List Value},Vals xs us→Vals ys us→xs=ys
 | _,_,_,.nil,.nil=>rfl
 | _,_,_,.cons r t,.cons r' t'=>by rw [r.inj r',Vals.inj t t']
section
variable {X:Cx}{pins:List (Addr×Obj)}{σ:St}{H:Hp}{s:Shared}{a:Addr}{xs ys:List V}
theorem SqL.of {K:PySem.W.Frag}(h:H a=some (.lst xs)):SqL K H a xs:=.inl (.inl h)
theorem SqT.of {K:PySem.W.Frag}(h:H a=some (.tup xs)):SqT K H a xs:=.inl (.inl h)
theorem Inv.list (I:Inv X pins σ H s) (h:SqL X.K H a xs):∃ its:List Value,Vals xs its∧PlainL s.heap a its.toArray∧xs.length≤sizeLine:=by
 rcases h with h | ⟨o,its,n,hk,hc,hd,hs,hz,r⟩
 · obtain ⟨z,its,n,r,e⟩:=h.ok I.hok
   exact ⟨its,r,⟨_,n,e,rfl,rfl,rfl⟩,z⟩
 · refine ⟨its.toList,r,⟨o,n,I.kIn a o hk,hc,hd,by simpa using hs⟩,?_⟩
   have e:=r.length
   simp only [Array.length_toList] at e
   lia
theorem Inv.tuple (I:Inv X pins σ H s) (h:SqT X.K H a xs):∃ its:List Value,Vals xs its∧IsTup s.heap a its.toArray∧xs.length≤sizeLine:=by
 rcases h with h | ⟨o,its,n,hk,hc,hs,hz,r⟩
 · obtain ⟨z,its,r,p⟩:=h.ok I.hok
   exact ⟨its,r,p,z⟩
 · refine ⟨its.toList,r,⟨o,I.kIn a o hk,hc,n,by simpa using hs⟩,?_⟩
   have e:=r.length
   simp only [Array.length_toList] at e
   lia
theorem Inv.list_inj (I:Inv X pins σ H s) (h:SqL X.K H a xs) (h':SqL X.K H a ys):xs=ys:=by
 obtain ⟨its,r,⟨o,n,e,_,_,d⟩,_⟩:=I.list h
 obtain ⟨its',r',⟨o',n',e',_,_,d'⟩,_⟩:=I.list h'
 rw [e] at e'; cases e'
 rw [d] at d'
 injection d' with d1 _
 have:its=its':=by simpa using congrArg Array.toList d1
 subst this
 exact r.inj r'
end
abbrev Cx.wish (X:Cx) (E:Value→Shared→Prop):Cx:={ X with xe:=E }
abbrev Cx.nox (X:Cx):Cx:=X.wish λ _ _=>False
theorem Cx.Ok.wish {X:Cx}(ok:X.Ok) (E:Value→Shared→Prop):(X.wish E).Ok :=
 ⟨ok.mod,ok.kind,ok.glob,ok.blt,ok.above,ok.inj,ok.has,ok.cab,ok.hd,ok.frames,ok.stk,ok.exf,ok.bs,ok.bsz,ok.noex,ok.exfs,ok.funs,ok.frf⟩
theorem Cx.Ok.unwish {X:Cx}{E:Value→Shared→Prop}(ok:(X.wish E).Ok):X.Ok :=
 ⟨ok.mod,ok.kind,ok.glob,ok.blt,ok.above,ok.inj,ok.has,ok.cab,ok.hd,ok.frames,ok.stk,ok.exf,ok.bs,ok.bsz,ok.noex,ok.exfs,ok.funs,ok.frf⟩
section
variable {X:Cx}{pins:List (Addr×Obj)}{σ:St}{H:Hp}{s:Shared}{E:Value→Shared→Prop}
theorem Inv.wish (I:Inv X pins σ H s) (E:Value→Shared→Prop):Inv (X.wish E) pins σ H s:=⟨I.ok.wish E,I.os,I.bare,I.base,I.loc,I.cell,I.free,I.freeC,I.pin,I.hok,I.len⟩
theorem Inv.unwish (I:Inv (X.wish E) pins σ H s):Inv X pins σ H s:=⟨I.ok.unwish,I.os,I.bare,I.base,I.loc,I.cell,I.free,I.freeC,I.pin,I.hok,I.len⟩
theorem SP.unwish {D:Ends}{f:Flow}{s':Shared}(h:SP (X.wish E) pins D f s'):SP X pins D f s':=by
 cases f with
 | next=>obtain ⟨σ',H',I,q⟩:=h; exact ⟨σ',H',I.unwish,q⟩
 | brk=>obtain ⟨σ',H',I,q⟩:=h; exact ⟨σ',H',I.unwish,q⟩
 | cont=>obtain ⟨σ',H',I,q⟩:=h; exact ⟨σ',H',I.unwish,q⟩
 | ret u=>obtain ⟨v,σ',H',I,r,q⟩:=h; exact ⟨v,σ',H',I.unwish,r,q⟩
theorem PSs.nox {st:List Stmt}{t:TS}(h:PSs X.nox st t):PSs X st t:=λ pins s σ H D I hw =>
 wpAny_mono (h pins s σ H D (I.wish _) hw) (λ _ _ q=>q.unwish) λ _ _ z=>False.elim z
end
section
variable {X:Cx}{st:Stmt}{rest:List Stmt}{t u:TS}{e:Expr}{te:TE}{pos:Pos}
def tNext:TS:=λ D σ H=>D.nx σ H
def tSeq (t u:TS):TS:=λ D σ H=>t { D with nx:=u D } σ H
theorem pss_nil:PSs X [] tNext:=λ _ _ σ H _ I h=>wpAny_execs_nil ⟨σ,H,I,h⟩
theorem pss_cons (h1:PS X st t) (h2:PSs X rest u):PSs X (st :: rest) (tSeq t u):=by
 intro pins s σ H D I h
 refine wpAny_execs_cons (thn (h1 pins s σ H { D with nx:=u D } I h) λ f s1 q=>?_)
 cases f with
 | next =>
   obtain ⟨σ',H',I',q⟩:=q
   exact h2 pins s1 σ' H' D I' q
 | ret v=>exact q
 | brk=>exact q
 | cont=>exact q
theorem pss_one (h1:PS X st t):PSs X [st] t:=by
 intro pins s σ H D I h
 refine wpAny_execs_cons (thn (h1 pins s σ H D I h) λ f s1 q=>?_)
 cases f with
 | next=>exact wpAny_execs_nil q
 | ret v=>exact q
 | brk=>exact q
 | cont=>exact q
theorem Inv.quiet {pins:List (Addr×Obj)}{σ:St}{H:Hp}{s:Shared}(I:Inv X pins σ H s):interactive X.env=false:=by simp [interactive,I.ok.kind]
def tDrop (te:TE):TS:=λ D σ H=>te σ H λ _ H1=>D.nx σ H1
theorem ps_expr (he:PE X e te) (hs:swapsWith e none pos.line X.env=pure false:=by rfl):PS X (.Expr e pos) (tDrop te):=by
 intro pins s σ H D I h
 exact wpAny_Expr_any (thn (he pins s σ H _ I h) λ v s1 ⟨x,H1,I1,r1,q1⟩=>⟨σ,H1,I1,q1⟩) I.quiet hs
def tRet (te:TE):TS:=λ D σ H=>te σ H D.rt
theorem ps_ret (he:PE X e te):PS X (.Return (some e) pos) (tRet te):=by
 intro pins s σ H D I h
 exact wpAny_Return_some (thn (he pins s σ H _ I h) λ v s1 ⟨x,H1,I1,r1,q1⟩=>⟨x,σ,H1,I1,r1,q1⟩)
def tIfS (c:TT) (t u:TS):TS:=λ D σ H=>c σ H λ b H1=>if b=true then t D σ H1 else u D σ H1
theorem ps_if {c:Expr}{a b:List Stmt}{tc:TT}(hc:PT X c tc) (ha:PSs X a t) (hb:PSs X b u):PS X (.If c a b pos) (tIfS tc t u):=by
 intro pins s σ H D I h
 refine wpAny_If (thn (hc pins s σ H _ I h) λ d s1 ⟨H1,I1,q1⟩=>?_)
 cases d with
 | true=>exact ha pins s1 σ H1 D I1 q1
 | false=>exact hb pins s1 σ H1 D I1 q1
end
abbrev TG:=V→St→Hp→(St→Hp→Prop)→Prop
abbrev TGs:=List V→St→Hp→(St→Hp→Prop)→Prop
def PG (X:Cx) (target:Expr) (t:TG):Prop :=
 ∀ (pins:List (Addr×Obj)) (s:Shared) (σ:St) (H:Hp) (v:V) (u:Value) (Q:St→Hp→Prop),Inv X pins σ H s→RelV v u→t v σ H Q →
   wpAny (model X.prog X.w) X.A (assign target X.env u) (λ _ s' => ∃ σ' H',Inv X pins σ' H' s'∧Q σ' H') X.xe s
def PGs (X:Cx) (ts:List Expr) (t:TGs):Prop :=
 ∀ (pins:List (Addr×Obj)) (s:Shared) (σ:St) (H:Hp) (vs:List V) (us:List Value) (Q:St→Hp→Prop),Inv X pins σ H s→Vals vs us→t vs σ H Q →
   wpAny (model X.prog X.w) X.A (assignInOrder ((assignEach ts X.env).map (·.2)) us) (λ _ s' => ∃ σ' H',Inv X pins σ' H' s'∧Q σ' H') X.xe s
abbrev TSet:=V→V→V→Hp→(Hp→Prop)→Prop
def PSet (X:Cx) (t:TSet):Prop :=
 ∀ (pins:List (Addr×Obj)) (s:Shared) (σ:St) (H:Hp) (o i v:V) (ov iv u:Value) (Q:Hp→Prop),Inv X pins σ H s→RelV o ov→RelV i iv→RelV v u→t o i v H Q →
   wpAny (model X.prog X.w) X.A (setItem ov iv u) (λ _ s' => ∃ H',Inv X pins σ H' s'∧Q H') X.xe s
section
variable {X:Cx}{pos:Pos}
def gName (i:Nat):TG:=λ v σ H Q=>Q (σ.set i (some v)) H
theorem pg_name {i:Nat}{x:Str}(hN:X.N.Nodup) (hi:X.N[i]? = some x) (hx:Loc X.env.scope x) (hf:X.fn x=true∨X.env.scope.names.lookup x=some .local:=by first | exact .inl rfl | exact .inr rfl | assumption):PG X (.Name x pos) (gName i):=by
 intro pins s σ H v u Q I r h
 exact wpAny_assign_Name (store_ok I hN hi hx r (λ s' I'=>⟨_,H,I',h⟩) hf)
def gNil:TGs:=λ vs σ H Q=>vs=[]∧Q σ H
def gCons (t:TG) (u:TGs):TGs:=λ vs σ H Q => ∃ v r,vs=v :: r∧t v σ H λ σ' H'=>u r σ' H' Q
theorem pgs_nil:PGs X [] gNil:=by
 intro pins s σ H vs us Q I r h
 obtain ⟨e,h⟩:=h
 subst e
 cases r
 exact assignInOrder_nil ⟨σ,H,I,h⟩
theorem pgs_cons {e:Expr}{es:List Expr}{t:TG}{u:TGs}(h1:PG X e t) (h2:PGs X es u)
   (hs:(assignEach (e :: es) X.env).map (·.2)=assign e X.env :: (assignEach es X.env).map (·.2):=by rfl):PGs X (e :: es) (gCons t u):=by
 intro pins s σ H vs us Q I r h
 obtain ⟨v,vr,e1,h⟩:=h
 subst e1
 cases r with
 | cons r rr =>
   rw [hs]
   refine assignInOrder_cons (thn (h1 pins s σ H _ _ _ I r h) λ _ s1 ⟨σ1,H1,I1,q1⟩=>?_)
   exact h2 pins s1 σ1 H1 _ _ Q I1 rr q1
def gTup (K:PySem.W.Frag) (n:Nat) (t:TGs):TG:=λ v σ H Q => ∃ a xs,v=.ref a∧SqT K H a xs∧xs.length=n∧t xs σ H Q
theorem pg_tup {es:List Expr}{k:Nat}{t:TGs}{n:Nat}(hc:X.calm=true) (h:PGs X es t)
   (hn:(assignEach es X.env).length=n:=by rfl) (hst:(assignEach es X.env).findIdx? (·.1)=none:=by rfl):PG X (.Tuple es k pos) (gTup X.K n t):=by
 intro pins s σ H v u Q I r hw
 obtain ⟨a,xs,e1,hq,hl,hw⟩:=hw
 subst e1
 cases r
 obtain ⟨its,rv,ht,hz⟩:=I.tuple hq
 refine assign_Tuple_tuple (I.ok.hd hc) ht (by simp [hn, ← hl,rv.length]) hst λ h' hx=>?_
 have I1:Inv X pins σ H { s with heap:=h' }:=I.kept (t':=s.toks) λ b o e=>hx b o (Nat.ne_of_lt (Heap.lt_size e)) e
 exact h pins _ σ H xs _ Q I1 (by simpa using rv) hw
def gSub (to ti:TE) (t:TSet):TG:=λ v σ H Q=>to σ H λ o H1=>ti σ H1 λ i H2=>t o i v H2 λ H3=>Q σ H3
theorem pg_sub {o i:Expr}{to ti:TE}{t:TSet}(ho:PE X o to) (hi:PE X i ti) (hs:PSet X t)
   (ha:∀ v,assign (.Subscript o i pos) X.env v=(do
     let ov ← holding [v] (eval o X.env)
     let iv ← holding [v,ov] (eval i X.env)
     standAt pos
     holding [v,ov,iv] (setItem ov iv v)
     release [v,ov,iv] []):=by intro _; rfl):PG X (.Subscript o i pos) (gSub to ti t):=by
 intro pins s σ H v u Q I r h
 rw [ha]
 refine wpAny_bind (wpAny_holding (thn (ho pins s σ H _ I h) λ ov s1 ⟨x,H1,I1,r1,q1⟩=>?_))
 refine wpAny_bind (wpAny_holding (thn (hi pins s1 σ H1 _ I1 q1) λ iv s2 ⟨y,H2,I2,r2,q2⟩=>?_))
 refine wpAny_bind (wpAny_standAt (wpAny_bind (wpAny_holding (thn (hs pins s2 σ H2 x y v ov iv u _ I2 r1 r2 r q2) λ _ s3 ⟨H3,I3,q3⟩=>?_))))
 exact wpAny_release ⟨σ,H3,I3,q3⟩
def tAsg (te:TE) (g:TG):TS:=λ D σ H=>te σ H λ x H1=>g x σ H1 D.nx
theorem ps_asg {tg e:Expr}{te:TE}{g:TG}(he:PE X e te) (hg:PG X tg g) (hs:swapsWithSole [tg] e pos.line X.env=pure false:=by rfl) (hw:swappedStores [tg] e X.env=pure none:=by rfl)
   (h1:(assignEach [tg] X.env).map (·.2)=[assign tg X.env]:=by rfl):PS X (.Assign [tg] e pos) (tAsg te g):=by
 intro pins s σ H D I h
 refine wpAny_Assign_stores (thn (he pins s σ H _ I h) λ v s1 ⟨x,H1,I1,r1,q1⟩=>?_) hs hw
 rw [h1]
 exact thn (hg pins s1 σ H1 x v _ I1 r1 q1) λ _ s2 q=>q
theorem ps_set {i:Nat}{x:Str}{e:Expr}{te:TE}{pos':Pos}(hN:X.N.Nodup) (hi:X.N[i]? = some x) (hx:Loc X.env.scope x) (he:PE X e te) (hs:swapsWith e (some (.Name x pos')) pos.line X.env=pure false:=by rfl) (hf:X.fn x=true∨X.env.scope.names.lookup x=some .local:=by first | exact .inl rfl | exact .inr rfl | assumption) :
   PS X (.Assign [.Name x pos'] e pos) (tAsg te (gName i)):=by
 intro pins s σ H D I h
 refine wpAny_Assign_Name (thn (he pins s σ H _ I h) λ v s1 ⟨y,H1,I1,r1,q1⟩=>?_) hs
 exact store_ok I1 hN hi hx r1 (λ s2 I2=>⟨_,H1,I2,q1⟩) hf
end
section
variable {X:Cx}{pos:Pos}
end
structure It where
 go:Nat→Hp→Prop
 yld:Nat→Hp→V→Hp→Prop
 stop:Nat→Hp→Prop
def FpOk (X:Cx) (pins:List (Addr×Obj)) (H:Hp) (b:Addr):Prop :=
 H b=none∧b≠X.env.locals∧b∉X.fs∧(b∈X.ex∨X.s₀.heap.objs.size≤b)∧(∀ x c,X.env.cells.lookup x=some c→c≠b)∧∀ p∈X.pn ++ pins,p.1≠b
theorem Inv.fpOk {X:Cx}{pins:List (Addr×Obj)}{σ:St}{H H':Hp}{s:Shared}{b:Addr}(I:Inv X pins σ H s) (hb:s.heap.objs.size≤b) (hn:H' b=none):FpOk X pins H' b:=by
 refine ⟨hn,Nat.ne_of_gt (Nat.lt_of_lt_of_le I.lt hb),I.nofs hb,.inr (Nat.le_trans I.sz hb),λ x c e z=>?_,λ p hp z=>?_⟩
 · obtain ⟨v,q⟩:=I.cell x c e
   exact absurd (Nat.lt_of_lt_of_le q.lt (by rw [z]; exact hb)) (Nat.lt_irrefl _)
 · exact absurd (Nat.lt_of_lt_of_le (Heap.lt_size (I.pin p hp).1) (by rw [z]; exact hb)) (Nat.lt_irrefl _)
structure Turn (P:Program) (w:World) (K:PySem.W.Frag) (tg:Expr) (J:It) (fp:List Addr) (it:Addr) (tn:Nat→Heap→Prop):Prop where
 mem:it∈fp
 obj:∀ i h,tn i h→∀ b∈fp,∃ o,h.get? b=some o∧∀ v,o.data≠.cell v
 keep:∀ i h h',tn i h→(∀ b∈fp,∀ o,h.get? b=some o→h'.get? b=some o)→tn i h'
 item:∀ (X:Cx),X.prog=P→X.w=w→X.K=K→X.calm=true→∀ (i:Nat) (pins:List (Addr×Obj)) (s:Shared) (σ:St) (H:Hp) (E:Value→Shared→Prop),Inv X pins σ H s→(∀ b∈fp,FpOk X pins H b)→tn i s.heap→J.go i H →
   wpAny (model P w) X.A (pyNext (.ref it)) (λ r s1 => ∃ u,r=some u ∧
     wpAny (model P w) X.A (letOwnedTupleGo tg (.ref it) u) (λ _ s2 => ∃ x H',Inv X pins σ H' s2∧RelV x u∧J.yld i H x H'∧tn (i + 1) s2.heap∧∀ b∈fp,H' b=none) E s1) E s
 done:∀ (X:Cx),X.prog=P→X.w=w→X.K=K→X.calm=true→∀ (i:Nat) (pins:List (Addr×Obj)) (s:Shared) (σ:St) (H:Hp) (E:Value→Shared→Prop),Inv X pins σ H s→(∀ b∈fp,FpOk X pins H b)→tn i s.heap→J.stop i H →
   wpAny (model P w) X.A (pyNext (.ref it)) (λ r s1=>r=none∧Inv X pins σ H s1) E s
 self:∀ (A:Around) (i:Nat) (s:Shared) (Q:Value→Shared→Prop) (E:Value→Shared→Prop),tn i s.heap→Q (.ref it) s→wpAny (model P w) A (pyIter (.ref it)) Q E s
abbrev TI:=St→Hp→(It→Hp→Prop)→Prop
def PIE (X:Cx) (pins:List (Addr×Obj)) (σ:St) (tg:Expr) (R:It→Hp→Prop) (itv:Value) (s2:Shared):Prop :=
 ∃ (it:Addr) (fp:List Addr) (tn:Nat→Heap→Prop) (J:It) (H':Hp),itv=.ref it∧Inv X pins σ H' s2∧Turn X.prog X.w X.K tg J fp it tn∧tn 0 s2.heap∧(∀ b∈fp,FpOk X pins H' b)∧R J H'
def PI (X:Cx) (tg iter:Expr) (wi:TI):Prop :=
 ∀ (pins:List (Addr×Obj)) (s:Shared) (σ:St) (H:Hp) (R:It→Hp→Prop),Inv X pins σ H s→wi σ H R →
   wpAny (model X.prog X.w) X.A (eval iter X.env) (λ v s1=>wpAny (model X.prog X.w) X.A (pyIter v) (PIE X pins σ tg R) X.xe s1) X.xe s
theorem go_of {M:Model}{A:Around}{E:Value→Shared→Prop}{s:Shared}{tg:Expr}{it:Addr}{u:Value}{o:Obj}{n:String}{vs:Array Value}{Q:Unit→Shared→Prop}(ho:s.heap.get? it=some o) (hc:o.cls=.type n) (hd:o.data=.fields vs)
   (hn:["enumerate","zip","dict_itemiterator","dict_reverseitemiterator","odict_iterator","itertools.zip_longest","itertools.pairwise"].contains n=false) (hQ:Q () s):wpAny M A (letOwnedTupleGo tg (.ref it) u) Q E s:=by
 unfold letOwnedTupleGo
 cases tg <;> first
   | exact wpAny_pure hQ
   | (cases u <;> first
       | exact wpAny_pure hQ
       | (refine wpAny_bind (wpAny_load ho ?_)
          rw [hc,hd]
          show wpAny M A (if (["enumerate","zip","dict_itemiterator","dict_reverseitemiterator","odict_iterator","itertools.zip_longest","itertools.pairwise"].contains n && vs[0]? == some (rawInt _))=true then _ else _) Q E s
          rw [if_neg (by intro h; rw [hn,Bool.false_and] at h; cases h)]
          exact wpAny_pure hQ))
def Itl (K:PySem.W.Frag) (a:Addr):It :=
 ⟨λ i H => ∃ xs x,SqL K H a xs∧xs[i]? = some x,λ i H x H'=>H'=H∧∀ xs,SqL K H a xs→xs[i]? = some x,λ i H => ∃ xs,SqL K H a xs∧xs.length≤i⟩
def Itr (lo:Int) (n:Nat):It:=⟨λ i _=>i < n,λ i H x H'=>H'=H∧x=.int (lo + i),λ i _=>n≤i⟩
theorem turn_list {P:Program}{w:World}{K:PySem.W.Frag}{tg:Expr}(a it:Addr):Turn P w K tg (Itl K a) [it] it (λ i h=>h.IsListIter it a i) where
 mem:=by simp
 obj:=λ i h st b hb=>by
   have e:b=it:=by simpa using hb
   subst e
   obtain ⟨o,e,c,d⟩:=st
   exact ⟨o,e,λ v z=>by rw [d] at z; cases z⟩
 keep:=λ i h h' st k=>st.at λ o e=>k it (by simp) o e
 item:=by
   intro X hP hw hK hc i pins s σ H E I hf st hg
   subst hP hw hK
   obtain ⟨xs,x,hq,hx⟩:=hg
   obtain ⟨its,rv,p,hz⟩:=I.list hq
   obtain ⟨u,hu,ru⟩:=rv.get hx
   obtain ⟨f0,f1,f2,f3,f4,f5⟩:=hf it (by simp)
   refine wpAny_pyNext_list_item st p.isList (x:=u) (by simpa using hu) λ h' st' sb=>?_
   have I1:Inv X pins σ H { s with heap:=h' }:=I.turned (t':=s.toks) (λ b o hb e=>(sb.2 b hb).trans e) f0 f1 f3 f4 f5
   obtain ⟨o,e,c,d⟩:=id st'
   exact ⟨u,rfl,go_of (s:={ s with heap:=h' }) e c d (by decide) ⟨x,H,I1,ru,⟨rfl,λ ys hy=>by rw [I.list_inj hy hq]; exact hx⟩,st',λ b hb=>(hf b hb).1⟩⟩
 done:=by
   intro X hP hw hK hc i pins s σ H E I hf st hg
   subst hP hw hK
   obtain ⟨xs,hq,hx⟩:=hg
   obtain ⟨its,rv,p,hz⟩:=I.list hq
   obtain ⟨f0,f1,f2,f3,f4,f5⟩:=hf it (by simp)
   have hl:=rv.length
   exact wpAny_pyNext_list_end (I.ok.hd hc) st p.isList (by simp; lia) λ h' eb=>⟨rfl,I.turned (t':=s.toks) (λ b o hb e=>eb b o hb e) f0 f1 f3 f4 f5⟩
 self:=λ _ _ _ _ _ st h=>wpAny_pyIter_listiter st h
theorem turn_range {P:Program}{w:World}{K:PySem.W.Frag}{tg:Expr}(it:Addr) (lo:Int) (n:Nat):Turn P w K tg (Itr lo n) [it] it (λ i h=>IsRangeIter h it (lo + (i:Nat) * 1) ((n:Int) - (i:Nat)) 1) where
 mem:=by simp
 obj:=λ i h st b hb=>by
   have e:b=it:=by simpa using hb
   subst e
   exact ⟨_,st,λ v z=>by
     have z':Data.fields _=Data.cell v:=z
     cases z'⟩
 keep:=λ i h h' st k=>k it (by simp) _ st
 item:=by
   intro X hP hw hK hc i pins s σ H E I hf st hg
   subst hP hw hK
   obtain ⟨f0,f1,f2,f3,f4,f5⟩:=hf it (by simp)
   have W:=Walks.range (prog:=X.prog) (w:=X.w) (I.ok.hd hc) it lo 1 n
   refine W.item i s _ _ hg st λ v h' tk hv st' kk=>?_
   obtain ⟨t,rfl⟩:=hv
   have I1:Inv X pins σ H { s with heap:=h',toks:=tk }:=I.turned (λ b o hb e=>kk b o (by simpa using hb) e) f0 f1 f3 f4 f5
   refine ⟨_,rfl,go_of (s:={ s with heap:=h',toks:=tk }) (n := "range_iterator") st' rfl rfl (by decide) ⟨.int (lo + i),H,I1,⟨t,?_⟩,⟨rfl,rfl⟩,st',λ b hb=>(hf b hb).1⟩⟩
   rw [Int.mul_one]
 done:=by
   intro X hP hw hK hc i pins s σ H E I hf st hg
   subst hP hw hK
   obtain ⟨f0,f1,f2,f3,f4,f5⟩:=hf it (by simp)
   exact wpAny_pyNext_range_end (I.ok.hd hc) st (by have:n≤i:=hg; lia) λ h' eb=>⟨rfl,I.turned (t':=s.toks) (λ b o hb e=>eb b o hb e) f0 f1 f3 f4 f5⟩
 self:=λ _ _ _ _ _ st h=>wpAny_pyIter_rangeiter st h
end L2
namespace L2
open PySem PySem.Spec PyProof.Rows
section
variable {X:Cx}{tg:Expr}
def iList (K:PySem.W.Frag) (tl:TE):TI:=λ σ H R=>tl σ H λ x H1 => ∃ a,x=.ref a∧(∃ xs,SqL K H1 a xs)∧R (Itl K a) H1
theorem pi_list {l:Expr}{tl:TE}(hl:PE X l tl):PI X tg l (iList X.K tl):=by
 intro pins s σ H R I h
 refine thn (hl pins s σ H _ I h) λ v s1 ⟨x,H1,I1,r1,q1⟩=>?_
 obtain ⟨a,e,⟨xs,hq⟩,q⟩:=q1
 subst e
 cases r1
 obtain ⟨its,rv,p,hz⟩:=I1.list hq
 refine wpAny_pyIter_list p.isList ?_
 refine ⟨s1.heap.objs.size,[s1.heap.objs.size],_,_,H1,rfl,I1.kept (t':=s1.toks) λ b o e=>Heap.get?_push_of_some _ e,turn_list a _,⟨_,Heap.get?_push_size _ rfl,rfl,rfl⟩,λ b hb=>?_,q⟩
 have e:b=s1.heap.objs.size:=by simpa using hb
 subst e
 exact I1.fpOk (Nat.le_refl _) (I1.hok.fresh (Nat.le_refl _))
theorem range_it {pins:List (Addr×Obj)}{σ:St}{H:Hp}{s:Shared}{R:It→Hp→Prop}{E:Value→Shared→Prop}{lo hi:Int}{t u v:Tok}{tk:Nat}(I:Inv X pins σ H s) (h1 : -(2 ^ 62)≤lo) (h2:lo < 2 ^ 62) (h3 : -(2 ^ 62)≤hi) (h4:hi < 2 ^ 62)
   (q:R (Itr lo (hi - lo).toNat) H):wpAny (model X.prog X.w) X.A (pyIter (.ref s.heap.objs.size)) (PIE X pins σ tg R) E { s with heap:=s.heap.push { cls:=.type "range",data:=.fields #[.int lo t,.int hi u,.int 1 v] },toks:=tk }:=by
 refine wpAny_pyIter_range (IsRange.new ..) (small_one h1 h2 h3 h4) ?_
 have I1:Inv X pins σ H { s with heap:=s.heap.push { cls:=.type "range",data:=.fields #[.int lo t,.int hi u,.int 1 v] },toks:=tk }:=I.kept λ b o e=>Heap.get?_push_of_some _ e
 refine ⟨(s.heap.push { cls:=.type "range",data:=.fields #[.int lo t,.int hi u,.int 1 v] }).objs.size,[(s.heap.push { cls:=.type "range",data:=.fields #[.int lo t,.int hi u,.int 1 v] }).objs.size],_,_,H,rfl,
   I1.kept (t':=tk) λ b o e=>Heap.get?_push_of_some _ e,turn_range _ lo (hi - lo).toNat,?_,λ b hb=>?_,q⟩
 · have e1:lo + ((0:Nat):Int) * 1=lo:=by simp
   have e2:(((hi - lo).toNat:Nat):Int) - ((0:Nat):Int)=Builtin.Range.rangeSize lo hi 1:=by rw [rangeSize_one]; split <;> lia
   show IsRangeIter _ _ (lo + ((0:Nat):Int) * 1) ((((hi - lo).toNat:Nat):Int) - ((0:Nat):Int)) 1
   rw [e1,e2]
   exact Heap.get?_push_size _ rfl
 · have e:b=(s.heap.push { cls:=.type "range",data:=.fields #[.int lo t,.int hi u,.int 1 v] }).objs.size:=by simpa using hb
   subst e
   exact I1.fpOk (Nat.le_refl _) (I1.hok.fresh (Nat.le_refl _))
def iRng1 (ta:TA):TI:=λ σ H R=>ta σ H λ vs H1 => ∃ j:Int,vs=[.int j] ∧ -(2 ^ 62)≤j∧j < 2 ^ 62∧R (Itr 0 j.toNat) H1
def iRng2 (ta:TA):TI:=λ σ H R=>ta σ H λ vs H1 => ∃ i j:Int,vs=[.int i,.int j]∧(-(2 ^ 62)≤i∧i < 2 ^ 62 ∧ -(2 ^ 62)≤j∧j < 2 ^ 62)∧R (Itr i (j - i).toNat) H1
theorem pi_range1 {a:Expr}{ta:TA}{p pos:Pos}(hg:Gl X "range") (hm:X.mg "range" = none) (ha:PA X [a] ta) (hs:starEach [a] X.env=[(false,eval a X.env)]:=by rfl):PI X tg (.Call (.Name "range" p) [a] [] pos) (iRng1 ta):=by
 intro pins s σ H R I h
 refine Call_ (ld_blt I hg hm boot_range (PyProof.Rows.callWith_type1 (thn (ha pos pins s σ H _ I h) λ us s1 ⟨vs,H1,I1,r1,q1⟩=>?_) hs rfl))
 obtain ⟨j,e,q1,q2,q⟩:=q1
 subst e
 cases r1 with
 | cons r rr =>
   cases rr
   obtain ⟨t,rfl⟩:=r
   exact call_range_1 (range_it I1 (by lia) (by lia) q1 q2 (by simpa using q))
theorem pi_range2 {a b:Expr}{ta:TA}{p pos:Pos}(hg:Gl X "range") (hm:X.mg "range" = none) (ha:PA X [a,b] ta) (hs:starEach [a,b] X.env=[(false,eval a X.env),(false,eval b X.env)]:=by rfl) (hs2:starEach [b] X.env=[(false,eval b X.env)]:=by rfl) :
   PI X tg (.Call (.Name "range" p) [a,b] [] pos) (iRng2 ta):=by
 intro pins s σ H R I h
 refine Call_ (ld_blt I hg hm boot_range (PyProof.Rows.callWith_type1 (thn (ha pos pins s σ H _ I h) λ us s1 ⟨vs,H1,I1,r1,q1⟩=>?_) (by rw [hs,hs2]) (by rw [hs2]; rfl)))
 obtain ⟨i,j,e,⟨q1,q2,q3,q4⟩,q⟩:=q1
 subst e
 cases r1 with
 | cons r rr =>
   cases rr with
   | cons r' rr =>
     cases rr
     obtain ⟨t,rfl⟩:=r
     obtain ⟨t',rfl⟩:=r'
     exact call_range_2 (range_it I1 q1 q2 q3 q4 q)
def tFor (wi:TI) (g:TG) (tb:TS):TS:=λ D σ H=>wi σ H λ J H1 => ∃ W:Nat→Nat→St→Hp→Prop,(∃ m,W 0 m σ H1)∧∀ i m σ H,W i m σ H →
 (J.stop i H∧D.nx σ H)∨(J.go i H∧∃ N:St→Hp→Prop,(∀ σ' H',N σ' H'→∃ m',m' < m∧W (i + 1) m' σ' H')∧∀ x H',J.yld i H x H'→g x σ H' λ σ2 H2=>tb { D with nx:=N,ct:=N,bk:=D.nx } σ2 H2)
def pinsAt (fp:List Addr) (h:Heap):List (Addr×Obj):=fp.filterMap λ b=>(h.get? b).map λ o=>(b,o)
theorem mem_pinsAt {fp:List Addr}{h:Heap}{b:Addr}{o:Obj}(hb:b∈fp) (e:h.get? b=some o):(b,o)∈pinsAt fp h:=List.mem_filterMap.mpr ⟨b,hb,by rw [e]; rfl⟩
theorem of_pinsAt {fp:List Addr}{h:Heap}{p:Addr×Obj}(hp:p∈pinsAt fp h):p.1∈fp∧h.get? p.1=some p.2:=by
 obtain ⟨b,hb,e⟩:=List.mem_filterMap.mp hp
 cases q:h.get? b with
 | none=>rw [q] at e; cases e
 | some o =>
   rw [q] at e
   have e':(b,o)=p:=Option.some.inj e
   subst e'
   exact ⟨hb,q⟩
theorem Inv.pinned {pins:List (Addr×Obj)}{σ:St}{H:Hp}{s:Shared}{fp:List Addr}(I:Inv X pins σ H s) (hf:∀ b∈fp,FpOk X pins H b) (ho:∀ b∈fp,∃ o,s.heap.get? b=some o∧∀ v,o.data≠.cell v):Inv X (pins ++ pinsAt fp s.heap) σ H s :=
 I.pins_of λ p hp=>(List.mem_append.mp hp).elim (λ z=>I.pin p (List.mem_append_right _ z)) λ z=>by
   obtain ⟨hb,e⟩:=of_pinsAt z
   obtain ⟨f0,f1,f2,_⟩:=hf p.1 hb
   obtain ⟨o,e',d⟩:=ho p.1 hb
   rw [e] at e'; cases e'
   exact ⟨e,f0,f1,f2,d⟩
theorem Inv.unpinned {pins pl:List (Addr×Obj)}{σ:St}{H:Hp}{s:Shared}(I:Inv X (pins ++ pl) σ H s):Inv X pins σ H s:=I.pins_of λ p hp=>I.pin p (List.mem_append_right _ (List.mem_append_left _ hp))
theorem ps_for {iter:Expr}{body:List Stmt}{wi:TI}{g:TG}{tb:TS}{pos:Pos}(hp:PassesOwn (model X.prog X.w) X.A X.env X.xe) (hc:X.calm=true) (hi:PI X tg iter wi) (hg:PG X tg g) (hb:PSs X body tb)
   (hs:∀ x,foldedSetIterable iter X.env x=pure x:=by intro _; rfl):PS X (.For tg iter body [] pos) (tFor wi g tb):=by
 intro pins s σ H D I h
 refine wpAny_For (thn (hi pins s σ H _ I h) λ v s1 h1=>thn h1 λ itv s2 h2=>?_) hs
 obtain ⟨it,fp,tn,J,H2,e,I2,T,st2,f2,W,⟨m0,w0⟩,turn⟩:=h2
 subst e
 have stat:∀ {H':Hp},(∀ b∈fp,H' b=none)→∀ b∈fp,FpOk X pins H' b:=λ hn b hb=>⟨hn b hb,(f2 b hb).2⟩
 refine codeAny_forLoop_any (λ n s' => ∃ i σ' H',Inv X pins σ' H' s'∧tn i s'.heap∧(∀ b∈fp,H' b=none)∧W i n σ' H') ?_ m0 ⟨0,σ,H2,I2,st2,λ b hb=>(f2 b hb).1,w0⟩
 rintro n s3 ⟨i,σ3,H3,I3,st3,fr3,w3⟩
 rcases turn i n σ3 H3 w3 with ⟨stop,qn⟩ | ⟨go,N,hN,step⟩
 · refine wpAny_passesOwn hp (thn (T.done X rfl rfl rfl hc i pins s3 σ3 H3 X.xe I3 (stat fr3) st3 stop) λ r s4 ⟨hr,I4⟩=>?_)
   subst hr
   exact wpAny_execs_nil ⟨σ3,H3,I4,qn⟩
 · refine wpAny_passesOwn hp (thn (T.item X rfl rfl rfl hc i pins s3 σ3 H3 X.xe I3 (stat fr3) st3 go) λ r s4 ⟨u,hr,h4⟩=>?_)
   subst hr
   refine wpAny_passesOwn hp (thn h4 λ _ s5 ⟨x,H5,I5,r5,y5,st5,fr5⟩=>?_)
   have I5':=I5.pinned (stat fr5) (T.obj _ _ st5)
   refine wpAny_passesOwn hp (thn (hg _ s5 σ3 H5 x u _ I5' r5 (step x H5 y5)) λ _ s6 ⟨σ6,H6,I6,q6⟩=>?_)
   refine wpAny_passesOwn hp (thn (hb _ s6 σ6 H6 _ I6 q6) λ f s7 q7=>?_)
   have again:∀ {σ7:St}{H7:Hp},Inv X (pins ++ pinsAt fp s5.heap) σ7 H7 s7→N σ7 H7→∃ m,m < n∧∃ i σ' H',Inv X pins σ' H' s7∧tn i s7.heap∧(∀ b∈fp,H' b=none)∧W i m σ' H':=λ {σ7 H7} I7 n7=>by
     obtain ⟨m',hm,w7⟩:=hN σ7 H7 n7
     refine ⟨m',hm,i + 1,σ7,H7,I7.unpinned,T.keep _ _ _ st5 λ b hb o e=>(I7.pin (b,o) (List.mem_append_right _ (List.mem_append_right _ (mem_pinsAt hb e)))).1,λ b hb=>?_,w7⟩
     obtain ⟨o,e,d⟩:=T.obj _ _ st5 b hb
     exact (I7.pin (b,o) (List.mem_append_right _ (List.mem_append_right _ (mem_pinsAt hb e)))).2.1
   cases f with
   | next=>obtain ⟨σ7,H7,I7,n7⟩:=q7; exact again I7 n7
   | cont=>obtain ⟨σ7,H7,I7,n7⟩:=q7; exact again I7 n7
   | brk=>obtain ⟨σ7,H7,I7,q7⟩:=q7; exact ⟨σ7,H7,I7.unpinned,q7⟩
   | ret v=>obtain ⟨x7,σ7,H7,I7,r7,q7⟩:=q7; exact ⟨x7,σ7,H7,I7.unpinned,r7,q7⟩
end
theorem for_list {K:PySem.W.Frag}{a:Addr}{xs:List V}{g:TG}{tb:TS}{D:Ends}{σ:St}{H:Hp}(Pv:Nat→St→Hp→Prop) (h0:Pv 0 σ H) (hl:∀ i σ H,i≤xs.length→Pv i σ H→SqL K H a xs)
   (hs:∀ i x σ H,xs[i]? = some x→Pv i σ H→g x σ H λ σ2 H2=>tb { D with nx:=Pv (i + 1),ct:=Pv (i + 1),bk:=D.nx } σ2 H2) (hd:∀ σ H,Pv xs.length σ H→D.nx σ H) :
   ∃ W:Nat→Nat→St→Hp→Prop,(∃ m,W 0 m σ H)∧∀ i m σ H,W i m σ H →
     ((Itl K a).stop i H∧D.nx σ H)∨((Itl K a).go i H∧∃ N:St→Hp→Prop,(∀ σ' H',N σ' H'→∃ m',m' < m∧W (i + 1) m' σ' H')∧∀ x H',(Itl K a).yld i H x H'→g x σ H' λ σ2 H2=>tb { D with nx:=N,ct:=N,bk:=D.nx } σ2 H2):=by
 refine ⟨λ i m σ H=>m=xs.length - i∧i≤xs.length∧Pv i σ H,⟨xs.length,by simp,Nat.zero_le _,h0⟩,?_⟩
 rintro i m σ H ⟨rfl,hi,p⟩
 have q:=hl i σ H hi p
 by_cases hlt:i < xs.length
 · refine .inr ⟨⟨xs,xs[i],q,by simp [hlt]⟩,Pv (i + 1),λ σ' H' p'=>⟨xs.length - (i + 1),by lia,rfl,hlt,p'⟩,λ x H' y=>?_⟩
   obtain ⟨e,y⟩:=y
   subst e
   exact hs i x σ _ (y xs q) p
 · have e:i=xs.length:=by lia
   subst e
   exact .inl ⟨⟨xs,q,Nat.le_refl _⟩,hd σ H p⟩
theorem for_range {lo:Int}{n:Nat}{g:TG}{tb:TS}{D:Ends}{σ:St}{H:Hp}(Pv:Nat→St→Hp→Prop) (h0:Pv 0 σ H)
   (hs:∀ i σ H,i < n→Pv i σ H→g (.int (lo + i)) σ H λ σ2 H2=>tb { D with nx:=Pv (i + 1),ct:=Pv (i + 1),bk:=D.nx } σ2 H2) (hd:∀ σ H,Pv n σ H→D.nx σ H) :
   ∃ W:Nat→Nat→St→Hp→Prop,(∃ m,W 0 m σ H)∧∀ i m σ H,W i m σ H →
     ((Itr lo n).stop i H∧D.nx σ H)∨((Itr lo n).go i H∧∃ N:St→Hp→Prop,(∀ σ' H',N σ' H'→∃ m',m' < m∧W (i + 1) m' σ' H')∧∀ x H',(Itr lo n).yld i H x H'→g x σ H' λ σ2 H2=>tb { D with nx:=N,ct:=N,bk:=D.nx } σ2 H2):=by
 refine ⟨λ i m σ H=>m=n - i∧i≤n∧Pv i σ H,⟨n,by simp,Nat.zero_le _,h0⟩,?_⟩
 rintro i m σ H ⟨rfl,hi,p⟩
 by_cases hlt:i < n
 · refine .inr ⟨hlt,Pv (i + 1),λ σ' H' p'=>⟨n - (i + 1),by lia,rfl,hlt,p'⟩,λ x H' y=>?_⟩
   obtain ⟨e,y⟩:=y
   subst e y
   exact hs i σ _ hlt p
 · have e:i=n:=by lia
   subst e
   exact .inl ⟨Nat.le_refl _,hd σ H p⟩
end L2
namespace L2
open PySem PySem.Spec PyProof.Rows
abbrev R2:=V→V→Hp→VK→Prop
def OpR (X:Cx) (f:Value→Value→Sem Value) (r:R2):Prop :=
 ∀ (pins:List (Addr×Obj)) (s:Shared) (σ:St) (H:Hp) (x y:V) (v u:Value) (Q:VK),Inv X pins σ H s→RelV x v→RelV y u→r x y H Q →
   wpAny (model X.prog X.w) X.A (f v u) (EP X pins σ Q) X.xe s
def UnR (X:Cx) (f:Value→Sem Value) (r:V→Hp→VK→Prop):Prop :=
 ∀ (pins:List (Addr×Obj)) (s:Shared) (σ:St) (H:Hp) (x:V) (v:Value) (Q:VK),Inv X pins σ H s→RelV x v→r x H Q →
   wpAny (model X.prog X.w) X.A (f v) (EP X pins σ Q) X.xe s
def CallR (X:Cx) (f:Value) (r:List V→Hp→VK→Prop):Prop :=
 ∀ (pins:List (Addr×Obj)) (s:Shared) (σ:St) (H:Hp) (xs:List V) (us:List Value) (Q:VK),Inv X pins σ H s→Vals xs us→r xs H Q →
   wpAny (model X.prog X.w) X.A (call f us) (EP X pins σ Q) X.xe s
def tOp (r:R2) (ta tb:TE):TE:=λ σ H Q=>ta σ H λ x H1=>tb σ H1 λ y H2=>r x y H2 Q
def tUn (r:V→Hp→VK→Prop) (ta:TE):TE:=λ σ H Q=>ta σ H λ x H1=>r x H1 Q
def rI (C:Int→Int→Prop) (g:Int→Int→V):R2:=λ x y H Q => ∃ i j,x=.int i∧y=.int j∧C i j∧Q (g i j) H
def rI0 (g:Int→Int→V):R2:=λ x y H Q => ∃ i j,x=.int i∧y=.int j∧Q (g i j) H
def rU (g:Int→V):V→Hp→VK→Prop:=λ x H Q => ∃ i,x=.int i∧Q (g i) H
section
variable {X:Cx}{a b c:Expr}{ta tb tc:TE}{pos:Pos}
theorem binT (ha:PE X a ta) (hb:PE X b tb) {pins:List (Addr×Obj)}{s:Shared}{σ:St}{H:Hp}{R:V→V→Hp→Prop}(I:Inv X pins σ H s)
   (h:ta σ H λ x H1=>tb σ H1 λ y H2=>R x y H2) {Q:Value→Shared→Prop}{f:Value→Value→Sem Value}
   (hf:∀ v u s2 x y H2,Inv X pins σ H2 s2→RelV x v→RelV y u→R x y H2→wpAny (model X.prog X.w) X.A (f v u) Q X.xe s2) :
   wpAny (model X.prog X.w) X.A (eval a X.env) (λ v s₁=>wpAny (model X.prog X.w) X.A (eval b X.env) (λ u s₂=>wpAny (model X.prog X.w) X.A (f v u) Q X.xe s₂) X.xe s₁) X.xe s:=by
 refine thn (ha pins s σ H _ I h) λ v s1 ⟨x,H1,I1,r1,q1⟩=>?_
 refine thn (hb pins s1 σ H1 _ I1 q1) λ u s2 ⟨y,H2,I2,r2,q2⟩=>?_
 exact hf v u s2 x y H2 I2 r1 r2 q2
theorem pe_op {op:Operator}{r:R2}(ho:OpR X (binaryOp op) r) (ha:PE X a ta) (hb:PE X b tb):PE X (.BinOp a op b pos) (tOp r ta tb):=by
 intro pins s σ H Q I h
 exact wpAny_BinOp (binT ha hb I h λ v u s2 x y H2 I2 rx ry q=>ho pins s2 σ H2 x y v u Q I2 rx ry q)
theorem pe_un {op:UnaryOp}{r:V→Hp→VK→Prop}(ho:UnR X (unaryOp op) r) (ha:PE X a ta):PE X (.UnaryOp op a pos) (tUn r ta):=by
 intro pins s σ H Q I h
 exact UnaryOp_ (thn (ha pins s σ H _ I h) λ v s1 ⟨x,H1,I1,r1,q1⟩=>ho pins s1 σ H1 x v Q I1 r1 q1)
theorem opI {f:Value→Value→Sem Value}{C:Int→Int→Prop}{g:Int→Int→Int}
   (rule:∀ (i j:Int) (t u:Tok) (s:Shared) (Q:Value→Shared→Prop) (E:Value→Shared→Prop),C i j→Q (.int (g i j) s.toks) { s with toks:=s.toks + 1 }→wpAny (model X.prog X.w) X.A (f (.int i t) (.int j u)) Q E s) :
   OpR X f (rI C λ i j=>.int (g i j)):=by
 intro pins s σ H x y v u Q I rx ry h
 obtain ⟨i,j,rfl,rfl,hc,q⟩:=h
 obtain ⟨t,rfl⟩:=rx
 obtain ⟨t',rfl⟩:=ry
 exact rule i j t t' s _ _ hc ⟨.int (g i j),H,I.tok _,⟨_,rfl⟩,q⟩
theorem opI0 {f:Value→Value→Sem Value}{g:Int→Int→Int}
   (rule:∀ (i j:Int) (t u:Tok) (s:Shared) (Q:Value→Shared→Prop) (E:Value→Shared→Prop),Q (.int (g i j) s.toks) { s with toks:=s.toks + 1 }→wpAny (model X.prog X.w) X.A (f (.int i t) (.int j u)) Q E s) :
   OpR X f (rI0 λ i j=>.int (g i j)):=by
 intro pins s σ H x y v u Q I rx ry h
 obtain ⟨i,j,rfl,rfl,q⟩:=h
 obtain ⟨t,rfl⟩:=rx
 obtain ⟨t',rfl⟩:=ry
 exact rule i j t t' s _ _ ⟨.int (g i j),H,I.tok _,⟨_,rfl⟩,q⟩
theorem opB0 {f:Value→Value→Sem Value}{g:Int→Int→Bool}
   (rule:∀ (i j:Int) (t u:Tok) (s:Shared) (Q:Value→Shared→Prop) (E:Value→Shared→Prop),Q (.bool (g i j)) s→wpAny (model X.prog X.w) X.A (f (.int i t) (.int j u)) Q E s) :
   OpR X f (rI0 λ i j=>.bl (g i j)):=by
 intro pins s σ H x y v u Q I rx ry h
 obtain ⟨i,j,rfl,rfl,q⟩:=h
 obtain ⟨t,rfl⟩:=rx
 obtain ⟨t',rfl⟩:=ry
 exact rule i j t t' s _ _ ⟨.bl (g i j),H,I,rfl,q⟩
def CDiv (i j:Int):Prop:=0 < j∧j < 1073741824
def CPow (i j:Int):Prop:=0≤j∧j≤1000000∧i.natAbs < 2 ^ 64
def CMul (i j:Int):Prop:=(-(2 ^ 64) < i∧i < 2 ^ 64)∨(-(2 ^ 64) < j∧j < 2 ^ 64)
theorem CMul.ok {i j:Int}(h:CMul i j):IntMulOk i j:=by
 rcases h with ⟨h1,h2⟩ | ⟨h1,h2⟩
 · exact .of_left (intBits_le_64 h1 h2)
 · exact .of_right (intBits_le_64 h1 h2)
theorem op_add:OpR X (binaryOp .Add) (rI0 λ i j=>.int (i + j)):=opI0 λ _ _ _ _ _ _ _ q=>add_int q
theorem op_sub:OpR X (binaryOp .Sub) (rI0 λ i j=>.int (i - j)):=opI0 λ _ _ _ _ _ _ _ q=>sub_int q
theorem op_mul:OpR X (binaryOp .Mult) (rI CMul λ i j=>.int (i * j)):=opI λ _ _ _ _ _ _ _ hc q=>mul_int q hc.ok
theorem op_fdiv:OpR X (binaryOp .FloorDiv) (rI CDiv λ i j=>.int (i / j)):=opI λ i j _ _ _ _ _ hc q=>by
 have h1:(0:Int) < j:=hc.1
 have h2:j < 1073741824:=hc.2
 exact floordiv_int (by lia) (by rw [Int.fdiv_eq_ediv_of_nonneg i (by lia)]; exact q) (.inl (PyProof.noPylong_small (by lia)))
theorem op_mod:OpR X (binaryOp .Mod) (rI (λ _ j=>0 < j) λ i j=>.int (i % j)):=opI λ i j _ _ _ _ _ hc q=>by
 have h1:(0:Int) < j:=hc
 exact mod_int' (by lia) (by rw [Int.fmod_eq_emod_of_nonneg i (by lia)]; exact q)
theorem op_pow:OpR X (binaryOp .Pow) (rI CPow λ i j=>.int (i ^ j.toNat)):=opI λ _ _ _ _ _ _ _ hc q=>pow_int_small hc.1 hc.2.1 hc.2.2 q
theorem unI {f:Value→Sem Value}{g:Int→Int}
   (rule:∀ (i:Int) (t:Tok) (s:Shared) (Q:Value→Shared→Prop) (E:Value→Shared→Prop),Q (.int (g i) s.toks) { s with toks:=s.toks + 1 }→wpAny (model X.prog X.w) X.A (f (.int i t)) Q E s) :
   UnR X f (rU λ i=>.int (g i)):=by
 intro pins s σ H x v Q I rx h
 obtain ⟨i,rfl,q⟩:=h
 obtain ⟨t,rfl⟩:=rx
 exact rule i t s _ _ ⟨.int (g i),H,I.tok _,⟨_,rfl⟩,q⟩
theorem un_neg:UnR X (unaryOp .USub) (rU λ i=>.int (-i)):=unI λ _ _ _ _ _ q=>neg_int q
end
def scal:V→V→Bool
 | .non,.non=>true | .non,.int _=>true | .int _,.non=>true | .non,.bl _=>true | .bl _,.non=>true | .non,.str _=>true | .str _,.non=>true
 | .int _,.int _=>true | .bl _,.bl _=>true | .str _,.str _=>true | .byt _,.byt _=>true
 | .int _,.str _=>true | .str _,.int _=>true | .bl _,.str _=>true | .str _,.bl _=>true
 | _,_=>false
def rEq:R2:=λ x y H Q=>scal x y=true∧Q (.bl (decide (x=y))) H
def rNe:R2:=λ x y H Q=>scal x y=true∧Q (.bl (!decide (x=y))) H
theorem dec_int {i j:Int}:decide (V.int i=V.int j)=(i == j):=by
 rw [Bool.eq_iff_iff]
 simp
theorem dec_bl {i j:Bool}:decide (V.bl i=V.bl j)=(i == j):=by
 rw [Bool.eq_iff_iff]
 simp
theorem dec_str {i j:Str}:decide (V.str i=V.str j)=(i == j):=by
 rw [Bool.eq_iff_iff]
 simp
theorem dec_byt {i j:Array UInt8}:decide (V.byt i=V.byt j)=(i.toList == j.toList):=by
 rw [Bool.eq_iff_iff]
 cases i
 cases j
 simp
section
variable {X:Cx}{a b c:Expr}{ta tb tc:TE}{pos:Pos}
theorem fin_bl {pins:List (Addr×Obj)}{σ:St}{H:Hp}{s:Shared}{Q:VK}{k k':Bool}(I:Inv X pins σ H s) (q:Q (.bl k) H) (e:k=k'):EP X pins σ Q (.bool k') s:=by
 subst e
 exact ⟨.bl k,H,I,rfl,q⟩
theorem op_eq:OpR X (compareOp .Eq) rEq:=by
 intro pins s σ H x y v u Q I rx ry h
 obtain ⟨hs,q⟩:=h
 cases x with
 | non =>
   cases rx
   cases y with
   | non=>cases ry; exact PySem.EqNone.eq_none_none (fin_bl I q (by simp))
   | bl j=>cases ry; exact PySem.EqNone.eq_none_bool (fin_bl I q (by simp))
   | int j=>obtain ⟨t',rfl⟩:=ry; exact PySem.EqNone.eq_none_int (fin_bl I q (by simp))
   | str j=>obtain ⟨t',rfl⟩:=ry; exact PySem.EqNone.eq_none_str (fin_bl I q (by simp))
   | _=>exact absurd (show false=true from hs) Bool.false_ne_true
 | bl i =>
   cases rx
   cases y with
   | non=>cases ry; exact PySem.EqNone.eq_bool_none (fin_bl I q (by simp))
   | bl j=>cases ry; exact eq_bool (fin_bl I q dec_bl)
   | str j=>obtain ⟨t',rfl⟩:=ry; exact PySem.EqMixed.eq_bool_str (fin_bl I q (by simp))
   | _=>exact absurd (show false=true from hs) Bool.false_ne_true
 | int i =>
   obtain ⟨t,rfl⟩:=rx
   cases y with
   | non=>cases ry; exact PySem.EqNone.eq_int_none (fin_bl I q (by simp))
   | int j=>obtain ⟨t',rfl⟩:=ry; exact eq_int (fin_bl I q dec_int)
   | str j=>obtain ⟨t',rfl⟩:=ry; exact PySem.EqMixed.eq_int_str (fin_bl I q (by simp))
   | _=>exact absurd (show false=true from hs) Bool.false_ne_true
 | str i =>
   obtain ⟨t,rfl⟩:=rx
   cases y with
   | non=>cases ry; exact PySem.EqNone.eq_str_none (fin_bl I q (by simp))
   | bl j=>cases ry; exact PySem.EqMixed.eq_str_bool (fin_bl I q (by simp))
   | int j=>obtain ⟨t',rfl⟩:=ry; exact PySem.EqMixed.eq_str_int (fin_bl I q (by simp))
   | str j=>obtain ⟨t',rfl⟩:=ry; exact eq_str (fin_bl I q dec_str)
   | _=>exact absurd (show false=true from hs) Bool.false_ne_true
 | byt i =>
   obtain ⟨t,rfl⟩:=rx
   cases y with
   | byt j=>obtain ⟨t',rfl⟩:=ry; exact PySem.W.eq_bytes (fin_bl I q dec_byt)
   | _=>exact absurd (show false=true from hs) Bool.false_ne_true
 | _=>cases y <;> exact absurd (show false=true from hs) Bool.false_ne_true
theorem op_ne:OpR X (compareOp .NotEq) rNe:=by
 intro pins s σ H x y v u Q I rx ry h
 obtain ⟨hs,q⟩:=h
 cases x with
 | non =>
   cases rx
   cases y with
   | non=>cases ry; exact PySem.EqNone.ne_none_none (fin_bl I q (by simp))
   | bl j=>cases ry; exact PySem.EqNone.ne_none_bool (fin_bl I q (by simp))
   | int j=>obtain ⟨t',rfl⟩:=ry; exact PySem.EqNone.ne_none_int (fin_bl I q (by simp))
   | str j=>obtain ⟨t',rfl⟩:=ry; exact PySem.EqNone.ne_none_str (fin_bl I q (by simp))
   | _=>exact absurd (show false=true from hs) Bool.false_ne_true
 | bl i =>
   cases rx
   cases y with
   | non=>cases ry; exact PySem.EqNone.ne_bool_none (fin_bl I q (by simp))
   | bl j=>cases ry; exact ne_bool (fin_bl I q (congrArg not dec_bl))
   | str j=>obtain ⟨t',rfl⟩:=ry; exact PySem.EqMixed.ne_bool_str (fin_bl I q (by simp))
   | _=>exact absurd (show false=true from hs) Bool.false_ne_true
 | int i =>
   obtain ⟨t,rfl⟩:=rx
   cases y with
   | non=>cases ry; exact PySem.EqNone.ne_int_none (fin_bl I q (by simp))
   | int j=>obtain ⟨t',rfl⟩:=ry; exact ne_int (fin_bl I q (congrArg not dec_int))
   | str j=>obtain ⟨t',rfl⟩:=ry; exact PySem.EqMixed.ne_int_str (fin_bl I q (by simp))
   | _=>exact absurd (show false=true from hs) Bool.false_ne_true
 | str i =>
   obtain ⟨t,rfl⟩:=rx
   cases y with
   | non=>cases ry; exact PySem.EqNone.ne_str_none (fin_bl I q (by simp))
   | bl j=>cases ry; exact PySem.EqMixed.ne_str_bool (fin_bl I q (by simp))
   | int j=>obtain ⟨t',rfl⟩:=ry; exact PySem.EqMixed.ne_str_int (fin_bl I q (by simp))
   | str j=>obtain ⟨t',rfl⟩:=ry; exact ne_str (fin_bl I q (congrArg not dec_str))
   | _=>exact absurd (show false=true from hs) Bool.false_ne_true
 | byt i =>
   obtain ⟨t,rfl⟩:=rx
   cases y with
   | byt j=>obtain ⟨t',rfl⟩:=ry; exact PySem.W.ne_bytes (fin_bl I q (congrArg not dec_byt))
   | _=>exact absurd (show false=true from hs) Bool.false_ne_true
 | _=>cases y <;> exact absurd (show false=true from hs) Bool.false_ne_true
theorem op_lt:OpR X (compareOp .Lt) (rI0 λ i j=>.bl (decide (i < j))):=opB0 λ _ _ _ _ _ _ _ q=>lt_int q
theorem op_gt:OpR X (compareOp .Gt) (rI0 λ i j=>.bl (decide (j < i))):=opB0 λ _ _ _ _ _ _ _ q=>gt_int q
theorem op_isN:OpR X (compareOp .Is) (λ x y H Q=>y=.non∧Q (.bl (decide (x=.non))) H):=by
 intro pins s σ H x y v u Q I rx ry h
 obtain ⟨rfl,q⟩:=h
 cases ry
 refine is_none_gen (fin_bl I q ?_)
 cases x <;> first
   | (cases rx; rfl)
   | (obtain ⟨t,rfl⟩:=rx; rfl)
theorem op_notN:OpR X (compareOp .IsNot) (λ x y H Q=>y=.non∧Q (.bl (!decide (x=.non))) H):=by
 intro pins s σ H x y v u Q I rx ry h
 obtain ⟨rfl,q⟩:=h
 cases ry
 refine isnot_none_gen (fin_bl I q ?_)
 cases x <;> first
   | (cases rx; rfl)
   | (obtain ⟨t,rfl⟩:=rx; rfl)
theorem nomark (b:Expr) {op:CmpOp}(h:op≠.In:=by decide) (h2:op≠.NotIn:=by decide):behindInMarks op b=false:=by
 have e1:(op == CmpOp.In)=false:=by cases op <;> first | rfl | exact absurd rfl h
 have e2:(op == CmpOp.NotIn)=false:=by cases op <;> first | rfl | exact absurd rfl h2
 cases b <;> simp [behindInMarks,e1,e2]
theorem pe_cmpR {op:CmpOp}{r:R2}(ho:OpR X (compareOp op) r) (ha:PE X a ta) (hb:PE X b tb) (hm:behindInMarks op b=false):PE X (.Compare a [op] [b] pos) (tOp r ta tb):=by
 intro pins s σ H Q I h
 exact wpAny_Compare1 (binT ha hb I h λ v u s2 x y H2 I2 rx ry q=>ho pins s2 σ H2 x y v u Q I2 rx ry q) hm
def tTest (t:TE):TT:=λ σ H Q=>t σ H λ x H' => ∃ k,x=.bl k∧Q k H'
theorem pt_cmpR {op:CmpOp}{r:R2}(ho:OpR X (compareOp op) r) (ha:PE X a ta) (hb:PE X b tb) (hm:behindInMarks op b=false):PT X (.Compare a [op] [b] pos) (tTest (tOp r ta tb)):=by
 intro pins s σ H Q I h
 refine wpAny_isTrue_Compare1 (thn (ha pins s σ H _ I h) λ v s1 ⟨x,H1,I1,r1,q1⟩=>thn (hb pins s1 σ H1 _ I1 q1) λ u s2 ⟨y,H2,I2,r2,q2⟩ =>
   thn (ho pins s2 σ H2 x y v u _ I2 r1 r2 q2) λ c s3 ⟨z,H3,I3,r3,k,e,q3⟩=>?_) hm
 subst e
 cases r3
 exact wpAny_truthy_bool ⟨H3,I3,q3⟩
def tChain (r r':R2) (ta tb tc:TE):TE:=λ σ H Q=>ta σ H λ x H1=>tb σ H1 λ y H2=>r x y H2 λ z H3 => ∃ k,z=.bl k ∧
 (if k=true then tc σ H3 λ w' H4=>r' y w' H4 Q else Q (.bl false) H3)
theorem pt_chain {op op':CmpOp}{r r':R2}(ho:OpR X (compareOp op) r) (ho':OpR X (compareOp op') r') (ha:PE X a ta) (hb:PE X b tb) (hc:PE X c tc)
   (hm:lastMarks [op,op'] [b,c]=false:=by with_unfolding_all rfl):PT X (.Compare a [op,op'] [b,c] pos) (tTest (tChain r r' ta tb tc)):=by
 intro pins s σ H Q I h
 refine isTrue_chain (thn (ha pins s σ H _ I h) λ v s1 ⟨x,H1,I1,r1,q1⟩=>test_link (thn (hb pins s1 σ H1 _ I1 q1) λ u s2 ⟨y,H2,I2,r2,q2⟩ =>
   thn (ho pins s2 σ H2 x y v u _ I2 r1 r2 q2) λ d s3 ⟨z,H3,I3,r3,k,e,q3⟩=>?_)) hm
 subst e
 cases r3
 refine wpAny_truthy_bool ?_
 cases k with
 | false =>
   obtain ⟨k',e',q'⟩:=q3
   cases e'
   exact ite_ff ⟨H3,I3,q'⟩
 | true =>
   refine ite_tt (test_last (thn (hc pins s3 σ H3 _ I3 q3) λ w' s4 ⟨z',H4,I4,r4,q4⟩=>thn (ho' pins s4 σ H4 y z' u w' _ I4 r2 r4 q4) λ d' s5 ⟨z2,H5,I5,r5,k2,e2,q5⟩=>?_))
   subst e2
   cases r5
   exact wpAny_truthy_bool ⟨H5,I5,q5⟩
theorem line63:(sizeLine:Nat) < 2 ^ 63:=by rw [sizeLine_eq]; decide
theorem vals1 {x:V}{us:List Value}(r:Vals [x] us):∃ u,us=[u]∧RelV x u:=by
 cases r with
 | cons r1 r2=>cases r2; exact ⟨_,rfl,r1⟩
theorem vals2 {x y:V}{us:List Value}(r:Vals [x,y] us):∃ u w',us=[u,w']∧RelV x u∧RelV y w':=by
 cases r with
 | cons r1 r2 =>
   cases r2 with
   | cons r3 r4=>cases r4; exact ⟨_,_,rfl,r1,r3⟩
theorem call_min2 (hc:X.calm=true):CallR X (.builtin "min") (λ xs H Q => ∃ i j,xs=[.int i,.int j]∧Q (.int (if j < i then j else i)) H):=by
 intro pins s σ H xs us Q I r h
 obtain ⟨i,j,rfl,q⟩:=h
 obtain ⟨u,w',rfl,⟨t,rfl⟩,⟨t',rfl⟩⟩:=vals2 r
 refine min_two_ints (I.ok.hd hc) λ h' tk k=>⟨_,H,I.kept k,?_,q⟩
 by_cases hj:j < i
 · rw [if_pos hj,if_pos hj]; exact ⟨_,rfl⟩
 · rw [if_neg hj,if_neg hj]; exact ⟨_,rfl⟩
theorem call_int1:CallR X (.type "int") (λ xs H Q=>(∃ i,xs=[.int i]∧Q (.int i) H)∨∃ k,xs=[.bl k]∧Q (.int (if k then 1 else 0)) H):=by
 intro pins s σ H xs us Q I r h
 rcases h with ⟨i,rfl,q⟩ | ⟨k,rfl,q⟩
 · obtain ⟨u,rfl,t,rfl⟩:=vals1 r
   exact call_int_int ⟨.int i,H,I,⟨_,rfl⟩,q⟩
 · obtain ⟨u,rfl,r1⟩:=vals1 r
   cases r1
   exact call_int_bool ⟨.int (if k then 1 else 0),H,I.tok _,⟨_,rfl⟩,q⟩
end
end L2
namespace L2
open PySem PySem.Spec PyProof.Rows
structure ObjM (h:Heap) (x dx C:Addr) (mA:Str→Option Value):Prop where
 obj:h.get? x=some (PySem.W.instObj C dx)
 ns:h.Ns1 dx mA
 ne:dx≠x
theorem lookIn_ns {h:Heap}{dx:Addr}{mA:Str→Option Value}(n:h.Ns1 dx mA):∃ od,h.get? dx=some od∧∀ name,PySem.W.lookIn name od=some (mA name):=by
 obtain ⟨o,es,ep,ho,hd,hk,_,hm⟩:=n
 refine ⟨o,ho,λ name=>?_⟩
 have e:=hm name
 unfold nsFind findBy at e
 rw [← Array.find?_toList] at e
 unfold PySem.W.lookIn
 rw [hd]
 dsimp only
 split
 · rename_i y q
   rw [q] at e
   exact congrArg some e
 · rename_i q
   rw [q] at e
   have a:es.toList.any (·.refKey)=false:=by
     rw [List.any_eq_false]
     intro y hy
     obtain ⟨z,t,hkey⟩:=hk y (Array.mem_toList_iff.mp hy)
     simp [DictEntry.refKey,hkey]
   have a':¬ es.toList.any (·.refKey)=true:=by rw [a]; exact Bool.false_ne_true
   rw [if_neg a']
   exact congrArg some e
theorem ObjM.look {h:Heap}{x dx C:Addr}{mA:Str→Option Value}(I:ObjM h x dx C mA):∃ od,PySem.W.InstAt h x (PySem.W.instObj C dx) C (some od)∧∀ name,PySem.W.lookIn name od=some (mA name) :=
 let ⟨od,ho,hl⟩:=lookIn_ns I.ns
 ⟨od,⟨I.obj,rfl,rfl,ho⟩,hl⟩
section
variable {prog:Program}{w:World}{A:Around}{E:Value→Shared→Prop}{s:Shared}{K:PySem.W.Frag}{x dx C f:Addr}{mA:Str→Option Value}{name:Str}{v:Value}
theorem get_map {expr:Bool}{Q:Value→Shared→Prop}(X:K.In s.heap) (I:ObjM s.heap x dx C mA) (hg:PySem.W.plainGet K C name=true) (hh:PySem.W.hasDictIn K C=true)
   (ha:PySem.W.findIn K (.ref C) name=some none) (hv:mA name=some v) (hv':PySem.W.handedIn v=true) (h:Q v { s with toks:=s.toks + 1 }) :
   wpAny (model prog w) A (getAttr (.ref x) name expr) Q E s:=by
 obtain ⟨od,J,hl⟩:=I.look
 exact PySem.W.get_value X J (PySem.W.plainGet_of hg).1 (PySem.W.findObj_own hh ha rfl (by rw [hl,hv])) hv' h
theorem get_meth {pl:Sem Bool}{Q:Value×List Value→Shared→Prop}(X:K.In s.heap) (I:ObjM s.heap x dx C mA) (hg:PySem.W.plainGet K C name=true)
   (hf:PySem.W.findIn K (.ref C) name=some (some (.ref f))) (ht:PySem.W.isFn K (.ref f)=true) (hv:mA name=none) (h:Q (.ref f,[.ref x]) s) :
   wpAny (model prog w) A (getMethod (.ref x) name pl) Q E s:=by
 obtain ⟨od,J,hl⟩:=I.look
 exact PySem.W.method_fn X J (PySem.W.plainGet_of hg).1 (PySem.W.plainGet_of hg).2 hf (beq_iff_eq.mp ht) (by show (PySem.W.lookIn name od).map (·.isSome)=some false; rw [hl,hv]; rfl) h
theorem set_map {ns:List Str}{Q:Unit→Shared→Prop}(X:K.In s.heap) (I:ObjM s.heap x dx C mA)
   (hs:PySem.W.findIn K (.ref C) "__setattr__" = some (some (.builtin "object.__setattr__"))) (hp:PySem.W.plainOver K C=true) (ht:PySem.W.takerIn K C name=some none) (hh:PySem.W.hasDictIn K C=true)
   (hw:PySem.Within mA ns) (hsz:ns.length≤sizeLine)
   (h:∀ h',ObjM h' x dx C (λ y=>if y=name then some v else mA y)→Heap.SameBut dx s.heap h'→Q () { s with heap:=h',toks:=s.toks + 2 }) :
   wpAny (model prog w) A (setAttr (.ref x) name v) Q E s:=by
 obtain ⟨od,J,hl⟩:=I.look
 refine PySem.W.set_plain X J hs (PySem.W.osa_open (s:={ s with toks:=s.toks + 1 }) (r:=none) X J hp ht λ b=>?_)
 obtain ⟨cd,hc,hd'⟩:=PySem.W.any_some hh
 have hx:s.heap.get? x=some ⟨.ref C,some dx,.plain, #[]⟩:=I.obj
 refine wpAny_bind (wpAny_pure (wpAny_bind (wpAny_bind (wpAny_loadPart hx (wpAny_bind (PySem.W.Looks.here (s:={ s with toks:=s.toks + 1 }) (PySem.W.looks_clsIn X hc) ?_))))))
 rw [hd']
 refine wpAny_pure (a:=some dx) (wpAny_bind (wpAny_pure (wpAny_bind ?_)))
 refine wpAny_nsSet1 (s:={ s with toks:=s.toks + 1 }) I.ns λ h' hn2 hs2=>?_
 obtain ⟨oD,esD,epD,hoD,hdD,hcD⟩:=hn2.count (PySem.Within.cons name v hw)
 refine wpAny_bind (wpAny_lookBehind hoD (by rw [hdD]; exact pastItsLine_dict (Nat.le_trans hcD (by rw [List.length_cons]; lia))) ?_)
 exact wpAny_pure (h _ ⟨(hs2.2 _ (Ne.symm I.ne)).trans I.obj,hn2,I.ne⟩ hs2)
theorem make_map {R:Result→Shared→Prop}{vs:List Value}{kw:List (Str×Value)}(X:K.In s.heap) (hm:PySem.W.makesIn K C=true)
   (hi:PySem.W.findIn K (.ref C) "__init__" = some (some (.ref f))) (hf:PySem.W.typeIn K (.ref f)=some (.type "function"))
   (h:codeAny (model prog w) (A.under (.builtin "type.__call__" ⟨.ref C :: vs,kw⟩)) (.call (.ref f) ⟨.ref (s.heap.objs.size + 1) :: vs,kw⟩) (PySem.W.InitBack (s.heap.objs.size + 1) R)
     { s with heap:=(s.heap.push PySem.W.emptyDict).push (PySem.W.instObj C s.heap.objs.size) }) :
   codeAny (model prog w) A (.call (.ref C) ⟨vs,kw⟩) R s:=by
 obtain ⟨hh,g,d,t,os⟩:=s
 exact PySem.W.make_core (PySem.W.makes_of X hm) (PySem.W.looks_findIn X hi) (λ self=>PySem.W.bind_fn X self hf) (.inl rfl) h
end
def putF (f:Str) (v:V):List (Str×V)→List (Str×V)
 | []=>[(f,v)]
 | (g,x) :: r=>if g=f then (g,v) :: r else (g,x) :: putF f v r
theorem lookup_putF (f g:Str) (v:V):∀ fs:List (Str×V),(putF f v fs).lookup g=if g=f then some v else fs.lookup g
 | []=>by
   show List.lookup g [(f,v)]=_
   by_cases h:g=f
   · have hb:(g == f)=true:=beq_iff_eq.mpr h
     simp only [List.lookup,hb,if_pos h]
   · have hb:(g == f)=false:=beq_eq_false_iff_ne.mpr h
     simp only [List.lookup,hb,if_neg h]
 | (k,x) :: r=>by
   have ih:=lookup_putF f g v r
   rw [show putF f v ((k,x) :: r)=(if k=f then (k,v) :: r else (k,x) :: putF f v r) from rfl]
   by_cases hk:k=f
   · rw [if_pos hk]
     by_cases h:g=k
     · have hb:(g == k)=true:=beq_iff_eq.mpr h
       simp only [List.lookup,hb,if_pos (h.trans hk)]
     · have hb:(g == k)=false:=beq_eq_false_iff_ne.mpr h
       simp only [List.lookup,hb,if_neg (λ e:g=f=>h (e.trans hk.symm))]
   · rw [if_neg hk]
     by_cases h:g=k
     · have hb:(g == k)=true:=beq_iff_eq.mpr h
       simp only [List.lookup,hb,if_neg (λ e:g=f=>hk (h.symm.trans e))]
     · have hb:(g == k)=false:=beq_eq_false_iff_ne.mpr h
       simp only [List.lookup,hb]
       exact ih
theorem keys_putF (f:Str) (v:V):∀ fs:List (Str×V),f∈(putF f v fs).map (·.1)∧∀ g,g∈fs.map (·.1)→g∈(putF f v fs).map (·.1)
 | []=>⟨by simp [putF],λ g h=>by simp at h⟩
 | (k,x) :: r=>by
   obtain ⟨i1,i2⟩:=keys_putF f v r
   rw [show putF f v ((k,x) :: r)=(if k=f then (k,v) :: r else (k,x) :: putF f v r) from rfl]
   by_cases hk:k=f
   · rw [if_pos hk]
     subst hk
     exact ⟨by simp,λ g h=>by simpa using h⟩
   · rw [if_neg hk]
     refine ⟨?_,λ g h=>?_⟩
     · rw [List.map_cons]
       exact List.mem_cons_of_mem _ i1
     · rw [List.map_cons] at h ⊢
       rcases List.mem_cons.mp h with e | e
       · exact List.mem_cons.mpr (.inl e)
       · exact List.mem_cons_of_mem _ (i2 g e)
theorem length_putF (f:Str) (v:V):∀ fs:List (Str×V),(putF f v fs).length≤fs.length + 1
 | []=>by simp [putF]
 | (k,x) :: r=>by
   have ih:=length_putF f v r
   rw [show putF f v ((k,x) :: r)=(if k=f then (k,v) :: r else (k,x) :: putF f v r) from rfl]
   by_cases hk:k=f
   · rw [if_pos hk,List.length_cons,List.length_cons]; lia
   · rw [if_neg hk,List.length_cons,List.length_cons]; lia
theorem RelO.some_of {v:V}{o:Option Value}(r:RelO (some v) o):∃ u,o=some u∧RelV v u:=by
 cases o with
 | none=>exact (show False from r).elim
 | some u=>exact ⟨u,rfl,r⟩
theorem RelO.none_of {o:Option Value}(r:RelO none o):o=none:=by
 cases o with
 | none=>rfl
 | some u=>exact (show False from r).elim
theorem handed_of {v:V}{u:Value}(r:RelV v u):PySem.W.handedIn u=true:=by
 cases v with
 | non=>cases (show u=Value.none from r); rfl
 | bl b=>cases (show u=Value.bool b from r); rfl
 | int i=>obtain ⟨t,e⟩:=(show ∃ t,u=Value.int i t from r); cases e; rfl
 | str x=>obtain ⟨t,e⟩:=(show ∃ t,u=Value.str x t from r); cases e; rfl
 | byt b=>obtain ⟨t,e⟩:=(show ∃ t,u=Value.bytes b t from r); cases e; rfl
 | flt b=>obtain ⟨t,e⟩:=(show ∃ t,u=Value.float b t from r); cases e; rfl
 | ref a=>cases (show u=Value.ref a from r); rfl
 | ty n=>cases (show u=Value.type n from r); rfl
section
variable {P:Program}{w:World}{H H':Hp}{h h':Heap}{a C dx:Addr}{fs fs':List (Str×V)}
theorem ins_get (hok:HOk P w H h) (e:H a=some (.ins C dx fs)):∃ mA,ObjM h a dx C mA∧(∀ f,RelO (fs.lookup f) (mA f))∧PySem.Within mA (fs.map (·.1))∧fs.length≤1000∧H dx=some (.own a):=by
 obtain ⟨d,z,ne,ob,mA,n,r,q⟩:=(show ObjOk P w H h a (.ins C dx fs) from hok a _ e)
 exact ⟨mA,⟨ob,n,ne⟩,r,q,z,d⟩
end
structure Cls (K:PySem.W.Frag) (C:Addr):Prop where
 pg:PySem.W.plainGet K C Str.empty=true
 hd:PySem.W.hasDictIn K C=true
 po:PySem.W.plainOver K C=true
 sa:PySem.W.findIn K (.ref C) "__setattr__" = some (some (.builtin "object.__setattr__"))
theorem Cls.get {K:PySem.W.Frag}{C:Addr}(c:Cls K C) (f:Str):PySem.W.plainGet K C f=true:=c.pg
def NoAttr (K:PySem.W.Frag) (C:Addr) (f:Str):Prop:=PySem.W.findIn K (.ref C) f=some none
theorem NoAttr.taker {K:PySem.W.Frag}{C:Addr}{f:Str}(n:NoAttr K C f):PySem.W.takerIn K C f=some none:=by
 unfold PySem.W.takerIn
 rw [show PySem.W.findIn K (.ref C) f=some none from n]
 rfl
structure Meth (K:PySem.W.Frag) (C:Addr) (m:Str) (f:Addr):Prop where
 at_:PySem.W.findIn K (.ref C) m=some (some (.ref f))
 fn:PySem.W.isFn K (.ref f)=true
 kp:PySem.W.keepIn K (.ref f)=true
section
variable {X:Cx}{pins:List (Addr×Obj)}{σ:St}{H:Hp}{s:Shared}{a C dx:Addr}{fs:List (Str×V)}{f:Str}{v:V}{A:Around}{E:Value→Shared→Prop}
theorem getattr_ok {b:Bool}{Q:Value→Shared→Prop}(I:Inv X pins σ H s) (e:H a=some (.ins C dx fs)) (c:Cls X.K C) (n:NoAttr X.K C f) (l:fs.lookup f=some v)
   (h:∀ u s',Inv X pins σ H s'→RelV v u→Q u s'):wpAny (model X.prog X.w) A (getAttr (.ref a) f b) Q E s:=by
 obtain ⟨mA,O,r,_,_,_⟩:=ins_get I.hok e
 obtain ⟨u,hu,ru⟩:=RelO.some_of (v:=v) (o:=mA f) (by rw [← l]; exact r f)
 exact get_map I.kIn O (c.get f) c.hd n hu (handed_of ru) (h u _ (I.tok _) ru)
theorem getmeth_ok {m:Str}{g:Addr}{pl:Sem Bool}{Q:Value×List Value→Shared→Prop}(I:Inv X pins σ H s) (e:H a=some (.ins C dx fs)) (c:Cls X.K C) (k:Meth X.K C m g) (l:fs.lookup m=none)
   (h:Q (.ref g,[.ref a]) s):wpAny (model X.prog X.w) A (getMethod (.ref a) m pl) Q E s:=by
 obtain ⟨mA,O,r,_,_,_⟩:=ins_get I.hok e
 have hn:mA m=none:=RelO.none_of (by rw [← l]; exact r m)
 exact get_meth I.kIn O (c.get m) k.at_ k.fn hn h
theorem setattr_ok {y:V}{u:Value}{Q:Unit→Shared→Prop}(I:Inv X pins σ H s) (e:H a=some (.ins C dx fs)) (c:Cls X.K C) (n:NoAttr X.K C f) (hl:fs.length < 1000) (ry:RelV y u)
   (h:∀ s',Inv X pins σ (upd H a (.ins C dx (putF f y fs))) s'→Q () s'):wpAny (model X.prog X.w) A (setAttr (.ref a) f u) Q E s:=by
 obtain ⟨mA,O,r,wi,_,ho⟩:=ins_get I.hok e
 have hz:(fs.map (·.1)).length≤sizeLine:=by rw [List.length_map,sizeLine_eq]; lia
 refine set_map I.kIn O c.sa c.po n.taker c.hd wi hz λ h' O' sb=>h _ ?_
 have hd:∃ o,h'.get? dx=some o:=let ⟨o,_,_,e',_⟩:=O'.ns; ⟨o,e'⟩
 refine I.write (x:=a) (e:=dx) (by rw [e]; exact True.intro) (.inr ho) (λ b q hb z=>(sb.2 b hb).trans z) hd ?_
 refine ⟨by rw [upd_ne O.ne]; exact ho,?_,O.ne,O'.obj,_,O'.ns,λ g=>?_,λ g hg=>?_⟩
 · have:=length_putF f y fs; lia
 · show RelO ((putF f y fs).lookup g) (if g=f then some u else mA g)
   rw [lookup_putF]
   by_cases q:g=f
   · rw [if_pos q,if_pos q]; exact ry
   · rw [if_neg q,if_neg q]; exact r g
 · by_cases q:g=f
   · rw [q]; exact (keys_putF f y fs).1
   · refine (keys_putF f y fs).2 g (wi g λ z=>hg ?_)
     show (if g=f then some u else mA g)=none
     rw [if_neg q]; exact z
theorem Inv.made (I:Inv X pins σ H s):Inv X pins σ (upd (upd H s.heap.objs.size (.own (s.heap.objs.size + 1))) (s.heap.objs.size + 1) (.ins C s.heap.objs.size []))
   { s with heap:=(s.heap.push PySem.W.emptyDict).push (PySem.W.instObj C s.heap.objs.size) }:=by
 have e1:(s.heap.push PySem.W.emptyDict).get? s.heap.objs.size=some PySem.W.emptyDict:=Heap.get?_push_size s.heap rfl
 have e2:((s.heap.push PySem.W.emptyDict).push (PySem.W.instObj C s.heap.objs.size)).get? (s.heap.objs.size + 1)=some (PySem.W.instObj C s.heap.objs.size):=by
   have:=Heap.get?_push_size (s.heap.push PySem.W.emptyDict) (o:=PySem.W.instObj C s.heap.objs.size) rfl
   rwa [Heap.size_push] at this
 have e3:(s.heap.push PySem.W.emptyDict).Ns s.heap.objs.size (λ _=>none):=⟨PySem.W.emptyDict, #[],_,e1,rfl,(λ e he=>absurd he (by simp)),λ _=>rfl⟩
 have I1:=I.laid (a:=s.heap.objs.size) (o:=.own (s.heap.objs.size + 1)) (h':=s.heap.push PySem.W.emptyDict) (t':=s.toks) (λ b u q=>Heap.get?_push_of_some _ q) (Nat.le_refl _) ⟨_,e1⟩
 refine I1.laid (a:=s.heap.objs.size + 1) (o:=.ins C s.heap.objs.size []) (t':=s.toks) (λ b u q=>Heap.get?_push_of_some _ q) (Nat.le_of_eq (Heap.size_push _ _)) ?_
 have ne:s.heap.objs.size≠s.heap.objs.size + 1:=Nat.ne_of_lt (Nat.lt_succ_self _)
 refine ⟨by rw [upd_ne ne,upd_same],Nat.zero_le _,ne,e2,λ _=>none,(Heap.Ns1.of_empty e3).at λ o q=>Heap.get?_push_of_some _ q,λ _=>True.intro,λ y hy=>absurd rfl hy⟩
theorem attr_of {prog:Program}{w:World}{env:Env}{e:Expr}{f:Str}{pos:Pos}{s:Shared}{Q:Value→Shared→Prop}(hb:attributeBase e f env (eval e env)=eval e env)
   (h:wpAny (model prog w) A (eval e env) (λ o s₁=>wpAny (model prog w) A (getAttr o f true) Q E s₁) E s):wpAny (model prog w) A (eval (.Attribute e f pos) env) Q E s :=
 Attribute_any_ h (by rw [arm_eval_Attribute,hb])
end
def tFld (K:PySem.W.Frag) (ta:TE) (f:Str):TE:=λ σ H Q=>ta σ H λ x H1 => ∃ a C dx fs v,x=.ref a∧H1 a=some (.ins C dx fs)∧Cls K C∧NoAttr K C f∧fs.lookup f=some v∧Q v H1
def sFld (K:PySem.W.Frag) (ta tv:TE) (f:Str):TS:=λ D σ H=>tv σ H λ y H1=>ta σ H1 λ x H2 => ∃ a C dx fs,x=.ref a∧H2 a=some (.ins C dx fs)∧Cls K C∧NoAttr K C f∧fs.length < 1000 ∧
 D.nx σ (upd H2 a (.ins C dx (putF f y fs)))
section
variable {X:Cx}{o e value:Expr}{f:Str}{pos pos' tpos:Pos}{ta tv:TE}
theorem pe_fld (he:PE X e ta) (hb:attributeBase e f X.env (eval e X.env)=eval e X.env):PE X (.Attribute e f pos) (tFld X.K ta f):=by
 intro pins s σ H Q I h
 refine attr_of hb (thn (he pins s σ H _ I h) λ u s1 ⟨x,H1,I1,rx,a,C,dx,fs,v,ex,ea,c,n,l,q⟩=>?_)
 subst ex
 obtain rfl:u=Value.ref a:=rx
 exact getattr_ok I1 ea c n l λ u' s2 I2 ru=>⟨v,H1,I2,ru,q⟩
theorem ps_fld (ha:PE X o ta) (hv:PE X value tv) (hs:swapsWith value (some (.Attribute o f pos')) pos.line X.env=pure false):PS X (.Assign [.Attribute o f pos'] value pos) (sFld X.K ta tv f):=by
 intro pins s σ H D I h
 refine plainObj_wpAny_Assign_Attribute (thn (hv pins s σ H _ I h) λ u s1 ⟨y,H1,I1,ry,q⟩=>thn (ha pins s1 σ H1 _ I1 q) λ ov s2 ⟨x,H2,I2,rx,a,C,dx,fs,ex,ea,c,n,l,q2⟩=>?_) hs
 subst ex
 obtain rfl:ov=Value.ref a:=rx
 exact setattr_ok I2 ea c n l ry λ s3 I3=>⟨σ,_,I3,q2⟩
end
section
variable {X:Cx}{pins:List (Addr×Obj)}{σ:St}{H:Hp}{s:Shared}{A:Around}{E:Value→Shared→Prop}{Q:Value→Shared→Prop}{c:Value}{b:Bool}
inductive TyOf (K:PySem.W.Frag) (H:Hp):V→Value→Prop where
 | non:TyOf K H .non (.type "NoneType")
 | bl (x:Bool):TyOf K H (.bl x) (.type "bool")
 | int (i:Int):TyOf K H (.int i) (.type "int")
 | str (x:Str):TyOf K H (.str x) (.type "str")
 | flt (x:UInt64):TyOf K H (.flt x) (.type "float")
 | lst {a:Addr}{xs:List V}(e:H a=some (.lst xs)):TyOf K H (.ref a) (.type "list")
 | frz {a:Addr}{o:Obj}{xs:List V}(e:H a=some (.frz o (.lst xs))):TyOf K H (.ref a) (.type "list")
 | tup {a:Addr}{xs:List V}(e:H a=some (.tup xs)):TyOf K H (.ref a) (.type "tuple")
 | dK {a:Addr}{kvs:List (Key×V)}(e:H a=some (.dK kvs)):TyOf K H (.ref a) (.type "dict")
 | dT {a:Addr}{kvs:List (List Key×V)}(e:H a=some (.dT kvs)):TyOf K H (.ref a) (.type "dict")
 | ins {a C dx:Addr}{fs:List (Str×V)}(e:H a=some (.ins C dx fs)) (cl:Cls K C) (ha:PySem.W.findIn K (.ref C) "__class__" = some (some (.builtin "object.__class__")))
     (hn:PySem.W.specialIn K (.builtin "object.__class__") "__get__" = some (some (.builtin "getset_descriptor.__get__"))) (htk:PySem.W.takesIn K (.builtin "object.__class__")=some true)
     (hm:PySem.W.mroIn K C (.type "object")=some true):TyOf K H (.ref a) (.ref C)
theorem isinst_ok {x:V}{u t:Value}(I:Inv X pins σ H s) (rx:RelV x u) (ty:TyOf X.K H x t) (e:PySem.W.kitOne X.K t c=some b) (h:∀ tk,Q (.bool b) { s with toks:=tk }) :
   wpAny (model X.prog X.w) A (call (.builtin "isinstance") [u,c]) Q E s:=by
 cases ty with
 | non=>cases (show u=Value.none from rx); exact PySem.W.kia_one PySem.W.kitx_none I.kIn True.intro e (λ z=>nomatch z) h
 | bl y=>cases (show u=Value.bool y from rx); exact PySem.W.kia_one PySem.W.kitx_bool I.kIn True.intro e (λ z=>nomatch z) h
 | int i=>obtain ⟨t,q⟩:=(show ∃ t,u=Value.int i t from rx); cases q; exact PySem.W.kia_one PySem.W.kitx_int I.kIn True.intro e (λ z=>nomatch z) h
 | str y=>obtain ⟨t,q⟩:=(show ∃ t,u=Value.str y t from rx); cases q; exact PySem.W.kia_one PySem.W.kitx_str I.kIn True.intro e (λ z=>nomatch z) h
 | flt y=>obtain ⟨t,q⟩:=(show ∃ t,u=Value.float y t from rx); cases q; exact PySem.W.kia_one PySem.W.kitx_float I.kIn True.intro e (λ z=>nomatch z) h
 | @lst a xs ea =>
   cases (show u=Value.ref a from rx)
   obtain ⟨_,_,n,_,h1⟩:=(show ObjOk X.prog X.w H s.heap a (.lst xs) from I.hok a _ ea)
   exact PySem.W.kia_one PySem.W.kitx_list I.kIn ⟨_,h1,rfl⟩ e (λ z=>nomatch z) h
 | @frz a ob xs ea =>
   cases (show u=Value.ref a from rx)
   obtain ⟨_,_,_,n,_,h1⟩:=(show ObjOk X.prog X.w H s.heap a (.frz ob (.lst xs)) from I.hok a _ ea)
   exact PySem.W.kia_one PySem.W.kitx_list I.kIn ⟨_,h1,rfl⟩ e (λ z=>nomatch z) h
 | @tup a xs ea =>
   cases (show u=Value.ref a from rx)
   obtain ⟨_,_,_,p⟩:=(show ObjOk X.prog X.w H s.heap a (.tup xs) from I.hok a _ ea)
   obtain ⟨o,h1,h2,_⟩:=p
   exact PySem.W.kia_one PySem.W.kitx_tuple I.kIn ⟨o,h1,h2⟩ e (λ z=>nomatch z) h
 | @dK a kvs ea =>
   cases (show u=Value.ref a from rx)
   obtain ⟨_,_,vs,_,p⟩:=(show ObjOk X.prog X.w H s.heap a (.dK kvs) from I.hok a _ ea)
   obtain ⟨o,es,ep,h1,h2,_⟩:=p
   exact PySem.W.kia_one PySem.W.kitx_dict I.kIn ⟨o,h1,h2.1⟩ e (λ z=>nomatch z) h
 | @dT a kvs ea =>
   cases (show u=Value.ref a from rx)
   obtain ⟨_,_,xs,_,o,es,ep,h1,h2,_⟩:=(show ObjOk X.prog X.w H s.heap a (.dT kvs) from I.hok a _ ea)
   exact PySem.W.kia_one PySem.W.kitx_dict I.kIn ⟨o,h1,h2.1⟩ e (λ z=>nomatch z) h
 | @ins a C dx fs ea cl ha hn htk hm =>
   cases (show u=Value.ref a from rx)
   obtain ⟨mA,O,_⟩:=ins_get I.hok ea
   obtain ⟨od,J,_⟩:=O.look
   exact PySem.W.kia_one (PySem.W.kitx_own (cl.get _) cl.hd ha hn htk hm) I.kIn J e (λ z=>nomatch z) h
end
end L2
namespace L2
open PySem PySem.Spec PyProof.Rows
structure Room (k:Nat) (A:Around):Prop where
 hd:A.handled=none
 dp:A.depth + 3 * k + 5 < recursionLimit
 un:A.units + 16 * k + 200 < cLine
theorem Room.mono {j k:Nat}{A:Around}(r:Room k A) (h:j≤k):Room j A:=⟨r.hd,by have:=r.dp; lia,by have:=r.un; lia⟩
theorem Room.deeper {k:Nat}{A:Around}(r:Room (k + 1) A) (env:Env):Room k (A.deeper env) :=
 ⟨r.hd,by have:=r.dp; show A.depth + 1 + 3 * k + 5 < _; lia,by have:=r.un; show A.units + 3 + 16 * k + 200 < _; lia⟩
theorem make_depth {A:Around}{C:Addr}{us:List Value}{kw:List (Str×Value)}:(A.under (.builtin "type.__call__" ⟨.ref C :: us,kw⟩)).depth=A.depth + 1:=by
 first | rfl | simp [Around.under,Code.weight,Code.isCreation,Code.isGuard,Code.isCaller,Code.frames,Code.isFrame,guardIds]
theorem make_units {A:Around}{C:Addr}{us:List Value}{kw:List (Str×Value)}:(A.under (.builtin "type.__call__" ⟨.ref C :: us,kw⟩)).units=A.units + 1:=by
 first | rfl | simp [Around.under,Code.cUnits,Code.frames,Code.isFrame]
theorem Room.make {k:Nat}{A:Around}(r:Room (k + 1) A) (C:Addr) (us:List Value) (kw:List (Str×Value)):Room k (A.under (.builtin "type.__call__" ⟨.ref C :: us,kw⟩)) :=
 ⟨r.hd,by have:=r.dp; rw [make_depth]; lia,by have:=r.un; rw [make_units]; lia⟩
theorem Room.depth {k:Nat}{A:Around}(r:Room k A):A.depth < recursionLimit:=by have:=r.dp; lia
theorem Room.units {k:Nat}{A:Around}(r:Room k A):A.units + 64 < cLine:=by have:=r.un; lia
theorem Room.units0 {k:Nat}{A:Around}(r:Room k A):A.units < cLine:=by have:=r.un; lia
def tNil:TA:=λ _ H Q=>Q [] H
def tCons (ta:TE) (tr:TA):TA:=λ σ H Q=>ta σ H λ x H1=>tr σ H1 λ xs H2=>Q (x :: xs) H2
section
variable {X:Cx}{e:Expr}{es:List Expr}{te:TE}{t:TA}{pos:Pos}
theorem pa_nil:PA X [] tNil:=λ _ _ _ _ H Q I h=>Calls.spliced_nil ⟨[],H,I,.nil,h⟩
theorem pa_cons (ha:PE X e te) (hr:PA X es t) (hs:starEach (e :: es) X.env=(false,eval e X.env) :: starEach es X.env:=by rfl):PA X (e :: es) (tCons te t):=by
 intro pos pins s σ H Q I h
 rw [hs]
 show wpAny _ _ (spliced ((false,eval e X.env) :: backTo pos (starEach es X.env))) _ _ s
 refine Calls.spliced_cons (thn (ha pins s σ H _ I h) λ u s1 ⟨x,H1,I1,r1,q1⟩=>?_)
 exact thn (hr pos pins s1 σ H1 _ I1 q1) λ us s2 ⟨xs,H2,I2,r2,q2⟩=>⟨x :: xs,H2,I2,.cons r1 r2,q2⟩
def tTup (t:TA):TE:=λ σ H Q=>t σ H λ xs H1=>xs.length≤sizeLine∧∀ p,H1 p=none→Q (.ref p) (upd H1 p (.tup xs))
def tLst (t:TA):TE:=λ σ H Q=>t σ H λ xs H1=>xs.length≤sizeLine∧∀ p,H1 p=none→Q (.ref p) (upd H1 p (.lst xs))
theorem pe_tup {x1} (h:PA X es t):PE X (.Tuple es x1 pos) (tTup t):=by
 intro pins s σ H Q I hq
 refine wpAny_Tuple_spliced (thn (h pos pins s σ H _ I hq) λ us s1 ⟨xs,H1,I1,r,z,q⟩=>⟨by rw [← r.length]; exact z,?_⟩)
 have hf:H1 s1.heap.objs.size=none:=I1.hok.fresh (Nat.le_refl _)
 refine ⟨.ref s1.heap.objs.size,upd H1 s1.heap.objs.size (.tup xs),I1.laid (t':=s1.toks) (λ b u e=>Heap.get?_push_of_some _ e) (Nat.le_refl _) ?_,rfl,q _ hf⟩
 exact ⟨z,us,r,⟨_,Heap.get?_push_size _ rfl,rfl,_,rfl⟩⟩
theorem pe_lst (h:PA X es t):PE X (.List es pos) (tLst t):=by
 intro pins s σ H Q I hq
 refine wpAny_List_spliced (thn (h pos pins s σ H _ I hq) λ us s1 ⟨xs,H1,I1,r,z,q⟩=>⟨by rw [← r.length]; exact z,?_⟩)
 have hf:H1 s1.heap.objs.size=none:=I1.hok.fresh (Nat.le_refl _)
 refine ⟨.ref s1.heap.objs.size,upd H1 s1.heap.objs.size (.lst xs),I1.laid (t':=s1.toks) (λ b u e=>Heap.get?_push_of_some _ e) (Nat.le_refl _) ?_,rfl,q _ hf⟩
 exact ⟨z,us,0,r,Heap.get?_push_size _ rfl⟩
end
abbrev Sp:=List V→Hp→VK→XK→Prop
abbrev CXT:=List Env→Hp→Shared→XK→Value→Shared→Prop
structure Env0 (P:Program) (w:World) (K:PySem.W.Frag) (mg:Str→Option Value) (base:Heap) (A:Around) (outer:List Env) (s:Shared) (H:Hp):Prop where
 frames:A.frames=some outer
 mod:Mod K mg base
 bs:∀ b o,base.get? b=some o→s.heap.get? b=some o∧H b=none
 bsz:base.objs.size≤s.heap.objs.size
 funs:s.heap.FunFrames base outer
 frf:∀ b∈frs outer,H b=none
 hok:HOk P w H s.heap
 bare:AllBare s.gens
def CE (outer:List Env) (P:Program) (w:World) (H:Hp) (s:Shared) (Q:VK) (u:Value) (s':Shared):Prop :=
 ∃ v H',s'.os=s.os∧AllBare s'.gens∧Un (frs outer) [] H H' s.heap s'.heap∧HOk P w H' s'.heap∧RelV v u∧Q v H'
def CR (CX:CXT) (outer:List Env) (P:Program) (w:World) (H:Hp) (s:Shared) (Q:VK) (E:XK) (r:Result) (s':Shared):Prop :=
 match r with
 | .ok (.ret u)=>CE outer P w H s Q u s'
 | .ok _=>False
 | .error e=>CX outer H s E e s'
structure FnOk (P:Program) (w:World) (K:PySem.W.Frag) (mg:Str→Option Value) (base:Heap) (CX:CXT) (k:Nat) (f:Addr) (fd:FuncData) (ps:List Str) (sp:Sp):Prop where
 len:∀ vs H Q E,sp vs H Q E→vs.length=ps.length
 run:∀ (A:Around) (outer:List Env) (s:Shared) (H:Hp) (args:Args) (us:List Value) (vs:List V) (Q:VK) (E:XK),Room k A→Env0 P w K mg base A outer s H→BindsTo s fd args (ps.zip us)→Vals vs us→sp vs H Q E →
   codeAny (model P w) A (.call (.ref f) args) (CR CX outer P w H s Q E) s
theorem Env0.make {P:Program}{w:World}{K:PySem.W.Frag}{mg:Str→Option Value}{base:Heap}{A:Around}{outer:List Env}{s:Shared}{H:Hp}(e:Env0 P w K mg base A outer s H) (C:Addr) (us:List Value) (kw:List (Str×Value)) :
   Env0 P w K mg base (A.under (.builtin "type.__call__" ⟨.ref C :: us,kw⟩)) outer s H:=⟨by first | exact e.frames | (simpa [Around.under,Code.envs,Code.isFrame,pushEnvs] using e.frames),e.mod,e.bs,e.bsz,e.funs,e.frf,e.hok,e.bare⟩
section
variable {X:Cx}{pins:List (Addr×Obj)}{σ:St}{H:Hp}{s s':Shared}
theorem Inv.env0 (I:Inv X pins σ H s):Env0 X.prog X.w X.K X.mg X.base X.A X.stack s H :=
 ⟨I.ok.frames,I.ok.mod,I.bs,Nat.le_trans I.ok.bsz I.sz,I.stack,I.stkFree,I.hok,I.bare⟩
theorem Inv.after {Q:VK}{u:Value}(I:Inv X pins σ H s) (h:CE X.stack X.prog X.w H s Q u s'):EP X pins σ Q u s':=by
 obtain ⟨v,H',os,bare,un,hok,r,q⟩:=h
 obtain ⟨hh,g,d,t,os'⟩:=s'
 obtain rfl:os'=s.os:=os
 exact ⟨v,H',I.call (h':=hh) (g':=g) (d':=d) (t':=t) (ch:=[]) un hok bare (λ b z=>absurd z (by simp)),r,q⟩
end
def tCall (sp:Sp) (dvs:List V) (E:XK) (t:TA):TE:=λ σ H Q=>t σ H λ vs H1=>sp (vs ++ dvs) H1 Q E
def tMeth (C:Addr) (m:Str) (sp:Sp) (dvs:List V) (E:XK) (ta:TE) (t:TA):TE:=λ σ H Q=>ta σ H λ x H1 => ∃ a dx fs,x=.ref a∧H1 a=some (.ins C dx fs)∧fs.lookup m=none ∧
 t σ H1 λ vs H2=>sp (x :: (vs ++ dvs)) H2 Q E
def tMake (C:Addr) (sp:Sp) (dvs:List V) (E:XK) (t:TA):TE:=λ σ H Q=>t σ H λ vs H1 => ∀ x dx,H1 x=none→H1 dx=none→dx≠x →
 sp (.ref x :: (vs ++ dvs)) (upd (upd H1 dx (.own x)) x (.ins C dx [])) (λ v H2=>v=.non∧Q (.ref x) H2) E
def Binds (K:PySem.W.Frag) (fd:FuncData) (ps:List Str) (ds:List Value):Prop :=
 ∀ (s:Shared) (us:List Value),K.In s.heap→(us ++ ds).length=ps.length→BindsTo s fd ⟨us,[]⟩ (ps.zip (us ++ ds))
theorem Binds.all {K:PySem.W.Frag}{fd:FuncData}{ps:List Str}(h:∀ us:List Value,us.length=ps.length→bindArgs fd ⟨us,[]⟩=pure (ps.zip us)):Binds K fd ps []:=λ s us _ hl=>by
 rw [List.append_nil] at hl ⊢
 exact .of_eq (h us hl)
def Passes (CX:CXT) (X:Cx) (E:XK):Prop := ∀ (pins:List (Addr×Obj)) (σ:St) (H:Hp) (s:Shared) (e:Value) (s':Shared),Inv X pins σ H s→CX X.stack H s E e s'→X.xe e s'
section
variable {X:Cx}{CX:CXT}{k:Nat}{f C:Addr}{fd:FuncData}{ps:List Str}{sp:Sp}{dvs:List V}{ds:List Value}{E:XK}{x m:Str}{p pos apos:Pos}{e o:Expr}{es:List Expr}{ta:TE}{t:TA}
theorem run_fn {pins:List (Addr×Obj)}{σ:St}{H:Hp}{s:Shared}{Q:VK}{us:List Value}{vs:List V}(F:FnOk X.prog X.w X.K X.mg X.base CX k f fd ps sp) (hr:Room k X.A) (hb:Binds X.K fd ps ds) (hd:Vals dvs ds) (hx:Passes CX X E)
   (I:Inv X pins σ H s) (r:Vals vs us) (h:sp (vs ++ dvs) H Q E):wpAny (model X.prog X.w) X.A (call (.ref f) us) (EP X pins σ Q) X.xe s:=by
 have r2:Vals (vs ++ dvs) (us ++ ds):=r.append hd
 have hl:(us ++ ds).length=ps.length:=by rw [← r2.length]; exact F.len _ _ _ _ h
 refine wpAny_call (codeAny_mono (F.run X.A X.stack s H ⟨us,[]⟩ (us ++ ds) (vs ++ dvs) Q E hr I.env0 (hb s us I.kIn hl) r2 h) λ r s' hq=>?_)
 cases r with
 | error e=>exact hx pins σ H s e s' I hq
 | ok fl =>
   cases fl with
   | ret u=>exact I.after hq
   | next=>exact False.elim hq
   | brk=>exact False.elim hq
   | cont=>exact False.elim hq
theorem pe_call (F:FnOk X.prog X.w X.K X.mg X.base CX k f fd ps sp) (hr:Room k X.A) (hg:Gl X x) (hm:X.mg x=some (.ref f)) (hk:PySem.W.keepIn X.K (.ref f)=true) (hb:Binds X.K fd ps ds) (hd:Vals dvs ds) (hx:Passes CX X E)
   (ha:PA X (e :: es) t) (hdb:(x == ("__debug__" : Str))=false:=by decide) (he:starEach (e :: es) X.env=(false,eval e X.env) :: starEach es X.env:=by rfl) (hpl:(backTo pos (starEach es X.env)).any (·.1)=false:=by rfl) :
   PE X (.Call (.Name x p) (e :: es) [] pos) (tCall sp dvs E t):=by
 intro pins s σ H Q I h
 refine wpAny_Call_Name_kw (ld_glob I hg hm ?_ hdb)
 refine PySem.W.callWith_K (h₀:=X.base) I.ok.mod.kin hk (thn (ha pos pins s σ H _ I h) λ us s1 ⟨vs,H1,I1,r,q⟩=>⟨I1.kIn,?_⟩) he hpl
 exact run_fn F hr hb hd hx I1 r q
theorem pe_meth {pl:Sem Bool}(he:PE X o ta) (c:Cls X.K C) (hm:Meth X.K C m f) (F:FnOk X.prog X.w X.K X.mg X.base CX k f fd ps sp) (hr:Room k X.A) (hb:Binds X.K fd ps ds) (hd:Vals dvs ds) (hx:Passes CX X E) (ha:PA X (e :: es) t)
   (hst:starEach (e :: es) X.env=(false,eval e X.env) :: starEach es X.env:=by rfl) (hpl:(backTo pos (starEach es X.env)).any (·.1)=false:=by rfl)
   (ht:eval (.Call (.Attribute o m apos) (e :: es) [] pos) X.env=(do
     let ov ← eval o X.env
     standAt apos.atName
     let (f,first) ← holding [ov] (getMethod ov m pl)
     callWith pos f first (backTo pos (starEach (e :: es) X.env)) (backToKw pos (keywordEach [] X.env))):=by rfl) :
   PE X (.Call (.Attribute o m apos) (e :: es) [] pos) (tMeth C m sp dvs E ta t):=by
 intro pins s σ H Q I h
 refine PySem.W.methodCall_KW (pl:=pl) (thn (he pins s σ H _ I h) λ u s1 ⟨x,H1,I1,rx,a,dx,fs,ex,ea,l,q⟩=>?_) ht
 subst ex
 obtain rfl:u=Value.ref a:=rx
 refine getmeth_ok I1 ea c hm l ?_
 refine PySem.W.callWith_K (first:=[.ref a]) (h₀:=X.base) I.ok.mod.kin hm.kp (thn (ha pos pins s1 σ H1 _ I1 q) λ us s2 ⟨vs,H2,I2,r,q2⟩=>⟨I2.kIn,?_⟩) hst hpl
 exact run_fn (us:=.ref a :: us) (vs:=.ref a :: vs) F hr hb hd hx I2 (.cons rfl r) q2
theorem pe_meth0 {pl:Sem Bool}(he:PE X o ta) (c:Cls X.K C) (hm:Meth X.K C m f) (F:FnOk X.prog X.w X.K X.mg X.base CX k f fd ps sp) (hr:Room k X.A) (hb:Binds X.K fd ps ds) (hd:Vals dvs ds) (hx:Passes CX X E)
   (ht:eval (.Call (.Attribute o m apos) [] [] pos) X.env=(do
     let ov ← eval o X.env
     standAt apos.atName
     let (f,first) ← holding [ov] (getMethod ov m pl)
     callWith pos f first (backTo pos (starEach [] X.env)) (backToKw pos (keywordEach [] X.env))):=by rfl) :
   PE X (.Call (.Attribute o m apos) [] [] pos) (tMeth C m sp dvs E ta tNil):=by
 intro pins s σ H Q I h
 refine PySem.W.methodCall_KW (pl:=pl) (thn (he pins s σ H _ I h) λ u s1 ⟨x,H1,I1,rx,a,dx,fs,ex,ea,l,q⟩=>?_) ht
 subst ex
 obtain rfl:u=Value.ref a:=rx
 refine getmeth_ok I1 ea c hm l ?_
 exact PySem.W.callWith_K0 (first:=[.ref a]) I1.kIn hm.kp (run_fn (us:=[.ref a]) (vs:=[.ref a]) F hr hb hd hx I1 (.cons rfl .nil) q)
structure Mk (K:PySem.W.Frag) (C f:Addr):Prop where
 makes:PySem.W.makesIn K C=true
 init:PySem.W.findIn K (.ref C) "__init__" = some (some (.ref f))
 fn:PySem.W.isFn K (.ref f)=true
 kp:PySem.W.keepIn K (.ref C)=true
theorem run_make {pins:List (Addr×Obj)}{σ:St}{H:Hp}{s:Shared}{Q:VK}{us:List Value}{vs:List V}(M:Mk X.K C f) (F:FnOk X.prog X.w X.K X.mg X.base CX k f fd ps sp) (hr:Room (k + 1) X.A) (hb:Binds X.K fd ps ds) (hd:Vals dvs ds)
   (hx:Passes CX X E) (I:Inv X pins σ H s) (r:Vals vs us)
   (h:∀ x dx,H x=none→H dx=none→dx≠x→sp (.ref x :: (vs ++ dvs)) (upd (upd H dx (.own x)) x (.ins C dx [])) (λ v H2=>v=.non∧Q (.ref x) H2) E) :
   wpAny (model X.prog X.w) X.A (call (.ref C) us) (EP X pins σ Q) X.xe s:=by
 have hq:=h (s.heap.objs.size + 1) s.heap.objs.size (I.hok.fresh (Nat.le_succ _)) (I.hok.fresh (Nat.le_refl _)) (Nat.ne_of_lt (Nat.lt_succ_self _))
 have I2:=Inv.made (C:=C) I
 have r2:Vals (V.ref (s.heap.objs.size + 1) :: (vs ++ dvs)) (Value.ref (s.heap.objs.size + 1) :: (us ++ ds)):=.cons rfl (r.append hd)
 have hl:(Value.ref (s.heap.objs.size + 1) :: us ++ ds).length=ps.length:=by
   have e:=r2.length
   rw [F.len _ _ _ _ hq] at e
   exact e.symm
 refine wpAny_call (make_map (f:=f) I.kIn M.makes M.init (beq_iff_eq.mp M.fn) (codeAny_mono (F.run _ X.stack _ _ ⟨Value.ref (s.heap.objs.size + 1) :: us,[]⟩ (Value.ref (s.heap.objs.size + 1) :: (us ++ ds)) _ _ E (hr.make C us [])
   (I2.env0.make C us []) (hb _ (Value.ref (s.heap.objs.size + 1) :: us) I2.kIn hl) r2 hq) λ r s' hq'=>?_))
 cases r with
 | error e=>exact hx pins σ _ _ e s' I2 hq'
 | ok fl =>
   cases fl with
   | ret u =>
     obtain ⟨v,H',I3,rv,ev,q3⟩:=I2.after hq'
     subst ev
     exact ⟨rv,⟨V.ref (s.heap.objs.size + 1),H',I3,rfl,q3⟩⟩
   | next=>exact False.elim hq'
   | brk=>exact False.elim hq'
   | cont=>exact False.elim hq'
theorem pe_make (M:Mk X.K C f) (F:FnOk X.prog X.w X.K X.mg X.base CX k f fd ps sp) (hr:Room (k + 1) X.A) (hg:Gl X x) (hm:X.mg x=some (.ref C)) (hb:Binds X.K fd ps ds) (hd:Vals dvs ds) (hx:Passes CX X E)
   (ha:PA X (e :: es) t) (hdb:(x == ("__debug__" : Str))=false:=by decide) (he:starEach (e :: es) X.env=(false,eval e X.env) :: starEach es X.env:=by rfl) (hpl:(backTo pos (starEach es X.env)).any (·.1)=false:=by rfl) :
   PE X (.Call (.Name x p) (e :: es) [] pos) (tMake C sp dvs E t):=by
 intro pins s σ H Q I h
 refine wpAny_Call_Name_kw (ld_glob I hg hm ?_ hdb)
 refine PySem.W.callWith_K (h₀:=X.base) I.ok.mod.kin M.kp (thn (ha pos pins s σ H _ I h) λ us s1 ⟨vs,H1,I1,r,q⟩=>⟨I1.kIn,?_⟩) he hpl
 exact run_make M F hr hb hd hx I1 r q
end
section
variable {X:Cx}{CX:CXT}{k:Nat}{f C:Addr}{fd:FuncData}{ps ks:List Str}{sp:Sp}{E:XK}{x m:Str}{p pos apos kpos:Pos}{e o:Expr}{es:List Expr}{kws:List Keyword}{te ta:TE}{t tk:TA}{nm:Option Str}
variable {g:List Value→List Value→List Value}{gV:List V→List V→List V}
end
structure FnScope (N P:List Str) (sc:Scope):Prop where
 kind:sc.kind=.function
 co:sc.isCoroutine=false
 gen:sc.isGenerator=false
 nd:N.Nodup
 pre:N.take P.length=P
 par:∀ x∈P,sc.names.lookup x=some .local∨sc.names.lookup x=some .cell
 nofree:∀ y∈sc.names,y.2≠.free
theorem bindL_out {kindOf:Str→Option NameKind}{x:Str}:∀ {binds:List (Str×Value)}{m:Str→Option Value},(∀ v,(x,v)∉binds)→bindL kindOf binds m x=m x
 | [],_,_=>rfl
 | (n,v) :: r,m,h=>by
   unfold bindL
   rw [bindL_out λ w hw=>h w (List.mem_cons_of_mem _ hw)]
   split
   · have:x≠n:=by rintro rfl; exact h v List.mem_cons_self
     simp [this]
   · rfl
theorem bindC_out {kindOf:Str→Option NameKind}{x:Str}:∀ {binds:List (Str×Value)}{m:Str→Option Value},(∀ v,(x,v)∉binds)→bindC kindOf binds m x=m x
 | [],_,_=>rfl
 | (n,v) :: r,m,h=>by
   unfold bindC
   rw [bindC_out λ w hw=>h w (List.mem_cons_of_mem _ hw)]
   split
   · rfl
   · have:x≠n:=by rintro rfl; exact h v List.mem_cons_self
     simp [this]
theorem bindL_get {kindOf:Str→Option NameKind}{x:Str}{v:Value}:∀ {P:List Str}{vs:List Value}{i:Nat}{m:Str→Option Value},P.Nodup→P[i]? = some x→vs[i]? = some v→kindOf x=some .local →
   bindL kindOf (P.zip vs) m x=some v
 | [],_,_,_,_,h,_,_=>by simp at h
 | _ :: _,[],_,_,_,_,h,_=>by simp at h
 | p :: P,w :: vs,0,m,nd,h1,h2,hk=>by
   simp at h1 h2; subst h1; subst h2
   show bindL kindOf ((p,w) :: P.zip vs) m p=_
   unfold bindL
   rw [bindL_out λ v hv=>(List.nodup_cons.mp nd).1 (List.of_mem_zip hv).1,if_pos hk]
   simp
 | p :: P,w :: vs,i + 1,m,nd,h1,h2,hk=>by
   show bindL kindOf ((p,w) :: P.zip vs) m x=_
   unfold bindL
   exact bindL_get (i:=i) (List.nodup_cons.mp nd).2 (by simpa using h1) (by simpa using h2) hk
theorem bindC_get {kindOf:Str→Option NameKind}{x:Str}{v:Value}:∀ {P:List Str}{vs:List Value}{i:Nat}{m:Str→Option Value},P.Nodup→P[i]? = some x→vs[i]? = some v→kindOf x≠some .local →
   bindC kindOf (P.zip vs) m x=some v
 | [],_,_,_,_,h,_,_=>by simp at h
 | _ :: _,[],_,_,_,_,h,_=>by simp at h
 | p :: P,w :: vs,0,m,nd,h1,h2,hk=>by
   simp at h1 h2; subst h1; subst h2
   show bindC kindOf ((p,w) :: P.zip vs) m p=_
   unfold bindC
   rw [bindC_out λ v hv=>(List.nodup_cons.mp nd).1 (List.of_mem_zip hv).1,if_neg hk]
   simp
 | p :: P,w :: vs,i + 1,m,nd,h1,h2,hk=>by
   show bindC kindOf ((p,w) :: P.zip vs) m x=_
   unfold bindC
   exact bindC_get (i:=i) (List.nodup_cons.mp nd).2 (by simpa using h1) (by simpa using h2) hk
def start (N:List Str) (vs:List V):St:=vs.map some ++ List.replicate (N.length - vs.length) none
def cxOf (CX:CXT) (P:Program) (w:World) (K:PySem.W.Frag) (mg:Str→Option Value) (base:Heap) (N:List Str) (qual:Str) (scope:Scope) (f:Addr) (cd:Value) (A:Around) (outer:List Env) (s:Shared) (H:Hp) (E:XK):Cx where
 prog:=P
 w:=w
 K:=K
 mg:=mg
 base:=base
 A:=A.deeper (envOfC qual scope s.heap.objs.size f cd)
 N:=N
 s₀:=s
 H₀:=H
 env:=envOfC qual scope s.heap.objs.size f cd
 outer:=outer
 stack:=envOfC qual scope s.heap.objs.size f cd :: outer
 ex:=[]
 calm:=true
 fn:=λ _=>true
 pn:=[]
 xe:=λ e s'=>wpAny (model P w) (A.deeper (envOfC qual scope s.heap.objs.size f cd)) (leaving (envOfC qual scope s.heap.objs.size f cd) e) (λ _ s''=>CX outer H s E e s'') (λ e' s''=>CX outer H s E e' s'') s'
theorem cell_has {sc:Scope}{n:Nat}{x:Str}(h:sc.names.lookup x=some .cell):∃ c,(cellsFrom n sc.names []).lookup x=some c:=by
 have q:=PySem.W.cellsFrom_some sc.names n [] (.inl h)
 exact Option.isSome_iff_exists.mp q
theorem inv_start {CX:CXT}{P:Program}{w:World}{K:PySem.W.Frag}{mg:Str→Option Value}{base:Heap}{N ps:List Str}{qual:Str}{scope:Scope}{f:Addr}{cd:Value}{A:Around}{outer:List Env}{s s1:Shared}{H:Hp}{E:XK}{us:List Value}{vs:List V}
   (S:FnScope N ps scope) (hd:A.handled=none) (e0:Env0 P w K mg base A outer s H) (hl:vs.length=ps.length) (r:Vals vs us)
   (x:InCallC s s.heap.objs.size (bindL (envOfC qual scope s.heap.objs.size f cd).kindOf (ps.zip us) λ _=>none) (cellsFrom (s.heap.objs.size + 1) scope.names []) (bindC (envOfC qual scope s.heap.objs.size f cd).kindOf (ps.zip us) λ _=>none) s1) :
   Inv (cxOf CX P w K mg base N qual scope f cd A outer s H E) [] (start N vs) H s1:=by
 have hpl:ps.length≤N.length:=by have:=congrArg List.length S.pre; rw [List.length_take] at this; lia
 obtain ⟨h1,tk,rfl,hk⟩:=x.done
 have noA:∀ b:Addr,b∉(cxOf CX P w K mg base N qual scope f cd A outer s H E).ex:=λ b z=>absurd (show b∈([]:List Addr) from z) (by simp)
 refine ⟨⟨e0.mod,S.kind,rfl,rfl,Nat.le_refl _,λ y z c h1 h2=>?_,λ y hy=>?_,λ y c _ h=>?_,λ _=>hd,Around.frames_deeper e0.frames,.inr ⟨rfl,rfl⟩,λ b z=>absurd z (noA b),e0.bs,e0.bsz,λ b _ _=>noA b,λ b z=>absurd z (noA b),e0.funs,e0.frf⟩,
   rfl,e0.bare,Un.kept hk,⟨_,x.toInCall.ns,λ i y v h1 h2 h3=>?_⟩,λ y c h=>⟨_,x.cell y c h⟩,e0.hok.fresh (Nat.le_refl _),λ y c h=>?_,λ p hp=>absurd (show p∈([]:List (Addr×Obj)) from hp) (by simp),e0.hok.kept hk,?_⟩
 · exact name_of_addr x.apart (PySem.mem_of_lookup h1) (PySem.mem_of_lookup h2)
 · have hy:scope.names.lookup y=some .cell∨scope.names.lookup y=some .free:=hy
   rcases hy with hy | hy
   · exact cell_has hy
   · exact absurd rfl (S.nofree _ (PySem.mem_of_lookup hy))
 · exact Nat.le_of_lt (x.above y c (PySem.mem_of_lookup h))
 · have hi:i < vs.length:=by
     unfold start at h2
     by_cases hi:i < vs.length
     · exact hi
     · rw [List.getElem?_append_right (by simpa using hi)] at h2
       rw [List.getElem?_replicate] at h2
       split at h2 <;> cases h2
   have ha:vs[i]? = some v:=by
     unfold start at h2
     rw [List.getElem?_append_left (by simpa using hi),List.getElem?_map] at h2
     cases e:vs[i]? with
     | none=>rw [e] at h2; cases h2
     | some a=>rw [e] at h2; cases h2; rfl
   obtain ⟨u,hu,rv⟩:=r.get ha
   have hp:ps[i]? = some y:=by
     rw [← S.pre,List.getElem?_take_of_lt (by lia)]; exact h1
   have ndP:ps.Nodup:=by rw [← S.pre]; exact S.nd.sublist (List.take_sublist _ _)
   refine ⟨u,rv,?_⟩
   rcases S.par y (List.mem_of_getElem? hp) with k | k
   · exact .inl ⟨k,bindL_get ndP hp hu k⟩
   · obtain ⟨c,e⟩:=cell_has (n:=s.heap.objs.size + 1) k
     refine .inr ⟨.inl k,c,e,?_⟩
     have q:=x.cell y c e
     rw [bindC_get ndP hp hu (by show scope.names.lookup y≠_; rw [k]; decide)] at q
     exact q
 · exact e0.hok.fresh (Nat.le_of_lt (x.above y c (PySem.mem_of_lookup h)))
 · unfold start
   show _=N.length
   rw [List.length_append,List.length_map,List.length_replicate]
   lia
theorem fn_of {CX:CXT}{P:Program}{w:World}{K:PySem.W.Frag}{mg:Str→Option Value}{base:Heap}{k:Nat}{f:Addr}{name qual:Str}{params:Arguments}{body:List Stmt}{scope:Scope}{dV kV doc pm cdv ct oc:Value}{an od:Option Addr}
   {osl:Array (Option Value)}{N ps:List Str}{sp:Sp}(lk:K.lookup f=some ⟨oc,od,.func (PySem.W.fnOf name qual params body scope dV kV doc pm an cdv ct),osl⟩) (hcd:PySem.W.codeIn K cdv qual=true) (S:FnScope N ps scope)
   (len:∀ vs H Q E,sp vs H Q E→vs.length=ps.length)
   (hbody:∀ (A:Around) (outer:List Env) (s:Shared) (H:Hp) (vs:List V) (Q:VK) (E:XK),Room k (A.deeper (envOfC qual scope s.heap.objs.size f cdv))→sp vs H Q E →
     ∃ t,PSs (cxOf CX P w K mg base N qual scope f cdv A outer s H E) body t∧t { nx:=λ _ H'=>Q .non H',rt:=Q } (start N vs) H) :
   FnOk P w K mg base CX (k + 1) f (PySem.W.fnOf name qual params body scope dV kV doc pm an cdv ct) ps sp:=by
 refine ⟨len,λ A outer s H args us vs Q E hr e0 hb r hsp=>?_⟩
 have hl:=len _ _ _ _ hsp
 have KX:K.In s.heap:=e0.mod.kin.keeps λ b o e=>(e0.bs b o e).1
 have lim:s.heap.NoLimit:=e0.mod.nolimit.keeps λ b o e=>(e0.bs b o e).1
 have hkind:∀ y∈ps.zip us,scope.names.lookup y.1=some .local∨(scope.names.lookup y.1=some .cell∧((cellsFrom (s.heap.objs.size + 1) scope.names []).lookup y.1).isSome=true):=λ ⟨n,v⟩ hy=>by
   rcases S.par n (List.of_mem_zip hy).1 with q | q
   · exact .inl q
   · exact .inr ⟨q,PySem.W.cellsFrom_some _ _ _ (.inl q)⟩
 refine codeAny_call_function hr.depth (KX _ _ lk) rfl S.co S.gen rfl (PySem.W.codeRec_of KX hcd) (hb _ _ _ _ ?_)
 refine wpAny_newFunctionEnv_cells S.kind hkind λ env he s1 x=>?_
 subst he
 refine ⟨lim.keeps x.toInCall.keep,codeAny_func ?_⟩
 obtain ⟨t,ht,hq⟩:=hbody A outer s H vs Q E (hr.deeper _) hsp
 have I:Inv (cxOf CX P w K mg base N qual scope f cdv A outer s H E) [] (start N vs) H s1:=inv_start S hr.hd e0 hl r x
 refine wpAny_mono (ht [] s1 (start N vs) H _ I hq) (λ fl s' hs=>?_) λ e s' hs=>hs
 have fin:∀ {σ':St}{H':Hp}{v:V}{u:Value},Inv (cxOf CX P w K mg base N qual scope f cdv A outer s H E) [] σ' H' s'→RelV v u→Q v H'→CE outer P w H s Q u s' :=
   λ {σ' H' v u} J rv q=>⟨v,H',J.os,J.bare,J.base,J.hok,rv,q⟩
 cases fl with
 | ret u =>
   obtain ⟨v,σ',H',J,rv,q⟩:=hs
   exact fin J rv q
 | next =>
   obtain ⟨σ',H',J,q⟩:=hs
   exact fin (v:=V.non) (u:=Value.none) J rfl q
 | brk =>
   obtain ⟨_,_,_,q⟩:=hs
   exact False.elim q
 | cont =>
   obtain ⟨_,_,_,q⟩:=hs
   exact False.elim q
end L2
namespace L2
open PySem PySem.Spec PyProof.Rows
section
variable {X:Cx}{x:Str}{p pos:Pos}{e:Expr}{es:List Expr}{t:TA}{id T:String}{r:List V→Hp→VK→Prop}
def tCB (r:List V→Hp→VK→Prop) (t:TA):TE:=λ σ H Q=>t σ H λ vs H1=>r vs H1 Q
theorem pe_callB (hc:CallR X (.builtin id) r) (hg:Gl X x) (hm:X.mg x=none) (hv:bootBuiltins x=some (.builtin id)) (ha:PA X (e :: es) t) (hn:x ≠ "__name__" := by decide) (hdb:(x == ("__debug__" : Str))=false:=by decide)
   (he:starEach (e :: es) X.env=(false,eval e X.env) :: starEach es X.env:=by rfl) (hpl:(backTo pos (starEach es X.env)).any (·.1)=false:=by rfl):PE X (.Call (.Name x p) (e :: es) [] pos) (tCB r t):=by
 intro pins s σ H Q I h
 refine wpAny_Call_Name_kw (ld_blt I hg hm hv ?_ hn hdb)
 exact PyProof.Rows.callWith_builtin1 (thn (ha pos pins s σ H _ I h) λ us s1 ⟨vs,H1,I1,r1,q1⟩=>hc pins s1 σ H1 vs us Q I1 r1 q1) he hpl
theorem pe_callTy (hc:CallR X (.type T) r) (hg:Gl X x) (hm:X.mg x=none) (hv:bootBuiltins x=some (.type T)) (ha:PA X (e :: es) t) (hn:x ≠ "__name__" := by decide) (hdb:(x == ("__debug__" : Str))=false:=by decide)
   (he:starEach (e :: es) X.env=(false,eval e X.env) :: starEach es X.env:=by rfl) (hpl:(backTo pos (starEach es X.env)).any (·.1)=false:=by rfl):PE X (.Call (.Name x p) (e :: es) [] pos) (tCB r t):=by
 intro pins s σ H Q I h
 refine wpAny_Call_Name_kw (ld_blt I hg hm hv ?_ hn hdb)
 exact PyProof.Rows.callWith_type1 (thn (ha pos pins s σ H _ I h) λ us s1 ⟨vs,H1,I1,r1,q1⟩=>hc pins s1 σ H1 vs us Q I1 r1 q1) he hpl
end
end L2
namespace HT
open PySem PyProof.Rows
section
open PySem.SeqAt
open PySem.AutoSeq1 (wpAny_loadPart')
open PySem.MeetsSeq PySem.MeetsSeq2 PySem.MeetsSeq3
end
section
variable {prog:Program}{w:World}{A:Around}{E:Value→Shared→Prop}{s:Shared}
def sIx (n d:Nat):Option Int→Nat
 | none=>d
 | some v=>if v < 0 then (v + (n:Int)).toNat else min v.toNat n
theorem sIx_nat (n d k:Nat):sIx n d (some (k:Int))=min k n:=by
 show (if (k:Int) < 0 then ((k:Int) + (n:Int)).toNat else min (k:Int).toNat n)=min k n
 rw [if_neg (by lia),Int.toNat_natCast]
end
end HT
namespace L2
open PySem PySem.Spec PyProof.Rows
abbrev TO:=St→Hp→(Option Int→Hp→Prop)→Prop
def PO (X:Cx) (e:Option Expr) (t:TO):Prop :=
 ∀ (pins:List (Addr×Obj)) (s:Shared) (σ:St) (H:Hp) (Q:Option Int→Hp→Prop),Inv X pins σ H s→t σ H Q →
   wpAny (model X.prog X.w) X.A (evalPart e X.env) (λ u s' => ∃ o H',Inv X pins σ H' s'∧IsPart u o∧Q o H') X.xe s
def tNoPart:TO:=λ _ H Q=>Q none H
def tPart (t:TE):TO:=λ σ H Q=>t σ H λ x H1 => ∃ i,x=.int i∧Q (some i) H1
theorem intsAre_of {ns:List Int}:∀ {us:List Value},Vals (ns.map V.int) us→IntsAre us ns:=by
 induction ns with
 | nil=>intro us r; rw [List.map_nil] at r; cases r; exact .nil
 | cons n ns ih =>
   intro us r
   rw [List.map_cons] at r
   cases r with
   | cons r1 r2 =>
     obtain ⟨t,e⟩:=r1
     subst e
     exact .cons n t (ih r2)
section
variable {X:Cx}{e:Expr}{te:TE}{lo hi:Option Expr}{tl th:TO}{pos p2:Pos}
theorem po_none:PO X none tNoPart:=by
 intro pins s σ H Q I h
 rw [evalPart_none]
 exact wpAny_pure ⟨none,H,I,.none,h⟩
theorem po_some (h:PE X e te):PO X (some e) (tPart te):=by
 intro pins s σ H Q I hw
 rw [evalPart_some]
 refine thn (h pins s σ H _ I hw) λ u s1 ⟨x,H1,I1,r1,q1⟩=>?_
 obtain ⟨i,rfl,q⟩:=q1
 obtain ⟨t,rfl⟩:=r1
 exact ⟨some i,H1,I1,.int i t,q⟩
def SlR (X:Cx) (r:V→Option Int→Option Int→Hp→VK→Prop):Prop :=
 ∀ (pins:List (Addr×Obj)) (s:Shared) (σ:St) (H:Hp) (x:V) (v vl vu:Value) (lo hi:Option Int) (sl:Addr) (Q:VK),Inv X pins σ H s→RelV x v→s.heap.IsSliceOf sl vl vu .none→IsPart vl lo→IsPart vu hi→r x lo hi H Q →
   ∃ T id,typeLookup (.type T) "__getitem__" = pure (some (.builtin id))∧s.TypeIs v T∧wpAny (model X.prog X.w) X.A (getItem v (.ref sl)) (EP X pins σ Q) X.xe s
def tSl (r:V→Option Int→Option Int→Hp→VK→Prop) (te:TE) (tl th:TO):TE:=λ σ H Q=>te σ H λ x H1=>tl σ H1 λ l H2=>th σ H2 λ u H3=>r x l u H3 Q
theorem pe_slice {r:V→Option Int→Option Int→Hp→VK→Prop}(hr:SlR X r) (he:PE X e te) (hl:PO X lo tl) (hu:PO X hi th):PE X (.Subscript e (.Slice lo hi none p2) pos) (tSl r te tl th):=by
 intro pins s σ H Q I h
 refine Subscript_ (thn (he pins s σ H _ I h) λ v s1 ⟨x,H1,I1,r1,q1⟩=>?_)
 refine wpAny_Slice (thn (hl pins s1 σ H1 _ I1 q1) λ vl s2 ⟨l,H2,I2,pl,q2⟩=>thn (hu pins s2 σ H2 _ I2 q2) λ vu s3 ⟨u,H3,I3,pu,q3⟩=>?_)
 rw [evalPart_none]
 refine wpAny_pure ?_
 have I4:Inv X pins σ H3 { s3 with heap:=s3.heap.push { cls:=.type "slice",data:=.fields #[vl,vu,.none] } }:=I3.kept (t':=s3.toks) λ b ob q=>Heap.get?_push_of_some _ q
 obtain ⟨T,id,hT,ht,hg⟩:=hr pins { s3 with heap:=s3.heap.push { cls:=.type "slice",data:=.fields #[vl,vu,.none] } } σ H3 x v vl vu l u s3.heap.objs.size Q I4 r1 (Heap.IsSliceOf.new ..) pl pu q3
 show wpAny (model X.prog X.w) X.A (subscriptTail e (.Slice lo hi none p2) v (.ref s3.heap.objs.size)) (EP X pins σ Q) X.xe { s3 with heap:=s3.heap.push { cls:=.type "slice",data:=.fields #[vl,vu,.none] } }
 exact tail_any (ops:=[.ref s3.heap.objs.size,v]) ht hT hg (by with_unfolding_all rfl)
def cutV (xs:List V) (lo hi:Option Int):List V:=(xs.drop (HT.sIx xs.length 0 lo)).take (HT.sIx xs.length xs.length hi - HT.sIx xs.length 0 lo)
theorem cutV_length (xs:List V) (lo hi:Option Int):(cutV xs lo hi).length≤xs.length:=by
 unfold cutV
 rw [List.length_take,List.length_drop]
 lia
end
end L2
namespace L2
open PySem PySem.Spec PyProof.Rows
def ixN (n:Nat) (i:Int):Option Nat:=if 0≤i then (if i < n then some i.toNat else none) else if -(n:Int)≤i then some (i + n).toNat else none
def atI {α:Type}(xs:List α) (i:Int):Option α:=(ixN xs.length i).bind λ j=>xs[j]?
theorem ixN_seq {n:Nat}{i:Int}{j:Nat}(h:ixN n i=some j):seqIndex? i n=some j∧j < n ∧ -(n:Int)≤i∧i < n:=by
 unfold ixN at h
 by_cases h0:0≤i
 · rw [if_pos h0] at h
   by_cases h1:i < n
   · rw [if_pos h1] at h
     have e:i.toNat=j:=Option.some.inj h
     exact ⟨by rw [seqIndex_of h0 h1,e],by lia,by lia,h1⟩
   · rw [if_neg h1] at h; cases h
 · rw [if_neg h0] at h
   by_cases h1 : -(n:Int)≤i
   · rw [if_pos h1] at h
     have e:(i + n).toNat=j:=Option.some.inj h
     exact ⟨by rw [seqIndex_neg (by lia) h1,e],by lia,h1,by lia⟩
   · rw [if_neg h1] at h; cases h
theorem atI_get {α:Type}{xs:List α}{i:Int}{v:α}(h:atI xs i=some v):∃ j,seqIndex? i xs.length=some j∧xs[j]? = some v∧j < xs.length ∧ -(xs.length:Int)≤i∧i < xs.length:=by
 unfold atI at h
 cases e:ixN xs.length i with
 | none=>rw [e] at h; cases h
 | some j =>
   rw [e] at h
   obtain ⟨h1,h2,h3,h4⟩:=ixN_seq e
   exact ⟨j,h1,h,h2,h3,h4⟩
def PlainIx (b:Expr):Prop := ∀ o i,subscripted b false o i=operate [o,i] (getItem o i)
def IxR (X:Cx) (r:R2):Prop :=
 ∀ (value slice:Expr) (pins:List (Addr×Obj)) (s:Shared) (σ:St) (H:Hp) (x y:V) (v u:Value) (Q:VK),Inv X pins σ H s→RelV x v→RelV y u→r x y H Q →
   subscripted slice false v u=operate [v,u] (getItem v u)→wpAny (model X.prog X.w) X.A (subscriptTail value slice v u) (EP X pins σ Q) X.xe s
def MtR (X:Cx) (id:String) (r:V→List V→Hp→VK→Prop):Prop :=
 ∀ (pins:List (Addr×Obj)) (s:Shared) (σ:St) (H:Hp) (x:V) (xs:List V) (v:Value) (us:List Value) (Q:VK),Inv X pins σ H s→RelV x v→Vals xs us→r x xs H Q →
   wpAny (model X.prog X.w) X.A (call (.builtin id) (v :: us)) (EP X pins σ Q) X.xe s
section
variable {X:Cx}{a b:Expr}{ta tb:TE}{pos:Pos}
theorem pe_ix {r:R2}(hr:IxR X r) (ha:PE X a ta) (hb:PE X b tb) (hs:PlainIx b):PE X (.Subscript a b pos) (tOp r ta tb):=by
 intro pins s σ H Q I h
 exact Subscript_ (binT ha hb I h λ v u s2 x y H2 I2 rx ry q=>hr a b pins s2 σ H2 x y v u Q I2 rx ry q (hs _ _))
def rIxL (K:PySem.W.Frag):R2:=λ x y H Q => ∃ p xs i v,x=.ref p∧y=.int i∧SqL K H p xs∧atI xs i=some v∧Q v H
def rIxT (K:PySem.W.Frag):R2:=λ x y H Q => ∃ p xs i v,x=.ref p∧y=.int i∧SqT K H p xs∧atI xs i=some v∧Q v H
theorem ix_list:IxR X (rIxL X.K):=by
 intro value slice pins s σ H x y v u Q I rx ry h hs
 obtain ⟨p,xs,i,z,rfl,rfl,hq,he,q⟩:=h
 cases rx
 obtain ⟨t,rfl⟩:=ry
 obtain ⟨its,r,pl,hz⟩:=I.list hq
 obtain ⟨j,h1,h2,h3,h4,h5⟩:=atI_get he
 obtain ⟨w,ew,rw'⟩:=r.get h2
 have hl:=r.length
 have hn:=line63
 have fin:EP X pins σ Q w s:=⟨z,H,I,rw',q⟩
 by_cases h0:0≤i
 · have hj:i.toNat=j:=by
     rw [seqIndex_of h0 h5] at h1
     exact Option.some.inj h1
   exact item_listR pl.isList h0 (by lia) (by rw [hj]; simpa using ew) fin hs
 · have hj:(i + (its.toArray.size:Int)).toNat=j:=by
     rw [seqIndex_neg (by lia) h4] at h1
     rw [List.size_toArray, ← hl]
     exact Option.some.inj h1
   exact subscriptTail_builtinR (x:=w) pl.isList.typeIs slot_list_getitem.lookup
     (wpAny_getItem_list_neg (Q:=λ r s'=>r=w∧EP X pins σ Q r s') pl.isList (by lia) (by rw [List.size_toArray] <;> lia) (by lia) (by rw [hj]; simpa using ew) ⟨rfl,fin⟩) hs
theorem ix_tup:IxR X (rIxT X.K):=by
 intro value slice pins s σ H x y v u Q I rx ry h hs
 obtain ⟨p,xs,i,z,rfl,rfl,hq,he,q⟩:=h
 cases rx
 obtain ⟨t,rfl⟩:=ry
 obtain ⟨its,r,pl,hz⟩:=I.tuple hq
 obtain ⟨j,h1,h2,h3,h4,h5⟩:=atI_get he
 obtain ⟨w,ew,rw'⟩:=r.get h2
 have hl:=r.length
 have hn:=line63
 have fin:EP X pins σ Q w s:=⟨z,H,I,rw',q⟩
 exact subscriptTail_builtinR (x:=w) pl.typeIs slot_tuple_getitem.lookup
   (getItem_tuple (j:=j) (Q:=λ r s'=>r=w∧EP X pins σ Q r s') pl (by lia) (by lia) (by rw [List.size_toArray, ← hl]; exact h1) (by simpa using ew) ⟨rfl,fin⟩) hs
theorem mapSeq_set (its:List Value) (n j:Nat) (u:Value):Obj.mapSeq (·.setIfInBounds j u) { cls:=.type "list",data:=.seq its.toArray n }={ cls:=.type "list",data:=.seq (its.set j u).toArray n }:=by
 simp [Obj.mapSeq]
theorem Inv.lst {pins:List (Addr×Obj)}{σ:St}{H:Hp}{s:Shared}{p:Addr}{xs:List V}(I:Inv X pins σ H s) (h:H p=some (.lst xs)) :
   ∃ (its:List Value) (n:Nat),Vals xs its∧s.heap.get? p=some { cls:=.type "list",data:=.seq its.toArray n }∧xs.length≤sizeLine:=by
 obtain ⟨z,its,n,r,e⟩:=I.hok p _ h
 exact ⟨its,n,r,e,z⟩
theorem Inv.lstUpd {pins:List (Addr×Obj)}{σ:St}{H:Hp}{s:Shared}{p:Addr}{xs ys:List V}{its its':List Value}{n n':Nat}{f:Obj→Obj}(I:Inv X pins σ H s) (h:H p=some (.lst xs))
   (ho:s.heap.get? p=some { cls:=.type "list",data:=.seq its.toArray n }) (hf:f { cls:=.type "list",data:=.seq its.toArray n }={ cls:=.type "list",data:=.seq its'.toArray n' }) (r:Vals ys its') (hz:ys.length≤sizeLine) (t:Nat) :
   Inv X pins σ (upd H p (.lst ys)) { s with heap:=s.heap.update p f,toks:=t }:=by
 have e:(s.heap.update p f).get? p=some { cls:=.type "list",data:=.seq its'.toArray n' }:=by
   rw [Heap.get?_update_self f ho (by rw [hf] <;> rfl),hf]
 refine I.write (x:=p) (e:=p) (by rw [h]; trivial) (.inl rfl) (λ b u hb q=>(Heap.get?_update_other _ _ (Ne.symm hb)).trans q) ⟨_,e⟩ ?_
 exact ⟨hz,its',n',r,e⟩
def rSetL:V→V→V→Hp→(Hp→Prop)→Prop:=λ o i v H Q => ∃ p xs k j,o=.ref p∧i=.int k∧H p=some (.lst xs)∧ixN xs.length k=some j∧Q (upd H p (.lst (xs.set j v)))
theorem set_list:PSet X rSetL:=by
 intro pins s σ H o i v ov iv u Q I ro ri rv h
 obtain ⟨p,xs,k,j,rfl,rfl,hp,hj,q⟩:=h
 cases ro
 obtain ⟨t,rfl⟩:=ri
 obtain ⟨its,n,r,ho,hz⟩:=I.lst hp
 obtain ⟨h1,h2,h3,h4⟩:=ixN_seq hj
 have hl:=r.length
 have hn:=line63
 have I':Inv X pins σ (upd H p (.lst (xs.set j v))) { s with heap:=s.heap.update p (Obj.mapSeq (·.setIfInBounds j u)) } :=
   I.lstUpd hp ho (mapSeq_set its n j u) (r.set rv j) (by rw [List.length_set]; exact hz) s.toks
 by_cases h0:0≤k
 · have hk:k.toNat=j:=by
     rw [seqIndex_of h0 h4] at h1
     exact Option.some.inj h1
   exact PySem.W.ki_setAt ho h0 (by lia) (by rw [List.size_toArray, ← hl]; exact h4) (by rw [hk]; exact ⟨_,I',q⟩)
 · have hk:(k + (its.toArray.size:Int)).toNat=j:=by
     rw [seqIndex_neg (by lia) h3] at h1
     rw [List.size_toArray, ← hl]
     exact Option.some.inj h1
   exact PySem.W.ki_setBack ho (by lia) (by rw [List.size_toArray, ← hl]; exact h3) (by lia) (by rw [hk]; exact ⟨_,I',q⟩)
theorem slice_bounds (lo hi:Option Int) (n:Nat):(sliceBounds lo hi none n).1=((HT.sIx n 0 lo:Nat):Int)∧(sliceBounds lo hi none n).2.1=((HT.sIx n n hi:Nat):Int)∧(sliceBounds lo hi none n).2.2=1:=by
 refine ⟨?_,?_,rfl⟩
 · cases lo with
   | none=>simp [sliceBounds,HT.sIx]
   | some i =>
     simp only [sliceBounds,HT.sIx,Option.getD_none,show (1:Int) > 0 by decide,if_true]
     by_cases h:i < 0
     · simp only [h,if_true] <;> lia
     · simp only [h,if_false] <;> lia
 · cases hi with
   | none=>simp [sliceBounds,HT.sIx]
   | some i =>
     simp only [sliceBounds,HT.sIx,Option.getD_none,show (1:Int) > 0 by decide,if_true]
     by_cases h:i < 0
     · simp only [h,if_true] <;> lia
     · simp only [h,if_false] <;> lia
theorem slicePick_cut (its:List Value) (lo hi:Option Int):slicePick its.toArray lo hi none=((its.drop (HT.sIx its.length 0 lo)).take (HT.sIx its.length its.length hi - HT.sIx its.length 0 lo)).toArray:=by
 obtain ⟨h1,h2,h3⟩:=slice_bounds lo hi its.toArray.size
 unfold slicePick
 rw [h1,h2,h3]
 simp only [sliceRange_one,pick_run,List.size_toArray] <;> rfl
def rSlL (K:PySem.W.Frag):V→Option Int→Option Int→Hp→VK→Prop:=λ x lo hi H Q => ∃ a xs,x=.ref a∧SqL K H a xs∧∀ p,H p=none→Q (.ref p) (upd H p (.lst (cutV xs lo hi)))
theorem sl_list:SlR X (rSlL X.K):=by
 intro pins s σ H x v vl vu lo hi sl Q I rx hs pl pu h
 obtain ⟨a,xs,rfl,hx,q⟩:=h
 cases rx
 obtain ⟨its,r,ht,hz⟩:=I.list hx
 have hlen:=r.length
 refine ⟨"list",_,slot_list_getitem.lookup,ht.isList.typeIs,?_⟩
 refine wpAny_getItem_list_slice ht.isList hs pl pu .none (by simp) ?_ (by rw [List.size_toArray] <;> lia)
 rw [slicePick_cut, ← hlen]
 refine ⟨.ref s.heap.objs.size,_,I.laid (t':=s.toks) (o:=.lst (cutV xs lo hi)) (λ b ob q=>Heap.get?_push_of_some _ q) (Nat.le_refl _) ?_,rfl,q _ (I.hok.fresh (Nat.le_refl _))⟩
 exact ⟨Nat.le_trans (cutV_length xs lo hi) hz,_,0,(r.drop (HT.sIx xs.length 0 lo)).take (HT.sIx xs.length xs.length hi - HT.sIx xs.length 0 lo),Heap.get?_push_size _ rfl⟩
def flatV:V→Bool
 | .non=>true
 | .bl _=>true
 | .int _=>true
 | .str _=>true
 | _=>false
def eqV:V→V→Bool
 | .non,.non=>true
 | .bl a,.bl b=>a == b
 | .bl a,.int b=>(if a then 1 else 0) == b
 | .int a,.bl b=>a == (if b then 1 else 0)
 | .int a,.int b=>a == b
 | .str a,.str b=>a == b
 | _,_=>false
theorem eqAt_V {A:Around}{s:Shared}{y x:V}{u v:Value}(ry:RelV y u) (rx:RelV x v) (fy:flatV y=true) (fx:flatV x=true):SeqAt.EqAt A s u v (eqV y x):=by
 cases y with
 | non =>
   cases ry
   cases x with
   | non=>cases rx; exact SeqAt.EqAt.same _
   | bl b=>cases rx; exact SeqAt.EqAt.none_bool b
   | int b=>obtain ⟨t,rfl⟩:=rx; exact SeqAt.EqAt.none_int b t
   | str b=>obtain ⟨t,rfl⟩:=rx; exact SeqAt.EqAt.none_str b t
   | _=>exact absurd (show false=true from fx) Bool.false_ne_true
 | bl a =>
   cases ry
   cases x with
   | non=>cases rx; exact SeqAt.EqAt.bool_none a
   | bl b=>cases rx; exact SeqAt.EqAt.bool_bool a b
   | int b=>obtain ⟨t,rfl⟩:=rx; exact SeqAt.EqAt.bool_int a b t
   | str b=>obtain ⟨t,rfl⟩:=rx; exact SeqAt.EqAt.bool_str a b t
   | _=>exact absurd (show false=true from fx) Bool.false_ne_true
 | int a =>
   obtain ⟨t',rfl⟩:=ry
   cases x with
   | non=>cases rx; exact SeqAt.EqAt.int_none a t'
   | bl b=>cases rx; exact SeqAt.EqAt.int_bool a t' b
   | int b=>obtain ⟨t,rfl⟩:=rx; exact SeqAt.EqAt.int_int a t' b t
   | str b=>obtain ⟨t,rfl⟩:=rx; exact SeqAt.EqAt.int_str a t' b t
   | _=>exact absurd (show false=true from fx) Bool.false_ne_true
 | str a =>
   obtain ⟨t',rfl⟩:=ry
   cases x with
   | non=>cases rx; exact SeqAt.EqAt.str_none a t'
   | bl b=>cases rx; exact SeqAt.EqAt.str_bool a t' b
   | int b=>obtain ⟨t,rfl⟩:=rx; exact SeqAt.EqAt.str_int a t' b t
   | str b=>obtain ⟨t,rfl⟩:=rx; exact SeqAt.EqAt.str_str a t' b t
   | _=>exact absurd (show false=true from fx) Bool.false_ne_true
 | _=>exact absurd (show false=true from fy) Bool.false_ne_true
def eqU (x:V) (u:Value):Bool:=match u with
 | .none=>eqV .non x
 | .bool b=>eqV (.bl b) x
 | .int i _=>eqV (.int i) x
 | .str z _=>eqV (.str z) x
 | _=>false
theorem eqU_of {x y:V}{u:Value}(r:RelV y u) (f:flatV y=true):eqU x u=eqV y x:=by
 cases y with
 | non=>cases r; rfl
 | bl b=>cases r; rfl
 | int i=>obtain ⟨t,rfl⟩:=r; rfl
 | str z=>obtain ⟨t,rfl⟩:=r; rfl
 | _=>exact absurd (show false=true from f) Bool.false_ne_true
theorem any_eqU {x:V}:∀ {xs:List V}{us:List Value},Vals xs us→xs.all flatV=true→us.any (eqU x)=xs.any λ y=>eqV y x
 | _,_,.nil,_=>rfl
 | y :: xs,u :: us,.cons r t,f=>by
   rw [List.all_cons,Bool.and_eq_true] at f
   rw [List.any_cons,List.any_cons,eqU_of r f.1,any_eqU t f.2]
theorem mem_eqAt {A:Around}{s:Shared}{x:V}{v:Value}(rx:RelV x v) (fx:flatV x=true):∀ {xs:List V}{us:List Value},Vals xs us→xs.all flatV=true→∀ u∈us,SeqAt.EqAt A s u v (eqU x u)
 | _,_,.nil,_=>λ u hu=>by cases hu
 | y :: xs,u :: us,.cons r t,f=>λ u' hu=>by
   rw [List.all_cons,Bool.and_eq_true] at f
   rcases List.mem_cons.mp hu with rfl | hu
   · rw [eqU_of r f.1]; exact eqAt_V r rx f.1 fx
   · exact mem_eqAt rx fx t f.2 u' hu
def inV (x:V) (xs:List V):Bool:=xs.any λ y=>eqV y x
def rIn (K:PySem.W.Frag) (neg:Bool):R2:=λ x y H Q => ∃ p xs,y=.ref p∧(SqL K H p xs∨SqT K H p xs)∧flatV x=true∧xs.all flatV=true∧Q (.bl (if neg then !inV x xs else inV x xs)) H
theorem op_in_seq:OpR X (compareOp .In) (rIn X.K false):=by
 intro pins s σ H x y v u Q I rx ry h
 obtain ⟨p,xs,rfl,hq,fx,fs,q⟩:=h
 cases ry
 rcases hq with hq | hq
 · obtain ⟨its,r,pl,hz⟩:=I.list hq
   refine SeqAt.in_listAt (eqU x) pl.isList (λ w hw=>mem_eqAt rx fx r fs w (by simpa using hw)) ⟨.bl _,H,I,rfl,?_⟩
   rw [show its.toArray.any (eqU x)=its.any (eqU x) by simp,any_eqU r fs]
   exact q
 · obtain ⟨its,r,pl,hz⟩:=I.tuple hq
   refine SeqAt.in_tupleAt (eqU x) pl (λ w hw=>mem_eqAt rx fx r fs w (by simpa using hw)) ⟨.bl _,H,I,rfl,?_⟩
   rw [show its.toArray.any (eqU x)=its.any (eqU x) by simp,any_eqU r fs]
   exact q
theorem op_notIn_seq:OpR X (compareOp .NotIn) (rIn X.K true):=by
 intro pins s σ H x y v u Q I rx ry h
 obtain ⟨p,xs,rfl,hq,fx,fs,q⟩:=h
 cases ry
 rcases hq with hq | hq
 · obtain ⟨its,r,pl,hz⟩:=I.list hq
   refine SeqAt.notIn_listAt (eqU x) pl.isList (λ w hw=>mem_eqAt rx fx r fs w (by simpa using hw)) ⟨.bl _,H,I,rfl,?_⟩
   rw [show its.toArray.any (eqU x)=its.any (eqU x) by simp,any_eqU r fs]
   exact q
 · obtain ⟨its,r,pl,hz⟩:=I.tuple hq
   refine SeqAt.notIn_tupleAt (eqU x) pl (λ w hw=>mem_eqAt rx fx r fs w (by simpa using hw)) ⟨.bl _,H,I,rfl,?_⟩
   rw [show its.toArray.any (eqU x)=its.any (eqU x) by simp,any_eqU r fs]
   exact q
theorem call_len_seq:CallR X (.builtin "len") (λ xs H Q => ∃ p ys,xs=[.ref p]∧(SqL X.K H p ys∨SqT X.K H p ys)∧Q (.int ys.length) H):=by
 intro pins s σ H xs us Q I r h
 obtain ⟨p,ys,rfl,hq,q⟩:=h
 obtain ⟨u,rfl,rx⟩:=vals1 r
 cases rx
 have hn:=line63
 rcases hq with hq | hq
 · obtain ⟨its,r',pl,hz⟩:=I.list hq
   have hlen:=r'.length
   exact Calls.call_len_list pl.isList (by simp only [List.size_toArray] <;> lia) ⟨.int ys.length,H,I.tok _,⟨s.toks + 1,by rw [List.size_toArray,hlen]⟩,q⟩
 · obtain ⟨its,r',pl,hz⟩:=I.tuple hq
   have hlen:=r'.length
   exact len_tuple pl (by simp only [List.size_toArray] <;> lia) ⟨.int ys.length,H,I.tok _,⟨s.toks + 1,by rw [List.size_toArray,hlen]⟩,q⟩
theorem call_list_of:CallR X (.type "list") (λ xs H Q => ∃ p ys,xs=[.ref p]∧(SqL X.K H p ys∨SqT X.K H p ys)∧∀ l,H l=none→Q (.ref l) (upd H l (.lst ys))):=by
 intro pins s σ H xs us Q I r h
 obtain ⟨p,ys,rfl,hq,q⟩:=h
 obtain ⟨u,rfl,rx⟩:=vals1 r
 cases rx
 have fin:∀ (its:List Value),Vals ys its→ys.length≤sizeLine→∀ (h':Heap) (c':Nat),(∀ b o',s.heap.get? b=some o'→h'.get? b=some o') →
     h'.get? s.heap.objs.size=some { cls:=.type "list",dict:=none,data:=.seq its.toArray c',slots := #[] }→EP X pins σ Q (.ref s.heap.objs.size) { s with heap:=h' }:=λ its r' hz h' c' kp e =>
   ⟨.ref s.heap.objs.size,_,I.laid (t':=s.toks) kp (Nat.le_refl _) (show ObjOk X.prog X.w _ h' _ (.lst ys) from ⟨hz,its,c',r',e⟩),rfl,q _ (I.hok.fresh (Nat.le_refl _))⟩
 rcases hq with hq | hq
 · obtain ⟨its,r',pl,hz⟩:=I.list hq
   have hlen:=r'.length
   obtain ⟨o,ho,hc,n,hd⟩:=pl.isList
   exact call_list_seq p (.inl rfl) ho hc hd (λ h' c' kp e=>fin its r' hz h' c' kp e) (by simp only [List.size_toArray] <;> lia)
 · obtain ⟨its,r',pl,hz⟩:=I.tuple hq
   have hlen:=r'.length
   obtain ⟨o,ho,hc,n,hd⟩:=pl
   exact call_list_seq p (.inr rfl) ho hc hd (λ h' c' kp e=>fin its r' hz h' c' kp e) (by simp only [List.size_toArray] <;> lia)
def tyV (K:PySem.W.Frag) (T:String) (x:V) (H:Hp):Prop:=match x with
 | .str _=>T = "str"
 | .int _=>T = "int"
 | .ref p=>(T = "list" ∧ ∃ xs,SqL K H p xs)∨(T = "tuple" ∧ ∃ o,K.lookup p=some o∧o.cls=.type "tuple" ∧ o.dict=none) ∨
     (T = "dict" ∧ ((∃ kvs,H p=some (.dK kvs))∨∃ kvs,H p=some (.dT kvs)))∨(T = "set" ∧ ∃ S n,H p=some (.set S n))
 | _=>False
theorem tyV_is {pins:List (Addr×Obj)}{σ:St}{H:Hp}{s:Shared}{T:String}{x:V}{v:Value}(I:Inv X pins σ H s) (r:RelV x v) (ty:tyV X.K T x H) :
   s.TypeIs v T∧∀ a,v=.ref a→∃ ob,s.heap.get? a=some ob∧ob.dict=none:=by
 cases x with
 | str z =>
   obtain ⟨t,rfl⟩:=r
   cases (show T = "str" from ty)
   exact ⟨typeIs_str s z t,λ _ e=>nomatch e⟩
 | int i =>
   obtain ⟨t,rfl⟩:=r
   cases (show T = "int" from ty)
   exact ⟨typeIs_int s i t,λ _ e=>nomatch e⟩
 | ref p =>
   cases r
   rcases ty with ⟨rfl,xs,hq⟩ | ⟨rfl,o,hk,hc,hd⟩ | ⟨rfl,hk⟩ | ⟨rfl,S,n,hk⟩
   · obtain ⟨its,_,pl,_⟩:=I.list hq
     refine ⟨pl.isList.typeIs,λ a e=>?_⟩
     cases e
     obtain ⟨o,n,e,c,hd,_⟩:=pl
     exact ⟨o,e,hd⟩
   · refine ⟨⟨o,I.kIn p o hk,hc⟩,λ a e=>?_⟩
     cases e
     exact ⟨o,I.kIn _ o hk,hd⟩
   · have z:∃ o,s.heap.get? p=some o∧o.ExactDict:=by
       rcases hk with ⟨kvs,hk⟩ | ⟨kvs,hk⟩
       · obtain ⟨_,_,_,_,o,_,_,e,ex,_⟩:=I.hok p _ hk
         exact ⟨o,e,ex⟩
       · obtain ⟨_,_,_,_,o,_,_,e,ex,_⟩:=I.hok p _ hk
         exact ⟨o,e,ex⟩
     obtain ⟨o,e,ex⟩:=z
     refine ⟨⟨o,e,ex.1⟩,λ a e2=>?_⟩
     cases e2
     exact ⟨o,e,ex.2.1⟩
   · obtain ⟨o,_,_,_,e,ex,_⟩:=I.hok p _ hk
     refine ⟨⟨o,e,ex.1⟩,λ a e2=>?_⟩
     cases e2
     exact ⟨o,e,ex.2.1⟩
 | _=>exact False.elim ty
def tBM (K:PySem.W.Frag) (T:String) (r:V→List V→Hp→VK→Prop) (to:TE) (t:TA):TE:=λ σ H Q=>to σ H λ x H1=>tyV K T x H1∧t σ H1 λ xs H2=>r x xs H2 Q
variable {o e:Expr}{es:List Expr}{to:TE}{t:TA}{name:Str}{apos cpos:Pos}{T id:String}{r:V→List V→Hp→VK→Prop}
theorem pe_bm (pa:PlainAttrs T) (slot:Slot T name id) (hty:typeOf (.builtin id)=pure (.type "method_descriptor")) (hm:MtR X id r) (ho:PE X o to) (ha:PA X (e :: es) t)
   (hbase:attributeBase o name X.env (eval o X.env)=eval o X.env:=by rfl)
   (hfew:((backTo cpos (starEach (e :: es) X.env)).all (λ x => !x.1) && (backToKw cpos (keywordEach [] X.env)).all (λ x=>x.1.isSome)
     && decide ((e :: es).length + ([]:List Keyword).length + (if ([]:List Keyword).isEmpty then 0 else 1) < 30))=true:=by rfl)
   (hline:(apos.endLine == cpos.line)=true:=by rfl) (hs:starEach (e :: es) X.env=(false,eval e X.env) :: starEach es X.env:=by rfl) (hplain:(backTo cpos (starEach es X.env)).any (·.1)=false:=by rfl) :
   PE X (.Call (.Attribute o name apos) (e :: es) [] cpos) (tBM X.K T r to t):=by
 intro pins s σ H Q I h
 refine wpAny_Call_method_late hbase hfew hline rfl (thn (ho pins s σ H _ I h) λ v s1 ⟨x,H1,I1,r1,ty,q1⟩=>?_)
 obtain ⟨h1,h2⟩:=tyV_is I1 r1 ty
 refine ⟨T,id,pa,slot,hty,h1,h2,?_⟩
 have hA:=ha cpos pins s1 σ H1 _ I1 q1
 rw [hs] at hA ⊢
 refine Calls.callWith_builtin (by show (false || (backTo cpos (starEach es X.env)).any (·.1))=false; rw [hplain] <;> rfl) (Calls.evalArgs_plain ?_)
 exact thn hA λ us s2 ⟨vs,H2,I2,r2,q2⟩=>hm pins s2 σ H2 x vs v us Q I2 r1 r2 q2
end
end L2
namespace L2
open PySem PySem.Spec PyProof.Rows
def MtM (X:Cx) (id:String) (r:V→List V→Hp→VK→Prop):Prop :=
 ∀ (pins:List (Addr×Obj)) (s:Shared) (σ:St) (H:Hp) (x:V) (xs:List V) (v:Value) (us:List Value) (Q:VK),Inv X pins σ H s→RelV x v→Vals xs us→r x xs H Q →
   wpAny (model X.prog X.w) X.A (call (.builtin id) (v :: us)) (EP X pins σ Q) X.xe s
theorem Vals.one:∀ {x:V}{us:List Value},Vals [x] us→∃ u,us=[u]∧RelV x u
 | _,_,.cons r .nil=>⟨_,rfl,r⟩
theorem Vals.rep {xs:List V}{us:List Value}(h:Vals xs us):∀ k:Nat,Vals (List.replicate k xs).flatten (List.replicate k us).flatten
 | 0=>.nil
 | k + 1=>by
   rw [List.replicate_succ,List.replicate_succ,List.flatten_cons,List.flatten_cons]
   exact Vals.append h (Vals.rep h k)
theorem foldl_rep (its:List Value):∀ (k:Nat) (acc:List Value),
   List.foldl (λ x1 x2=>x1 ++ x2) acc.toArray (List.replicate k its.toArray)=(acc ++ (List.replicate k its).flatten).toArray
 | 0,acc=>by simp
 | k + 1,acc=>by
   have e:acc.toArray ++ its.toArray=(acc ++ its).toArray:=by simp
   have e2:(acc ++ its) ++ (List.replicate k its).flatten=acc ++ (List.replicate (k + 1) its).flatten:=by
     rw [List.replicate_succ,List.flatten_cons,List.append_assoc]
   rw [← e2, ← foldl_rep its k (acc ++ its), ← e,List.replicate_succ,List.foldl_cons]
section
variable {X:Cx}{pins:List (Addr×Obj)}{σ:St}{H:Hp}{s:Shared}{l b:Addr}{xs ys zs:List V}
theorem Inv.lset {its its':List Value}{n:Nat}{f:Array Value→Array Value}{t':Nat}(I:Inv X pins σ H s) (hH:H l=some (.lst xs))
   (e:s.heap.get? l=some { cls:=.type "list",data:=.seq its.toArray n }) (hf:f its.toArray=its'.toArray) (hv:Vals ys its') (hz:ys.length≤sizeLine) :
   Inv X pins σ (upd H l (.lst ys)) { s with heap:=s.heap.update l (Obj.mapSeq f),toks:=t' }:=by
 have q:=PySem.IsL.update e f
 rw [hf] at q
 refine I.write (x:=l) (e:=l) (by rw [hH]; exact trivial) (.inl rfl) (λ b' u hb hu=>(Heap.get?_update_other s.heap (Obj.mapSeq f) (Ne.symm hb)).trans hu) ⟨_,q⟩ ?_
 exact ⟨hz,its',_,hv,q⟩
theorem Inv.lnew {its:List Value}{t':Nat}(I:Inv X pins σ H s) (hv:Vals ys its) (hz:ys.length≤sizeLine) :
   Inv X pins σ (upd H s.heap.objs.size (.lst ys)) { s with heap:=s.heap.push { cls:=.type "list",data:=.seq its.toArray },toks:=t' } :=
 I.laid (λ _ _ q=>Heap.get?_push_of_some _ q) (Nat.le_refl _) ⟨hz,its,0,hv,Heap.get?_push_size _ rfl⟩
theorem Inv.fresh (I:Inv X pins σ H s):H s.heap.objs.size=none:=I.hok.fresh (Nat.le_refl _)
theorem Inv.lstM (I:Inv X pins σ H s) (hH:H l=some (.lst xs)):xs.length≤sizeLine∧∃ (its:List Value) (n:Nat),Vals xs its∧xs.length=its.length∧s.heap.get? l=some { cls:=.type "list",data:=.seq its.toArray n }:=by
 obtain ⟨z,its,n,r,e⟩:=I.hok l _ hH
 exact ⟨z,its,n,r,r.length,e⟩
theorem notLongL {n:Nat}(h:n≤sizeLine):Builtin.List.listTooLong n=false:=by
 unfold Builtin.List.listTooLong
 exact decide_eq_false (by lia)
end
section
variable {X:Cx}
def rAppend:V→List V→Hp→VK→Prop:=λ x vs H Q => ∃ l xs y,x=.ref l∧vs=[y]∧H l=some (.lst xs)∧xs.length < sizeLine∧Q .non (upd H l (.lst (xs ++ [y])))
theorem mt_append:MtM X "list.append" rAppend:=by
 intro pins s σ H x vs v us Q I rx rv h
 obtain ⟨l,xs,y,rfl,rfl,hH,hz,q⟩:=h
 cases rx
 obtain ⟨u,rfl,ru⟩:=rv.one
 obtain ⟨z,its,n,r,hl,e⟩:=I.lstM hH
 refine call_meets F.slot_list_append ⟨_,e,rfl⟩ F.entry_list_append (F.args_list_append_2 _ _) (PySem.list_append l its.toArray n u (by rw [List.size_toArray]; lia)) ⟨e,?_⟩
 refine ⟨.non,_,I.lset (its':=its ++ [u]) hH e (by simp) (r.append (.cons ru .nil)) ?_,rfl,q⟩
 rw [List.length_append,List.length_singleton]
 lia
def rExtend:V→List V→Hp→VK→Prop:=λ x vs H Q => ∃ l b xs zs,x=.ref l∧vs=[.ref b]∧H l=some (.lst xs)∧H b=some (.lst zs)∧xs.length + zs.length≤sizeLine∧Q .non (upd H l (.lst (xs ++ zs)))
theorem mt_extend:MtM X "list.extend" rExtend:=by
 intro pins s σ H x vs v us Q I rx rv h
 obtain ⟨l,b,xs,zs,rfl,rfl,hH,hB,hz,q⟩:=h
 cases rx
 obtain ⟨u,rfl,ru⟩:=rv.one
 cases ru
 obtain ⟨z,its,n,r,hl,e⟩:=I.lstM hH
 obtain ⟨z2,its2,n2,r2,hl2,e2⟩:=I.lstM hB
 have hsz:its.toArray.size + its2.toArray.size≤sizeLine:=by rw [List.size_toArray,List.size_toArray]; lia
 have hlong:¬ (!its.toArray.isEmpty && Builtin.List.listTooLong (its.toArray.size + its2.toArray.size))=true:=by
   rw [notLongL hsz,Bool.and_false]
   exact Bool.false_ne_true
 refine call_meets F.slot_list_extend ⟨_,e,rfl⟩ F.entry_list_extend (F.args_list_extend_2 _ _)
   (AutoSeq1.list_extend_list_list_0 l its.toArray n b its2.toArray n2 hlong (by rw [List.size_toArray]; lia) (by lia)) ⟨e,e2,?_⟩
 refine ⟨.non,_,I.lset (its':=its ++ its2) hH e (by simp) (r.append r2) ?_,rfl,q⟩
 rw [List.length_append]
 lia
def rCat:R2:=λ x y H Q => ∃ l b xs zs,x=.ref l∧y=.ref b∧H l=some (.lst xs)∧H b=some (.lst zs)∧xs.length + zs.length≤sizeLine∧∀ p,H p=none→Q (.ref p) (upd H p (.lst (xs ++ zs)))
theorem op_cat:OpR X (binaryOp .Add) rCat:=by
 intro pins s σ H x y v u Q I rx ry h
 obtain ⟨l,b,xs,zs,rfl,rfl,hH,hB,hz,q⟩:=h
 cases rx
 cases ry
 obtain ⟨z,its,n,r,hl,e⟩:=I.lstM hH
 obtain ⟨z2,its2,n2,r2,hl2,e2⟩:=I.lstM hB
 refine PySem.P.add_list e e2 ?_ (by rw [List.size_toArray,List.size_toArray]; lia)
 have ea:its.toArray ++ its2.toArray=(its ++ its2).toArray:=by simp
 rw [ea]
 exact ⟨.ref _,_,I.lnew (t':=s.toks) (r.append r2) (by rw [List.length_append]; lia),rfl,q _ I.fresh⟩
def rRep:R2:=λ x y H Q => ∃ l k xs,x=.ref l∧y=.int k∧H l=some (.lst xs) ∧ -(2 ^ 63)≤k∧k < 2 ^ 63∧xs.length * k.toNat≤sizeLine ∧
 ∀ p,H p=none→Q (.ref p) (upd H p (.lst (List.replicate k.toNat xs).flatten))
theorem len_rep {α:Type}(xs:List α) (k:Nat):(List.replicate k xs).flatten.length=k * xs.length:=by
 induction k with
 | zero=>simp
 | succ k ih=>rw [List.replicate_succ,List.flatten_cons,List.length_append,ih,Nat.succ_mul,Nat.add_comm]
theorem op_rep:OpR X (binaryOp .Mult) rRep:=by
 intro pins s σ H x y v u Q I rx ry h
 obtain ⟨l,k,xs,rfl,rfl,hH,h1,h2,hz,q⟩:=h
 cases rx
 obtain ⟨t,rfl⟩:=ry
 obtain ⟨z,its,n,r,hl,e⟩:=I.lstM hH
 have hlen:its.toArray.size * k.toNat≤sizeLine:=by rw [List.size_toArray, ← hl]; exact hz
 have hcap:¬ its.toArray.size * k.toNat > (2 ^ 63 - 1) / 8:=by
   have:(sizeLine:Nat)≤(2 ^ 63 - 1) / 8:=by decide
   lia
 have hfit:¬ (!Builtin.List.listFitsIndex k)=true:=by
   rw [fitsIndex_both h1 h2]
   exact Bool.false_ne_true
 have hlong:¬ Builtin.List.listTooLong (its.toArray.size * k.toNat)=true:=by
   rw [notLongL hlen]
   exact Bool.false_ne_true
 have hnew:List.foldl (λ x1 x2=>x1 ++ x2) #[] (List.replicate (if its.toArray.isEmpty=true then 0 else k.toNat) its.toArray)=(List.replicate k.toNat its).flatten.toArray:=by
   have f0:∀ m:Nat,List.foldl (λ x1 x2=>x1 ++ x2) #[] (List.replicate m its.toArray)=(List.replicate m its).flatten.toArray:=λ m=>by
     have:=foldl_rep its m []
     rw [List.nil_append] at this
     exact this
   rw [f0]
   cases its with
   | nil=>simp
   | cons a r'=>rw [if_neg (by simp)]
 refine wpAny_binaryOp_repeat_ref (T := "list") (U := "int") (by decide) ⟨_,e,rfl⟩ (λ s'=>typeIs_int s' k t) noFill_list_mul F.fills_int_mul F.slot_int_rmul repeat_list F.slot_int_index.lookup
   (call_meets F.slot_int_rmul (typeIs_int s k t) F.entry_int_rmul (F.args_int_rmul_2 _ _) (int___rmul___int_list k t l its.toArray n)
     ⟨e,rfl,⟨_,e,rfl⟩,call_meets F.slot_list_mul ⟨_,e,rfl⟩ F.entry_list_mul (F.args_list_mul_2 _ _) (AutoListH.list___mul___list_int_3 l its.toArray n k t hfit hcap hlong) ⟨e,?_⟩⟩)
 rw [hnew]
 exact ⟨.ref _,_,I.lnew (t':=s.toks) (r.rep k.toNat) (by rw [len_rep,Nat.mul_comm]; exact hz),rfl,q _ I.fresh⟩
end
section
variable {prog:Program}{w:World}{A:Around}{E:Value→Shared→Prop}{s:Shared}
end
section
variable {X:Cx}
end
end L2
namespace Att
open PySem PySem.W PySem.Calls PyProof.Rows
theorem ints_of_wellAll {P:Params}{h:Heap}:∀ (ns:List Int) (vs:List Value),WellAll P h vs (ns.map WData.int)→IntsAre vs ns:=by
 intro ns
 induction ns with
 | nil =>
   intro vs w
   rw [List.map_nil] at w
   cases w
   exact .nil
 | cons n ns ih =>
   intro vs w
   rw [List.map_cons] at w
   cases w with
   | cons a b =>
     cases a
     exact .cons _ _ (ih _ b)
theorem script_of {l:OpenLaw}{n:Nat}(hn:l.most=some n) {P:Params}{h:Heap}{args:List WData}{vals:List Value}
   (hpre:l.row.toRowW.claim.pre args=true) (hwl:WellAll P h vals args) :
   ∃ a vs ns,vals=[Value.ref a]∧args=[WData.list (ns.map WData.int)]∧h.get? a=some { cls:=.type "list",data:=.seq vs.toArray }∧IntsAre vs ns∧ns.length≤n:=by
 have hsh:WShape.hasAll [] args [.list .int]=true:=(pre_splitW hpre).1
 have hc:l.pre.holds [] { args:=args }=true:=(pre_splitW hpre).2
 obtain ⟨d,r,rfl,h1,h2⟩:=hasAllW_cons hsh
 obtain rfl:=hasAllW_nil h2
 obtain ⟨xs,rfl,h3⟩:=hasW_list h1
 obtain ⟨ns,rfl⟩:=items_int h3
 have hlen:ns.length≤n:=by
   unfold OpenLaw.pre at hc
   have h4:(WTm.not (.lt (.lit (.int (n:Int))) (.len (.arg 0)))).holds [] { args:=[.list (ns.map .int)] }=true:=by
     have h4:=(holds_andW hc).1
     rw [hn] at h4
     exact h4
   have h5:=condW_of h4 (w_not (w_lt w_lit (w_len_list (w_arg rfl))))
   rw [List.length_map] at h5
   refine Nat.le_of_not_lt λ q=>?_
   have q':(n:Int) < ((ns.length:Nat):Int):=by lia
   first
     | (rw [decide_eq_true q'] at h5; exact absurd h5 (by decide))
     | (simp at h5; lia)
 cases hwl with
 | cons w1 w2 =>
   cases w2
   cases w1 with
   | list ho hall=>exact ⟨_,_,ns,rfl,rfl,ho,ints_of_wellAll ns _ hall,hlen⟩
theorem post_true (l:OpenLaw) (args:List WData):l.row.toRowW.claim.post args (.bool true) args=true :=
 postW_of (r:=l.row.toRowW) (X:=(true == true))
   (show WShape.has [] (.bool true) .bool=true by first | rfl | decide | simp [WShape.has,WShape.arms,WShape.armsAll])
   (show (WTm.eq .res (.lit (.bool true))).value [] { args:=args,res:=some (.bool true),after:=args }=some (.bool (true == true)) from w_eq_bool (w_res rfl) w_lit) rfl
theorem attach_call {l:OpenLaw}{n:Nat}{q:Program}{loose:List Str}{XP:(Str→Option Value)→Heap→Prop}{YP:World→Heap→Prop}{d:DefRec}
   (hn:l.most=some n) (hdf:d.params.defaults=[])
   (call:∀ (w:World) (s₀ s₁:Shared) (mg mb:Str→Option Value) (fa:Addr) (o:Obj) (pm cd doc:Value) (a:Addr) (vs:List Value) (ns:List Int),
     Ground q loose [] XP w s₀ mg mb s₁.heap→YP w s₁.heap →
     s₁.heap.get? fa=some o→o.data=.func (docDef d.name d.params d.body d.scope pm cd doc)→s₁.heap.CodeRec cd d.name→mg d.name=some (.ref fa) →
     s₁.heap.get? a=some { cls:=.type "list",data:=.seq vs.toArray }→IntsAre vs ns→ns.length≤n→s₁.gens = #[] →
     codeAny (model l.prog w) callerA (.call (.ref fa) ⟨[.ref a],[]⟩) (λ r s'=>r=.ok (.ret (.bool true))∧OldK s₁.heap s'.heap∧s'.os=s₁.os∧AllBare s'.gens) s₁) :
   WalkO q loose XP YP l.row.toRowW d [] (λ f vs=>PySem.call f vs):=by
 intro w s₀ s₁ mg mb G Y fa o pm cd doc dV kV ho hd hcd hD hmg hg args vals as hpre hlay hrd hwl hlo
 obtain rfl:dV=.none:=Dflts.none hD hdf
 obtain rfl:kV=.none:=Dflts.noKw hD
 obtain ⟨a,vs,ns,rfl,rfl,hobj,hints,hlen⟩:=script_of hn hpre hwl
 refine enter_call (codeAny_mono (call w s₀ s₁ mg mb fa o pm cd doc a vs ns G Y ho (fd_plain hd) hcd hmg hobj hints hlen hg) λ r s' hq=>?_)
 obtain ⟨rfl,h2,h3,h4⟩:=hq
 exact ⟨.inl ⟨.bool true,.bool true,[],rfl,λ _=>rfl,.bool true,post_true l _,λ _=>⟨List.Pairwise.nil,λ _ hm=>(nomatch hm)⟩⟩,h2,h3,h4⟩
section
variable {prog:Program}{w:World}{A:Around}{E:Value→Shared→Prop}{s:Shared}{K:Frag}
end
end Att
namespace L2
open PySem PySem.Spec PyProof.Rows
theorem vals_ints:∀ {vs:List Value}{ns:List Int},IntsAre vs ns→Vals (ns.map V.int) vs
 | _,_,.nil=>.nil
 | _,_,.cons n t h=>.cons ⟨t,rfl⟩ (vals_ints h)
def Only (H:Hp):Prop := ∀ b,H b=none∨∃ o xs,H b=some (.frz o (.lst xs))
theorem law_call {P:Program}{w:World}{K:PySem.W.Frag}{mg mb:Str→Option Value}{CX:CXT}{k:Nat}{fa a:Addr}{fd:FuncData}{x:Str}{sp:Sp}{s₁:Shared}{vs:List Value}{ns:List Int}
   (KX:K.In s₁.heap) (hns:s₁.heap.Ns mainGlobals mg) (hb:s₁.heap.Ns builtinsNs mb) (hbb:∀ x:Str,x ≠ "__name__" → mb x=bootBuiltins x) (hlim:s₁.heap.NoLimit) (hg:s₁.gens = #[])
   (ha:s₁.heap.get? a=some { cls:=.type "list",data:=.seq vs.toArray }) (hi:IntsAre vs ns) (hl:ns.length≤sizeLine) (hr:Room k callerA)
   (F:∀ base:Heap,K.In base→base.Ns mainGlobals mg→FnOk P w K mg base CX k fa fd [x] sp) (hbind:∀ (s:Shared) (u:Value),BindsTo s fd ⟨[u],[]⟩ [(x,u)])
   (hsp:∀ H:Hp,Only H→SqL K H a (ns.map V.int)→sp [.ref a] H (λ v _=>v=.bl true) λ _ _ _=>False)
   (hCX:∀ H e s',CX [] H s₁ (λ _ _ _=>False) e s'→False) :
   codeAny (model P w) callerA (.call (.ref fa) ⟨[.ref a],[]⟩) (λ r s'=>r=.ok (.ret (.bool true))∧OldK s₁.heap s'.heap∧s'.os=s₁.os∧AllBare s'.gens) s₁:=by
 have rv:=vals_ints hi
 have lenV:=hi.length
 have core:∀ H:Hp,Only H→SqL K H a (ns.map V.int)→HOk P w H s₁.heap→(∀ b,H b≠none→b=a)→(H a≠none→K.lookup a=none) →
     codeAny (model P w) callerA (.call (.ref fa) ⟨[.ref a],[]⟩) (λ r s'=>r=.ok (.ret (.bool true))∧OldK s₁.heap s'.heap∧s'.os=s₁.os∧AllBare s'.gens) s₁:=by
   intro H hO hS hok hA hK
   have base_of:∀ {b:Addr}{o:Obj},s₁.heap.get? b=some o→H b=none→(hidT s₁.heap H).get? b=some o:=λ e n=>hidT_get e n
   have noA:∀ {b:Addr}{o:Obj}{es:Array DictEntry}{ep:Nat},s₁.heap.get? b=some o→o.data=.dict es ep→H b=none:=λ {b o es ep} e d=>by
     cases q:H b with
     | none=>rfl
     | some u =>
       have e':b=a:=hA b (by rw [q]; simp)
       subst e'
       rw [ha] at e; cases e
       have d':Data.seq vs.toArray _=Data.dict es ep:=d
       cases d'
   have nsK:∀ {b:Addr}{m:Str→Option Value},s₁.heap.Ns b m→(hidT s₁.heap H).Ns b m:=λ {b m} ⟨o,es,ep,e,d,r⟩=>⟨o,es,ep,base_of e (noA e d),d,r⟩
   have hKb:K.In (hidT s₁.heap H):=λ b o e=>base_of (KX b o e) (by
     cases q:H b with
     | none=>rfl
     | some u =>
       have e':b=a:=hA b (by rw [q]; simp)
       subst e'
       rw [hK (by rw [q]; simp)] at e; cases e)
   have hM:Mod K mg (hidT s₁.heap H):=⟨hKb,nsK hns,⟨mb,nsK hb,hbb⟩,let ⟨mc,h1,h2⟩:=hlim; ⟨mc,nsK h1,h2⟩⟩
   have e0:Env0 P w K mg (hidT s₁.heap H) callerA [] s₁ H:=⟨rfl,hM,λ b o e=>of_hidT e,Nat.le_of_eq (hidT_size _ _),trivial,λ b hb=>absurd (show b∈([]:List Addr) from hb) (by simp),hok,.of_eq hg⟩
   refine codeAny_mono ((F _ hKb (nsK hns)).run callerA [] s₁ H ⟨[.ref a],[]⟩ [.ref a] [.ref a] _ _ hr e0 (hbind s₁ (.ref a)) (.cons rfl .nil) (hsp H hO hS)) λ r s' h=>?_
   cases r with
   | error e=>exact (hCX H e s' h).elim
   | ok fl =>
     cases fl with
     | next=>exact False.elim h
     | brk=>exact False.elim h
     | cont=>exact False.elim h
     | ret u =>
       obtain ⟨v,H',os,bare,un,hok',r',q⟩:=h
       have q':v=.bl true:=q
       subst q'
       obtain rfl:u=Value.bool true:=r'
       refine ⟨rfl,OldK.of_keep λ b o e=>?_,os,bare⟩
       cases q:H b with
       | none=>exact un.keep b o e q (by intro z; exact absurd (show b∈([]:List Addr) from z) (by simp)) (by simp)
       | some u =>
         rcases hO b with z | ⟨ob,xs,z⟩
         · rw [q] at z; cases z
         · have z2:=un.frzs b ob _ z
           obtain ⟨e1,_⟩:=hok b _ z
           obtain ⟨e2,_⟩:=hok' b _ z2
           rw [e] at e1; cases e1
           exact e2
 cases hk:K.lookup a with
 | some o =>
   have e:=KX a o hk
   rw [ha] at e
   cases e
   refine core (λ _=>none) (λ _=>.inl rfl) (.inr ⟨_,vs.toArray,_,hk,rfl,rfl,rfl,by rw [List.size_toArray,lenV]; exact hl,by simpa using rv⟩) (λ b u z=>by have z':(none:Option HO)=some u:=z; cases z') (λ b z=>absurd rfl z) λ z=>absurd rfl z
 | none =>
   refine core (λ b=>if b=a then some (.frz { cls:=.type "list",data:=.seq vs.toArray } (.lst (ns.map V.int))) else none) (λ b=>?_) (.inl (.inr ⟨{ cls:=.type "list",data:=.seq vs.toArray },if_pos rfl⟩)) (λ b u z=>?_) (λ b z=>?_) λ _=>hk
   · by_cases hb:b=a
     · exact .inr ⟨_,_,if_pos hb⟩
     · exact .inl (if_neg hb)
   · by_cases hb:b=a
     · have z':=(if_pos hb).symm.trans z
       cases z'
       subst hb
       exact ⟨ha,by rw [List.length_map]; exact hl,vs,_,rv,ha⟩
     · have z':=(if_neg hb).symm.trans z
       cases z'
   · by_cases hb:b=a
     · exact hb
     · exact absurd (if_neg hb) z
end L2
namespace L2
open PySem PySem.Spec PyProof.Rows
theorem walk_of {l:PySem.W.OpenLaw}{n k:Nat}{q:Program}{loose:List Str}{XP:(Str→Option Value)→Heap→Prop}{YP:World→Heap→Prop}{d:DefRec}{K:Params→PySem.W.Frag}{CX:World→CXT}{sp:World→Sp}{x:Str}
   (hn:l.most=some n) (hn2:n≤sizeLine) (hdf:d.params.defaults=[]) (hr:Room k callerA)
   (hY:∀ (w:World) (h:Heap),YP w h→(K w.params).In h)
   (F:∀ (w:World) (mg:Str→Option Value) (fa:Addr) (h:Heap),(K w.params).In h→h.Ns mainGlobals mg→mg d.name=some (.ref fa) →
     ∃ fd:FuncData,(∀ (s:Shared) (u:Value),BindsTo s fd ⟨[u],[]⟩ [(x,u)]) ∧
       ∀ base:Heap,(K w.params).In base→base.Ns mainGlobals mg→FnOk l.prog w (K w.params) mg base (CX w) k fa fd [x] (sp w))
   (hsp:∀ (w:World) (H:Hp) (a:Addr) (ns:List Int),ns.length≤n→Only H→SqL (K w.params) H a (ns.map V.int)→sp w [.ref a] H (λ v _=>v=.bl true) λ _ _ _=>False)
   (hCX:∀ (w:World) (H:Hp) (s:Shared) (e:Value) (s':Shared),CX w [] H s (λ _ _ _=>False) e s'→False) :
   PySem.W.WalkO q loose XP YP l.row.toRowW d [] (λ f vs=>PySem.call f vs):=by
 refine Att.attach_call hn hdf λ w s₀ s₁ mg mb fa o pm cd doc a vs ns G Y ho hd hcd hmg hobj hints hlen hg=>?_
 have KX:=hY w _ Y
 obtain ⟨fd,hb,hF⟩:=F w mg fa _ KX G.T.g hmg
 exact law_call KX G.T.g G.T.b G.T.builtins G.T.nolimit hg hobj hints (Nat.le_trans hlen hn2) hr hF hb (λ H hO hS=>hsp w H a ns hlen hO hS) λ H e s'=>hCX w H s₁ e s'
end L2
namespace L2
open PySem PySem.Spec PyProof.Rows
def inClass (s:Stmt) (j:Nat):Stmt:=match s with
 | .ClassDef _ _ _ body _ _ _ _ _ _ _=>body.getD j (.Pass ⟨0,0,0,0⟩)
 | _=>.Pass ⟨0,0,0,0⟩
def defArgs (s:Stmt):Arguments:=match s with
 | .FunctionDef _ a _ _ _ _ _ _ _ _=>a
 | _=>{ posonlyargs:=[],args:=[],vararg:=none,kwonlyargs:=[],kw_defaults:=[],kwarg:=none,defaults:=[] }
def defBody (s:Stmt):List Stmt:=match s with
 | .FunctionDef _ _ b _ _ _ _ _ _ _=>b
 | _=>[]
def defScope (s:Stmt):Scope:=match s with
 | .FunctionDef _ _ _ _ _ _ sc _ _ _=>sc
 | _=>{ kind:=.function,names:=[],isGenerator:=false,isCoroutine:=false }
abbrev CX0:CXT:=λ _ _ _ _ _ _=>False
abbrev E0:XK:=λ _ _ _=>False
theorem pass0 {X:Cx}:Passes CX0 X E0:=λ _ _ _ _ _ _ _ h=>h.elim
structure Fun (K:PySem.W.Frag) (x qual:Str) (st:Stmt) (f:Addr) (fd:FuncData):Prop where
 ex:∃ (oc:Value) (od:Option Addr) (kV doc pm:Value) (an:Option Addr) (cdv ct:Value) (osl:Array (Option Value)),
   fd=PySem.W.fnOf x qual (defArgs st) (defBody st) (defScope st) .none kV doc pm an cdv ct∧K.lookup f=some ⟨oc,od,.func fd,osl⟩∧PySem.W.codeIn K cdv qual=true
 kp:PySem.W.keepIn K (.ref f)=true
section
variable {P:Program}{w:World}{K:PySem.W.Frag}{mg:Str→Option Value}{base:Heap}
theorem Fun.ok {x qual:Str}{st:Stmt}{f:Addr}{fd:FuncData}{N ps:List Str}{k:Nat}{sp:Sp}(F:Fun K x qual st f fd) (S:FnScope N ps (defScope st)) (len:∀ vs H Q E,sp vs H Q E→vs.length=ps.length)
   (hbody:∀ (cdv:Value) (A:Around) (outer:List Env) (s:Shared) (H:Hp) (vs:List V) (Q:VK) (E:XK),Room k (A.deeper (envOfC qual (defScope st) s.heap.objs.size f cdv))→sp vs H Q E →
     ∃ t,PSs (cxOf CX0 P w K mg base N qual (defScope st) f cdv A outer s H E).nox (defBody st) t∧t { nx:=λ _ H'=>Q .non H',rt:=Q } (start N vs) H):FnOk P w K mg base CX0 (k + 1) f fd ps sp:=by
 obtain ⟨oc,od,kV,doc,pm,an,cdv,ct,osl,rfl,lk,hcd⟩:=F.ex
 refine fn_of lk hcd S len λ A outer s H vs Q E hr hsp=>?_
 obtain ⟨t,h,q⟩:=hbody cdv A outer s H vs Q E hr hsp
 exact ⟨t,h.nox,q⟩
theorem Fun.binds {x qual:Str}{st:Stmt}{f:Addr}{fd:FuncData}{ps:List Str}(F:Fun K x qual st f fd)
   (h:∀ (kV doc pm:Value) (an:Option Addr) (cdv ct:Value) (us:List Value),us.length=ps.length→bindArgs (PySem.W.fnOf x qual (defArgs st) (defBody st) (defScope st) .none kV doc pm an cdv ct) ⟨us,[]⟩=pure (ps.zip us)):Binds K fd ps []:=by
 obtain ⟨oc,od,kV,doc,pm,an,cdv,ct,osl,rfl,lk,hcd⟩:=F.ex
 exact .all (h kV doc pm an cdv ct)
theorem fun_mk {x qual:Str}{st:Stmt}{f:Addr}{oc:Value}{od an:Option Addr}{osl:Array (Option Value)}{kV doc pm cdv ct:Value}(l:K.lookup f=some ⟨oc,od,.func (PySem.W.fnOf x qual (defArgs st) (defBody st) (defScope st) .none kV doc pm an cdv ct),osl⟩)
   (c:PySem.W.codeIn K cdv qual=true) (k:PySem.W.keepIn K (.ref f)=true):Fun K x qual st f (PySem.W.fnOf x qual (defArgs st) (defBody st) (defScope st) .none kV doc pm an cdv ct):=⟨⟨oc,od,kV,doc,pm,an,cdv,ct,osl,rfl,l,c⟩,k⟩
end
theorem hu_of {A:Around}{k:Nat}(hr:Room k A):A.units + 1 < cLine:=Nat.lt_of_le_of_lt (Nat.add_le_add_left (by decide:1≤64) _) hr.units
section
variable {X:Cx}
theorem pv (i:Nat) {x:Str}{pos:Pos}(hN:X.N[i]? = some x:=by rfl) (hv:Vis X.env.scope x:=by first | exact Or.inl rfl | exact Or.inr (Or.inl rfl) | exact Or.inr (Or.inr rfl)) (hd:(x == ("__debug__" : Str))=false:=by decide)
   (hcd:(x == ("__classdict__" : Str))=false:=by decide):PE X (.Name x pos) (tVar i):=pe_var hN hv hd hcd
end
theorem iteF {A B:Prop}(h:B):if false=true then A else B:=by
 rw [if_neg Bool.false_ne_true]
 exact h
theorem iteT {A B:Prop}(h:A):if true=true then A else B:=by
 rw [if_pos rfl]
 exact h
theorem ite2 {c A B:Prop} [Decidable c] (h1:c→A) (h2:¬ c→B):if c then A else B:=by
 by_cases h:c
 · rw [if_pos h]
   exact h1 h
 · rw [if_neg h]
   exact h2 h
def Same (H H':Hp):Prop := ∀ b o,H b=some o→H' b=some o
theorem Same.refl (H:Hp):Same H H:=λ _ _ h=>h
theorem Same.trans {H H1 H2:Hp}(a:Same H H1) (b:Same H1 H2):Same H H2:=λ c o h=>b c o (a c o h)
theorem Same.free {H H':Hp}(e:Same H H') {l:Addr}(h:H' l=Option.none):H l=Option.none:=by
 cases q:H l with
 | none=>rfl
 | some o =>
   rw [e l o q] at h
   cases h
end L2
namespace L2
open PySem PySem.Spec PyProof.Rows
def cxC (X:Cx) (NC:List Str) (scope:Scope) (cl:List (Str×Addr)) (C:Addr) (s₀:Shared) (H₀:Hp) (ex:List Addr):Cx where
 prog:=X.prog
 w:=X.w
 K:=X.K
 mg:=X.mg
 base:=X.base
 A:=X.A
 N:=NC
 s₀:=s₀
 H₀:=H₀
 env:=compEnvC scope cl C X.env
 outer:=X.stack
 stack:=X.stack
 ex:=ex
 fn:=λ _=>false
 calm:=X.calm
 pn:=[]
 xe:=λ _ _=>False
def capN (t:Str) (caps:List (Str×Nat)):List Str:=t :: caps.map (·.1)
def capS (caps:List (Str×Nat)) (σ:St) (v:Option V):St:=v :: caps.map λ p=>(σ[p.2]?).join
structure CapOk (X:Cx) (scope:Scope) (cl:List (Str×Addr)) (t:Str) (caps:List (Str×Nat)):Prop where
 kind:scope.kind=.function
 nocell:∀ y∈scope.names,y.2≠.cell
 names:∀ y∈scope.names,y.2=.local→scope.names.lookup y.1=some .local
 tgt:scope.names.lookup t=some .local
 clos:closureFor scope X.env=pure cl
 sub:∀ p∈cl,X.env.cells.lookup p.1=some p.2
 has:((relabel scope X.env).names.all λ y => !(y.2 == .cell || y.2 == .free) || (cl.lookup y.1).isSome)=true
 cap:∀ p∈caps,X.N[p.2]? = some p.1∧(X.env.kindOf p.1=some .cell∨X.env.kindOf p.1=some .free)∧((relabel scope X.env).names.lookup p.1=some .cell∨(relabel scope X.env).names.lookup p.1=some .free)
 nd:(capN t caps).Nodup
section
variable {X:Cx}{scope:Scope}{cl:List (Str×Addr)}{t:Str}{caps:List (Str×Nat)}{pins:List (Addr×Obj)}{σ:St}{H:Hp}{s:Shared}{C:Addr}{fp:List Addr}
theorem CapOk.look (K:CapOk X scope cl t caps) {x:Str}{c:Addr}(h:cl.lookup x=some c):X.env.cells.lookup x=some c:=K.sub (x,c) (PySem.mem_of_lookup h)
theorem CapOk.hs (K:CapOk X scope cl t caps) {x:Str}(h:(relabel scope X.env).names.lookup x=some .cell∨(relabel scope X.env).names.lookup x=some .free):∃ c,cl.lookup x=some c:=by
 have go:∀ k,(relabel scope X.env).names.lookup x=some k→(k == NameKind.cell || k == NameKind.free)=true→∃ c,cl.lookup x=some c:=λ k e hk=>by
   have:=List.all_eq_true.mp K.has (x,k) (PySem.mem_of_lookup e)
   dsimp only at this
   rw [hk] at this
   exact Option.isSome_iff_exists.mp (by simpa using this)
 rcases h with h | h
 · exact go _ h rfl
 · exact go _ h rfl
theorem okC (I:Inv X pins σ H s) (K:CapOk X scope cl t caps) (hf:∀ b∈fp,FpOk X pins H b) (ho:∀ b∈fp,b < s.heap.objs.size) (hC:s.heap.objs.size≤C):(cxC X (capN t caps) scope cl C s H fp).Ok where
 mod:=I.ok.mod
 kind:=K.kind
 glob:=I.ok.glob
 blt:=I.ok.blt
 above:=hC
 inj:=λ x y c h1 h2=>I.ok.inj x y c (K.look h1) (K.look h2)
 has:=λ x hx=>K.hs hx
 cab:=λ x c h=>nomatch (show false=true from h)
 hd:=I.ok.hd
 frames:=I.ok.frames
 stk:=.inl rfl
 exf:=λ b hb=>⟨Nat.ne_of_lt (Nat.lt_of_lt_of_le (ho b hb) hC),λ x c e=>(hf b hb).2.2.2.2.1 x c (K.look e)⟩
 bs:=I.bs
 bsz:=Nat.le_trans I.ok.bsz I.sz
 noex:=λ b o e hb=>by
   rcases (hf b hb).2.2.2.1 with z | z
   · exact I.ok.noex b o e z
   · exact absurd (Nat.lt_of_lt_of_le (Heap.lt_size e) (Nat.le_trans I.ok.bsz z)) (Nat.lt_irrefl _)
 exfs:=λ b hb hfs=>by
   rcases List.mem_cons.mp (I.stkSub b hfs) with e | e
   · exact (hf b hb).2.1 e
   · exact (hf b hb).2.2.1 e
 funs:=I.stack
 frf:=I.stkFree
theorem invC {h₁:Heap}{m:Str→Option Value}{tk:Nat}(I:Inv X pins σ H s) (K:CapOk X scope cl t caps) (hf:∀ b∈fp,FpOk X pins H b) (ho:∀ b∈fp,b < s.heap.objs.size) (hC:s.heap.objs.size≤C)
   (old:∀ b o,s.heap.get? b=some o→h₁.get? b=some o) (ns:h₁.Ns C m):Inv (cxC X (capN t caps) scope cl C s H fp) [] (capS caps σ none) H { s with heap:=h₁,toks:=tk }:=by
 have cellK:∀ c v,s.heap.IsCell c v→h₁.IsCell c v:=λ c v ⟨o,e,d⟩=>⟨o,old c o e,d⟩
 refine ⟨okC I K hf ho hC,rfl,I.bare,Un.kept old,⟨m,ns,λ i x v e1 e2 e3=>?_⟩,λ x c e=>?_,I.hok.fresh hC,λ x c e=>I.freeC x c (K.look e),λ p hp=>absurd (show p∈([]:List (Addr×Obj)) from hp) (by simp),I.hok.kept old,by simp [capS,capN,cxC]⟩
 · cases i with
   | zero =>
     have e2':some (none:Option V)=some (some v):=e2
     cases e2'
   | succ j =>
     have e1':(caps.map (·.1))[j]? = some x:=e1
     have e2':(caps.map λ p=>(σ[p.2]?).join)[j]? = some (some v):=e2
     rw [List.getElem?_map] at e1' e2'
     cases hp:caps[j]? with
     | none=>rw [hp] at e1'; cases e1'
     | some p =>
       rw [hp] at e1' e2'
       have ex:p.1=x:=Option.some.inj e1'
       have ev:(σ[p.2]?).join=some v:=Option.some.inj e2'
       have ev':σ[p.2]? = some (some v):=by
         cases q:σ[p.2]? with
         | none=>rw [q] at ev; cases ev
         | some z=>rw [q] at ev; exact congrArg some ev
       obtain ⟨hN,hk,hk'⟩:=K.cap p (List.mem_of_getElem? hp)
       subst ex
       obtain ⟨m',_,hl⟩:=I.loc
       have vis:Vis X.env.scope p.1:=by
         rcases hk with z | z
         · exact .inr (.inl z)
         · exact .inr (.inr z)
       obtain ⟨u,r,l⟩:=hl p.2 p.1 v hN ev' vis
       obtain ⟨c,hc⟩:=K.hs hk'
       rcases l with ⟨z,_⟩ | ⟨_,c',hc',hcell⟩
       · rcases hk with y | y <;> (rw [y] at z; cases z)
       · rw [K.look hc] at hc'
         cases hc'
         exact ⟨u,r,.inr ⟨hk',c,hc,cellK c _ hcell⟩⟩
 · obtain ⟨v,z⟩:=I.cell x c (K.look e)
   exact ⟨v,cellK c v z⟩
theorem Inv.track {D:Addr}{ys:List V}{its:List Value}{n:Nat}(I:Inv X pins σ H s) (f:FpOk X pins H D) (e:s.heap.get? D=some { cls:=.type "list",data:=.seq its.toArray n }) (r:Vals ys its) (hz:ys.length≤sizeLine) :
   Inv X pins σ (upd H D (.lst ys)) s:=by
 obtain ⟨f0,f1,f2,f3,f4,f5⟩:=f
 obtain ⟨hh,g,d,tk,os⟩:=s
 refine I.step (g':=g) (d':=d) (t':=tk) (h':=hh) (ch:=[D]) (λ b hb=>?_) (λ b o _ _ _ e _=>e) (λ b o _ _ _ e _=>⟨o.slots,e⟩) (λ b o hb _ n=>?_) (λ b o _ e=>⟨o,e⟩) (λ b xs q=>?_) (λ b o u q=>?_) (λ b ps q=>⟨#[],?_⟩) (λ m hm=>hm) (λ b u q=>?_) I.bare
 · have z:b=D:=by simpa using hb
   subst z
   exact ⟨f3,f1,f4,f5⟩
 · rw [upd_ne (λ z=>hb (by simp [z]))]; exact n
 · rw [upd_ne (ne_of_none q f0)]; exact q
 · rw [upd_ne (ne_of_none q f0)]; exact q
 · rw [upd_ne (ne_of_none q f0),q]; simp
 · by_cases hb:b=D
   · subst hb
     rw [upd_same] at q
     cases q
     exact ⟨hz,its,n,r,e⟩
   · rw [upd_ne hb] at q
     exact (I.hok b u q).stay (λ _ _ _ z=>z) (λ c z=>by rw [upd_ne (ne_of_none z f0)]; exact z) λ c xs z=>by rw [upd_ne (ne_of_none z f0)]; exact z
end
def PTs (X:Cx) (ifs:List Expr) (t:TT):Prop :=
 ∀ (pins:List (Addr×Obj)) (s:Shared) (σ:St) (H:Hp) (Q:Bool→Hp→Prop),Inv X pins σ H s→t σ H Q →
   wpAny (model X.prog X.w) X.A (forIn ifs true λ c r=>if r=true then do let ok ← isTrue c X.env (eval c X.env); pure (ForInStep.yield ok) else pure (ForInStep.yield r)) (TP X pins σ Q) X.xe s
def tYes:TT:=λ _ H Q=>Q true H
theorem pts_nil {X:Cx}:PTs X [] tYes:=λ _ _ _ H _ I h=>wpAny_tests_nil ⟨H,I,h⟩
theorem pts_one {X:Cx}{c:Expr}{t:TT}(h:PT X c t):PTs X [c] t:=λ pins s σ H Q I q=>wpAny_tests_one (h pins s σ H Q I q)
def CompW (caps:List (Str×Nat)) (tt:TT) (te:TE) (σ:St) (J:It) (Q:List V→Hp→Prop) (W:Nat→Nat→List V→Hp→Prop):Prop :=
 ∀ i m ys H,W i m ys H→(J.stop i H∧Q ys H)∨(J.go i H∧∃ N:List V→Hp→Prop,(∀ ys' H',N ys' H'→∃ m',m' < m∧W (i + 1) m' ys' H')∧∀ x H',J.yld i H x H'→tt (capS caps σ (some x)) H' λ b H2 =>
   if b=true then te (capS caps σ (some x)) H2 (λ y H3=>ys.length < sizeLine∧N (ys ++ [y]) H3) else N ys H2)
def tComp (caps:List (Str×Nat)) (wi:TI) (tt:TT) (te:TE):TE:=λ σ H Q=>wi σ H λ J H1 =>
 ∃ W:Nat→Nat→List V→Hp→Prop,(∃ m,W 0 m [] H1)∧CompW caps tt te σ J (λ ys H2 => ∀ p,H2 p=none→Q (.ref p) (upd H2 p (.lst ys))) W
section
variable {X:Cx}{scope:Scope}{cl:List (Str×Addr)}{t:Str}{caps:List (Str×Nat)}{elt iter:Expr}{ifs:List Expr}{px pos:Pos}{wi:TI}{tt:TT}{te:TE}
theorem comp_block {pins:List (Addr×Obj)}{σ:St}{H:Hp}{s:Shared}{J:It}{fp:List Addr}{it:Addr}{tn:Nat→Heap→Prop}{W:Nat→Nat→List V→Hp→Prop}{QE:List V→Hp→Prop}{E:Value→Shared→Prop}{RR:Value→Addr→Result→Shared→Prop}{m0:Nat}
   (K:CapOk X scope cl t caps) (hc:X.calm=true)
   (ht:∀ C s₀ H₀ ex,PTs (cxC X (capN t caps) scope cl C s₀ H₀ ex) ifs tt) (he:∀ C s₀ H₀ ex,PE (cxC X (capN t caps) scope cl C s₀ H₀ ex) elt te)
   (I:Inv X pins σ H s) (T:Turn X.prog X.w X.K (.Name t px) J fp it tn) (st:tn 0 s.heap) (hf:∀ b∈fp,FpOk X pins H b) (w0:W 0 m0 [] H) (hW:CompW caps tt te σ J QE W)
   (fin:∀ D C ys H' s' m,H' D=none→Inv X pins σ (upd H' D (.lst ys)) s'→s'.heap.Ns C m→FpOk X pins (upd H' D (.lst ys)) C→QE ys H'→RR (.ref D) C (.ok .next) s') :
   wpAny (model X.prog X.w) X.A (newList []) (λ acc s₃=>wpAny (model X.prog X.w) X.A (newFunctionEnv scope X.env.globals cl [] X.env.qual none .none (some X.env)) (λ cenv s₄ =>
     codeAny (model X.prog X.w) X.A (.compStart (.ListComp elt [⟨.Name t px,iter,ifs,0⟩] scope pos) 0 (.ref it) acc { cenv with scope:=relabel scope X.env }) (RR acc cenv.locals) s₄) E s₃) E s:=by
 refine wpAny_newObj_type (wpAny_newFunctionEnv K.nocell (by intro y hy; simp at hy) (λ h₁ hns₁ hsb₁=>?_) K.kind)
 dsimp only at hns₁ hsb₁ ⊢
 generalize hH2:s.heap.push { cls:=.type "list",dict:=none,data:=.seq ([]:List Value).toArray }=H2 at hns₁ hsb₁ ⊢
 have hC:H2.objs.size=s.heap.objs.size + 1:=by rw [← hH2,Heap.size_push]
 have hDC:s.heap.objs.size≠H2.objs.size:=by rw [hC]; exact Nat.ne_of_lt (Nat.lt_succ_self _)
 have hCle:s.heap.objs.size≤H2.objs.size:=by rw [hC]; exact Nat.le_succ _
 have below:∀ b,b < s.heap.objs.size→b≠H2.objs.size:=λ b hb=>by rw [hC]; exact Nat.ne_of_lt (Nat.lt_succ_of_lt hb)
 have old:∀ b o,s.heap.get? b=some o→h₁.get? b=some o:=λ b o e=>hsb₁.extBut b o (below b (Heap.lt_size e)) (Heap.get?_push_of_some _ (hH2 ▸ Heap.get?_push_of_some _ e))
 have hacc:h₁.get? s.heap.objs.size=some { cls:=.type "list",data:=.seq ([]:List Value).toArray }:=hsb₁.extBut _ _ hDC (Heap.get?_push_of_some _ (hH2 ▸ Heap.get?_push_size _ rfl))
 have ho:∀ b∈fp,b < s.heap.objs.size:=λ b hb=>let ⟨_,e,_⟩:=T.obj 0 _ st b hb; Heap.lt_size e
 have hDf:s.heap.objs.size∉fp:=λ hm=>Nat.lt_irrefl _ (ho _ hm)
 have st₁:tn 0 h₁:=T.keep 0 _ _ st λ b _ o e=>old b o e
 have hDfs:s.heap.objs.size∉frs X.stack:=λ z=>by
   rcases List.mem_cons.mp (I.stkSub _ z) with e | e
   · exact absurd (e ▸ I.lt) (Nat.lt_irrefl _)
   · exact I.nofs (Nat.le_refl _) e
 have hDcell:∀ x c,cl.lookup x=some c→c≠s.heap.objs.size:=λ x c e z=>by
   obtain ⟨v,q⟩:=I.cell x c (K.look e)
   exact absurd (z ▸ q.lt) (Nat.lt_irrefl _)
 have stat:∀ {pl:List (Addr×Obj)}{HC:Hp},(∀ b∈fp,HC b=none)→(∀ p∈pl,p.1∉fp)→∀ b∈fp,FpOk (cxC X (capN t caps) scope cl H2.objs.size s H fp) pl HC b:=λ {pl HC} hn hp b hb =>
   ⟨hn b hb,below b (ho b hb),(okC I K hf ho hCle).exfs b hb,.inl hb,λ x c e=>(hf b hb).2.2.2.2.1 x c (K.look e),λ p hpp z=>by
     have hpp':p∈pl:=hpp
     exact hp p hpp' (z ▸ hb)⟩
 have loop:∀ s₃:Shared,s₃={ s with heap:=h₁,toks:=s.toks + ([]:List (Str×Value)).length } →
     codeAny (model X.prog X.w) X.A (.compLoop (.ListComp elt [⟨.Name t px,iter,ifs,0⟩] scope pos) 0 (.ref it) (.ref s.heap.objs.size) (compEnvC scope cl H2.objs.size X.env)) (RR (.ref s.heap.objs.size) H2.objs.size) s₃:=by
   rintro s₃ rfl
   refine codeAny_loop rfl (λ n s' => ∃ i ys its nn HC v0,Inv (cxC X (capN t caps) scope cl H2.objs.size s H fp) [] (capS caps σ v0) HC s'∧tn i s'.heap∧(∀ b∈fp,HC b=none)∧HC s.heap.objs.size=none ∧
     s'.heap.get? s.heap.objs.size=some { cls:=.type "list",data:=.seq its.toArray nn }∧Vals ys its∧ys.length≤sizeLine∧W i n ys HC) (λ n s' hI=>?_) m0
     ⟨0,[],[],0,H,none,invC I K hf ho hCle old hns₁,st₁,λ b hb=>(hf b hb).1,I.hok.fresh (Nat.le_refl _),hacc,.nil,Nat.zero_le _,w0⟩
   obtain ⟨i,ys,its,nn,HC,v0,I3,st3,fr3,hD3,e3,r3,z3,w3⟩:=hI
   show wpAny _ X.A ((compTurn (.ListComp elt [⟨.Name t px,iter,ifs,0⟩] scope pos) 0 (.ref it) (.ref s.heap.objs.size) (compEnvC scope cl H2.objs.size X.env)).onRaise (λ x=>do noteFrame x (compEnvC scope cl H2.objs.size X.env); theTreesLotGoes x)) _ _ s'
   refine wpAny_noted ?_
   rw [compTurn_list]
   have I3p:Inv (cxC X (capN t caps) scope cl H2.objs.size s H fp) [(s.heap.objs.size, { cls:=.type "list",data:=.seq its.toArray nn })] (capS caps σ v0) HC s':=I3.pins_of λ p hp=>by
     have ep:p=(s.heap.objs.size, { cls:=.type "list",data:=.seq its.toArray nn }):=by simpa using hp
     subst ep
     exact ⟨e3,hD3,hDC,hDfs,λ v z=>by cases (show Data.seq its.toArray nn=Data.cell v from z)⟩
   have pD:∀ p∈[((s.heap.objs.size:Addr),({ cls:=.type "list",data:=.seq its.toArray nn }:Obj))],p.1∉fp:=λ p hp=>by
     have ep:p=(s.heap.objs.size, { cls:=.type "list",data:=.seq its.toArray nn }):=by simpa using hp
     subst ep
     exact hDf
   rcases hW i n ys HC w3 with ⟨stop,q⟩ | ⟨go,N,hN,step⟩
   · refine wpAny_bind (wpAny_standAt (wpAny_bind (thn (T.done (cxC X (capN t caps) scope cl H2.objs.size s H fp) rfl rfl rfl hc i _ s' _ HC _ I3p (stat fr3 pD) st3 stop) λ r s4 ⟨hr,I4⟩=>?_)))
     subst hr
     refine wpAny_pure ?_
     have I5:Inv X pins σ HC s4:=I.call' (ch:=fp) I4.os I4.base I4.hok I4.bare λ b hb=>⟨(hf b hb).2.2.2.1,(hf b hb).2.1,(hf b hb).2.2.2.2.1,(hf b hb).2.2.2.2.2⟩
     have e4:=(I4.pin _ (List.mem_append_right _ List.mem_cons_self)).1
     have fD:FpOk X pins HC s.heap.objs.size:=I.fpOk (Nat.le_refl _) hD3
     have I6:=I5.track fD e4 r3 z3
     obtain ⟨m,hn,_⟩:=I4.loc
     refine fin _ _ ys HC s4 m hD3 I6 hn (I.fpOk hCle ?_) q
     rw [upd_ne (Ne.symm hDC)]
     exact I4.free
   · refine wpAny_bind (wpAny_standAt (wpAny_bind (thn (T.item (cxC X (capN t caps) scope cl H2.objs.size s H fp) rfl rfl rfl hc i _ s' _ HC _ I3p (stat fr3 pD) st3 go) λ r s4 ⟨u,hr,h4⟩=>?_)))
     subst hr
     refine wpAny_bind (thn h4 λ _ s5 ⟨x,H5,I5,r5,y5,st5,fr5⟩=>?_)
     have hD5:=(I5.pin _ (List.mem_append_right _ List.mem_cons_self)).2.1
     have I5':=I5.pinned (stat fr5 pD) (T.obj _ _ st5)
     have nox:∀ {α:Type}{tr:Sem α}{Q:α→Shared→Prop}{E':Value→Shared→Prop}{sx:Shared},wpAny (model X.prog X.w) X.A tr Q (λ _ _=>False) sx→wpAny (model X.prog X.w) X.A tr Q E' sx:=λ h=>wpAny_mono h (λ _ _ z=>z) λ _ _ z=>z.elim
     refine wpAny_bind (wpAny_assign_Name (store_ok (X:=cxC X (capN t caps) scope cl H2.objs.size s H fp) (i:=0) (x:=t) I5' K.nd rfl (.inl (lookup_relabel_local K.tgt)) r5 (λ s6 I6=>?_) (.inr (lookup_relabel_local K.tgt))))
     have e0:(capS caps σ v0).set 0 (some x)=capS caps σ (some x):=rfl
     rw [e0] at I6
     refine wpAny_bind (nox (thn (ht _ _ _ _ _ s6 _ H5 _ I6 (step x H5 y5)) λ ok s7 ⟨H7,I7,q7⟩=>?_))
     have pinD:∀ {σ':St}{H':Hp}{sx:Shared},Inv (cxC X (capN t caps) scope cl H2.objs.size s H fp) ([(s.heap.objs.size, { cls:=.type "list",data:=.seq its.toArray nn })] ++ pinsAt fp s5.heap) σ' H' sx →
         sx.heap.get? s.heap.objs.size=some { cls:=.type "list",data:=.seq its.toArray nn }∧H' s.heap.objs.size=none∧tn (i + 1) sx.heap∧(∀ b∈fp,H' b=none):=λ {σ' H' sx} Ix=>by
       have a:=Ix.pin _ (List.mem_append_right _ (List.mem_append_left _ List.mem_cons_self))
       refine ⟨a.1,a.2.1,T.keep _ _ _ st5 λ b hb o e=>(Ix.pin (b,o) (List.mem_append_right _ (List.mem_append_right _ (mem_pinsAt hb e)))).1,λ b hb=>?_⟩
       obtain ⟨o,e,d⟩:=T.obj _ _ st5 b hb
       exact (Ix.pin (b,o) (List.mem_append_right _ (List.mem_append_right _ (mem_pinsAt hb e)))).2.1
     have bare:∀ {pl:List (Addr×Obj)}{σ':St}{H':Hp}{sx:Shared},Inv (cxC X (capN t caps) scope cl H2.objs.size s H fp) pl σ' H' sx→Inv (cxC X (capN t caps) scope cl H2.objs.size s H fp) [] σ' H' sx:=λ Ix=>Ix.pins_of λ p hp=>absurd hp (by simp)
     cases ok with
     | false =>
       rw [if_neg Bool.false_ne_true] at q7
       obtain ⟨m',hm,w7⟩:=hN _ _ q7
       obtain ⟨a1,a2,a3,a4⟩:=pinD I7
       exact wpAny_pure ⟨rfl,m',hm,i + 1,ys,its,nn,H7,some x,bare I7,a3,a4,a2,a1,r3,z3,w7⟩
     | true =>
       rw [if_pos rfl] at q7
       refine wpAny_bind (wpAny_bind (nox (thn (he _ _ _ _ _ s7 _ H7 _ I7 q7) λ y s8 ⟨yv,H8,I8,r8,hz8,n8⟩=>?_)))
       obtain ⟨m',hm,w8⟩:=hN _ _ n8
       obtain ⟨a1,a2,a3,a4⟩:=pinD I8
       have hlen:=r3.length
       refine wpAny_bind (call_meets F.slot_list_append ⟨_,a1,rfl⟩ F.entry_list_append (F.args_list_append_2 _ _) (PySem.list_append s.heap.objs.size its.toArray nn y (by rw [List.size_toArray]; lia)) ⟨a1,?_⟩)
       obtain ⟨nn',q⟩:∃ nn':Nat,(s8.heap.update s.heap.objs.size (Obj.mapSeq (·.push y))).get? s.heap.objs.size=some { cls:=.type "list",data:=.seq (its ++ [y]).toArray nn' }:=by
         have q:=PySem.IsL.update a1 (·.push y)
         have ea:its.toArray.push y=(its ++ [y]).toArray:=by simp
         rw [ea] at q
         exact ⟨_,q⟩
       have I9:Inv (cxC X (capN t caps) scope cl H2.objs.size s H fp) [] (capS caps σ (some x)) H8 { s8 with heap:=s8.heap.update s.heap.objs.size (Obj.mapSeq (·.push y)) } :=
         (bare I8).turned (t':=s8.toks) (λ b o hb e=>(Heap.get?_update_other _ _ (Ne.symm hb)).trans e) a2 hDC (.inr (Nat.le_refl _)) hDcell (λ p hp=>absurd (show p∈([]:List (Addr×Obj)) from hp) (by simp))
       refine wpAny_pure (wpAny_pure ⟨rfl,m',hm,i + 1,ys ++ [yv],its ++ [y],nn',H8,some x,I9,T.keep _ _ _ a3 λ b hb o e=>(Heap.get?_update_other _ _ (show s.heap.objs.size≠b from λ z=>hDf (by rw [z]; exact hb))).trans e,a4,a2,q,r3.append (.cons r8 .nil),?_,w8⟩)
       · rw [List.length_append,List.length_singleton]; lia
 exact codeAny_compStart_list (loop _ rfl) (T.self _ 0 _ _ _ st₁ (loop _ rfl))
theorem pe_comp (K:CapOk X scope cl t caps) (hc:X.calm=true) (hi:PI X (.Name t px) iter wi)
   (ht:∀ C s₀ H₀ ex,PTs (cxC X (capN t caps) scope cl C s₀ H₀ ex) ifs tt) (he:∀ C s₀ H₀ ex,PE (cxC X (capN t caps) scope cl C s₀ H₀ ex) elt te)
   (hs:∀ x,foldedSetIterable iter X.env x=pure x:=by intro _; rfl):PE X (.ListComp elt [⟨.Name t px,iter,ifs,0⟩] scope pos) (tComp caps wi tt te):=by
 intro pins s σ H Q I h
 rw [eval_ListComp]
 refine wpAny_comprehension_free (use:=none) rfl hs K.clos K.kind K.names (thn (hi pins s σ H _ I h) λ v s1 h1=>thn h1 λ itv s2 h2=>?_)
 obtain ⟨it,fp,tn,J,H2,e,I2,T,st2,f2,W,⟨m0,w0⟩,hW⟩:=h2
 subst e
 refine comp_block (RR:=λ acc C=>compPost (model X.prog X.w) X.A X.xe none (EP X pins σ Q) acc C) K hc ht he I2 T st2 f2 w0 hW ?_
 intro D C ys H' s' m hD I' hn hC q
 refine ⟨m,hn,λ h' hs'=>?_⟩
 obtain ⟨c0,c1,c2,c3,c4,c5⟩:=hC
 exact ⟨.ref D,_,I'.turned (t':=s'.toks) (λ b o hb e=>(hs'.2 b hb).trans e) c0 c1 c3 c4 c5,rfl,q D hD⟩
theorem ps_comp {i:Nat}{y:Str}{py spos:Pos}(hN:X.N.Nodup) (hi':X.N[i]? = some y) (hy:Loc X.env.scope y) (K:CapOk X scope cl t caps) (hc:X.calm=true) (hi:PI X (.Name t px) iter wi)
   (ht:∀ C s₀ H₀ ex,PTs (cxC X (capN t caps) scope cl C s₀ H₀ ex) ifs tt) (he:∀ C s₀ H₀ ex,PE (cxC X (capN t caps) scope cl C s₀ H₀ ex) elt te)
   (hsw:swapsWith (.ListComp elt [⟨.Name t px,iter,ifs,0⟩] scope pos) (some (.Name y py)) spos.line X.env=pure true:=by rfl)
   (hs:∀ x,foldedSetIterable iter X.env x=pure x:=by intro _; rfl) (hf:X.fn y=true∨X.env.scope.names.lookup y=some .local:=by first | exact .inl rfl | exact .inr rfl | assumption) :
   PS X (.Assign [.Name y py] (.ListComp elt [⟨.Name t px,iter,ifs,0⟩] scope pos) spos) (tAsg (tComp caps wi tt te) (gName i)):=by
 intro pins s σ H D I h
 rw [exec_Assign_Name_used _ _ _ _ hsw]
 refine wpAny_bind (wpAny_standAt (wpAny_bind ?_))
 show wpAny _ X.A (do let _ ← comprehension (.ListComp elt [⟨.Name t px,iter,ifs,0⟩] scope pos) scope X.env _ (newList []) false (eval iter X.env) (some (assign (.Name y py) X.env))) _ _ s
 refine wpAny_bind (thn (wpAny_comprehension_free (use:=some (assign (.Name y py) X.env)) (Q:=λ _ s'=>SP X pins D .next s') rfl hs K.clos K.kind K.names
   (thn (hi pins s σ H _ I h) λ v s1 h1=>thn h1 λ itv s2 h2=>?_)) λ _ s' hq=>wpAny_pure (wpAny_pure hq))
 obtain ⟨it,fp,tn,J,H2,e,I2,T,st2,f2,W,⟨m0,w0⟩,hW⟩:=h2
 subst e
 refine comp_block (RR:=λ acc C=>compPost (model X.prog X.w) X.A X.xe (some (assign (.Name y py) X.env)) (λ _ s'=>SP X pins D .next s') acc C) K hc ht he I2 T st2 f2 w0 hW ?_
 intro DD C ys H' s' m hD I' hn hC q
 obtain ⟨c0,c1,c2,c3,c4,c5⟩:=hC
 show wpAny _ X.A (assign (.Name y py) X.env (.ref DD)) _ _ s'
 refine wpAny_assign_Name (store_ok2 (v:=.ref DD) I' hN hi' hy rfl (λ s3 I3 ⟨a,hs3,ha⟩=>?_) hf)
 have hCa:C≠a:=by
   rcases ha with z | z
   · rw [z]; exact c1
   · exact λ w=>c4 y a z w.symm
 refine ⟨m,hn.sameBut hs3 hCa,λ h' hs'=>?_⟩
 exact ⟨_,_,I3.turned (t':=s3.toks) (λ b o hb e=>(hs'.2 b hb).trans e) c0 c1 c3 c4 c5,q DD hD⟩
end
theorem comp_range {caps:List (Str×Nat)}{tt:TT}{te:TE}{σ:St}{H:Hp}{lo:Int}{n:Nat}{QE:List V→Hp→Prop}(Pv:Nat→List V→Hp→Prop) (h0:Pv 0 [] H)
   (hs:∀ i ys H,i < n→Pv i ys H→tt (capS caps σ (some (.int (lo + i)))) H λ b H2=>if b=true then te (capS caps σ (some (.int (lo + i)))) H2 (λ y H3=>ys.length < sizeLine∧Pv (i + 1) (ys ++ [y]) H3) else Pv (i + 1) ys H2)
   (hd:∀ ys H,Pv n ys H→QE ys H):∃ W:Nat→Nat→List V→Hp→Prop,(∃ m,W 0 m [] H)∧CompW caps tt te σ (Itr lo n) QE W:=by
 refine ⟨λ i m ys H=>m=n - i∧i≤n∧Pv i ys H,⟨n,by simp,Nat.zero_le _,h0⟩,?_⟩
 rintro i m ys H ⟨rfl,hi,p⟩
 by_cases hlt:i < n
 · refine .inr ⟨hlt,Pv (i + 1),λ ys' H' p'=>⟨n - (i + 1),by lia,rfl,hlt,p'⟩,λ x H' y=>?_⟩
   obtain ⟨e,y⟩:=y
   subst e y
   exact hs i ys _ hlt p
 · have e:i=n:=by lia
   subst e
   exact .inl ⟨Nat.le_refl _,hd ys H p⟩
theorem comp_list {K:PySem.W.Frag}{a:Addr}{xs:List V}{caps:List (Str×Nat)}{tt:TT}{te:TE}{σ:St}{H:Hp}{QE:List V→Hp→Prop}(Pv:Nat→List V→Hp→Prop) (h0:Pv 0 [] H) (hl:∀ i ys H,i≤xs.length→Pv i ys H→SqL K H a xs)
   (hs:∀ i x ys H,xs[i]? = some x→Pv i ys H→tt (capS caps σ (some x)) H λ b H2=>if b=true then te (capS caps σ (some x)) H2 (λ y H3=>ys.length < sizeLine∧Pv (i + 1) (ys ++ [y]) H3) else Pv (i + 1) ys H2)
   (hd:∀ ys H,Pv xs.length ys H→QE ys H):∃ W:Nat→Nat→List V→Hp→Prop,(∃ m,W 0 m [] H)∧CompW caps tt te σ (Itl K a) QE W:=by
 refine ⟨λ i m ys H=>m=xs.length - i∧i≤xs.length∧Pv i ys H,⟨xs.length,by simp,Nat.zero_le _,h0⟩,?_⟩
 rintro i m ys H ⟨rfl,hi,p⟩
 have q:=hl i ys H hi p
 by_cases hlt:i < xs.length
 · refine .inr ⟨⟨xs,xs[i],q,by simp [hlt]⟩,Pv (i + 1),λ ys' H' p'=>⟨xs.length - (i + 1),by lia,rfl,hlt,p'⟩,λ x H' y=>?_⟩
   obtain ⟨e,y⟩:=y
   subst e
   exact hs i x ys _ (y xs q) p
 · have e:i=xs.length:=by lia
   subst e
   exact .inl ⟨⟨xs,q,Nat.le_refl _⟩,hd ys H p⟩
theorem comp_range0 {caps:List (Str×Nat)}{te:TE}{σ:St}{H:Hp}{lo:Int}{n:Nat}{QE:List V→Hp→Prop}(Pv:Nat→List V→Hp→Prop) (h0:Pv 0 [] H)
   (hs:∀ i ys H,i < n→Pv i ys H→te (capS caps σ (some (.int (lo + i)))) H (λ y H3=>ys.length < sizeLine∧Pv (i + 1) (ys ++ [y]) H3))
   (hd:∀ ys H,Pv n ys H→QE ys H):∃ W:Nat→Nat→List V→Hp→Prop,(∃ m,W 0 m [] H)∧CompW caps tYes te σ (Itr lo n) QE W :=
 comp_range Pv h0 (λ i ys H hi p=>by
   show if true=true then _ else Pv (i + 1) ys H
   rw [if_pos rfl]
   exact hs i ys H hi p) hd
end L2
namespace L2
open PySem PySem.Spec PyProof.Rows
theorem bt_list:bootBuiltins "list" = some (.type "list"):=by decide +kernel
theorem bt_int:bootBuiltins "int" = some (.type "int"):=by decide +kernel
theorem bt_bool:bootBuiltins "bool" = some (.type "bool"):=by decide +kernel
theorem bt_dict:bootBuiltins "dict" = some (.type "dict"):=by decide +kernel
theorem bt_isinstance:bootBuiltins "isinstance" = some (.builtin "isinstance"):=by decide +kernel
theorem bt_sorted:bootBuiltins "sorted" = some (.builtin "sorted"):=by decide +kernel
section
variable {X:Cx}
end
def eqLV:List V→List V→Bool
 | [],[]=>true
 | x :: xs,y :: ys=>eqV x y && eqLV xs ys
 | _,_=>false
theorem eqLV_len:∀ {xs ys:List V},xs.length≠ys.length→eqLV xs ys=false
 | [],[],h=>absurd rfl h
 | [],_ :: _,_=>rfl
 | _ :: _,[],_=>rfl
 | x :: xs,y :: ys,h=>by
   have ih:=eqLV_len (xs:=xs) (ys:=ys) λ e=>h (by simp [e])
   show (eqV x y && eqLV xs ys)=false
   rw [ih,Bool.and_false]
theorem eqLV_range:∀ {xs ys:List V},xs.length=ys.length→(List.range xs.length).all (λ j=>eqV (xs.getD j .non) (ys.getD j .non))=eqLV xs ys
 | [],[],_=>rfl
 | x :: xs,y :: ys,h=>by
   have ih:=eqLV_range (xs:=xs) (ys:=ys) (by simpa using h)
   rw [List.length_cons,List.range_succ_eq_map,List.all_cons,List.all_map]
   show (eqV x y && _)=(eqV x y && eqLV xs ys)
   rw [← ih]
   rfl
 | [],_ :: _,h=>by simp at h
 | _ :: _,[],h=>by simp at h
theorem eqV_int (a b:Int):eqV (.int a) (.int b)=decide (a=b):=by
 show (a == b)=_
 rw [Bool.beq_eq_decide_eq]
theorem eqLV_ints:∀ (xs ys:List Int),eqLV (xs.map V.int) (ys.map V.int)=decide (xs=ys)
 | [],[]=>rfl
 | [],_ :: _=>rfl
 | _ :: _,[]=>rfl
 | x :: xs,y :: ys=>by
   have ih:=eqLV_ints xs ys
   show (eqV (.int x) (.int y) && eqLV (xs.map V.int) (ys.map V.int))=_
   rw [ih,eqV_int]
   by_cases h1:x=y
   · by_cases h2:xs=ys
     · simp [h1,h2]
     · simp [h1,h2]
   · simp [h1]
theorem flat_ints (xs:List Int):(xs.map V.int).all flatV=true:=by
 rw [List.all_map]
 exact List.all_eq_true.mpr λ _ _=>rfl
section
variable {X:Cx}
def rEqL (K:PySem.W.Frag):R2:=λ x y H Q => ∃ p q xs ys,x=.ref p∧y=.ref q∧SqL K H p xs∧SqL K H q ys∧xs.all flatV=true∧ys.all flatV=true∧Q (.bl (eqLV xs ys)) H
theorem op_eqL (hu:X.A.units < cLine):OpR X (compareOp .Eq) (rEqL X.K):=by
 intro pins s σ H x y v u Q I rx ry h
 obtain ⟨p,q,xs,ys,rfl,rfl,hx,hy,fx,fy,hq⟩:=h
 cases rx
 cases ry
 obtain ⟨its,r,pl,hz⟩:=I.list hx
 obtain ⟨its2,r2,pl2,hz2⟩:=I.list hy
 have hl:=r.length
 have hl2:=r2.length
 by_cases e:xs.length=ys.length
 · refine SeqAt.eq_listAt (e:=λ j=>eqV (xs.getD j .non) (ys.getD j .non)) pl.isList pl2.isList (by rw [List.size_toArray,List.size_toArray]; lia) hu (λ j h1 h2=>?_) ⟨.bl (eqLV xs ys),H,I,?_,hq⟩
   · have j1:j < xs.length:=by rw [List.size_toArray] at h1; lia
     have j2:j < ys.length:=by lia
     obtain ⟨a,ea,ra⟩:=r.get (i:=j) (x:=xs[j]) (by simp [j1])
     obtain ⟨b,eb,rb⟩:=r2.get (i:=j) (x:=ys[j]) (by simp [j2])
     obtain ⟨_,ea'⟩:=List.getElem?_eq_some_iff.mp ea
     obtain ⟨_,eb'⟩:=List.getElem?_eq_some_iff.mp eb
     have g1:xs.getD j .non=xs[j]:=by simp [j1]
     have g2:ys.getD j .non=ys[j]:=by simp [j2]
     show SeqAt.EqAt _ _ its.toArray[j] its2.toArray[j] (eqV (xs.getD j .non) (ys.getD j .non))
     rw [g1,g2]
     have f1:flatV xs[j]=true:=List.all_eq_true.mp fx _ (List.getElem_mem j1)
     have f2:flatV ys[j]=true:=List.all_eq_true.mp fy _ (List.getElem_mem j2)
     have z:=eqAt_V (A:=X.A.in1) (s:=s) ra rb f1 f2
     have a1:its.toArray[j]=a:=by simpa using ea'
     have a2:its2.toArray[j]=b:=by simpa using eb'
     rw [a1,a2]
     exact z
   · show Value.bool _=Value.bool _
     rw [List.size_toArray, ← hl,eqLV_range e]
 · refine SeqAt.eq_list_lengthsAt pl.isList pl2.isList ?_ hu ⟨.bl (eqLV xs ys),H,I,?_,hq⟩
   · rw [List.size_toArray,List.size_toArray, ← hl, ← hl2]
     exact bne_iff_ne.mpr e
   · show Value.bool _=Value.bool _
     rw [eqLV_len e]
theorem call_isi:CallR X (.builtin "isinstance") (λ xs H Q => ∃ x n t b,xs=[x,.ty n]∧TyOf X.K H x t∧PySem.W.kitOne X.K t (.type n)=some b∧Q (.bl b) H):=by
 intro pins s σ H xs us Q I r h
 obtain ⟨x,n,t,b,rfl,ty,e,q⟩:=h
 obtain ⟨u,c,rfl,ru,rc⟩:=vals2 r
 obtain rfl:c=Value.type n:=rc
 exact isinst_ok I ru ty e λ tk=>⟨.bl b,H,I.tok _,rfl,q⟩
theorem kit_ii (K:PySem.W.Frag):PySem.W.kitOne K (.type "int") (.type "int")=some true:=rfl
theorem kit_ll (K:PySem.W.Frag):PySem.W.kitOne K (.type "list") (.type "list")=some true:=rfl
theorem kit_ib (K:PySem.W.Frag):PySem.W.kitOne K (.type "int") (.type "bool")=some false:=by with_unfolding_all rfl
end
end L2
namespace L2
open PySem PySem.Spec PyProof.Rows
theorem bt_range:bootBuiltins "range" = some (.type "range"):=by decide +kernel
section
variable {X:Cx}
end
end L2
namespace PySem.W
open PySem PySem.Spec PySem.Calls PyProof.Rows Builtin Builtin.ObjectAttr Builtin.Getset_descriptor
section
variable {prog:Program}{w:World}{A:Around}{E:Value→Shared→Prop}{s:Shared}{K:Frag}{x C:Addr}
theorem lx_find {M:Model}{h:Heap}{v a g:Value}{name:Str}(X:K.In h) (ha:findIn K (.ref C) name=some (some a)) (hg:specialIn K a "__get__" = some (some g)) (ht:takesIn K a=some true) :
   Looks M h (find v (.ref C) name) (.bind g a):=by
 have L1:=looks_findIn (M:=M) X ha
 have L2:Looks M h (getOf (some a)) (some g):=looks_specialIn X hg
 have L3:=looks_takesIn (M:=M) X ht
 exact L1.andThen (L2.andThen ((show Looks M h (dataDescriptor? (some a) (some g)) (some (g,a)) from L3.andThen .now).andThen (Looks.tag .now)))
theorem lx_class_get {R:Result→Shared→Prop}{tp:Value}(X:K.In s.heap) (L0:Looks (model prog w) s.heap (typeOf (.ref x)) (.ref C)) (hm:mroIn K C (.type "object")=some true)
   (h:R (.ok (.ret (.ref C))) s):codeAny (model prog w) A (.call (.builtin "getset_descriptor.__get__") ⟨[.builtin "object.__class__",.ref x,tp],[]⟩) R s:=by
 obtain ⟨hh,g,dr,t,os⟩:=s
 have L1:=looks_mroIn (M:=model prog w) X hm
 refine codeAny_call_builtin KF.slot_gs.plain KF.entry_gs (KF.slot_gs.check _ _ _ _ _ _ _ _ KF.type_class (KF.args_gs _ _ _) ?_)
 unfold Builtin.«getset_descriptor.__get__» descrGet
 rw [dga_obj]
 refine wpAny_bind (wpAny_pure ?_)
 unfold descrGetter descrCheckInstance descrNameAndClass isInstance
 simp only [KF.owner_class]
 repeat lk
 refine ⟨Code.quiet_builtin _ (by decide +kernel),codeAny_builtin KF.entry_class ?_⟩
 unfold Builtin.«object.__class__» shownTypeOf
 repeat lk
 exact h
theorem lx_entry {tk:Tok}{Q:Fin→Shared→Prop}(X:K.In s.heap) (L0:Looks (model prog w) s.heap (typeOf (.ref x)) (.ref C)) (hm:mroIn K C (.type "object")=some true)
   (ha:findIn K (.ref C) "__class__" = some (some (.builtin "object.__class__"))) (hn:specialIn K (.builtin "object.__class__") "__get__" = some (some (.builtin "getset_descriptor.__get__"))) (htk:takesIn K (.builtin "object.__class__")=some true)
   (h:Q (.done (.ret (.ref C))) s):wpAny (model prog w) A (Builtin.«object.__getattribute__» ⟨[.ref x,.str "__class__" tk],[]⟩) Q E s:=by
 obtain ⟨hh,g,dr,t,os⟩:=s
 have L1:=lx_find (M:=model prog w) (v:=.ref x) X ha hn htk
 refine wpAny_bind (wpAny_pure (wpAny_bind (wpAny_pure (wpAny_bind (L0.at (wpAny_bind (L1.at ?_)))))))
 show wpAny _ _ (holding [.builtin "object.__class__"] (call (.builtin "getset_descriptor.__get__") [.builtin "object.__class__",.ref x,.ref C]) >>= ret) _ _ _
 exact wpAny_bind (wpAny_holding (wpAny_call (lx_class_get X L0 hm (wpAny_pure h))))
theorem bexc_bind (self:Value):bindSpecial (.builtin "BaseException.__getattribute__") self=pure (.builtin "BaseException.__getattribute__",[self]):=F.excAttr_ValueError.ga.bind self
theorem bexc_check {M:Model}{Q:Unit→Shared→Prop}(X:K.In s.heap) (L0:Looks M s.heap (typeOf (.ref x)) (.ref C)) (hb:mroIn K C (.type "BaseException")=some true) (b:Value)
   (hQ:Q () s):wpAny M A (checkBuiltinCall "BaseException.__getattribute__" ⟨[.ref x,b],[]⟩) Q E s:=by
 obtain ⟨hh,g,dr,t,os⟩:=s
 have L1:=looks_mroIn (M:=M) X hb
 have hk:builtinKind "BaseException.__getattribute__" = some .slot:=by decide +kernel
 have hsplit:splitId "BaseException.__getattribute__" = some ("BaseException","__getattribute__"):=by decide +kernel
 have ha:=F.args_bexc_ga (.ref x) b
 simp only [checkBuiltinCall,hk,hsplit]
 unfold isInstance
 repeat lk
 exact hQ
theorem lx_class_by {tk:Tok}{Q:Value→Shared→Prop}(X:K.In s.heap) (L0:Looks (model prog w) s.heap (typeOf (.ref x)) (.ref C)) (hm:mroIn K C (.type "object")=some true) (hb:mroIn K C (.type "BaseException")=some true)
   (hga:findIn K (.ref C) "__getattribute__" = some (some (.builtin "BaseException.__getattribute__"))) (hgb:findIn K (.ref C) "__getattr__" = some none)
   (ha:findIn K (.ref C) "__class__" = some (some (.builtin "object.__class__"))) (hn:specialIn K (.builtin "object.__class__") "__get__" = some (some (.builtin "getset_descriptor.__get__"))) (htk:takesIn K (.builtin "object.__class__")=some true)
   (h:Q (.ref C) s):wpAny (model prog w) A (getAttrBy (.ref x) (.str "__class__" tk) false) Q E s:=by
 obtain ⟨hh,g,dr,t,os⟩:=s
 have L1:=looks_findIn (M:=model prog w) X hga
 have L2:=looks_findIn (M:=model prog w) X hgb
 unfold getAttrBy
 refine wpAny_holding (wpAny_bind (L0.at (wpAny_bind (L1.at ?_))))
 show wpAny _ _ (getAttrByItsOwn _ _ _ _ _ _) _ _ _
 unfold getAttrByItsOwn
 refine wpAny_bind (show wpAny _ _ (typeLookup (.ref C) "__getattr__") _ _ _ from L2.at (wpAny_bind (wpAny_attempt (wpAny_holding ?_))))
 show wpAny _ _ (boundAndCalled _ _ _) _ _ _
 unfold boundAndCalled
 rw [bexc_bind]
 refine wpAny_bind (wpAny_pure ?_)
 show wpAny _ _ (call (.builtin "BaseException.__getattribute__") [.ref x,.str "__class__" tk]) _ _ _
 refine wpAny_call (codeAny_call_builtin F.excAttr_ValueError.ga.plain F.entry_bexc_ga (bexc_check X L0 hb _ (lx_entry X L0 hm ha hn htk ?_)))
 exact wpAny_pure h
theorem lx_class {Q:Option Value→Shared→Prop}(X:K.In s.heap) (L0:Looks (model prog w) s.heap (typeOf (.ref x)) (.ref C)) (hm:mroIn K C (.type "object")=some true) (hb:mroIn K C (.type "BaseException")=some true)
   (hga:findIn K (.ref C) "__getattribute__" = some (some (.builtin "BaseException.__getattribute__"))) (hgb:findIn K (.ref C) "__getattr__" = some none)
   (ha:findIn K (.ref C) "__class__" = some (some (.builtin "object.__class__"))) (hn:specialIn K (.builtin "object.__class__") "__get__" = some (some (.builtin "getset_descriptor.__get__"))) (htk:takesIn K (.builtin "object.__class__")=some true)
   (h:Q (some (.ref C)) { s with toks:=s.toks + 1 }):wpAny (model prog w) A (getAttr? (.ref x) "__class__") Q E s:=by
 unfold getAttr? getAttrBy?
 refine wpAny_bind (wpAny_mkText (wpAny_bind (wpAny_attempt (lx_class_by (s:={ s with toks:=s.toks + 1 }) X L0 hm hb hga hgb ha hn htk (wpAny_pure h)))))
end
structure XCls (K:Frag) (C:Addr):Prop where
 ob:mroIn K C (.type "object")=some true
 be:mroIn K C (.type "BaseException")=some true
 ga:findIn K (.ref C) "__getattribute__" = some (some (.builtin "BaseException.__getattribute__"))
 gb:findIn K (.ref C) "__getattr__" = some none
 cc:findIn K (.ref C) "__class__" = some (some (.builtin "object.__class__"))
 cg:specialIn K (.builtin "object.__class__") "__get__" = some (some (.builtin "getset_descriptor.__get__"))
 ct:takesIn K (.builtin "object.__class__")=some true
theorem XCls.cl {K:Frag}{C:Addr}(c:XCls K C):(clsIn K C).isSome=true:=by
 obtain ⟨cd,h,_⟩:=Option.bind_eq_some_iff.mp c.ob
 rw [h]; rfl
theorem kitx_exc {K:Frag}{x C:Addr}(c:XCls K C):KitX K (.ref x) (.ref C) (λ h => ∃ o,h.get? x=some o∧o.cls=.ref C) where
 ty:=λ M h _ ⟨o,h1,h2⟩=>h2 ▸ (Looks.ld h1).andThen .now
 it:=λ _ _ X _=>by
   obtain ⟨cdD,hcD⟩:=Option.isSome_iff_exists.mp c.cl
   unfold clsIn at hcD
   split at hcD
   · rename_i c' d' cd' sl' ho
     intro A' Q' E' s' k q
     unfold isType loadHead
     exact wpAny_bind (wpAny_loadPart (k _ _ (X _ _ ho)) (wpAny_pure q))
   · cases hcD
 ne:=λ h tp dd its n sl X htp=>by
   obtain ⟨cdD,hcD⟩:=Option.isSome_iff_exists.mp c.cl
   refine Bool.eq_false_iff.mpr λ q=>?_
   have e:C=tp:=Value.ref.inj (beq_iff_eq.mp q)
   subst e
   unfold clsIn at hcD
   split at hcD
   · rename_i c' d' cd' sl' ho
     have z:=(X _ _ ho).symm.trans htp
     cases z
   · cases hcD
 ca:=λ X ⟨o,h1,h2⟩ k=>lx_class X (h2 ▸ (Looks.ld h1).andThen .now) c.ob c.be c.ga c.gb c.cc c.cg c.ct k
end PySem.W
namespace L2
open PySem PySem.Spec PyProof.Rows PySem.W
end L2
namespace L2
open PySem PySem.Spec PyProof.Rows
def C2 (e:Addr) (h:Heap):Prop := ∃ o vs,h.get? e=some o∧o.data=.fields vs∧vs[2]? = some .none
def Kp2 (f:Obj→Obj):Prop := ∀ o vs,o.data=.fields vs→vs[2]? = some .none→∃ vs',(f o).data=.fields vs'∧vs'[2]? = some .none
inductive Pl {α:Type}:Sem α→Prop
 | pure (a:α):Pl (.pure a)
 | raise (e:Value):Pl (.raise e)
 | unsupported (x:String):Pl (.unsupported x)
 | finish (x:Ending):Pl (.finish x)
 | rule (tag:String) (k:Unit→Sem α) (h:∀ u,Pl (k u)):Pl (.rule tag k)
 | at_ (p:Pos) (k:Unit→Sem α) (h:∀ u,Pl (k u)):Pl (.at p k)
 | load (a:Addr) (part:Option Value) (k:Obj→Sem α) (h:∀ o,Pl (k o)):Pl (.load a part k)
 | update (a:Addr) (part:Option Value) (f:Obj→Obj) (k:Unit→Sem α) (hf:Kp2 f) (h:∀ u,Pl (k u)):Pl (.update a part f k)
 | alloc (o:Obj) (k:Addr→Sem α) (h:∀ a,Pl (k a)):Pl (.alloc o k)
 | loadIfAlive (a:Addr) (k:Option Obj→Sem α) (h:∀ o,Pl (k o)):Pl (.loadIfAlive a k)
 | point (l:List Value) (k:Unit→Sem α) (h:∀ u,Pl (k u)):Pl (.point l k)
 | register (a:Addr) (k:Unit→Sem α):Pl (.register a k)
 | fresh (k:Tok→Sem α) (h:∀ t,Pl (k t)):Pl (.fresh k)
 | ask (k:Setting→Sem α) (h:∀ t,Pl (k t)):Pl (.ask k)
 | handled (own:Bool) (k:Option Value→Sem α) (h:∀ t,Pl (k t)):Pl (.handled own k)
 | stack (k:List (Code×Pos)→Sem α) (h:∀ t,Pl (k t)):Pl (.stack k)
theorem Pl.bind {α β:Type}{t:Sem α}{k:α→Sem β}(h:Pl t) (hk:∀ a,Pl (k a)):Pl (t >>= k):=by
 show Pl (Sem.bind t k)
 induction h with
 | pure a=>exact hk a
 | raise e=>exact .raise e
 | unsupported x=>exact .unsupported x
 | finish x=>exact .finish x
 | rule tag k' _ ih=>exact .rule _ _ ih
 | at_ p k' _ ih=>exact .at_ _ _ ih
 | load a part k' _ ih=>exact .load _ _ _ ih
 | update a part f k' hf _ ih=>exact .update _ _ _ _ hf ih
 | alloc o k' _ ih=>exact .alloc _ _ ih
 | loadIfAlive a k' _ ih=>exact .loadIfAlive _ _ ih
 | point l k' _ ih=>exact .point _ _ ih
 | register a k'=>exact .register _ _
 | fresh k' _ ih=>exact .fresh _ ih
 | ask k' _ ih=>exact .ask _ ih
 | handled own k' _ ih=>exact .handled _ _ ih
 | stack k' _ ih=>exact .stack _ ih
theorem C2.push {e:Addr}{h:Heap}{o:Obj}(c:C2 e h):C2 e (h.push o):=let ⟨x,vs,h1,h2⟩:=c; ⟨x,vs,Heap.get?_push_of_some _ h1,h2⟩
theorem C2.update {e a:Addr}{h:Heap}{f:Obj→Obj}(c:C2 e h) (hf:Kp2 f):C2 e (h.update a f):=by
 obtain ⟨x,vs,h1,h2,h3⟩:=c
 by_cases q:a=e
 · subst q
   obtain ⟨vs',g1,g2⟩:=hf x vs h2 h3
   exact ⟨f x,vs',Heap.get?_update_self _ h1 (Obj.isFreed_of_fields g1),g1,g2⟩
 · exact ⟨x,vs,(Heap.get?_update_other _ _ q).trans h1,h2,h3⟩
theorem Pl.wp {α:Type}{M:Model}{Γ:PySem.Ctx}{t:Sem α}{e:Addr}{Q:α→Pos→Shared→Prop}{E:Value→Pos→Shared→Prop}(h:Pl t):∀ (p:Pos) (s:Shared),Sem.wp M Γ t Q E p s→C2 e s.heap →
   Sem.wp M Γ t (λ a p s=>Q a p s∧C2 e s.heap) (λ x p s=>E x p s∧C2 e s.heap) p s:=by
 induction h with
 | pure a=>intro p s q c; rw [Sem.wp] at q ⊢; exact ⟨q,c⟩
 | raise e=>intro p s q c; rw [Sem.wp] at q ⊢; exact ⟨q,c⟩
 | unsupported x=>intro p s q c; rw [Sem.wp] at q; exact q.elim
 | finish x=>intro p s q c; rw [Sem.wp] at q; exact q.elim
 | rule tag k _ ih=>intro p s q c; rw [Sem.wp] at q ⊢; exact ih () p s q c
 | at_ p' k _ ih=>intro p s q c; rw [Sem.wp] at q ⊢; exact ih () p' s q c
 | load a part k _ ih=>intro p s q c; rw [Sem.wp] at q ⊢; obtain ⟨o,ho,q⟩:=q; exact ⟨o,ho,ih o p s q c⟩
 | update a part f k hf _ ih=>intro p s q c; rw [Sem.wp] at q ⊢; exact ⟨q.1,ih () p _ q.2 (c.update hf)⟩
 | alloc o k _ ih=>intro p s q c; rw [Sem.wp] at q ⊢; exact ih _ p _ q c.push
 | loadIfAlive a k _ ih=>intro p s q c; rw [Sem.wp] at q ⊢; exact ih _ p s q c
 | point l k _ ih=>intro p s q c; rw [Sem.wp] at q ⊢; exact ih () p s q c
 | register a k=>intro p s q c; rw [Sem.wp] at q; exact q.elim
 | fresh k _ ih=>intro p s q c; rw [Sem.wp] at q ⊢; exact ih _ p _ q c
 | ask k _ ih=>intro p s q c; rw [Sem.wp] at q ⊢; exact ih _ p s q c
 | handled own k _ ih=>intro p s q c; rw [Sem.wp] at q ⊢; exact ih _ p s q c
 | stack k _ ih=>intro p s q c; rw [Sem.wp] at q ⊢; exact ih _ p s q c
theorem Pl.any {α:Type}{M:Model}{A:Around}{t:Sem α}{e:Addr}{Q:α→Shared→Prop}{E:Value→Shared→Prop}{s:Shared}(h:Pl t) (q:wpAny M A t Q E s) (c:C2 e s.heap):wpAny M A t (λ a s=>Q a s∧C2 e s.heap) (λ x s=>E x s∧C2 e s.heap) s :=
 λ Γ p hΓ=>h.wp p s (q Γ p hΓ) c
theorem kp_set {i:Nat}{v:Value}(h:i≠2):Kp2 (Obj.mapFields (·.setIfInBounds i v)):=λ o vs hd h2=>⟨_,Obj.data_mapFields hd _,by rw [Array.getElem?_setIfInBounds_ne h]; exact h2⟩
theorem pl_load (a:Addr):Pl (load a):=.load _ _ _ λ o=>.pure o
theorem pl_fields (v:Value):Pl (fieldsOf v):=by
 unfold fieldsOf
 split
 · refine Pl.bind (pl_load _) λ o=>?_
   split
   · exact .pure _
   · exact .unsupported _
 · exact .unsupported _
theorem pl_field (v:Value) (i:Nat):Pl (field v i):=by
 unfold field
 refine Pl.bind (pl_fields v) λ vs=>?_
 split
 · exact .pure _
 · exact .unsupported _
theorem pl_setField (v:Value) (i:Nat) (x:Value) (h:i≠2):Pl (setField v i x):=by
 unfold setField
 split
 · unfold updateField
   refine Pl.bind (pl_load _) λ o=>?_
   split
   · split
     · exact .update _ _ _ _ (kp_set h) λ u=>.pure u
     · exact .unsupported _
   · exact .unsupported _
 · exact .unsupported _
theorem pl_stack:Pl stack:=.stack _ λ l=>.pure l
theorem pl_newFields (ty:String) (vs:List Value):Pl (newFields ty vs):=by
 have as:Pl (newObjAsIs (Value.type ty) (Data.fields vs.toArray)):=Pl.bind (.alloc _ _ λ a=>.pure a) λ a=>.pure _
 unfold newFields newObj
 dsimp only
 split
 · exact Pl.bind (.unsupported _) λ _=>as
 · exact as
theorem pl_envs:Pl frameEnvs:=by
 unfold frameEnvs
 exact Pl.bind pl_stack λ l=>.pure _
theorem pl_import (env:Env) (outer:List Env):Pl (behindIsImport env outer):=by
 unfold behindIsImport
 split
 · exact .pure _
 · split
   · exact .pure _
   · exact Pl.bind (pl_field _ _) λ _=>.pure _
theorem pl_under:Pl underTheClaimsCaller:=by
 unfold underTheClaimsCaller
 exact Pl.bind pl_stack λ _=>.pure _
theorem pl_back (env:Env) (i:Bool) (l:List Env):Pl (keptBack env i l):=by
 unfold keptBack
 split
 · split
   · exact .pure _
   · exact Pl.bind pl_under λ _=>.pure _
 · exact .pure _
theorem pl_ready:∀ l:List Env,Pl (readyFrames l)
 | []=>.pure _
 | env :: outer=>by
   unfold readyFrames
   split
   · refine Pl.bind (pl_load _) λ o=>?_
     split
     · exact .pure _
     · refine Pl.bind (pl_import _ _) λ i=>Pl.bind (pl_back _ _ _) λ b=>Pl.bind (.update _ _ _ _ (λ o vs h1 h2=>⟨vs,h1,h2⟩) λ u=>.pure u) λ _=>pl_ready outer
   · exact .unsupported _
theorem pl_frameObject (l:List Env):Pl (frameObject l):=by
 cases l with
 | nil=>exact .pure _
 | cons env outer =>
   unfold frameObject
   exact Pl.bind (pl_ready _) λ _=>.pure _
theorem pl_frameOf (env:Env):Pl (PySem.frameOf env):=by
 unfold PySem.frameOf
 refine Pl.bind pl_envs λ l=>Pl.bind (pl_frameObject _) λ o=>?_
 split
 · exact .pure _
 · exact .unsupported _
theorem pl_place (f:Addr) (b:Bool):Pl (entryPlaceOf f b):=by
 unfold entryPlaceOf
 refine Pl.bind pl_stack λ l=>?_
 split
 · exact .pure _
 · exact .pure _
theorem pl_flight (v:Value) (f:Option Addr):Pl (setFlight v f):=by
 unfold setFlight
 refine Pl.bind (pl_field _ _) λ tb=>?_
 split
 · exact pl_setField _ _ _ (by decide)
 · exact .pure _
theorem pl_note (v:Value) (env:Env):Pl (noteFrame v env):=by
 unfold noteFrame
 split
 · refine Pl.bind (pl_field _ _) λ hd=>?_
   have rest:∀ f:Addr,Pl (do
       let a ← PySem.frameOf env
       let pl ← entryPlaceOf f (hd != .none)
       let b ← EntryCells.newEntry hd a .none (rawInt f) .none pl
       setField v 1 b):=λ f=>Pl.bind (pl_frameOf _) λ a=>Pl.bind (pl_place _ _) λ q=>Pl.bind (pl_newFields _ _) λ b=>pl_setField _ _ _ (by decide)
   split
   · refine Pl.bind (pl_field _ _) λ x=>?_
     split
     · exact .pure _
     · exact Pl.bind (pl_setField _ _ _ (by decide)) λ _=>rest _
   · exact rest _
 · exact .unsupported _
theorem pl_leaving (env:Env) (v:Value):Pl (leaving env v):=by
 unfold leaving
 exact Pl.bind (pl_note _ _) λ _=>pl_flight _ _
end L2
namespace L2
open PySem PySem.Spec PyProof.Rows
def MadeW (B:Heap) (l:List Env) (e:Addr) (cls a0:Value) (h:Heap):Prop :=
 B.StaysIn h∧B.get? e=none∧h.FunFrames B l∧∃ oe vs,h.get? e=some oe∧oe.cls=cls∧oe.data=.fields vs∧vs[0]? = some a0∧vs[1]? = some .none
def Bears (X:Cx) (pins:List (Addr×Obj)) (σ:St) (H:Hp) (B:Heap) (s:Shared):Prop :=
 ∀ (h':Heap) (tk:Nat),B.StaysIn h'→s.heap.UpToSlots h'→Inv X pins σ H { s with heap:=h',toks:=tk }
structure NewTo (X:Cx) (pins:List (Addr×Obj)) (H:Hp) (e:Addr):Prop where
 old:X.s₀.heap.get? e=none
 loc:e≠X.env.locals
 fs:e∉X.fs
 cell:∀ x c,X.env.cells.lookup x=some c→c≠e
 pin:∀ p∈X.pn ++ pins,p.1≠e
 free:H e=none
abbrev XR:=St→Value→Hp→Prop
def XP (X:Cx) (pins:List (Addr×Obj)) (R:XR) (x:Value) (s':Shared):Prop :=
 ∃ (e:Addr) (cls a0:Value) (B:Heap) (σ:St) (H:Hp),x=.ref e∧(MadeW B X.stack e cls a0 s'.heap∨Heap.FlyingW B X.stack e cls a0 s'.heap∨∃ L,X.env.frame=some L∧Heap.HeldW B X.stack e cls a0 L s'.heap)∧C2 e s'.heap∧Bears X pins σ H B s'∧NewTo X pins H e∧R σ cls H
def CXO (P:Program) (w:World):CXT:=λ outer H s E x s' =>
 ∃ (e:Addr) (cls a0:Value) (B:Heap) (H':Hp),x=.ref e∧s'.os=s.os∧AllBare s'.gens∧s.heap.get? e=none∧H' e=none∧Heap.FlyingW B outer e cls a0 s'.heap∧C2 e s'.heap ∧
   (∀ h',B.StaysIn h'→s'.heap.UpToSlots h'→Un (frs outer) [] H H' s.heap h'∧HOk P w H' h')∧E cls none H'
theorem pass1 {P:Program}{w:World}{X:Cx}:Passes (CXO P w) X E0:=λ _ _ _ _ _ _ _ ⟨_,_,_,_,_,_,_,_,_,_,_,_,_,h⟩=>h.elim
section
variable {X:Cx}{pins:List (Addr×Obj)}{σ:St}{H H':Hp}{s s':Shared}
theorem Inv.newTo (I:Inv X pins σ H s) (hex:X.ex=[]) {e:Addr}(h:s.heap.get? e=none) (hn:H' e=none):NewTo X pins H' e:=by
 have old:X.s₀.heap.get? e=none:=by
   cases q:X.s₀.heap.get? e with
   | none=>rfl
   | some o =>
     obtain ⟨o',z⟩:=I.base.there e o q (by rw [hex]; simp)
     rw [h] at z; cases z
 refine ⟨old,λ z=>?_,λ z=>?_,λ x c q z=>?_,λ p hp z=>?_,hn⟩
 · obtain ⟨m,⟨o,_,_,ho,_⟩,_⟩:=I.loc
   rw [← z,h] at ho; cases ho
 · obtain ⟨_,o,ho,_⟩:=I.ok.funs.mem z
   rw [old] at ho; cases ho
 · obtain ⟨v,o,ho,_⟩:=I.cell x c q
   rw [z,h] at ho; cases ho
 · have:=(I.pin p hp).1
   rw [z,h] at this; cases this
theorem Inv.comes {E:XK}{x:Value}(I:Inv X pins σ H s) (hex:X.ex=[]) (h:CXO X.prog X.w X.stack H s E x s'):XP X pins (λ σ' cls H'=>σ'=σ∧E cls none H') x s':=by
 obtain ⟨e,cls,a0,B,H',rfl,os,bare,new,free,fl,c2,keep,q⟩:=h
 refine ⟨e,cls,a0,B,σ,H',rfl,.inr (.inl fl),c2,λ h' tk k u=>?_,I.newTo hex new free,rfl,q⟩
 obtain ⟨un,hok⟩:=keep h' k u
 exact I.call' (s':={ s' with heap:=h',toks:=tk }) (ch:=[]) os un hok bare (λ b z=>absurd z (by simp))
theorem XP.imp {R R':XR}{x:Value}(h:XP X pins R x s') (hR:∀ σ cls H,R σ cls H→R' σ cls H):XP X pins R' x s':=by
 obtain ⟨e,cls,a0,B,σ,H,e1,e2,c2,e3,e4,q⟩:=h
 exact ⟨e,cls,a0,B,σ,H,e1,e2,c2,e3,e4,hR _ _ _ q⟩
theorem Bears.now {B:Heap}(b:Bears X pins σ H B s) (k:B.StaysIn s.heap):Inv X pins σ H s:=b s.heap s.toks k (Heap.UpToSlots.refl _)
end
abbrev TEX:=St→Hp→VK→(Value→Hp→Prop)→Prop
abbrev TSX:=Ends→XR→St→Hp→Prop
def PEX (X:Cx) (e:Expr) (t:TEX):Prop :=
 ∀ (pins:List (Addr×Obj)) (s:Shared) (σ:St) (H:Hp) (Q:VK) (R:Value→Hp→Prop),Inv X pins σ H s→t σ H Q R →
   wpAny (model X.prog X.w) X.A (eval e X.env) (EP X pins σ Q) (XP X pins λ σ' cls H'=>σ'=σ∧R cls H') s
def PSX (X:Cx) (st:Stmt) (t:TSX):Prop :=
 ∀ (pins:List (Addr×Obj)) (s:Shared) (σ:St) (H:Hp) (D:Ends) (R:XR),Inv X pins σ H s→t D R σ H→wpAny (model X.prog X.w) X.A (exec st X.env) (SP X pins D) (XP X pins R) s
def PSsX (X:Cx) (st:List Stmt) (t:TSX):Prop :=
 ∀ (pins:List (Addr×Obj)) (s:Shared) (σ:St) (H:Hp) (D:Ends) (R:XR),Inv X pins σ H s→t D R σ H→wpAny (model X.prog X.w) X.A (execs st X.env) (SP X pins D) (XP X pins R) s
section
variable {X:Cx}{e:Expr}{te:TE}{tx:TEX}{t:TS}{ts us:TSX}{st:Stmt}{sts rest:List Stmt}{pos:Pos}
theorem psx_of (h:PS X.nox st t):PSX X st (λ D _ σ H=>t D σ H):=λ pins s σ H D R I q =>
 wpAny_mono (h pins s σ H D (I.wish _) q) (λ _ _ z=>z.unwish) λ _ _ z=>z.elim
theorem pssx_of (h:PSs X.nox sts t):PSsX X sts (λ D _ σ H=>t D σ H):=λ pins s σ H D R I q =>
 wpAny_mono (h pins s σ H D (I.wish _) q) (λ _ _ z=>z.unwish) λ _ _ z=>z.elim
def txSeq (t u:TSX):TSX:=λ D R σ H=>t { D with nx:=u D R } R σ H
theorem pssx_cons (h1:PSX X st ts) (h2:PSsX X rest us):PSsX X (st :: rest) (txSeq ts us):=by
 intro pins s σ H D R I h
 refine wpAny_execs_cons (thn (h1 pins s σ H _ R I h) λ f s1 hq=>?_)
 cases f with
 | next =>
   obtain ⟨σ',H',I',q⟩:=hq
   exact h2 pins s1 σ' H' D R I' q
 | brk=>exact hq
 | cont=>exact hq
 | ret u=>exact hq
theorem pssx_one (h1:PSX X st ts):PSsX X [st] ts:=by
 intro pins s σ H D R I h
 refine wpAny_execs_cons (thn (h1 pins s σ H D R I h) λ f s1 q=>?_)
 cases f with
 | next=>exact wpAny_execs_nil q
 | ret v=>exact q
 | brk=>exact q
 | cont=>exact q
def txNext:TSX:=λ D _ σ H=>D.nx σ H
theorem pssx_nil:PSsX X [] txNext:=λ _ _ σ H _ _ I h=>wpAny_execs_nil ⟨σ,H,I,h⟩
theorem nx {α:Type}{M:Model}{A:Around}{tr:Sem α}{Q Q':α→Shared→Prop}{E:Value→Shared→Prop}{s:Shared}(h:wpAny M A tr Q (λ _ _=>False) s) (hQ:∀ a s,Q a s→Q' a s):wpAny M A tr Q' E s :=
 wpAny_mono h hQ λ _ _ z=>z.elim
def txDrop (te:TEX):TSX:=λ D R σ H=>te σ H (λ _ H1=>D.nx σ H1) (R σ)
theorem XP.at {pins:List (Addr×Obj)}{σ:St}{R:XR}{x:Value}{s':Shared}(h:XP X pins (λ σ' cls H'=>σ'=σ∧R σ cls H') x s'):XP X pins R x s':=h.imp λ _ _ _ ⟨e,q⟩=>e ▸ q
theorem psx_expr (he:PEX X e tx) (hs:swapsWith e none pos.line X.env=pure false:=by rfl):PSX X (.Expr e pos) (txDrop tx):=by
 intro pins s σ H D R I h
 exact wpAny_Expr_any (wpAny_mono (he pins s σ H _ _ I h) (λ v s1 ⟨x,H1,I1,r1,q1⟩=>⟨σ,H1,I1,q1⟩) λ _ _ z=>z.at) I.quiet hs
def txRet (te:TEX):TSX:=λ D R σ H=>te σ H D.rt (R σ)
theorem psx_ret (he:PEX X e tx):PSX X (.Return (some e) pos) (txRet tx):=by
 intro pins s σ H D R I h
 exact wpAny_Return_some (wpAny_mono (he pins s σ H _ _ I h) (λ v s1 ⟨x,H1,I1,r1,q1⟩=>⟨x,σ,H1,I1,r1,q1⟩) λ _ _ z=>z.at)
def txSet (te:TEX) (i:Nat):TSX:=λ D R σ H=>te σ H (λ v H1=>D.nx (σ.set i (some v)) H1) (R σ)
theorem psx_set {i:Nat}{x:Str}{pos':Pos}(hN:X.N.Nodup) (hi:X.N[i]? = some x) (hx:Loc X.env.scope x) (he:PEX X e tx) (hs:swapsWith e (some (.Name x pos')) pos.line X.env=pure false:=by rfl) (hf:X.fn x=true∨X.env.scope.names.lookup x=some .local:=by first | exact .inl rfl | exact .inr rfl | assumption) :
   PSX X (.Assign [.Name x pos'] e pos) (txSet tx i):=by
 intro pins s σ H D R I h
 refine wpAny_Assign_Name (wpAny_mono (he pins s σ H _ _ I h) (λ v s1 ⟨y,H1,I1,r1,q1⟩=>?_) λ _ _ z=>z.at) hs
 exact store_ok I1 hN hi hx r1 (λ s2 I2=>⟨_,H1,I2,q1⟩) hf
def txIf (c:TT) (t u:TSX):TSX:=λ D R σ H=>c σ H λ b H1=>if b=true then t D R σ H1 else u D R σ H1
theorem psx_if {c:Expr}{a b:List Stmt}{tc:TT}(hc:PT X.nox c tc) (ha:PSsX X a ts) (hb:PSsX X b us):PSX X (.If c a b pos) (txIf tc ts us):=by
 intro pins s σ H D R I h
 refine wpAny_If (nx (hc pins s σ H _ (I.wish _) h) λ d s1 ⟨H1,I1,q1⟩=>?_)
 cases d with
 | true=>exact ha pins s1 σ H1 D R I1.unwish q1
 | false=>exact hb pins s1 σ H1 D R I1.unwish q1
end
section
variable {X:Cx}{k:Nat}{f C:Addr}{fd:FuncData}{ps:List Str}{sp:Sp}{dvs:List V}{ds:List Value}{x m:Str}{p pos apos:Pos}{e o:Expr}{es:List Expr}{ta:TE}{t:TA}
theorem run_fnx {pins:List (Addr×Obj)}{σ:St}{H:Hp}{s:Shared}{Q:VK}{R:Value→Hp→Prop}{us:List Value}{vs:List V}(F:FnOk X.prog X.w X.K X.mg X.base (CXO X.prog X.w) k f fd ps sp) (hr:Room k X.A) (hb:Binds X.K fd ps ds) (hd:Vals dvs ds) (hex:X.ex=[])
   (I:Inv X pins σ H s) (r:Vals vs us) (h:sp (vs ++ dvs) H Q λ cls _ H'=>R cls H'):wpAny (model X.prog X.w) X.A (call (.ref f) us) (EP X pins σ Q) (XP X pins λ σ' cls H'=>σ'=σ∧R cls H') s:=by
 have r2:Vals (vs ++ dvs) (us ++ ds):=r.append hd
 have hl:(us ++ ds).length=ps.length:=by rw [← r2.length]; exact F.len _ _ _ _ h
 refine wpAny_call (codeAny_mono (F.run X.A X.stack s H ⟨us,[]⟩ (us ++ ds) (vs ++ dvs) Q _ hr I.env0 (hb s us I.kIn hl) r2 h) λ r s' hq=>?_)
 cases r with
 | error e=>exact I.comes (E:=λ cls _ H'=>R cls H') hex (show CXO X.prog X.w X.stack H s (λ cls _ H'=>R cls H') e s' from hq)
 | ok fl =>
   cases fl with
   | ret u=>exact I.after hq
   | next=>exact False.elim hq
   | brk=>exact False.elim hq
   | cont=>exact False.elim hq
def txCall (sp:Sp) (dvs:List V) (t:TA):TEX:=λ σ H Q R=>t σ H λ vs H1=>sp (vs ++ dvs) H1 Q λ cls _ H'=>R cls H'
def txMeth (C:Addr) (m:Str) (sp:Sp) (dvs:List V) (ta:TE) (t:TA):TEX:=λ σ H Q R=>ta σ H λ x H1 => ∃ a dx fs,x=.ref a∧H1 a=some (.ins C dx fs)∧fs.lookup m=none ∧
 t σ H1 λ vs H2=>sp (x :: (vs ++ dvs)) H2 Q λ cls _ H'=>R cls H'
theorem pex_call (F:FnOk X.prog X.w X.K X.mg X.base (CXO X.prog X.w) k f fd ps sp) (hr:Room k X.A) (hex:X.ex=[]) (hg:Gl X x) (hm:X.mg x=some (.ref f)) (hk:PySem.W.keepIn X.K (.ref f)=true) (hb:Binds X.K fd ps ds) (hd:Vals dvs ds)
   (ha:PA X.nox (e :: es) t) (hdb:(x == ("__debug__" : Str))=false:=by decide) (he:starEach (e :: es) X.env=(false,eval e X.env) :: starEach es X.env:=by rfl) (hpl:(backTo pos (starEach es X.env)).any (·.1)=false:=by rfl) :
   PEX X (.Call (.Name x p) (e :: es) [] pos) (txCall sp dvs t):=by
 intro pins s σ H Q R I h
 refine wpAny_Call_Name_kw (ld_glob I hg hm ?_ hdb)
 refine PySem.W.callWith_K (h₀:=X.base) I.ok.mod.kin hk (nx (ha pos pins s σ H _ (I.wish _) h) λ us s1 ⟨vs,H1,I1,r,q⟩=>⟨I1.unwish.kIn,?_⟩) he hpl
 exact run_fnx F hr hb hd hex I1.unwish r q
theorem pex_meth {pl:Sem Bool}(he:PE X.nox o ta) (c:Cls X.K C) (hm:Meth X.K C m f) (F:FnOk X.prog X.w X.K X.mg X.base (CXO X.prog X.w) k f fd ps sp) (hr:Room k X.A) (hex:X.ex=[]) (hb:Binds X.K fd ps ds) (hd:Vals dvs ds) (ha:PA X.nox (e :: es) t)
   (hst:starEach (e :: es) X.env=(false,eval e X.env) :: starEach es X.env:=by rfl) (hpl:(backTo pos (starEach es X.env)).any (·.1)=false:=by rfl)
   (ht:eval (.Call (.Attribute o m apos) (e :: es) [] pos) X.env=(do
     let ov ← eval o X.env
     standAt apos.atName
     let (f,first) ← holding [ov] (getMethod ov m pl)
     callWith pos f first (backTo pos (starEach (e :: es) X.env)) (backToKw pos (keywordEach [] X.env))):=by rfl) :
   PEX X (.Call (.Attribute o m apos) (e :: es) [] pos) (txMeth C m sp dvs ta t):=by
 intro pins s σ H Q R I h
 refine PySem.W.methodCall_KW (pl:=pl) (nx (he pins s σ H _ (I.wish _) h) λ u s1 ⟨x,H1,I1,rx,a,dx,fs,ex,ea,l,q⟩=>?_) ht
 subst ex
 obtain rfl:u=Value.ref a:=rx
 refine getmeth_ok I1.unwish ea c hm l ?_
 refine PySem.W.callWith_K (first:=[.ref a]) (h₀:=X.base) I.ok.mod.kin hm.kp (nx (ha pos pins s1 σ H1 _ I1 q) λ us s2 ⟨vs,H2,I2,r,q2⟩=>⟨I2.unwish.kIn,?_⟩) hst hpl
 exact run_fnx (us:=.ref a :: us) (vs:=.ref a :: vs) F hr hb hd hex I2.unwish (.cons rfl r) q2
end
def veMro:List Value:=[.type "ValueError",.type "Exception",.type "BaseException",.type "object"]
theorem exc_obj {K:PySem.W.Frag}{h:Heap}{C:Addr}{bmB:List Value}{newId:String}(X:K.In h) (q:PySem.W.excIn K C bmB newId=true) :
   ∃ bm N nm q bs hdct sn sub ab col dd k0 k1 k2 k3 k5 mN,h.get? C=some (excClassObj nm q C N bs bm hdct sn sub ab col dd k0 k1 k2 k3 k5 newId)∧h.Ns N mN∧mN "__init__" = none∧OwnTail h bmB bm:=by
 unfold PySem.W.excIn at q
 split at q
 · rename_i dd cd sl ho
   split at q
   · rename_i C' bm k0 k1 k2 k3 n k5 hm hs
     simp only [Bool.and_eq_true,beq_iff_eq,Bool.not_eq_true'] at q
     obtain ⟨⟨⟨⟨⟨rfl,rfl⟩,hdel⟩,ht⟩,hok⟩,hni⟩:=q
     obtain ⟨nm,bs,mro,ns,qn,hd,sn,sub,ab,col,del⟩:=cd
     dsimp only at hm hdel hok hni
     subst hm hdel
     have hsl:sl = #[k0,k1,k2,k3,some (.builtin n),k5]:=by
       obtain ⟨l⟩:=sl
       simp only at hs
       rw [hs]
     subst hsl
     exact ⟨bm,ns,nm,qn,bs,hd,sn,sub,ab,col,dd,k0,k1,k2,k3,k5,_,X _ _ ho,.of_isNs (PySem.W.isNs_of_in X hok),PySem.W.nsMap_none_of_in X hok hni,PySem.W.tail_of_in X ht⟩
   · cases q
 · cases q
theorem objOk_there {P:Program}{w:World}{H:Hp}{h:Heap}{a:Addr}{o:HO}(x:ObjOk P w H h a o):∃ ob,h.get? a=some ob:=by
 cases o with
 | lst xs=>obtain ⟨_,_,_,_,e⟩:=x; exact ⟨_,e⟩
 | tup xs=>obtain ⟨_,_,_,p⟩:=x; obtain ⟨o,e,_⟩:=p; exact ⟨_,e⟩
 | dK kvs=>obtain ⟨_,_,_,_,o,_,_,e,_⟩:=x; exact ⟨_,e⟩
 | dT kvs=>obtain ⟨_,_,_,_,o,_,_,e,_⟩:=x; exact ⟨_,e⟩
 | set S n=>obtain ⟨o,_,_,_,e,_⟩:=x; exact ⟨_,e⟩
 | ins C dx fs=>obtain ⟨_,_,_,e,_⟩:=x; exact ⟨_,e⟩
 | own y=>obtain ⟨_,e⟩:=x; exact ⟨_,e⟩
 | xd fs=>obtain ⟨_,⟨_,_,_,e,_⟩,_⟩:=x; exact ⟨_,e⟩
 | rng lo hi=>obtain ⟨_,_,_,e⟩:=x; exact ⟨_,e⟩
 | frz ob u=>obtain ⟨e,_⟩:=x; exact ⟨_,e⟩
 | tbl ps=>exact ⟨_,(show h.get? a=some _ from x)⟩
 | met f y=>exact ⟨_,(show h.get? a=some _ from x)⟩
 | ext φ=>obtain ⟨_,e,_⟩:=x; exact e
section
variable {X:Cx}{pins:List (Addr×Obj)}{σ:St}{H:Hp}{s:Shared}
theorem Inv.raised {h':Heap}{e:Addr}{cls:Value}{vs:List Value}(I:Inv X pins σ H s) (hex:X.ex=[]) (hx:Heap.MadeExcOf s.heap h' e cls vs):XP X pins (λ σ' c H'=>σ'=σ∧c=cls∧H'=H) (.ref e) { s with heap:=h' }:=by
 obtain ⟨t,he,htn,ht⟩:=hx.there
 have hin:∀ env∈X.stack,∀ a,env.frame=some a→a∈frs X.stack:=λ env he a hf=>List.mem_filterMap.mpr ⟨env,he,hf⟩
 have nf:∀ b u,H b=some u→b∉frs X.stack:=λ b u q z=>by rw [I.stkFree b z] at q; cases q
 have hB:∀ b,s.heap.get? b=none→(PySem.W.hideAll s.heap (frs X.stack)).get? b=none:=λ b q=>by
   cases z:(PySem.W.hideAll s.heap (frs X.stack)).get? b with
   | none=>rfl
   | some o=>rw [PySem.W.of_hideAll _ z] at q; cases q
 refine ⟨e,cls,.ref t,PySem.W.hideAll s.heap (frs X.stack),σ,H,rfl,.inl ⟨λ b o q=>hx.keeps b o (PySem.W.of_hideAll _ q),hB e hx.new,?_,_,_,he,rfl,rfl,rfl,rfl⟩,⟨_,_,he,rfl,rfl⟩,λ h'' tk k u=>?_,I.newTo hex hx.new ?_,rfl,rfl,rfl⟩
 · exact (PySem.W.funFrames_hide I.stack hin).of_keeps λ b o q _=>⟨o,hx.keeps b o q,rfl⟩
 · have kp:∀ b o,s.heap.get? b=some o→b∉frs X.stack→h''.get? b=some o:=λ b o q nb=>k b o (PySem.W.hideAll_get _ q nb)
   have sl:∀ b o,s.heap.get? b=some o→b∈frs X.stack→∃ sl,h''.get? b=some { o with slots:=sl }:=λ b o q hb=>by
     obtain ⟨_,o',ho',hd⟩:=I.stack.mem hb
     rw [q] at ho'; cases ho'
     exact u b o (hx.keeps b o q) hd
   refine I.call' (s':={ s with heap:=h'',toks:=tk }) (ch:=[]) rfl ⟨λ b o q n hb _=>kp b o q hb,λ b o q n hb _=>sl b o q hb,λ b o q n _=>n,λ b o q _=>?_,λ b xs q=>q,λ b o u q=>q,λ b ps q=>⟨#[],by rw [q]; simp⟩⟩ (λ a o q=>?_) I.bare (λ b z=>absurd z (by simp))
   · by_cases hb:b∈frs X.stack
     · obtain ⟨sl',q'⟩:=sl b o q hb
       exact ⟨_,q'⟩
     · exact ⟨o,kp b o q hb⟩
   · refine (I.hok a o q).stay (λ c v hc qc=>kp c v qc ?_) (λ _ z=>z) λ _ _ z=>z
     rcases hc with z | z
     · rw [z]; exact nf a o q
     · exact nf c _ z
 · cases z:H e with
   | none=>rfl
   | some o =>
     obtain ⟨ob,hob⟩:=objOk_there (I.hok e o z)
     rw [hx.new] at hob; cases hob
end
end L2
namespace L2
open PySem PySem.Spec PyProof.Rows
abbrev TJ:=Str→St→Hp→(Str→Hp→Prop)→Prop
def PJ (X:Cx) (vs:List Expr) (t:TJ):Prop :=
 ∀ (pins:List (Addr×Obj)) (s:Shared) (σ:St) (H:Hp) (acc:Str) (Q:Str→Hp→Prop),Inv X pins σ H s→t acc σ H Q→Joins (model X.prog X.w) X.A X.xe (evalEach vs X.env) acc (λ out s1 => ∃ H',Inv X pins σ H' s1∧Q out H') s
section
variable {X:Cx}{v v2:Expr}{vs:List Expr}{te:TE}{t:TJ}{pos:Pos}
def tjNil:TJ:=λ acc _ H Q=>Q acc H
def tjCons (te:TE) (t:TJ):TJ:=λ acc σ H Q=>te σ H λ x H1 => ∃ y,x=.str y∧(acc ++ y).length≤sizeLine∧t (acc ++ y) σ H1 Q
theorem pj_nil:PJ X [] tjNil:=λ _ s _ H _ _ I h=>show ∃ H',_ from ⟨H,I,h⟩
theorem pj_cons (he:PE X v te) (hr:PJ X vs t):PJ X (v :: vs) (tjCons te t):=by
 intro pins s σ H acc Q I h
 show wpAny _ _ (eval v X.env) _ _ s
 refine thn (he pins s σ H _ I h) λ u s1 ⟨x,H1,I1,r1,y,ex,hl,q⟩=>?_
 subst ex
 obtain ⟨tk,rfl⟩:=r1
 exact ⟨y,tk,rfl,hl,hr pins s1 σ H1 _ Q I1 q⟩
theorem pe_join (h:PJ X (v :: v2 :: vs) t):PE X (.JoinedStr (v :: v2 :: vs) pos) (λ σ H Q=>t Str.empty σ H λ out H'=>out.length≤sizeLine∧Q (.str out) H'):=by
 intro pins s σ H Q I q
 refine wpAny_JoinedStr ?_
 have z:=h pins s σ H Str.empty _ I q
 have go:∀ (l:List (Sem Value)) (acc:Str) (s:Shared),Joins (model X.prog X.w) X.A X.xe l acc (λ out s1 => ∃ H',Inv X pins σ H' s1∧out.length≤sizeLine∧Q (.str out) H') s →
     Joins (model X.prog X.w) X.A X.xe l acc (λ out s1=>out.length≤sizeLine∧EP X pins σ Q (.str out s1.toks) { s1 with toks:=s1.toks + 1 }) s:=by
   intro l
   induction l with
   | nil =>
     intro acc s ⟨H',I',hl,q'⟩
     exact ⟨hl,.str acc,H',I'.tok _,⟨_,rfl⟩,q'⟩
   | cons a r ih =>
     intro acc s hj
     exact thn hj λ u s1 ⟨y,tk,e,hl,q'⟩=>⟨y,tk,e,hl,ih _ _ q'⟩
 exact go _ _ _ z
theorem pe_fv (he:PE X v te):PE X (.FormattedValue v (-1) none pos) (λ σ H Q=>te σ H λ x H1 => ∃ i:Int,x=.int i∧i.natAbs.log2 < 1920∧Q (.str (toString i)) H1):=by
 intro pins s σ H Q I h
 refine wpAny_FormattedValue_plain (thn (he pins s σ H _ I h) λ u s1 ⟨x,H1,I1,r1,i,ex,hl,q⟩=>?_)
 subst ex
 obtain ⟨tk,rfl⟩:=r1
 exact wpAny_formatField_int hl ⟨.str (toString i),H1,I1.tok _,⟨_,rfl⟩,q⟩
end
theorem len_app (a b:Str):(a ++ b).length=a.length + b.length:=strLen_append a b
theorem len_int {i:Int}(h:i.natAbs.log2 < 1920):(toString i:Str).length≤1921:=by
 have e:=int_text_length_le (k:=1920) (by decide) h
 show (Str.ofString (toString i)).length≤1921
 rw [PySem.ofString_length]
 exact e
section
variable {X:Cx}{C:Addr}{x:Str}{np cpos pos:Pos}{e₀:Expr}{es:List Expr}{t:TA}
theorem psx_raise (hg:Gl X x) (hm:X.mg x=some (.ref C)) (hq:PySem.W.excIn X.K C veMro "ValueError.__new__" = true) (hc:X.calm=true) (hex:X.ex=[]) (ha:PA X.nox (e₀ :: es) t)
   (he:starEach (e₀ :: es) X.env=(false,eval e₀ X.env) :: starEach es X.env:=by rfl) (hpl:(backTo cpos (starEach es X.env)).any (·.1)=false:=by rfl) (hd:(x == ("__debug__" : Str))=false:=by decide) :
   PSX X (.Raise (some (.Call (.Name x np) (e₀ :: es) [] cpos)) none pos) (λ D R σ H=>t σ H λ vs H1=>vs.length≤sizeLine∧R σ (.ref C) H1):=by
 intro pins s σ H D R I h
 obtain ⟨tl,N,nm,q,bs,hdct,sn,sub,ab,col,dd,k0,k1,k2,k3,k5,mN,hC,hN,hni,T⟩:=exc_obj I.ok.mod.kin hq
 refine wpAny_Raise_call_subT (C:=C) (nm:=nm) (q:=q) (N:=N) (bs:=bs) (bm:=tl) (hdct:=hdct) (sn:=sn) (sub:=sub) (ab:=ab) (col:=col) (dd:=dd) (k0:=k0) (k1:=k1) (k2:=k2) (k3:=k3) (k5:=k5)
   F.excBase_ValueError (mN:=mN) (T.hasType F.excBase_ValueError.hasBase) (I.ok.hd hc) (by rw [he]; show (false || (backTo cpos (starEach es X.env)).any (·.1))=false; rw [hpl]; rfl) hni (ld_glob I hg hm ⟨rfl,?_⟩ hd)
 have h2:=ha cpos pins s σ H _ (I.wish _) h
 rw [he] at h2 ⊢
 refine Calls.evalArgs_plain (nx h2 λ us s2 ⟨vs,H1,I1,r,hl,q1⟩=>⟨rfl,?_,I1.unwish.bk _ _ hC,hN.keeps I1.unwish.bk,T.keeps I1.unwish.bk,λ h' e hx=>?_⟩)
 · show us.length≤sizeLine
   rw [← r.length]; exact hl
 · exact (I1.unwish.raised hex hx).imp λ _ _ _ ⟨a,b,c⟩=>by subst a b c; exact q1
end
section
variable {P:Program}{w:World}{K:PySem.W.Frag}{mg:Str→Option Value}{base:Heap}
theorem made_leaves0 {M:Model}{A:Around}{E:Value→Shared→Prop}{s:Shared}{B:Heap}{env:Env}{outer:List Env}{L e:Addr}{cls a0:Value}{Q:Unit→Shared→Prop}
   (hfr:A.frames=some (env :: outer)) (hf:env.frame=some L) (h:MadeW B (env :: outer) e cls a0 s.heap∨Heap.FlyingW B (env :: outer) e cls a0 s.heap∨∃ L,env.frame=some L∧Heap.HeldW B (env :: outer) e cls a0 L s.heap)
   (hQ:∀ h',Heap.FlyingW B outer e cls a0 h'→s.heap.UpToSlots h'→Q () { s with heap:=h' }):wpAny M A (leaving env (.ref e)) Q E s:=by
 rcases h with ⟨h1,h2,h3,oe,vs,he,hc,hd,h0,h1'⟩ | h | ⟨L',hL,hh⟩
 · subst hc
   refine wpAny_leaving_firstW hfr h3 hf he h1 h2 hd h1' h0 λ h' ⟨k1,⟨_,_,k2⟩,k3,k4⟩=>hQ h' ⟨k1,h2,k2,k3⟩ k4
 · exact wpAny_leaves_onW hfr hf h hQ
 · rw [hf] at hL
   cases hL
   obtain ⟨g1,g2,g3,g4⟩:=id hh
   refine wpAny_bind (wpAny_noteFrame_againW hf g4 (wpAny_landsW hh λ h' fl up=>hQ h' ⟨fl.1,fl.2.1,?_,fl.2.2.2⟩ up))
   exact (show h'.FunFrames B (env :: outer) from fl.2.2.1).2.2
theorem made_leaves {M:Model}{A:Around}{E:Value→Shared→Prop}{s:Shared}{B:Heap}{env:Env}{outer:List Env}{L e:Addr}{cls a0:Value}{Q:Unit→Shared→Prop}
   (hfr:A.frames=some (env :: outer)) (hf:env.frame=some L) (h:MadeW B (env :: outer) e cls a0 s.heap∨Heap.FlyingW B (env :: outer) e cls a0 s.heap∨∃ L,env.frame=some L∧Heap.HeldW B (env :: outer) e cls a0 L s.heap) (c:C2 e s.heap)
   (hQ:∀ h',Heap.FlyingW B outer e cls a0 h'→s.heap.UpToSlots h'→C2 e h'→Q () { s with heap:=h' }):wpAny M A (leaving env (.ref e)) Q E s :=
 wpAny_mono ((pl_leaving env (.ref e)).any (E:=λ _ _=>False) (made_leaves0 (Q:=λ _ s' => ∃ h',s'={ s with heap:=h' }∧Heap.FlyingW B outer e cls a0 h'∧s.heap.UpToSlots h') hfr hf h λ h' f u=>⟨h',rfl,f,u⟩) c)
   (λ _ s' ⟨⟨h',e1,f,u⟩,c'⟩=>by subst e1; exact hQ h' f u c') λ _ _ z=>z.1.elim
theorem Fun.okx {x qual:Str}{st:Stmt}{f:Addr}{fd:FuncData}{N ps:List Str}{k:Nat}{sp:Sp}(F:Fun K x qual st f fd) (S:FnScope N ps (defScope st)) (len:∀ vs H Q E,sp vs H Q E→vs.length=ps.length)
   (hbody:∀ (cdv:Value) (A:Around) (outer:List Env) (s:Shared) (H:Hp) (vs:List V) (Q:VK) (E:XK),Room k (A.deeper (envOfC qual (defScope st) s.heap.objs.size f cdv))→sp vs H Q E →
     ∃ t,PSsX (cxOf (CXO P w) P w K mg base N qual (defScope st) f cdv A outer s H E) (defBody st) t∧t { nx:=λ _ H'=>Q .non H',rt:=Q } (λ _ cls H'=>E cls none H') (start N vs) H):FnOk P w K mg base (CXO P w) (k + 1) f fd ps sp:=by
 obtain ⟨oc,od,kV,doc,pm,an,cdv,ct,osl,rfl,lk,hcd⟩:=F.ex
 refine fn_of lk hcd S len λ A outer s H vs Q E hr hsp=>?_
 obtain ⟨t,h,q⟩:=hbody cdv A outer s H vs Q E hr hsp
 refine ⟨λ D σ H'=>t D (λ _ cls H'=>E cls none H') σ H',λ pins s1 σ H1 D I q1=>?_,q⟩
 refine wpAny_mono (h pins s1 σ H1 D _ I q1) (λ _ _ z=>z) λ v s2 hx=>?_
 obtain ⟨e,cls,a0,B,σ2,H2,rfl,fl,c2,be,new,hE⟩:=hx
 have stay:B.StaysIn s2.heap:=by
   rcases fl with z | z | ⟨_,_,z⟩
   · exact z.1
   · exact z.1
   · exact z.1
 have I2:=be.now stay
 refine made_leaves (L:=s.heap.objs.size) I2.ok.frames rfl fl c2 λ h' fl' up c3=>?_
 exact ⟨e,cls,a0,B,H2,rfl,I2.os,I2.bare,new.old,new.free,fl',c3,λ h'' k u=>(λ J=>⟨J.base,J.hok⟩) (be h'' s2.toks k (up.trans u)),hE⟩
end
abbrev Cx.hand (X:Cx) (e:Addr):Cx:={ X with A:=X.A.mark (some (.ref e)),calm:=false }
section
variable {X:Cx}{pins:List (Addr×Obj)}{σ:St}{H:Hp}{s:Shared}
theorem Cx.Ok.hand (ok:X.Ok) (e:Addr):(X.hand e).Ok :=
 ⟨ok.mod,ok.kind,ok.glob,ok.blt,ok.above,ok.inj,ok.has,ok.cab,(λ z=>Bool.noConfusion z),ok.frames,ok.stk,ok.exf,ok.bs,ok.bsz,ok.noex,ok.exfs,ok.funs,ok.frf⟩
theorem Inv.hand (I:Inv X pins σ H s) (e:Addr):Inv (X.hand e) pins σ H s:=⟨I.ok.hand e,I.os,I.bare,I.base,I.loc,I.cell,I.free,I.freeC,I.pin,I.hok,I.len⟩
theorem Inv.unhand {e:Addr}(I:Inv (X.hand e) pins σ H s) (ok:X.Ok):Inv X pins σ H s:=⟨ok,I.os,I.bare,I.base,I.loc,I.cell,I.free,I.freeC,I.pin,I.hok,I.len⟩
theorem Inv.unset {i:Nat}{n:Str}{m:Str→Option Value}{h':Heap}{v:Option Value}{tk:Nat}(I:Inv X pins σ H s) (hN:X.N.Nodup) (hi:X.N[i]? = some n) (hl:X.env.kindOf n=some .local)
   (hm:s.heap.Ns X.env.locals m) (hl':∀ (i:Nat) (x:Str) (v:V),X.N[i]? = some x→σ[i]? = some (some v)→Vis X.env.scope x→∃ u,RelV v u∧Look X.env s.heap m x u)
   (hn:h'.Ns X.env.locals (λ x=>if x=n then v else m x)) (hs:Heap.SameBut X.env.locals s.heap h'):Inv X pins (σ.set i none) H { s with heap:=h',toks:=tk }:=by
 have hiσ:i < σ.length:=by rw [I.len]; exact (List.getElem?_eq_some_iff.mp hi).1
 have cne:=I.cne
 have neL:∀ b o,X.s₀.heap.get? b=some o→b≠X.env.locals:=λ b o e=>Nat.ne_of_lt (Nat.lt_of_lt_of_le (Heap.lt_size e) I.ok.above)
 refine ⟨I.ok,I.os,I.bare,⟨λ b o e n hb hx=>?_,λ b o e n hb hx=>?_,I.base.free,λ b o e hx=>?_,I.base.tups,I.base.frzs,I.base.tbls⟩,⟨_,hn,λ j y v' e1 e2 e3=>?_⟩,λ y c e=>?_,I.free,I.freeC,λ p hp=>?_,λ b ob e=>?_,by simpa using I.len⟩
 · exact (hs.2 b (neL b o e)).trans (I.base.keep b o e n hb hx)
 · obtain ⟨sl,e1⟩:=I.base.slot b o e n hb hx
   exact ⟨sl,(hs.2 b (neL b o e)).trans e1⟩
 · obtain ⟨o',e1⟩:=I.base.there b o e hx
   exact ⟨o',(hs.2 b (neL b o e)).trans e1⟩
 · by_cases hj:j=i
   · subst hj
     rw [List.getElem?_set_self hiσ] at e2
     cases e2
   · rw [List.getElem?_set_ne (Ne.symm hj)] at e2
     obtain ⟨u',r',q⟩:=hl' j y v' e1 e2 e3
     refine ⟨u',r',?_⟩
     rcases q with ⟨k,e⟩ | ⟨k,c,e,z⟩
     · refine .inl ⟨k,?_⟩
       have:y≠n:=λ e=>hj (nodup_ix hN e1 (e ▸ hi))
       simp [this,e]
     · exact .inr ⟨k,c,e,z.sameBut hs (cne y c e)⟩
 · obtain ⟨w',z⟩:=I.cell y c e
   exact ⟨w',z.sameBut hs (cne y c e)⟩
 · obtain ⟨e,n,ne,nf,d⟩:=I.pin p hp
   exact ⟨(hs.2 p.1 ne).trans e,n,ne,nf,d⟩
 · refine (I.hok b ob e).stay (λ c w' hc q=>(hs.2 c ?_).trans q) (λ _ q=>q) λ _ _ q=>q
   rintro rfl
   rcases hc with hc | hc
   · rw [← hc,I.free] at e; cases e
   · rw [I.free] at hc; cases hc
end
theorem made_looks0 {M:Model}{A:Around}{E:Value→Shared→Prop}{s:Shared}{B:Heap}{env:Env}{outer:List Env}{L e:Addr}{cls a0:Value}{Q:Unit→Shared→Prop}
   (hfr:A.frames=some (env :: outer)) (hf:env.frame=some L) (h:MadeW B (env :: outer) e cls a0 s.heap∨Heap.FlyingW B (env :: outer) e cls a0 s.heap∨∃ L,env.frame=some L∧Heap.HeldW B (env :: outer) e cls a0 L s.heap)
   (hQ:∀ h',Heap.HeldW B (env :: outer) e cls a0 L h'→s.heap.UpToSlots h'→Q () { s with heap:=h' }):wpAny M A (noteFrame (.ref e) env) Q E s:=by
 rcases h with ⟨h1,h2,h3,oe,vs,he,hc,hd,h0,h1'⟩ | h | ⟨L',hL,hh⟩
 · subst hc
   unfold noteFrame
   simp only [hf]
   refine wpAny_bind (wpAny_field he hd h1' ?_)
   rw [if_neg (by decide)]
   exact wpAny_entryW hfr h3 hf he h1 h2 hd (Array.getElem?_eq_some_iff.mp h1').1 h0 λ h' ⟨k1,k2,k3,k4⟩=>hQ h' ⟨k1,h2,k2,k3⟩ k4
 · exact wpAny_looks_onW hfr hf h hQ
 · rw [hf] at hL
   cases hL
   exact wpAny_noteFrame_againW hf hh.2.2.2 (hQ s.heap hh (Heap.UpToSlots.refl _))
theorem made_looks {M:Model}{A:Around}{E:Value→Shared→Prop}{s:Shared}{B:Heap}{env:Env}{outer:List Env}{L e:Addr}{cls a0:Value}{Q:Unit→Shared→Prop}
   (hfr:A.frames=some (env :: outer)) (hf:env.frame=some L) (h:MadeW B (env :: outer) e cls a0 s.heap∨Heap.FlyingW B (env :: outer) e cls a0 s.heap∨∃ L,env.frame=some L∧Heap.HeldW B (env :: outer) e cls a0 L s.heap) (c:C2 e s.heap)
   (hQ:∀ h',Heap.HeldW B (env :: outer) e cls a0 L h'→s.heap.UpToSlots h'→C2 e h'→Q () { s with heap:=h' }):wpAny M A (noteFrame (.ref e) env) Q E s :=
 wpAny_mono ((pl_note (.ref e) env).any (E:=λ _ _=>False) (made_looks0 (Q:=λ _ s' => ∃ h',s'={ s with heap:=h' }∧Heap.HeldW B (env :: outer) e cls a0 L h'∧s.heap.UpToSlots h') hfr hf h λ h' f u=>⟨h',rfl,f,u⟩) c)
   (λ _ s' ⟨⟨h',e1,f,u⟩,c'⟩=>by subst e1; exact hQ h' f u c') λ _ _ z=>z.1.elim
theorem lands_c {M:Model}{A:Around}{E:Value→Shared→Prop}{s:Shared}{B:Heap}{l:List Env}{e L:Addr}{cls a0:Value}{Q:Unit→Shared→Prop}(hh:Heap.HeldW B l e cls a0 L s.heap) (c:C2 e s.heap)
   (hQ:∀ h',Heap.FlyingW B l e cls a0 h'→s.heap.UpToSlots h'→C2 e h'→Q () { s with heap:=h' }):wpAny M A (setFlight (.ref e) none) Q E s :=
 wpAny_mono ((pl_flight (.ref e) none).any (E:=λ _ _=>False) (wpAny_landsW (Q:=λ _ s' => ∃ h',s'={ s with heap:=h' }∧Heap.FlyingW B l e cls a0 h'∧s.heap.UpToSlots h') hh λ h' f u=>⟨h',rfl,f,u⟩) c)
   (λ _ s' ⟨⟨h',e1,f,u⟩,c'⟩=>by subst e1; exact hQ h' f u c') λ _ _ z=>z.1.elim
theorem lands_c2 {M:Model}{A:Around}{E:Value→Shared→Prop}{s:Shared}{B:Heap}{l:List Env}{e:Addr}{cls a0:Value}{Q:Unit→Shared→Prop}(hh:Heap.FlyingW B l e cls a0 s.heap) (c:C2 e s.heap)
   (hQ:∀ h',Heap.FlyingW B l e cls a0 h'→s.heap.UpToSlots h'→C2 e h'→Q () { s with heap:=h' }):wpAny M A (setFlight (.ref e) none) Q E s :=
 wpAny_mono ((pl_flight (.ref e) none).any (E:=λ _ _=>False) (lands_againW (Q:=λ _ s' => ∃ h',s'={ s with heap:=h' }∧Heap.FlyingW B l e cls a0 h'∧s.heap.UpToSlots h') hh λ h' f u=>⟨h',rfl,f,u⟩) c)
   (λ _ s' ⟨⟨h',e1,f,u⟩,c'⟩=>by subst e1; exact hQ h' f u c') λ _ _ z=>z.1.elim
def goneE (i:Nat) (D:Ends):Ends:={ nx:=λ σ H=>D.nx (σ.set i none) H,rt:=D.rt,bk:=λ σ H=>D.bk (σ.set i none) H,ct:=λ σ H=>D.ct (σ.set i none) H }
section
variable {X:Cx}{C:Addr}{i:Nat}{x n:Str}{np hpos pos:Pos}{body suite:List Stmt}{b₀:Stmt}{tb:TSX}{ts:TS}
end
end L2
namespace L2
open PySem PySem.Spec PyProof.Rows
section
variable {X:Cx}{tg:Expr}
theorem XP.passes {pins:List (Addr×Obj)}{R:XR}(hst:X.stack=X.env :: X.outer) (hf:X.env.frame=some X.env.locals):PassesOwn (model X.prog X.w) X.A X.env (XP X pins R):=by
 intro x s1 hx
 obtain ⟨e,cls,a0,B,σ1,H1,rfl,fl,c2,be,new,q⟩:=hx
 have stay:B.StaysIn s1.heap:=by
   rcases fl with z | z | ⟨_,_,z⟩
   · exact z.1
   · exact z.1
   · exact z.1
 have I1:=be.now stay
 have hfr:=I1.ok.frames
 rw [hst] at fl hfr
 refine made_looks hfr hf fl c2 λ h4 held up4 c4=>?_
 obtain ⟨g1,g2,g3,oe,vs,T,oT,ts,k1,⟨k2,k3⟩,k4,k5,k6,k7,k8,k9,k10⟩:=id held
 show wpAny _ _ _ _ _ _
 rw [hf]
 refine wpAny_bind (wpAny_field k1 k4 k5 ?_)
 rw [if_neg (by simp)]
 unfold setFlight
 refine wpAny_bind (wpAny_field k1 k4 k5 ?_)
 rw [if_pos (by simp)]
 refine wpAny_setField k8 k9 (Array.getElem?_eq_some_iff.mp k10).1 ?_
 have eu:=Heap.update_setField_same h4 T oT ts 3 (rawInt X.env.locals) k8 k9 k10
 show XP X pins R (.ref e) { s1 with heap:=h4.update T (Obj.mapFields λ x=>x.setIfInBounds 3 (rawInt X.env.locals)) }
 rw [eu]
 exact ⟨e,cls,a0,B,σ1,H1,rfl,.inr (.inr ⟨X.env.locals,hf,by rw [hst]; exact held⟩),c4,λ h' tk k u=>be h' tk k (up4.trans u),new,q⟩
theorem XP.unpinned {pins pl:List (Addr×Obj)}{R:XR}{x:Value}{s':Shared}(h:XP X (pins ++ pl) R x s'):XP X pins R x s':=by
 obtain ⟨e,cls,a0,B,σ1,H1,rfl,fl,c2,be,new,q⟩:=h
 refine ⟨e,cls,a0,B,σ1,H1,rfl,fl,c2,λ h' tk k u=>(be h' tk k u).unpinned,⟨new.old,new.loc,new.fs,new.cell,λ p hp=>new.pin p ?_,new.free⟩,q⟩
 rcases List.mem_append.mp hp with m | m
 · exact List.mem_append_left _ m
 · exact List.mem_append_right _ (List.mem_append_left _ m)
def txFor (wi:TI) (g:TG) (tb:TSX):TSX:=λ D R σ H=>tFor wi g (λ D' σ' H'=>tb D' R σ' H') D σ H
theorem psx_for {iter:Expr}{body:List Stmt}{wi:TI}{g:TG}{tb:TSX}{pos:Pos}(hst:X.stack=X.env :: X.outer) (hf:X.env.frame=some X.env.locals) (hc:X.calm=true) (hi:PI X.nox tg iter wi) (hg:PG X.nox tg g) (hb:PSsX X body tb)
   (hs:∀ x,foldedSetIterable iter X.env x=pure x:=by intro _; rfl):PSX X (.For tg iter body [] pos) (txFor wi g tb):=by
 intro pins s σ H D R I h
 have hp:PassesOwn (model X.prog X.w) X.A X.env (XP X pins R):=XP.passes hst hf
 refine wpAny_For (nx (hi pins s σ H _ (I.wish _) h) λ v s1 h1=>nx h1 λ itv s2 h2=>?_) hs
 obtain ⟨it,fp,tn,J,H2,e,I2',T,st2,f2',W,⟨m0,w0⟩,turn⟩:=h2
 have I2:=I2'.unwish
 have f2:∀ b∈fp,FpOk X pins H2 b:=λ b hb=>f2' b hb
 subst e
 have stat:∀ {H':Hp},(∀ b∈fp,H' b=none)→∀ b∈fp,FpOk X pins H' b:=λ hn b hb=>⟨hn b hb,(f2 b hb).2⟩
 refine codeAny_forLoop_any (λ n s' => ∃ i σ' H',Inv X pins σ' H' s'∧tn i s'.heap∧(∀ b∈fp,H' b=none)∧W i n σ' H') ?_ m0 ⟨0,σ,H2,I2,st2,λ b hb=>(f2 b hb).1,w0⟩
 rintro n s3 ⟨i,σ3,H3,I3,st3,fr3,w3⟩
 rcases turn i n σ3 H3 w3 with ⟨stop,qn⟩ | ⟨go,N,hN,step⟩
 · refine wpAny_passesOwn hp (thn (T.done X rfl rfl rfl hc i pins s3 σ3 H3 _ I3 (stat fr3) st3 stop) λ r s4 ⟨hr,I4⟩=>?_)
   subst hr
   exact wpAny_execs_nil ⟨σ3,H3,I4,qn⟩
 · refine wpAny_passesOwn hp (thn (T.item X rfl rfl rfl hc i pins s3 σ3 H3 _ I3 (stat fr3) st3 go) λ r s4 ⟨u,hr,h4⟩=>?_)
   subst hr
   refine wpAny_passesOwn hp (thn h4 λ _ s5 ⟨x,H5,I5,r5,y5,st5,fr5⟩=>?_)
   have I5':=I5.pinned (stat fr5) (T.obj _ _ st5)
   refine wpAny_passesOwn hp (nx (hg _ s5 σ3 H5 x u _ (I5'.wish _) r5 (step x H5 y5)) λ _ s6 ⟨σ6,H6,I6,q6⟩=>?_)
   refine wpAny_passesOwn hp (wpAny_mono (hb _ s6 σ6 H6 _ R I6.unwish q6) (λ f s7 q7=>?_) λ _ _ z=>z.unpinned)
   have again:∀ {σ7:St}{H7:Hp},Inv X (pins ++ pinsAt fp s5.heap) σ7 H7 s7→N σ7 H7→∃ m,m < n∧∃ i σ' H',Inv X pins σ' H' s7∧tn i s7.heap∧(∀ b∈fp,H' b=none)∧W i m σ' H':=λ {σ7 H7} I7 n7=>by
     obtain ⟨m',hm,w7⟩:=hN σ7 H7 n7
     refine ⟨m',hm,i + 1,σ7,H7,I7.unpinned,T.keep _ _ _ st5 λ b hb o e=>(I7.pin (b,o) (List.mem_append_right _ (List.mem_append_right _ (mem_pinsAt hb e)))).1,λ b hb=>?_,w7⟩
     obtain ⟨o,e,d⟩:=T.obj _ _ st5 b hb
     exact (I7.pin (b,o) (List.mem_append_right _ (List.mem_append_right _ (mem_pinsAt hb e)))).2.1
   cases f with
   | next=>obtain ⟨σ7,H7,I7,n7⟩:=q7; exact again I7 n7
   | cont=>obtain ⟨σ7,H7,I7,n7⟩:=q7; exact again I7 n7
   | brk=>obtain ⟨σ7,H7,I7,q7⟩:=q7; exact ⟨σ7,H7,I7.unpinned,q7⟩
   | ret v=>obtain ⟨x7,σ7,H7,I7,r7,q7⟩:=q7; exact ⟨x7,σ7,H7,I7.unpinned,r7,q7⟩
end
section
variable {X:Cx}{C:Addr}{x:Str}{np hpos pos:Pos}{body suite:List Stmt}{b₀:Stmt}{tb:TSX}{ts:TS}
end
end L2
namespace L2
open PySem PySem.Spec PyProof.Rows
section
variable {t u r:TS}{D:Ends}{σ:St}{H:Hp}
abbrev Le (u u':TS):Prop := ∀ D σ H,u D σ H→u' D σ H
theorem Le.rfl:Le u u:=λ _ _ _ h=>h
theorem hid (k:∀ u',Le u u'→tSeq t u' D σ H):tSeq t u D σ H:=k u Le.rfl
theorem hidSI {c:TT}(k:∀ t' u' r',Le t t'→Le u u'→Le r r'→tSeq (tIfS c t' u') r' D σ H):tSeq (tIfS c t u) r D σ H:=k t u r Le.rfl Le.rfl Le.rfl
theorem hidF {wi:TI}{g:TG}(k:∀ t',Le t t'→tFor wi g t' D σ H):tFor wi g t D σ H:=k t Le.rfl
abbrev LeX (u u':TSX):Prop := ∀ D R σ H,u D R σ H→u' D R σ H
theorem LeX.rfl {u:TSX}:LeX u u:=λ _ _ _ _ h=>h
theorem hidX {t u:TSX}{R:XR}(k:∀ u',LeX u u'→txSeq t u' D R σ H):txSeq t u D R σ H:=k u LeX.rfl
theorem hidN {te:TE}{i:Nat}(k:∀ Q:V→Hp→Prop,(∀ x H1,u D (σ.set i (some x)) H1→Q x H1)→te σ H Q):tSeq (tAsg te (gName i)) u D σ H:=k _ λ _ _ h=>h
theorem hidD {te:TE}(k:∀ Q:V→Hp→Prop,(∀ x H1,u D σ H1→Q x H1)→te σ H Q):tSeq (tDrop te) u D σ H:=k _ λ _ _ h=>h
theorem hidR {te:TE}(k:∀ Q:V→Hp→Prop,(∀ x H1,D.rt x H1→Q x H1)→te σ H Q):tRet te D σ H:=k _ λ _ _ h=>h
theorem bQ {A B:Hp→Prop}{Q:Bool→Hp→Prop}(e:Q=λ b H1=>if b=true then A H1 else B H1):(∀ H1,A H1→Q true H1)∧∀ H1,B H1→Q false H1:=by
 subst e
 exact ⟨λ _ h=>iteT h,λ _ h=>iteF h⟩
theorem hidC {c:TT}(k:∀ Q:Bool→Hp→Prop,(∀ H1,t { D with nx:=r D } σ H1→Q true H1)→(∀ H1,r D σ H1→Q false H1)→c σ H Q):tSeq (tIfS c t tNext) r D σ H:=k _ (bQ rfl).1 (bQ (A:=λ H1=>t { D with nx:=r D } σ H1) rfl).2
theorem hidCL {c:TT}(k:∀ Q:Bool→Hp→Prop,(∀ H1,t D σ H1→Q true H1)→(∀ H1,D.nx σ H1→Q false H1)→c σ H Q):tIfS c t tNext D σ H:=k _ (bQ rfl).1 (bQ (A:=λ H1=>t D σ H1) rfl).2
theorem iteB {Q:Bool→Hp→Prop}{b:Bool}{H:Hp}(t:b=true→Q true H) (f:¬ b=true→Q false H):Q b H:=by
 cases b
 · exact f (by intro z; cases z)
 · exact t rfl
theorem hidXC {t r:TSX}{R:XR}{c:TT}(k:∀ Q:Bool→Hp→Prop,(∀ H1,t { D with nx:=r D R } R σ H1→Q true H1)→(∀ H1,r D R σ H1→Q false H1)→c σ H Q):txSeq (txIf c t txNext) r D R σ H:=k _ (bQ rfl).1 (bQ (A:=λ H1=>t { D with nx:=r D R } R σ H1) rfl).2
theorem hidXN {tx:TEX}{i:Nat}{u:TSX}{R:XR}(k:∀ Q:V→Hp→Prop,(∀ x H1,u D R (σ.set i (some x)) H1→Q x H1)→tx σ H Q (R σ)):txSeq (txSet tx i) u D R σ H:=k _ λ _ _ h=>h
theorem hidXD {tx:TEX}{u:TSX}{R:XR}(k:∀ Q:V→Hp→Prop,(∀ x H1,u D R σ H1→Q x H1)→tx σ H Q (R σ)):txSeq (txDrop tx) u D R σ H:=k _ λ _ _ h=>h
def Ev (te:TE) (σ:St) (H:Hp) (v:V):Prop := ∀ Q:V→Hp→Prop,Q v H→te σ H Q
theorem ev_v {i:Nat}{v:V}(h:σ[i]? = some (some v)):Ev (tVar i) σ H v:=λ _ q=>⟨_,h,q⟩
theorem ev_c {v:V}:Ev (tC v) σ H v:=λ _ q=>q
theorem ev_T {K:PySem.W.Frag}{ta tb:TE}{p:Addr}{xs:List V}{i:Int}{v:V}(a:Ev ta σ H (.ref p)) (b:Ev tb σ H (.int i)) (s:SqT K H p xs) (e:atI xs i=some v):Ev (tOp (rIxT K) ta tb) σ H v:=λ _ q=>a _ (b _ ⟨_,_,_,_,rfl,rfl,s,e,q⟩)
theorem eqF {ta tb:TE}{x y:V}{Q:Bool→Hp→Prop}(a:Ev ta σ H x) (b:Ev tb σ H y) (s:scal x y=true) (n:¬ x=y) (q:Q false H):tTest (tOp rEq ta tb) σ H Q:=a _ (b _ ⟨s,_,rfl,by rw [decide_eq_false n]; exact q⟩)
theorem eqT {ta tb:TE}{x:V}{Q:Bool→Hp→Prop}(a:Ev ta σ H x) (b:Ev tb σ H x) (s:scal x x=true) (q:Q true H):tTest (tOp rEq ta tb) σ H Q:=a _ (b _ ⟨s,_,rfl,by rw [decide_eq_true rfl]; exact q⟩)
theorem share (Pr:St→Hp→Prop) (mk:∀ u',(∀ σ H,Pr σ H→u' D σ H)→tSeq t u' D σ H) (h:∀ σ H,Pr σ H→u D σ H):tSeq t u D σ H:=mk u h
end
end L2
namespace L2
open PySem PySem.Spec PyProof.Rows
section
variable {κ:Type} [DecidableEq κ]
def valV (kvs:List (κ×V)) (k:κ):Option V:=(kvs.find? λ kv=>decide (kv.1=k)).map (·.2)
def putK (kvs:List (κ×V)) (k:κ) (v:V):List (κ×V) :=
 if (kvs.any λ kv=>decide (kv.1=k))=true then kvs.map (λ kv=>if kv.1=k then (kv.1,v) else kv) else kvs ++ [(k,v)]
def dropK (kvs:List (κ×V)) (k:κ):List (κ×V):=kvs.filter λ kv=>decide (kv.1≠k)
theorem valV_pos {p:κ×V}{r:List (κ×V)}{k:κ}(e:p.1=k):valV (p :: r) k=some p.2:=by simp [valV,List.find?_cons,e]
theorem valV_neg {p:κ×V}{r:List (κ×V)}{k:κ}(e:¬ p.1=k):valV (p :: r) k=valV r k:=by simp [valV,List.find?_cons,e]
theorem valV_any (k:κ):∀ kvs:List (κ×V),(kvs.any λ kv=>decide (kv.1=k))=(valV kvs k).isSome
 | []=>rfl
 | p :: r=>by
   rw [List.any_cons]
   by_cases e:p.1=k
   · simp only [valV_pos e,decide_eq_true e,Bool.true_or,Option.isSome_some]
   · rw [valV_neg e,decide_eq_false e,Bool.false_or]; exact valV_any k r
theorem length_putK (kvs:List (κ×V)) (k:κ) (v:V):(putK kvs k v).length≤kvs.length + 1:=by
 unfold putK
 split
 · rw [List.length_map]; lia
 · rw [List.length_append,List.length_cons,List.length_nil]; lia
theorem putK_new {kvs:List (κ×V)}{k:κ}(v:V) (h:valV kvs k=none):putK kvs k v=kvs ++ [(k,v)]:=by
 unfold putK
 rw [valV_any,h]
 exact if_neg (by decide)
theorem RelO.isSome_eq {o:Option V}{u:Option Value}(r:RelO o u):o.isSome=u.isSome:=by
 cases o with
 | none=>cases u with
   | none=>rfl
   | some _=>exact (show False from r).elim
 | some _=>cases u with
   | none=>exact (show False from r).elim
   | some _=>rfl
theorem KV.val {kvs:List (κ×V)}{vs:List (κ×Value)}(r:KV kvs vs) (k:κ):RelO (valV kvs k) (valueAt vs k):=by
 unfold KV at r
 induction r with
 | nil=>exact True.intro
 | @cons p q ps qs h t ih =>
   obtain ⟨h1,h2⟩:=h
   by_cases e:p.1=k
   · have e':q.1=k:=h1.symm.trans e
     have b:valueAt (q :: qs) k=some q.2:=by simp [valueAt,List.find?_cons,e']
     rw [valV_pos e,b]; exact h2
   · have e':¬ q.1=k:=λ z=>e (h1.trans z)
     have b:valueAt (q :: qs) k=valueAt qs k:=by simp [valueAt,List.find?_cons,e']
     rw [valV_neg e,b]; exact ih
theorem KV.any {kvs:List (κ×V)}{vs:List (κ×Value)}(r:KV kvs vs) (k:κ):(kvs.any λ kv=>decide (kv.1=k))=vs.any λ kv=>decide (kv.1=k):=by
 unfold KV at r
 induction r with
 | nil=>rfl
 | cons h t ih=>rw [List.any_cons,List.any_cons,ih,h.1]
theorem KV.repl {kvs:List (κ×V)}{vs:List (κ×Value)}(r:KV kvs vs) (k:κ) {y:V}{u:Value}(ry:RelV y u) :
   KV (kvs.map λ kv=>if kv.1=k then (kv.1,y) else kv) (vs.map λ kv=>if kv.1=k then (kv.1,u) else kv):=by
 unfold KV at r ⊢
 induction r with
 | nil=>exact .nil
 | @cons p q ps qs h t ih =>
   rw [List.map_cons,List.map_cons]
   refine .cons ?_ ih
   obtain ⟨h1,h2⟩:=h
   by_cases e:p.1=k
   · rw [if_pos e,if_pos (h1.symm.trans e)]; exact ⟨h1,ry⟩
   · rw [if_neg e,if_neg (λ z=>e (h1.trans z))]; exact ⟨h1,h2⟩
theorem KV.put {kvs:List (κ×V)}{vs:List (κ×Value)}(r:KV kvs vs) (k:κ) {y:V}{u:Value}(ry:RelV y u):KV (putK kvs k y) (stored vs k u):=by
 unfold putK stored
 rw [r.any k]
 by_cases e:(vs.any λ kv=>decide (kv.1=k))=true
 · rw [if_pos e,if_pos e]; exact r.repl k ry
 · rw [if_neg e,if_neg e]; exact Paired.snoc r ⟨rfl,ry⟩
theorem KV.drop {kvs:List (κ×V)}{vs:List (κ×Value)}(r:KV kvs vs) (k:κ):KV (dropK kvs k) (without vs k):=by
 unfold KV at r ⊢
 unfold dropK without
 induction r with
 | nil=>exact .nil
 | @cons p q ps qs h t ih =>
   obtain ⟨h1,h2⟩:=h
   rw [List.filter_cons,List.filter_cons]
   by_cases e:p.1=k
   · have a:¬ decide (p.1≠k)=true:=by simp [e]
     have b:¬ decide (q.1≠k)=true:=by simp [h1.symm.trans e]
     rw [if_neg a,if_neg b]; exact ih
   · have e':¬ q.1=k:=λ z=>e (h1.trans z)
     have a:decide (p.1≠k)=true:=by simp [e]
     have b:decide (q.1≠k)=true:=by simp [e']
     rw [if_pos a,if_pos b]; exact .cons ⟨h1,h2⟩ ih
theorem KV.keys {kvs:List (κ×V)}{vs:List (κ×Value)}(r:KV kvs vs):kvs.map (·.1)=vs.map (·.1):=by
 unfold KV at r
 induction r with
 | nil=>rfl
 | cons h t ih=>rw [List.map_cons,List.map_cons,ih,h.1]
theorem KV.length {kvs:List (κ×V)}{vs:List (κ×Value)}(r:KV kvs vs):kvs.length=vs.length:=Paired.length r
theorem dropK_le (kvs:List (κ×V)) (k:κ):(dropK kvs k).length≤kvs.length:=List.length_filter_le _ _
end
theorem kV_is {P:Program}{w:World}{k:Key}{u:Value}(r:RelV (kV k) u):(mixKind P w).is k u=true:=by
 cases k with
 | inl i=>obtain ⟨t,e⟩:=(show ∃ t,u=Value.int i t from r); subst e; exact mixKind_int P w i t
 | inr x=>obtain ⟨t,e⟩:=(show ∃ t,u=Value.str x t from r); subst e; exact mixKind_str P w x t
theorem items_are {P:Program}{w:World}:∀ {ks:List Key}{us:List Value},Vals (ks.map kV) us→ItemsAre (mixKind P w) ks us
 | [],_,r=>by rw [List.map_nil] at r; cases r; exact .nil
 | k :: ks,_,r=>by
   rw [List.map_cons] at r
   cases r with
   | cons h t=>exact .cons (kV_is h) (items_are t)
abbrev KT (H:Hp):List (List Key×V)→List (List Key×Addr×Value)→Prop:=Paired λ p q=>p.1=q.1∧H q.2.1=some (.tup (p.1.map kV))∧RelV p.2 q.2.2
theorem KT.val {H:Hp}{kvs:List (List Key×V)}{xs:List (List Key×Addr×Value)}(r:KT H kvs xs) (k:List Key):RelO (valV kvs k) ((atKey xs k).map (·.2)):=by
 induction r with
 | nil=>exact True.intro
 | @cons p q ps qs h t ih =>
   obtain ⟨h1,_,h2⟩:=h
   by_cases e:p.1=k
   · have e':q.1=k:=h1.symm.trans e
     have b:atKey (q :: qs) k=some q.2:=by simp [atKey,List.find?_cons,e']
     rw [valV_pos e,b]; exact h2
   · have e':¬ q.1=k:=λ z=>e (h1.trans z)
     have b:atKey (q :: qs) k=atKey qs k:=by simp [atKey,List.find?_cons,e']
     rw [valV_neg e,b]; exact ih
theorem KT.repl {H:Hp}{kvs:List (List Key×V)}{xs:List (List Key×Addr×Value)}(r:KT H kvs xs) (k:List Key) {y:V}{u:Value}(ry:RelV y u) :
   KT H (kvs.map λ kv=>if kv.1=k then (kv.1,y) else kv) (xs.map (putAt k u)):=by
 induction r with
 | nil=>exact .nil
 | @cons p q ps qs h t ih =>
   rw [List.map_cons,List.map_cons]
   refine .cons ?_ ih
   obtain ⟨h1,h2,h3⟩:=h
   unfold putAt
   by_cases e:p.1=k
   · rw [if_pos e,if_pos (h1.symm.trans e)]; exact ⟨h1,h2,ry⟩
   · rw [if_neg e,if_neg (λ z=>e (h1.trans z))]; exact ⟨h1,h2,h3⟩
theorem KT.put {H:Hp}{kvs:List (List Key×V)}{xs:List (List Key×Addr×Value)}(r:KT H kvs xs) (k:List Key) {b:Addr}{y:V}{u:Value}(hb:H b=some (.tup (k.map kV))) (ry:RelV y u) :
   KT H (putK kvs k y) (storedH xs k b u):=by
 have e:(kvs.any λ kv=>decide (kv.1=k))=(atKey xs k).isSome:=by
   rw [valV_any,(r.val k).isSome_eq,Option.isSome_map]
 unfold putK storedH
 rw [e]
 by_cases q:(atKey xs k).isSome=true
 · rw [if_pos q,if_pos q]; exact r.repl k ry
 · rw [if_neg q,if_neg q]; exact Paired.snoc r ⟨rfl,hb,ry⟩
theorem KT.keeps {H H':Hp}{kvs:List (List Key×V)}{xs:List (List Key×Addr×Value)}(r:KT H kvs xs) (ht:∀ b ys,H b=some (.tup ys)→H' b=some (.tup ys)):KT H' kvs xs :=
 Paired.mapP r λ _ _ z=>⟨z.1,ht _ _ z.2.1,z.2.2⟩
section
variable {P:Program}{w:World}{H:Hp}{h:Heap}{a:Addr}
theorem rd_of {u:HO}(ok:HOk P w H h) (e:Rd H a u):ObjOk P w H h a u:=e.ok ok
theorem dk_rd {kvs:List (Key×V)}(ok:HOk P w H h) (e:Rd H a (.dK kvs)):kvs.length≤sizeLine∧(a == sysModules)=false∧∃ vs,KV kvs vs∧h.DictOf (mixKind P w) a vs :=
 show ObjOk P w H h a (.dK kvs) from rd_of ok e
theorem dk_of {kvs:List (Key×V)}(ok:HOk P w H h) (e:H a=some (.dK kvs)):kvs.length≤sizeLine∧(a == sysModules)=false∧∃ vs,KV kvs vs∧h.DictOf (mixKind P w) a vs:=dk_rd ok (.inl e)
theorem key_of {ks:List Key}(ok:HOk P w H h) (e:H a=some (.tup (ks.map kV))):(tupleKind (mixKind P w)).is h ks a:=by
 obtain ⟨_,its,r,o,h1,h2,n,h3⟩:=(show ObjOk P w H h a (.tup (ks.map kV)) from ok a _ e)
 exact ⟨o,its.toArray,n,h1,h2,h3,by simpa using items_are r⟩
theorem dt_rd {kvs:List (List Key×V)}(ok:HOk P w H h) (e:Rd H a (.dT kvs)):kvs.length≤sizeLine∧(a == sysModules)=false ∧
   ∃ xs,KT H kvs xs∧h.DictOfH (tupleKind (mixKind P w)) a xs:=by
 obtain ⟨z,y,xs,r,o,es,ep,h1,h2,h3,h4,h5⟩:=(show ObjOk P w H h a (.dT kvs) from rd_of ok e)
 refine ⟨z,y,xs,r,o,es,ep,h1,h2,h3,h4,λ x hx=>?_,h5⟩
 have all:∀ {l:List (List Key×V)}{m:List (List Key×Addr×Value)},KT H l m→∀ x∈m,(tupleKind (mixKind P w)).is h x.1 x.2.1:=by
   intro l m q
   induction q with
   | nil=>intro x hx; exact nomatch hx
   | @cons p q ps qs hq t ih =>
     intro x hx
     rcases List.mem_cons.mp hx with e | hx
     · subst e
       exact key_of ok (by rw [← hq.1]; exact hq.2.1)
     · exact ih x hx
 exact all r x hx
theorem dt_of {kvs:List (List Key×V)}(ok:HOk P w H h) (e:H a=some (.dT kvs)):kvs.length≤sizeLine∧(a == sysModules)=false ∧
   ∃ xs,KT H kvs xs∧h.DictOfH (tupleKind (mixKind P w)) a xs:=dt_rd ok (.inl e)
end
def DGet (H:Hp) (a:Addr) (y:V) (r:Option V):Prop :=
 (∃ kvs k,Rd H a (.dK kvs)∧y=kV k∧r=valV kvs k)∨∃ kvs k b,Rd H a (.dT kvs)∧y=.ref b∧H b=some (.tup (k.map kV))∧r=valV kvs k
def DPut (H:Hp) (a:Addr) (y v:V) (H':Hp):Prop :=
 (∃ kvs k,H a=some (.dK kvs)∧y=kV k∧kvs.length < sizeLine∧H'=upd H a (.dK (putK kvs k v))) ∨
 ∃ kvs k b,H a=some (.dT kvs)∧y=.ref b∧H b=some (.tup (k.map kV))∧kvs.length < sizeLine∧H'=upd H a (.dT (putK kvs k v))
theorem DGet.k {H:Hp}{a:Addr}{kvs:List (Key×V)}{k:Key}(e:H a=some (.dK kvs)):DGet H a (kV k) (valV kvs k):=.inl ⟨kvs,k,.inl e,rfl,rfl⟩
theorem DPut.k {H:Hp}{a:Addr}{kvs:List (Key×V)}{k:Key}{v:V}(e:H a=some (.dK kvs)) (hl:kvs.length < sizeLine):DPut H a (kV k) v (upd H a (.dK (putK kvs k v))):=.inl ⟨kvs,k,e,rfl,hl,rfl⟩
section
variable {X:Cx}{pins:List (Addr×Obj)}{σ:St}{H:Hp}{s:Shared}{a:Addr}{y v:V}{u r:Value}{o:Option V}{A:Around}{E:Value→Shared→Prop}
theorem Inv.big (I:Inv X pins σ H s):sysModules < s.heap.objs.size:=by
 have h:mainGlobals < s.heap.objs.size:=(I.mod.glob.keeps I.bk).lt
 exact Nat.lt_trans (by decide) h
theorem d_getItem {Q:Value→Shared→Prop}(hu:A.units + 1 < cLine) (I:Inv X pins σ H s) (g:DGet H a y (some v)) (ry:RelV y u) (h:∀ w' s',Inv X pins σ H s'→RelV v w'→Q w' s') :
   wpAny (model X.prog X.w) A (getItem (.ref a) u) Q E s:=by
 rcases g with ⟨kvs,k,e,ey,l⟩ | ⟨kvs,k,b,e,ey,eb,l⟩
 · subst ey
   obtain ⟨z,hd,vs,rel,dd⟩:=dk_rd I.hok e
   obtain ⟨w',hw,rw'⟩:=RelO.some_of (v:=v) (o:=valueAt vs k) (by rw [l]; exact rel.val k)
   exact wpAny_getItem_of (kV_is ry) dd.mapOf hw (h w' _ (I.tok _) rw')
 · subst ey
   cases (show u=Value.ref b from ry)
   obtain ⟨z,hd,xs,rel,dd⟩:=dt_rd I.hok e
   obtain ⟨w',hw,rw'⟩:=RelO.some_of (v:=v) (o:=(atKey xs k).map (·.2)) (by rw [l]; exact rel.val k)
   obtain ⟨p,hp,hp2⟩:=Option.map_eq_some_iff.mp hw
   refine wpAny_getItem_heap (tupleKind_room_in1 hu) (key_of I.hok eb) dd hp ?_
   rw [hp2]
   exact h w' _ (I.tok _) rw'
theorem d_in {Q:Value→Shared→Prop}(hu:A.units + 1 < cLine) (I:Inv X pins σ H s) (g:DGet H a y o) (ry:RelV y u) (h:∀ s',Inv X pins σ H s'→Q (.bool o.isSome) s') :
   wpAny (model X.prog X.w) A (compareOp .In u (.ref a)) Q E s:=by
 rcases g with ⟨kvs,k,e,ey,l⟩ | ⟨kvs,k,b,e,ey,eb,l⟩
 · subst ey
   obtain ⟨z,hd,vs,rel,dd⟩:=dk_rd I.hok e
   refine wpAny_in_of (kV_is ry) hd dd.mapOf ?_
   rw [← (rel.val k).isSome_eq, ← l]
   exact h _ (I.tok _)
 · subst ey
   cases (show u=Value.ref b from ry)
   obtain ⟨z,hd,xs,rel,dd⟩:=dt_rd I.hok e
   refine wpAny_in_heap (tupleKind_room_in1 hu) (key_of I.hok eb) hd dd ?_
   have q:=(rel.val k).isSome_eq
   rw [Option.isSome_map] at q
   rw [← q, ← l]
   exact h _ (I.tok _)
theorem d_notIn {Q:Value→Shared→Prop}(hu:A.units + 1 < cLine) (I:Inv X pins σ H s) (g:DGet H a y o) (ry:RelV y u) (h:∀ s',Inv X pins σ H s'→Q (.bool (!o.isSome)) s') :
   wpAny (model X.prog X.w) A (compareOp .NotIn u (.ref a)) Q E s:=by
 rcases g with ⟨kvs,k,e,ey,l⟩ | ⟨kvs,k,b,e,ey,eb,l⟩
 · subst ey
   obtain ⟨z,hd,vs,rel,dd⟩:=dk_rd I.hok e
   refine wpAny_notIn_of (kV_is ry) hd dd.mapOf ?_
   rw [← (rel.val k).isSome_eq, ← l]
   exact h _ (I.tok _)
 · subst ey
   cases (show u=Value.ref b from ry)
   obtain ⟨z,hd,xs,rel,dd⟩:=dt_rd I.hok e
   refine wpAny_notIn_heap (tupleKind_room_in1 hu) (key_of I.hok eb) hd dd ?_
   have q:=(rel.val k).isSome_eq
   rw [Option.isSome_map] at q
   rw [← q, ← l]
   exact h _ (I.tok _)
theorem d_write {h':Heap}{t':Nat}{ob:HO}(I:Inv X pins σ H s) (mu:Mut (H a)) (hs:Heap.SameBut a s.heap h') (he:∃ q,h'.get? a=some q) (new:ObjOk X.prog X.w (upd H a ob) h' a ob) :
   Inv X pins σ (upd H a ob) { s with heap:=h',toks:=t' } :=
 I.write (x:=a) (e:=a) mu (.inl rfl) (λ b q hb z=>(hs.2 b hb).trans z) he new
theorem dk_new {P:Program}{w:World}{H':Hp}{h':Heap}{kvs:List (Key×V)}{vs:List (Key×Value)}(z:kvs.length≤sizeLine) (hd:(a == sysModules)=false) (rel:KV kvs vs) (dd:h'.DictOf (mixKind P w) a vs) :
   ObjOk P w H' h' a (.dK kvs):=⟨z,hd,vs,rel,dd⟩
theorem d_setItem {H':Hp}{Q:Unit→Shared→Prop}(hu:A.units + 1 < cLine) (I:Inv X pins σ H s) (g:DPut H a y v H') (ry:RelV y u) (rv:RelV v r) (h:∀ s',Inv X pins σ H' s'→Q () s') :
   wpAny (model X.prog X.w) A (setItem (.ref a) u r) Q E s:=by
 rcases g with ⟨kvs,k,e,ey,l,eH⟩ | ⟨kvs,k,b,e,ey,eb,l,eH⟩
 · subst ey eH
   obtain ⟨z,hd,vs,rel,dd⟩:=dk_of I.hok e
   have hz:vs.length≤sizeLine:=by rw [← rel.length]; exact z
   have hl:(putK kvs k v).length≤sizeLine:=by have:=length_putK kvs k v; lia
   refine wpAny_setItem_pairs (hsz:=hz) (kV_is ry) dd λ h' dd' hs=>h _ ?_
   have he:∃ q,h'.get? a=some q:=let ⟨q,_,_,hq,_⟩:=dd'; ⟨q,hq⟩
   exact d_write I (by rw [e]; exact True.intro) hs he (dk_new hl hd (rel.put k rv) dd')
 · subst ey eH
   cases (show u=Value.ref b from ry)
   obtain ⟨z,hd,xs,rel,dd⟩:=dt_of I.hok e
   have hz:xs.length≤sizeLine:=by rw [← Paired.length rel]; exact z
   have hl:(putK kvs k v).length≤sizeLine:=by have:=length_putK kvs k v; lia
   refine wpAny_setItem_heap (hsz:=hz) (tupleKind_room_in1 hu) (key_of I.hok eb) dd λ h' dd' hs=>h _ ?_
   obtain ⟨q,es,ep,hq,h2,h3,h4,_,h5⟩:=dd'
   refine d_write I (by rw [e]; exact True.intro) hs ⟨q,hq⟩ ⟨hl,hd,_,(rel.put k eb rv).keeps λ c ys ec=>?_,q,es,ep,hq,h2,h3,h4,h5⟩
   rw [upd_ne (ne_of ec e (λ z=>nomatch z))]
   exact ec
end
section
variable {X:Cx}{pins:List (Addr×Obj)}{σ:St}{H:Hp}{s:Shared}{a:Addr}{kvs:List (Key×V)}{k:Key}{u:Value}{A:Around}{E:Value→Shared→Prop}
theorem d_pop {v:V}{more:List Value}{Q:Value→Shared→Prop}(I:Inv X pins σ H s) (e:H a=some (.dK kvs)) (ry:RelV (kV k) u) (l:valV kvs k=some v) (hm:more=[]∨∃ x,more=[x])
   (h:∀ w' s',Inv X pins σ (upd H a (.dK (dropK kvs k))) s'→RelV v w'→Q w' s'):wpAny (model X.prog X.w) A (call (.builtin "dict.pop") (.ref a :: u :: more)) Q E s:=by
 obtain ⟨z,hd,vs,rel,dd⟩:=dk_of I.hok e
 obtain ⟨w',hw,rw'⟩:=RelO.some_of (v:=v) (o:=valueAt vs k) (by rw [← l]; exact rel.val k)
 have hp:(keyPart u).isSome=true:=by
   cases k with
   | inl i=>obtain ⟨t,q⟩:=(show ∃ t,u=Value.int i t from ry); subst q; rfl
   | inr x=>obtain ⟨t,q⟩:=(show ∃ t,u=Value.str x t from ry); subst q; rfl
 have ha:argsOk "dict.pop" ⟨.ref a :: u :: more,[]⟩:=by
   rcases hm with q | ⟨x,q⟩
   · subst q; exact PySem.F.args_dict_pop_2 _ _
   · subst q; exact PySem.F.args_dict_pop_3 _ _ _
 refine call_meetsIn PySem.F.slot_dict_pop dd.typeIs PySem.F.entry_dict_pop ha (meets_dict_pop_there (mixKind X.prog X.w) a (kV_is ry) more hm hp)
   ⟨vs,w',dd,by rw [← rel.length]; exact z,hw,λ h' dd' hs=>h w' _ ?_ rw'⟩
 have he:∃ q,h'.get? a=some q:=let ⟨q,_,_,hq,_⟩:=dd'; ⟨q,hq⟩
 exact d_write I (by rw [e]; exact True.intro) hs he (dk_new (Nat.le_trans (dropK_le kvs k) z) hd (rel.drop k) dd')
theorem d_len {Q:Value→Shared→Prop}(I:Inv X pins σ H s) (e:Rd H a (.dK kvs)) (h:∀ t s',Inv X pins σ H s'→Q (.int kvs.length t) s'):wpAny (model X.prog X.w) A (call (.builtin "len") [.ref a]) Q E s:=by
 obtain ⟨z,hd,vs,rel,dd⟩:=dk_rd I.hok e
 refine call_len_dict hd dd (by rw [← rel.length]; rw [sizeLine_eq] at z; lia) ?_
 rw [← rel.length]
 exact h _ _ (I.tok _)
end
def NoSl (i:Expr):Prop := ∀ ov iv,subscripted i false ov iv=operate [ov,iv] (getItem ov iv)
theorem subD_of {prog:Program}{w:World}{A:Around}{E:Value→Shared→Prop}{s:Shared}{env:Env}{value slice:Expr}{pos:Pos}{T id:String}{Q:Value→Shared→Prop}
   (hl:typeLookup (.type T) "__getitem__" = pure (some (.builtin id))) (hs:NoSl slice)
   (h:wpAny (model prog w) A (eval value env) (λ o s₁=>wpAny (model prog w) A (eval slice env) (λ i s₂=>s₂.TypeIs o T∧wpAny (model prog w) A (getItem o i) Q E s₂) E s₁) E s) :
   wpAny (model prog w) A (eval (.Subscript value slice pos) env) Q E s:=by
 refine Subscript_ (wpAny_mono h (λ o s₁ h₁=>wpAny_mono h₁ (λ i s₂ h₂=>?_) λ _ _ x=>x) λ _ _ x=>x)
 obtain ⟨hT,h₂⟩:=h₂
 unfold subscriptTail
 refine wpAny_bind ?_
 rw [getitemInPython_of_ne hT.not_modules]
 refine wpAny_bind (wpAny_specialOf hT hl ?_)
 have fin:wpAny (model prog w) A (subscripted slice false o i) (λ r s₃=>wpAny (model prog w) A (letTemporaryGo value o r >>= λ _=>pure r) Q E s₃) E s₂:=by
   rw [hs o i]
   exact wpAny_operating (wpAny_mono h₂ (λ r s₃ h₃=>wpAny_bind (wpAny_letTemporaryGo (wpAny_pure h₃))) λ _ _ x=>x)
 first
   | exact wpAny_pure (wpAny_bind fin)
   | exact wpAny_bind (wpAny_pure (wpAny_bind fin))
   | exact wpAny_bind fin
theorem dict_typeIs {X:Cx}{pins:List (Addr×Obj)}{σ:St}{H:Hp}{s:Shared}{a:Addr}{y:V}{o:Option V}(I:Inv X pins σ H s) (g:DGet H a y o):s.TypeIs (.ref a) "dict" := by
 rcases g with ⟨kvs,k,e,_,_⟩ | ⟨kvs,k,b,e,_,_,_⟩
 · obtain ⟨_,_,vs,_,dd⟩:=dk_rd I.hok e
   exact dd.typeIs
 · obtain ⟨_,_,xs,_,dd⟩:=dt_rd I.hok e
   exact dd.typeIs
def tDGet (td ty:TE):TE:=λ σ H Q=>td σ H λ x H1=>ty σ H1 λ y H2 => ∃ a v,x=.ref a∧DGet H2 a y (some v)∧Q v H2
def tDIn (ty td:TE):TE:=λ σ H Q=>ty σ H λ y H1=>td σ H1 λ x H2 => ∃ a o,x=.ref a∧DGet H2 a y o∧Q (.bl o.isSome) H2
def tDNotIn (ty td:TE):TE:=λ σ H Q=>ty σ H λ y H1=>td σ H1 λ x H2 => ∃ a o,x=.ref a∧DGet H2 a y o∧Q (.bl (!o.isSome)) H2
def sDPut (td ty tv:TE):TS:=λ D σ H=>tv σ H λ v H1=>td σ H1 λ x H2=>ty σ H2 λ y H3 => ∃ a H4,x=.ref a∧DPut H3 a y v H4∧D.nx σ H4
section
variable {X:Cx}{o i e value:Expr}{pos pos' tpos:Pos}{td ty tv:TE}
theorem pe_dget (hu:X.A.units + 1 < cLine) (ho:PE X o td) (hi:PE X i ty) (hs:NoSl i):PE X (.Subscript o i pos) (tDGet td ty):=by
 intro pins s σ H Q I h
 refine subD_of PySem.F.slot_dict_getitem.lookup hs (thn (ho pins s σ H _ I h) λ u s1 ⟨x,H1,I1,rx,q1⟩=>thn (hi pins s1 σ H1 _ I1 q1) λ iv s2 ⟨y,H2,I2,ry,a,v,ex,g,q2⟩=>?_)
 subst ex
 obtain rfl:u=Value.ref a:=rx
 exact ⟨dict_typeIs I2 g,d_getItem hu I2 g ry λ w' s3 I3 rw'=>⟨v,H2,I3,rw',q2⟩⟩
theorem pc_din (hu:X.A.units + 1 < cLine) (hi:PE X i ty) (ho:PE X o td):PC X .In i o (tDIn ty td):=by
 intro pins s σ H Q I h
 refine thn (hi pins s σ H _ I h) λ iv s1 ⟨y,H1,I1,ry,q1⟩=>thn (ho pins s1 σ H1 _ I1 q1) λ u s2 ⟨x,H2,I2,rx,a,ov,ex,g,q2⟩=>?_
 subst ex
 obtain rfl:u=Value.ref a:=rx
 exact d_in hu I2 g ry λ s3 I3=>⟨.bl ov.isSome,H2,I3,rfl,q2⟩
theorem pc_dnotin (hu:X.A.units + 1 < cLine) (hi:PE X i ty) (ho:PE X o td):PC X .NotIn i o (tDNotIn ty td):=by
 intro pins s σ H Q I h
 refine thn (hi pins s σ H _ I h) λ iv s1 ⟨y,H1,I1,ry,q1⟩=>thn (ho pins s1 σ H1 _ I1 q1) λ u s2 ⟨x,H2,I2,rx,a,ov,ex,g,q2⟩=>?_
 subst ex
 obtain rfl:u=Value.ref a:=rx
 exact d_notIn hu I2 g ry λ s3 I3=>⟨.bl (!ov.isSome),H2,I3,rfl,q2⟩
theorem ps_dput (hu:X.A.units + 1 < cLine) (ho:PE X o td) (hi:PE X i ty) (hv:PE X value tv) (hs:swapsWith value (some (.Subscript o i pos')) pos.line X.env=pure false) :
   PS X (.Assign [.Subscript o i pos'] value pos) (sDPut td ty tv):=by
 intro pins s σ H D I h
 refine wpAny_Assign_Subscript (thn (hv pins s σ H _ I h) λ r s1 ⟨v,H1,I1,rv,q1⟩=>thn (ho pins s1 σ H1 _ I1 q1) λ u s2 ⟨x,H2,I2,rx,q2⟩=>thn (hi pins s2 σ H2 _ I2 q2) λ iv s3 ⟨y,H3,I3,ry,a,H4,ex,g,q3⟩=>?_) hs
 subst ex
 obtain rfl:u=Value.ref a:=rx
 exact d_setItem hu I3 g ry rv λ s4 I4=>⟨σ,H4,I4,q3⟩
end
theorem dk_empty {P:Program}{w:World}{H:Hp}(h:Heap) (hb:sysModules < h.objs.size):ObjOk P w H (h.push { cls:=.type "dict",data:=.dict #[] }) h.objs.size (.dK []) :=
 ⟨Nat.zero_le _,beq_eq_false_iff_ne.mpr (Ne.symm (Nat.ne_of_lt hb)),[],.nil,Heap.DictOf.new h⟩
def tDNewK:TE:=λ _ H Q => ∀ p,H p=none→Q (.ref p) (upd H p (.dK []))
section
variable {X:Cx}{pos:Pos}
theorem pe_dnewK:PE X (.Dict [] [] pos) tDNewK:=λ pins s σ H Q I h =>
 wpAny_Dict_empty ⟨.ref s.heap.objs.size,_,I.laid (a:=s.heap.objs.size) (o:=.dK []) (t':=s.toks) (λ _ _ q=>Heap.get?_push_of_some _ q) (Nat.le_refl _) (dk_empty s.heap I.big),rfl,h _ (I.hok.fresh (Nat.le_refl _))⟩
end
structure M1 (X:Cx) (o:Expr) (m:Str) (apos:Pos) (e:Expr) (cpos:Pos):Prop where
 base:attributeBase o m X.env (eval o X.env)=eval o X.env
 few:((backTo cpos (starEach [e] X.env)).all (λ x => !x.1) && (backToKw cpos (keywordEach [] X.env)).all (λ x=>x.1.isSome)
   && decide (([e]:List Expr).length + ([]:List Keyword).length + (if ([]:List Keyword).isEmpty then 0 else 1) < 30))=true
 line:(apos.endLine == cpos.line)=true
 trees:backTo cpos (starEach [e] X.env)=[(false,eval e X.env)]
def IsD (H:Hp) (a:Addr):Prop:=(∃ kvs,Rd H a (.dK kvs))∨∃ kvs,Rd H a (.dT kvs)
theorem isD_at {X:Cx}{pins:List (Addr×Obj)}{σ:St}{H:Hp}{s:Shared}{a:Addr}(I:Inv X pins σ H s) (d:IsD H a) :
   s.TypeIs (.ref a) "dict" ∧ (∀ b,Value.ref a=.ref b→∃ ob,s.heap.get? b=some ob∧ob.dict=none)∧(a == sysModules)=false:=by
 rcases d with ⟨kvs,e⟩ | ⟨kvs,e⟩
 · obtain ⟨_,hd,vs,_,dd⟩:=dk_rd I.hok e
   refine ⟨dd.typeIs,λ b q=>?_,hd⟩
   cases q
   obtain ⟨ob,_,_,h1,h2,_⟩:=dd
   exact ⟨ob,h1,h2.2.1⟩
 · obtain ⟨_,hd,xs,_,dd⟩:=dt_rd I.hok e
   refine ⟨dd.typeIs,λ b q=>?_,hd⟩
   cases q
   obtain ⟨ob,_,_,h1,h2,_⟩:=dd
   exact ⟨ob,h1,h2.2.1⟩
section
variable {X:Cx}{pins:List (Addr×Obj)}{σ:St}{H:Hp}{s:Shared}{a:Addr}{y d:V}{u r:Value}{o:Option V}{A:Around}{E:Value→Shared→Prop}
end
def tDPop1 (td ty:TE):TE:=λ σ H Q=>td σ H λ x H1 => ∃ a,x=.ref a∧IsD H1 a∧ty σ H1 λ y H2 => ∃ kvs k v,H2 a=some (.dK kvs)∧y=kV k∧valV kvs k=some v∧Q v (upd H2 a (.dK (dropK kvs k)))
section
variable {X:Cx}{o e f:Expr}{apos cpos:Pos}{td ty tx:TE}
theorem pe_dpop1 (ho:PE X o td) (he:PE X e ty) (m:M1 X o "pop" apos e cpos):PE X (.Call (.Attribute o "pop" apos) [e] [] cpos) (tDPop1 td ty):=by
 intro pins s σ H Q I h
 refine wpAny_Call_method m.base m.few m.line PySem.F.plainAttrs_dict PySem.F.slot_dict_pop PySem.F.type_dict_pop (thn (ho pins s σ H _ I h) λ u s1 ⟨x,H1,I1,rx,a,ex,d,q1⟩=>?_)
 subst ex
 obtain rfl:u=Value.ref a:=rx
 obtain ⟨t1,t2,_⟩:=isD_at I1 d
 refine ⟨t1,t2,?_⟩
 rw [m.trees]
 refine Calls.callWith_builtin rfl (Calls.evalArgs_plain (Calls.spliced_cons (thn (he pins s1 σ H1 _ I1 q1) λ iv s2 ⟨y,H2,I2,ry,kvs,k,v,ea,ey,l,q2⟩=>Calls.spliced_nil ?_)))
 subst ey
 exact d_pop I2 ea ry l (.inl rfl) λ w' s3 I3 rw'=>⟨v,_,I3,rw',q2⟩
end
section
variable {X:Cx}{pins:List (Addr×Obj)}{σ:St}{H:Hp}{s:Shared}{a:Addr}{kvs:List (Key×V)}{A:Around}{E:Value→Shared→Prop}
end
section
variable {X:Cx}{pins:List (Addr×Obj)}{σ:St}{H:Hp}{s:Shared}{a:Addr}{y:V}{u:Value}{A:Around}{E:Value→Shared→Prop}
end
end L2
namespace L2
open PySem PySem.Spec PyProof.Rows
section
variable {X:Cx}
theorem call_lenD:CallR X (.builtin "len") (λ xs H Q => ∃ a kvs,xs=[V.ref a]∧H a=some (.dK kvs)∧Q (.int kvs.length) H):=by
 intro pins s σ H xs us Q I r h
 obtain ⟨a,kvs,rfl,ha,q⟩:=h
 obtain ⟨u,rfl,ru⟩:=vals1 r
 cases ru
 exact d_len I (.inl ha) λ t s' I'=>⟨.int kvs.length,H,I',⟨t,rfl⟩,q⟩
end
section
variable {κ:Type} [DecidableEq κ]
end
end L2
namespace L2
open PySem PySem.Spec PyProof.Rows
section
variable {X:Cx}{pins:List (Addr×Obj)}{σ:St}{H:Hp}{s:Shared}{a:Addr}{kvs:List (Key×V)}{k:Key}{u r:Value}{d:V}{A:Around}{E:Value→Shared→Prop}
end
section
variable {X:Cx}{o e f:Expr}{apos cpos:Pos}{td ty tx:TE}
end
section
variable {X:Cx}{pins:List (Addr×Obj)}{σ:St}{H:Hp}{s:Shared}{a:Addr}{o:Obj}{u:HO}{kvs:List (Key×V)}
theorem Inv.swap {w:HO}(I:Inv X pins σ H s) (h:H a=some u) (h1:∀ o u',X.H₀ a≠some (.frz o u')) (h2:∀ xs,u≠.tup xs) (h3:∀ ps,u≠.tbl ps) (h4:∀ x,u≠.own x) (new:ObjOk X.prog X.w (upd H a w) s.heap a w):Inv X pins σ (upd H a w) s:=by
 have ne:∀ b,H b=none→b≠a:=λ b q z=>by rw [z,h] at q; cases q
 refine ⟨I.ok,I.os,I.bare,⟨I.base.keep,I.base.slot,λ b o q nn hx=>?_,I.base.there,λ b xs q=>?_,λ b o u' q=>?_,λ b ps q=>?_⟩,I.loc,I.cell,?_,λ y c q=>?_,λ p hp=>?_,λ b v q=>?_,I.len⟩
 · have z:=I.base.free b o q nn hx
   rw [upd_ne (ne b z)]; exact z
 · have z:=I.base.tups b xs q
   rw [upd_ne (λ e=>h2 xs (by rw [e,h] at z; exact Option.some.inj z))]; exact z
 · have z:=I.base.frzs b o u' q
   rw [upd_ne (λ e=>h1 o u' (by rw [← e]; exact q))]; exact z
 · obtain ⟨more,z⟩:=I.base.tbls b ps q
   exact ⟨more,by rw [upd_ne (λ e=>h3 _ (by rw [e,h] at z; exact Option.some.inj z))]; exact z⟩
 · rw [upd_ne (ne _ I.free)]; exact I.free
 · rw [upd_ne (ne _ (I.freeC y c q))]; exact I.freeC y c q
 · obtain ⟨a1,a2,a3⟩:=I.pin p hp
   exact ⟨a1,by rw [upd_ne (ne _ a2)]; exact a2,a3⟩
 · by_cases hb:b=a
   · subst hb
     rw [upd_same] at q
     cases q
     exact new
   · rw [upd_ne hb] at q
     exact (I.hok b v q).stay (λ _ _ _ z=>z) (λ c z=>by rw [upd_ne (λ e=>h4 b (by rw [e,h] at z; exact Option.some.inj z))]; exact z) λ c xs z=>by rw [upd_ne (λ e=>h2 xs (by rw [e,h] at z; exact Option.some.inj z))]; exact z
theorem Inv.freeze (I:Inv X pins σ H s) (h:H a=some (.dK kvs)) (ho:s.heap.get? a=some o) (h1:∀ o u',X.H₀ a≠some (.frz o u')):Inv X pins σ (upd H a (.frz o (.dK kvs))) s :=
 I.swap h h1 (λ _ z=>nomatch z) (λ _ z=>nomatch z) (λ _ z=>nomatch z) ⟨ho,(show ObjOk X.prog X.w H s.heap a (.dK kvs) from I.hok a _ h)⟩
theorem Inv.thaw (I:Inv X pins σ H s) (h:H a=some (.frz o (.dK kvs))) (h1:∀ o u',X.H₀ a≠some (.frz o u')):Inv X pins σ (upd H a (.dK kvs)) s :=
 I.swap h h1 (λ _ z=>nomatch z) (λ _ z=>nomatch z) (λ _ z=>nomatch z) (show ObjOk X.prog X.w H s.heap a (.frz o (.dK kvs)) from I.hok a _ h).2
end
def epO (o:Obj):Nat:=match o.data with
 | .dict _ ep=>ep
 | _=>0
def Itd (a:Addr) (o:Obj) (kvs:List (Key×V)):It :=
 ⟨λ i H=>H a=some (.frz o (.dK kvs))∧i < kvs.length,λ i H x H'=>H'=H∧∃ k v,kvs[i]? = some (k,v)∧x=kV k,λ i H=>H a=some (.frz o (.dK kvs))∧kvs.length≤i⟩
theorem kV_rel {P:Program}{w:World}{k:Key}{u:Value}(h:(mixKind P w).is k u=true):RelV (kV k) u:=by
 rcases keyIs_shape (show keyIs k u=true from h) with ⟨i,t,rfl,rfl⟩ | ⟨x,t,rfl,rfl⟩
 · exact ⟨t,rfl⟩
 · exact ⟨t,rfl⟩
theorem frz_at {P:Program}{w:World}{H:Hp}{h:Heap}{a:Addr}{o:Obj}{kvs:List (Key×V)}(ok:HOk P w H h) (e:H a=some (.frz o (.dK kvs))):(a == sysModules)=false∧∃ vs,KV kvs vs∧h.DictAt (mixKind P w) a vs (epO o):=by
 obtain ⟨ho,_,hd,vs,r,o',es,ep,h1,h2,h3,h4⟩:=(show ObjOk P w H h a (.frz o (.dK kvs)) from ok a _ e)
 rw [ho] at h1
 cases h1
 have ee:epO o=ep:=by unfold epO; rw [h3]
 exact ⟨hd,vs,r,o,es,ho,h2,by rw [ee]; exact h3,h4⟩
theorem turn_dict {P:Program}{w:World}{K:PySem.W.Frag}{tg:Expr}(a it:Addr) (hne:a≠it) (o:Obj) (kvs:List (Key×V)):Turn P w K tg (Itd a o kvs) [it] it (λ i h=>h.IsKeyIter it a i kvs.length (epO o)) where
 mem:=by simp
 obj:=λ i h st b hb=>by
   have e:b=it:=by simpa using hb
   subst e
   obtain ⟨ob,h1,_,h3⟩:=st
   exact ⟨ob,h1,λ v z=>by rw [h3] at z; cases z⟩
 keep:=λ i h h' st k=>st.at λ o e=>k it (by simp) o e
 item:=by
   intro X hP hw hK hc i pins s σ H E I hf st hg
   subst hP hw hK
   obtain ⟨hg1,hg2⟩:=hg
   obtain ⟨f0,f1,f2,f3,f4,f5⟩:=hf it (by simp)
   obtain ⟨hd,vs,r,da⟩:=frz_at I.hok hg1
   have hlen:=r.length
   obtain ⟨⟨k,x⟩,hx⟩:∃ p,vs[i]? = some p:=⟨vs[i]'(by lia),by simp⟩
   have hk2:∃ v,kvs[i]? = some (k,v):=by
     have hi:i < kvs.length:=hg2
     refine ⟨(kvs[i]).2,?_⟩
     have e:=r.keys
     have e1:(kvs.map (·.1))[i]? = (vs.map (·.1))[i]? := by rw [e]
     rw [List.getElem?_map,List.getElem?_map,hx,List.getElem?_eq_getElem hi] at e1
     have e2:kvs[i].1=k:=Option.some.inj e1
     rw [List.getElem?_eq_getElem hi, ← e2]
   obtain ⟨v,hv⟩:=hk2
   rw [hlen] at st ⊢
   refine wpAny_pyNext_dict_item st da hx λ key h' hkey hit' hs'=>?_
   have I1:Inv X pins σ H { s with heap:=h',toks:=s.toks }:=I.turned (λ b o hb e=>(hs'.2 b hb).trans e) f0 f1 f3 f4 f5
   obtain ⟨ob,h1,h2,h3⟩:=id hit'
   exact ⟨_,rfl,go_of (s:={ s with heap:=h' }) (n := "dict_keyiterator") h1 h2 h3 (by decide) ⟨kV k,H,I1,kV_rel hkey,⟨rfl,k,v,hv,rfl⟩,hit',λ b hb=>(hf b hb).1⟩⟩
 done:=by
   intro X hP hw hK hc i pins s σ H E I hf st hg
   subst hP hw hK
   obtain ⟨hg1,hg2⟩:=hg
   obtain ⟨f0,f1,f2,f3,f4,f5⟩:=hf it (by simp)
   obtain ⟨hd,vs,r,da⟩:=frz_at I.hok hg1
   have hlen:=r.length
   rw [hlen] at st
   exact wpAny_pyNext_dict_end (I.ok.hd hc) st da (by simp; lia) λ h' eb=>⟨rfl,I.turned (t':=s.toks) (λ b o hb e=>eb b o hb e) f0 f1 f3 f4 f5⟩
 self:=λ _ _ _ _ _ st h=>wpAny_pyIter_keyiter st h
def iDict (H₀:Hp) (td:TE):TI:=λ σ H R=>td σ H λ x H1 => ∃ a kvs,x=.ref a∧H1 a=some (.dK kvs)∧(∀ o u',H₀ a≠some (.frz o u'))∧∀ o,R (Itd a o kvs) (upd H1 a (.frz o (.dK kvs)))
section
variable {X:Cx}{tg:Expr}
theorem pi_dict {l:Expr}{td:TE}(hl:PE X l td):PI X tg l (iDict X.H₀ td):=by
 intro pins s σ H R I h
 refine thn (hl pins s σ H _ I h) λ v s1 ⟨x,H1,I1,r1,a,kvs,e,ha,hn,q⟩=>?_
 subst e
 cases r1
 obtain ⟨_,hd,vs,rel,dd⟩:=dk_of I1.hok ha
 obtain ⟨ob,es,ep,h1,h2,h3,h4⟩:=id dd
 have I2:=I1.freeze ha h1 hn
 have lt:a < s1.heap.objs.size:=Heap.lt_size h1
 have da:s1.heap.DictAt (mixKind X.prog X.w) a vs (epO ob):=⟨ob,es,h1,h2,by unfold epO; rw [h3],h4⟩
 refine wpAny_pyIter_dict hd da ?_
 refine ⟨s1.heap.objs.size,[s1.heap.objs.size],_,Itd a ob kvs,_,rfl,I2.kept (t':=s1.toks) λ b o e=>Heap.get?_push_of_some _ e,turn_dict a _ (Nat.ne_of_lt lt) ob kvs,⟨_,Heap.get?_push_size _ rfl,rfl,?_⟩,λ b hb=>?_,q ob⟩
 · rw [rel.length]; rfl
 · have e:b=s1.heap.objs.size:=by simpa using hb
   subst e
   exact I2.fpOk (Nat.le_refl _) (I2.hok.fresh (Nat.le_refl _))
def tThaw (H₀:Hp) (t:TS):TS:=λ D σ H=>t { D with
 nx:=λ σ' H' => ∃ a o kvs,H' a=some (.frz o (.dK kvs))∧(∀ o u',H₀ a≠some (.frz o u'))∧D.nx σ' (upd H' a (.dK kvs))
 rt:=λ v H' => ∃ a o kvs,H' a=some (.frz o (.dK kvs))∧(∀ o u',H₀ a≠some (.frz o u'))∧D.rt v (upd H' a (.dK kvs)) } σ H
theorem ps_thaw {st:Stmt}{t:TS}(h:PS X st t):PS X st (tThaw X.H₀ t):=by
 intro pins s σ H D I q
 refine thn (h pins s σ H _ I q) λ f s1 hq=>?_
 cases f with
 | next =>
   obtain ⟨σ',H',I',a,o,kvs,ha,hn,q'⟩:=hq
   exact ⟨σ',_,I'.thaw ha hn,q'⟩
 | ret u =>
   obtain ⟨v,σ',H',I',r,a,o,kvs,ha,hn,q'⟩:=hq
   exact ⟨v,σ',_,I'.thaw ha hn,r,q'⟩
 | brk=>exact hq
 | cont=>exact hq
end
theorem for_dict {a:Addr}{o:Obj}{kvs:List (Key×V)}{g:TG}{tb:TS}{D:Ends}{σ:St}{H:Hp}(Pv:Nat→St→Hp→Prop) (h0:Pv 0 σ H) (hl:∀ i σ H,i≤kvs.length→Pv i σ H→H a=some (.frz o (.dK kvs)))
   (hs:∀ i k v σ H,kvs[i]? = some (k,v)→Pv i σ H→g (kV k) σ H λ σ2 H2=>tb { D with nx:=Pv (i + 1),ct:=Pv (i + 1),bk:=D.nx } σ2 H2) (hd:∀ σ H,Pv kvs.length σ H→D.nx σ H) :
   ∃ W:Nat→Nat→St→Hp→Prop,(∃ m,W 0 m σ H)∧∀ i m σ H,W i m σ H →
     ((Itd a o kvs).stop i H∧D.nx σ H)∨((Itd a o kvs).go i H∧∃ N:St→Hp→Prop,(∀ σ' H',N σ' H'→∃ m',m' < m∧W (i + 1) m' σ' H')∧∀ x H',(Itd a o kvs).yld i H x H'→g x σ H' λ σ2 H2=>tb { D with nx:=N,ct:=N,bk:=D.nx } σ2 H2):=by
 refine ⟨λ i m σ H=>m=kvs.length - i∧i≤kvs.length∧Pv i σ H,⟨kvs.length,by simp,Nat.zero_le _,h0⟩,?_⟩
 rintro i m σ H ⟨rfl,hi,p⟩
 have q:=hl i σ H hi p
 by_cases hlt:i < kvs.length
 · refine .inr ⟨⟨q,hlt⟩,Pv (i + 1),λ σ' H' p'=>⟨kvs.length - (i + 1),by lia,rfl,hlt,p'⟩,λ x H' y=>?_⟩
   obtain ⟨e,k,v,hk,ex⟩:=y
   subst e ex
   exact hs i k v σ _ hk p
 · have e:i=kvs.length:=by lia
   subst e
   exact .inl ⟨⟨q,Nat.le_refl _⟩,hd σ H p⟩
section
variable {X:Cx}
end
end L2
namespace L2
open PySem PySem.Spec PyProof.Rows
def Itrs (lo st:Int) (n:Nat):It:=⟨λ i _=>i < n,λ i H x H'=>H'=H∧x=.int (lo + i * st),λ i _=>n≤i⟩
theorem turn_rangeS {P:Program}{w:World}{K:PySem.W.Frag}{tg:Expr}(it:Addr) (lo st:Int) (n:Nat):Turn P w K tg (Itrs lo st n) [it] it (λ i h=>IsRangeIter h it (lo + (i:Nat) * st) ((n:Int) - (i:Nat)) st) where
 mem:=by simp
 obj:=λ i h st b hb=>by
   have e:b=it:=by simpa using hb
   subst e
   exact ⟨_,st,λ v z=>by
     have z':Data.fields _=Data.cell v:=z
     cases z'⟩
 keep:=λ i h h' st k=>k it (by simp) _ st
 item:=by
   intro X hP hw hK hc i pins s σ H E I hf st' hg
   subst hP hw hK
   obtain ⟨f0,f1,f2,f3,f4,f5⟩:=hf it (by simp)
   have W:=Walks.range (prog:=X.prog) (w:=X.w) (I.ok.hd hc) it lo st n
   refine W.item i s _ _ hg st' λ v h' tk hv st'' kk=>?_
   obtain ⟨t,rfl⟩:=hv
   have I1:Inv X pins σ H { s with heap:=h',toks:=tk }:=I.turned (λ b o hb e=>kk b o (by simpa using hb) e) f0 f1 f3 f4 f5
   exact ⟨_,rfl,go_of (s:={ s with heap:=h',toks:=tk }) (n := "range_iterator") st'' rfl rfl (by decide) ⟨.int (lo + i * st),H,I1,⟨t,rfl⟩,⟨rfl,rfl⟩,st'',λ b hb=>(hf b hb).1⟩⟩
 done:=by
   intro X hP hw hK hc i pins s σ H E I hf st' hg
   subst hP hw hK
   obtain ⟨f0,f1,f2,f3,f4,f5⟩:=hf it (by simp)
   exact wpAny_pyNext_range_end (I.ok.hd hc) st' (by have:n≤i:=hg; lia) λ h' eb=>⟨rfl,I.turned (t':=s.toks) (λ b o hb e=>eb b o hb e) f0 f1 f3 f4 f5⟩
 self:=λ _ _ _ _ _ st h=>wpAny_pyIter_rangeiter st h
def iRng3 (ta:TA):TI:=λ σ H R=>ta σ H λ vs H1 => ∃ (i j st:Int) (n:Nat),vs=[.int i,.int j,.int st]∧Builtin.Range.small i j st=true∧Builtin.Range.rangeSize i j st=(n:Int)∧st≠0∧Builtin.divisionGoesByPylong (j - i) st=false∧R (Itrs i st n) H1
section
variable {X:Cx}{tg:Expr}
theorem pi_range3 {a b c:Expr}{ta:TA}{p pos:Pos}(hg:Gl X "range") (hm:X.mg "range" = none) (ha:PA X [a,b,c] ta) (hs:starEach [a,b,c] X.env=[(false,eval a X.env),(false,eval b X.env),(false,eval c X.env)]:=by rfl) (hs2:starEach [b,c] X.env=[(false,eval b X.env),(false,eval c X.env)]:=by rfl) :
   PI X tg (.Call (.Name "range" p) [a,b,c] [] pos) (iRng3 ta):=by
 intro pins s σ H R I h
 refine Call_ (ld_blt I hg hm boot_range (PyProof.Rows.callWith_type1 (thn (ha pos pins s σ H _ I h) λ us s1 ⟨vs,H1,I1,r1,q1⟩=>?_) (by rw [hs,hs2]) (by rw [hs2]; rfl)))
 obtain ⟨i,j,st,n,e,q1,q2,q3,q4,q⟩:=q1
 subst e
 cases r1 with
 | cons r rr =>
   cases rr with
   | cons r' rr =>
     cases rr with
     | cons r'' rr =>
       cases rr
       obtain ⟨t,rfl⟩:=r
       obtain ⟨t',rfl⟩:=r'
       obtain ⟨t'',rfl⟩:=r''
       refine call_range_3 q3 ?_ (.inl q4)
       refine wpAny_pyIter_range (IsRange.new ..) q1 ?_
       have I2:Inv X pins σ H1 { s1 with heap:=s1.heap.push { cls:=.type "range",data:=.fields #[.int i t,.int j t',.int st t''] },toks:=s1.toks }:=I1.kept λ b o e=>Heap.get?_push_of_some _ e
       refine ⟨_,[_],_,_,H1,rfl,I2.kept (t':=s1.toks) λ b o e=>Heap.get?_push_of_some _ e,turn_rangeS _ i st n,?_,λ b hb=>?_,q⟩
       · have e1:i + ((0:Nat):Int) * st=i:=by simp
         have e2:(n:Int) - ((0:Nat):Int)=Builtin.Range.rangeSize i j st:=by rw [q2]; lia
         show IsRangeIter _ _ (i + ((0:Nat):Int) * st) ((n:Int) - ((0:Nat):Int)) st
         rw [e1,e2]
         exact Heap.get?_push_size _ rfl
       · have e:=List.mem_singleton.mp hb
         subst e
         exact I2.fpOk (Nat.le_refl _) (I2.hok.fresh (Nat.le_refl _))
end
end L2
namespace Srt
open PySem PyProof.Rows
structure SI (a₀:Array Keyed) (st:SortSt):Prop where
 perm:(arrOf st).Perm a₀
 kind:kindOf st=oneType'
 failed:failedOf st=none
structure Ks (a₀:Array Keyed):Prop where
 ik:IntKeys a₀
 nd:(a₀.toList.map λ p=>numOf p.1).Nodup
def SFT (xs:Array Keyed) (lo hi:Nat):Prop := ∀ i j,lo≤i→i≤j→j < hi→K xs i≤K xs j
theorem SI.size {a₀:Array Keyed}{st:SortSt}(h:SI a₀ st):(arrOf st).size=a₀.size:=h.perm.size_eq
theorem key_at {a₀ xs:Array Keyed}(hp:xs.Perm a₀) (k:Ks a₀) {i:Nat}(hi:i < xs.size):∃ t q,xs[i]? = some (.int (K xs i) t,q):=by
 have hm:xs[i]∈a₀.toList:=(Array.perm_iff_toList_perm.mp hp).mem_iff.mp (by simp)
 obtain ⟨n,t,hn⟩:=k.ik _ hm
 have e:xs[i]? = some xs[i]:=getElem?_pos _ i hi
 have e2:xs[i]=(.int n t,xs[i].2):=Prod.ext hn rfl
 refine ⟨t,xs[i].2,?_⟩
 unfold K
 rw [e,e2]
 rfl
theorem key_ne {a₀ xs:Array Keyed}(hp:xs.Perm a₀) (k:Ks a₀) {i j:Nat}(hi:i < j) (hj:j < xs.size):K xs i≠K xs j:=by
 have hl:=(Array.perm_iff_toList_perm.mp hp).map λ p:Keyed=>numOf p.1
 have hn:(xs.toList.map λ p=>numOf p.1).Nodup:=hl.nodup_iff.mpr k.nd
 have h1:i < xs.size:=by lia
 have a:=List.pairwise_iff_getElem.mp hn i j (by simpa using h1) (by simpa using hj) hi
 unfold K
 rw [getElem?_pos xs i h1,getElem?_pos xs j hj]
 simpa using a
theorem SI.setArr {a₀:Array Keyed}{st:SortSt}(h:SI a₀ st) {xs:Array Keyed}(hp:xs.Perm (arrOf st)):SI a₀ (setArr st xs):=⟨hp.trans h.perm,h.kind,h.failed⟩
section
variable {prog:Program}{w:World}{A:Around}{E:Value→Shared→Prop}{s:Shared}{a₀:Array Keyed}
theorem lt_two {st:SortSt}{x y:Keyed}{a b:Int}{t u:Tok}{Q:Option Bool→SortSt→Prop}(hk:kindOf st=oneType') (hx:x.1=.int a t) (hy:y.1=.int b u) (h:Q (some (decide (a < b))) st) :
   wpS (model prog w) A E s (lt' x y) Q st:=by
 rw [lt'_eq]
 refine wpS_bind (wpS_get ?_)
 rw [hk,keyLt'_oneType,hx,hy]
 exact wpS_bind (wpS_lift (wpAny_attempt (oneLt_int ⟨rfl,wpS_pure h⟩)))
theorem elem_at {st:SortSt}{xs:Array Keyed}{i:Nat}{p:Keyed}{Q:Keyed→SortSt→Prop}(hi:xs[i]? = some p) (h:Q p st):wpS (model prog w) A E s (elem' xs i) Q st:=by
 rw [elem'_eq,hi]
 exact wpS_pure h
theorem lt_ix {st:SortSt}{i j:Nat}{Q:Option Bool→SortSt→Prop}(S:SI a₀ st) (k:Ks a₀) (hi:i < a₀.size) (hj:j < a₀.size) (h:Q (some (decide (K (arrOf st) i < K (arrOf st) j))) st) :
   wpS (model prog w) A E s (ltAt' i j) Q st:=by
 obtain ⟨t,p,e1⟩:=key_at S.perm k (by rw [S.size]; exact hi)
 obtain ⟨u,q,e2⟩:=key_at S.perm k (by rw [S.size]; exact hj)
 exact wpS_ltAt S.kind e1 e2 h
structure Cut (a₀:Array Keyed) (st st':SortSt) (lo:Nat):Prop where
 S:SI a₀ st'
 pre:∀ i,i < lo→(arrOf st')[i]? = (arrOf st)[i]?
 pend:pendingOf st'=pendingOf st
theorem run_find {st:SortSt}{lo nrem:Nat}{Q:Option Nat→SortSt→Prop}(S:SI a₀ st) (k:Ks a₀) (hn:lo + nrem≤a₀.size) (h1:1≤nrem)
   (h:∀ m st',Cut a₀ st st' lo→1≤m→m≤nrem→SFT (arrOf st') lo (lo + m)→Q (some m) st'):wpS (model prog w) A E s (countRun' lo nrem) Q st:=by
 rw [countRun'_eq]
 refine wpS_bind (wpS_mono (wpS_forRange (I:=λ x c st'=>st'=st∧c=(none,x)∧SFT (arrOf st) lo (lo + x)) (Q:=λ c st'=>st'=st∧∃ n,c=(none,n)∧1≤n∧n≤nrem∧SFT (arrOf st) lo (lo + n)∧(n=nrem∨K (arrOf st) (lo + n) < K (arrOf st) (lo + n - 1))) ?_ ?_ ?_) ?_)
 · rintro x c st' hx1 hx2 ⟨rfl,rfl,hs⟩
   dsimp only
   refine wpS_bind (lt_ix S k (by lia) (by lia) ?_)
   by_cases c:K (arrOf st') (lo + x) < K (arrOf st') (lo + x - 1)
   · simp only [c,decide_true,if_true]
     exact wpS_pure ⟨rfl,x,rfl,hx1,by lia,hs,.inr c⟩
   · simp only [c,decide_false,Bool.false_eq_true,if_false]
     refine wpS_pure ⟨rfl,rfl,λ i j hi hij hj=>?_⟩
     by_cases z:j < lo + x
     · exact hs i j hi hij z
     · by_cases z2:i=j
       · rw [z2]; exact Int.le_refl _
       · have:=hs i (lo + x - 1) hi (by lia) (by lia)
         have ej:j=lo + x:=by lia
         rw [ej]
         lia
 · rintro c st' ⟨rfl,rfl,hs⟩
   rw [show max 1 nrem=nrem by lia] at hs ⊢
   exact ⟨rfl,nrem,rfl,h1,Nat.le_refl _,hs,.inl rfl⟩
 · exact ⟨rfl,rfl,λ i j hi hij hj=>by rw [show i=j by lia]; exact Int.le_refl _⟩
 · rintro c st' ⟨rfl,n,rfl,n1,n2,hs,hor⟩
   dsimp only
   by_cases e:n=nrem
   · rw [if_pos (by simpa using e)]
     exact wpS_pure (h n st' ⟨S,λ _ _=>rfl,rfl⟩ n1 n2 hs)
   · rw [if_neg (by simpa using e)]
     have hlt:=hor.resolve_left e
     by_cases g:n > 1
     · rw [if_pos g]
       refine wpS_bind (lt_ix S k (by lia) (by lia) ?_)
       have r:K (arrOf st') lo < K (arrOf st') (lo + n - 1):=by
         have a:=hs lo (lo + n - 1) (Nat.le_refl _) (by lia) (by lia)
         have b:=key_ne S.perm k (i:=lo) (j:=lo + n - 1) (by lia) (by rw [S.size]; lia)
         lia
       simp only [r,decide_true,if_true]
       exact wpS_pure (h n st' ⟨S,λ _ _=>rfl,rfl⟩ n1 n2 hs)
     · rw [if_neg g]
       have e1:n=1:=by lia
       subst e1
       refine wpS_bind (wpS_lift (wpAny_rule ⟨rfl,?_⟩))
       have dec2:∀ i j,lo≤i→i≤j→j < lo + 2→K (arrOf st') j≤K (arrOf st') i:=λ i j hi hij hj=>by
         by_cases z:i=j
         · rw [z]; exact Int.le_refl _
         · have ei:i=lo:=by lia
           have ej:j=lo + 1:=by lia
           rw [ei,ej]
           exact Int.le_of_lt hlt
       refine wpS_bind (wpS_mono (wpS_forRange (I:=λ x c st2=>st2=st'∧c=(none,x,0)∧∀ i j,lo≤i→i≤j→j < lo + x→K (arrOf st') j≤K (arrOf st') i) (Q:=λ c st2=>st2=st'∧∃ n,c=(none,n,0)∧2≤n∧n≤nrem∧∀ i j,lo≤i→i≤j→j < lo + n→K (arrOf st') j≤K (arrOf st') i) ?_ ?_ ?_) ?_)
       · rintro x c st2 hx1 hx2 ⟨rfl,rfl,hd⟩
         dsimp only
         refine wpS_bind (lt_ix S k (by lia) (by lia) ?_)
         by_cases c:K (arrOf st2) (lo + x) < K (arrOf st2) (lo + x - 1)
         · simp only [c,decide_true,if_true]
           rw [if_neg (by lia)]
           refine wpS_pure ⟨rfl,rfl,λ i j hi hij hj=>?_⟩
           by_cases z:j < lo + x
           · exact hd i j hi hij z
           · by_cases z2:i=j
             · rw [z2]; exact Int.le_refl _
             · have:=hd i (lo + x - 1) hi (by lia) (by lia)
               have ej:j=lo + x:=by lia
               rw [ej]
               lia
         · simp only [c,decide_false,Bool.false_eq_true,if_false]
           refine wpS_bind (lt_ix S k (by lia) (by lia) ?_)
           have r:K (arrOf st2) (lo + x - 1) < K (arrOf st2) (lo + x):=by
             have b:=key_ne S.perm k (i:=lo + x - 1) (j:=lo + x) (by lia) (by rw [S.size]; lia)
             lia
           simp only [r,decide_true,if_true]
           exact wpS_pure ⟨rfl,x,rfl,hx1,by lia,hd⟩
       · rintro c st2 ⟨rfl,rfl,hd⟩
         rw [show max (1 + 1) nrem=nrem by lia] at hd ⊢
         exact ⟨rfl,nrem,rfl,by lia,Nat.le_refl _,hd⟩
       · exact ⟨rfl,rfl,dec2⟩
       · rintro c st2 ⟨rfl,n,rfl,m1,m2,hd⟩
         dsimp only
         rw [if_neg (by lia)]
         refine wpS_bind (wpS_reverse ?_)
         have hsz:lo + n≤(arrOf st2).size:=by rw [S.size]; lia
         have S3:=S.setArr (mirror_perm (arrOf st2) lo (lo + n) ((lo + n - lo) / 2))
         have C3:Cut a₀ st2 (setArr st2 (mirror (arrOf st2) lo (lo + n) ((lo + n - lo) / 2))) lo:=by
           refine ⟨S3,λ i hi=>?_,rfl⟩
           show (mirror (arrOf st2) lo (lo + n) ((lo + n - lo) / 2))[i]? = _
           rw [getElem?_mirror_all hsz,if_neg (by lia)]
         have hs3:SFT (arrOf (setArr st2 (mirror (arrOf st2) lo (lo + n) ((lo + n - lo) / 2)))) lo (lo + n):=λ i j hi hij hj=>by
           show K (mirror (arrOf st2) lo (lo + n) ((lo + n - lo) / 2)) i≤K (mirror (arrOf st2) lo (lo + n) ((lo + n - lo) / 2)) j
           rw [K_mirror hsz,K_mirror hsz,if_pos (by lia),if_pos (by lia)]
           exact hd _ _ (by lia) (by lia) (by lia)
         generalize setArr st2 (mirror (arrOf st2) lo (lo + n) ((lo + n - lo) / 2))=st3 at S3 C3 hs3 ⊢
         refine wpS_bind (wpS_mono (wpS_forRange (I:=λ x c st4=>st4=st3∧c=(none,x)∧SFT (arrOf st3) lo (lo + x)) (Q:=λ c st4=>st4=st3∧∃ m,c=(none,m)∧1≤m∧m≤nrem∧SFT (arrOf st3) lo (lo + m)) ?_ ?_ ?_) ?_)
         · rintro x c st4 hx1 hx2 ⟨rfl,rfl,hs⟩
           dsimp only
           refine wpS_bind (lt_ix S3 k (by lia) (by lia) ?_)
           by_cases c:K (arrOf st4) (lo + x) < K (arrOf st4) (lo + x - 1)
           · simp only [c,decide_true,if_true]
             exact wpS_pure ⟨rfl,x,rfl,by lia,by lia,hs⟩
           · simp only [c,decide_false,Bool.false_eq_true,if_false]
             refine wpS_pure ⟨rfl,rfl,λ i j hi hij hj=>?_⟩
             by_cases z:j < lo + x
             · exact hs i j hi hij z
             · by_cases z2:i=j
               · rw [z2]; exact Int.le_refl _
               · have:=hs i (lo + x - 1) hi (by lia) (by lia)
                 have ej:j=lo + x:=by lia
                 rw [ej]
                 lia
         · rintro c st4 ⟨rfl,rfl,hs⟩
           rw [show max n nrem=nrem by lia] at hs ⊢
           exact ⟨rfl,nrem,rfl,h1,Nat.le_refl _,hs⟩
         · exact ⟨rfl,rfl,hs3⟩
         · rintro c st4 ⟨rfl,m,rfl,q1,q2,hs⟩
           exact wpS_pure (h m st4 C3 q1 q2 hs)
theorem run_fill {st:SortSt}{lo n ok:Nat}{Q:Bool→SortSt→Prop}(S:SI a₀ st) (k:Ks a₀) (hn:lo + n≤a₀.size) (h1:1≤ok) (hok:ok≤n) (hs:SFT (arrOf st) lo (lo + ok))
   (h:∀ st',Cut a₀ st st' lo→SFT (arrOf st') lo (lo + n)→Q true st'):wpS (model prog w) A E s (binarySort' lo n ok) Q st:=by
 rw [binarySort'_eq]
 refine wpS_bind (wpS_mono (wpS_forRange (I:=λ x c st'=>c=(none,())∧Cut a₀ st st' lo∧SFT (arrOf st') lo (lo + x)) (Q:=λ c st'=>c=(none,())∧Cut a₀ st st' lo∧SFT (arrOf st') lo (lo + n)) ?_ ?_ ?_) ?_)
 · rintro x c st' hx1 hx2 ⟨rfl,C,hs'⟩
   have hxs:lo + x < (arrOf st').size:=by rw [C.S.size]; lia
   refine wpS_bind (wpS_mono (wpS_forRange (I:=λ y c st2=>st2=st'∧∃ l r,c=(none,l,r)∧l≤r∧r≤x∧r - l≤x - y∧(∀ i,lo≤i→i < lo + l→K (arrOf st') i≤K (arrOf st') (lo + x))∧∀ i,lo + r≤i→i < lo + x→K (arrOf st') (lo + x) < K (arrOf st') i)
     (Q:=λ c st2=>st2=st'∧∃ l,c=(none,l,l)∧l≤x∧(∀ i,lo≤i→i < lo + l→K (arrOf st') i≤K (arrOf st') (lo + x))∧∀ i,lo + l≤i→i < lo + x→K (arrOf st') (lo + x) < K (arrOf st') i) ?_ ?_ ?_) ?_)
   · rintro y c st2 hy1 hy2 ⟨rfl,l,r,rfl,lr,rx,hm,a1,a2⟩
     dsimp only
     by_cases g:l ≥ r
     · rw [if_pos g]
       obtain rfl:l=r:=by lia
       exact wpS_pure ⟨rfl,l,rfl,rx,a1,a2⟩
     · rw [if_neg g]
       refine wpS_bind (lt_ix C.S k (by lia) (by lia) ?_)
       by_cases c:K (arrOf st2) (lo + x) < K (arrOf st2) (lo + (l + r) / 2)
       · simp only [c,decide_true,if_true]
         refine wpS_pure ⟨rfl,l,(l + r) / 2,rfl,by lia,by lia,by lia,a1,λ i hi hix=>?_⟩
         have:=hs' (lo + (l + r) / 2) i (by lia) hi (by lia)
         lia
       · simp only [c,decide_false,Bool.false_eq_true,if_false]
         refine wpS_pure ⟨rfl,(l + r) / 2 + 1,r,rfl,by lia,by lia,by lia,λ i hi hix=>?_,a2⟩
         have:=hs' i (lo + (l + r) / 2) hi (by lia) (by lia)
         lia
   · rintro c st2 ⟨rfl,l,r,rfl,lr,rx,hm,a1,a2⟩
     obtain rfl:l=r:=by lia
     exact ⟨rfl,l,rfl,rx,a1,a2⟩
   · exact ⟨rfl,0,x,rfl,by lia,by lia,by lia,λ i hi hi2=>by lia,λ i hi hi2=>by lia⟩
   · rintro c st2 ⟨rfl,l,rfl,lx,a1,a2⟩
     dsimp only
     rw [moveDown'_eq]
     refine wpS_bind (wpS_modify (wpS_pure ⟨rfl,⟨C.S.setArr (bubble_perm _ _ _),λ i hi=>?_,C.pend⟩,λ i j hi hij hj=>?_⟩))
     · show (bubble (arrOf st2) (lo + x) (lo + x - (lo + l)))[i]? = _
       rw [getElem?_bubble hxs _ (by lia),if_neg (by lia),if_neg (by lia)]
       exact C.pre i hi
     · show K (bubble (arrOf st2) (lo + x) (lo + x - (lo + l))) i≤K (bubble (arrOf st2) (lo + x) (lo + x - (lo + l))) j
       rw [K_bubble hxs (by lia),K_bubble hxs (by lia),show lo + x - (lo + x - (lo + l))=lo + l by lia]
       by_cases c1:i=lo + l
       · rw [if_pos c1]
         by_cases c2:j=lo + l
         · rw [if_pos c2]; exact Int.le_refl _
         · rw [if_neg c2,if_pos (by lia)]
           have:=a2 (j - 1) (by lia) (by lia)
           lia
       · rw [if_neg c1]
         by_cases c2:j=lo + l
         · rw [if_pos c2,if_neg (by lia)]
           exact a1 i hi (by lia)
         · rw [if_neg c2]
           by_cases c3:lo + l < i∧i≤lo + x
           · rw [if_pos c3,if_pos (by lia)]
             exact hs' _ _ (by lia) (by lia) (by lia)
           · rw [if_neg c3]
             by_cases c4:lo + l < j∧j≤lo + x
             · rw [if_pos c4]
               exact hs' _ _ (by lia) (by lia) (by lia)
             · rw [if_neg c4]
               exact hs' _ _ (by lia) (by lia) (by lia)
 · rintro c st' ⟨rfl,C,hs'⟩
   rw [show max (max ok 1) n=n by lia] at hs'
   exact ⟨rfl,C,hs'⟩
 · rw [show max ok 1=ok by lia]
   exact ⟨rfl,⟨S,λ _ _=>rfl,rfl⟩,hs⟩
 · rintro c st' ⟨rfl,C,hs'⟩
   exact wpS_pure (h st' C hs')
end
end Srt
namespace Srt
open PySem PyProof.Rows
def gallop':Bool→Keyed→Array Keyed→Nat→Nat→Nat→StateT SortSt Sem (Option Nat):=sortPriv% PySem.Builtin.gallop
def bey (left:Bool) (a:Int) (xs:Array Keyed) (base i:Nat):Bool:=if left then decide (K xs (base + i) < a) else !decide (a < K xs (base + i))
section
variable {prog:Program}{w:World}{A:Around}{E:Value→Shared→Prop}{s:Shared}{a₀:Array Keyed}
def beyond' (left:Bool) (key:Keyed) (xs:Array Keyed) (base i:Nat):StateT SortSt Sem (Option Bool) :=
 bind (elem' xs (base + i)) λ x=>ite (left=true) (lt' x key) (bind (lt' key x) λ r=>pure (Option.map (λ b => !b) r))
theorem bey_at {st:SortSt}{left:Bool}{key:Keyed}{a:Int}{t u:Tok}{q:Value}{xs:Array Keyed}{base i:Nat}{Q:Option Bool→SortSt→Prop}(hk:kindOf st=oneType') (hkey:key.1=.int a t) (hx:xs[base + i]? = some (.int (K xs (base + i)) u,q))
   (h:Q (some (bey left a xs base i)) st):wpS (model prog w) A E s (beyond' left key xs base i) Q st:=by
 unfold beyond'
 refine wpS_bind (elem_at hx ?_)
 unfold bey at h
 cases left with
 | true=>exact lt_two hk rfl hkey h
 | false=>exact wpS_bind (lt_two hk hkey rfl (wpS_pure h))
theorem bey_mono {left:Bool}{a:Int}{xs:Array Keyed}{base n i j:Nat}(hs:SFT xs base (base + n)) (hij:i≤j) (hj:j < n) (h:bey left a xs base j=true):bey left a xs base i=true:=by
 have:=hs (base + i) (base + j) (by lia) (by lia) (by lia)
 unfold bey at h ⊢
 cases left with
 | true =>
   have z:K xs (base + j) < a:=of_decide_eq_true h
   exact decide_eq_true (by lia)
 | false =>
   have z:¬ a < K xs (base + j):=of_decide_eq_false (by simpa using h)
   show (!decide (a < K xs (base + i)))=true
   rw [decide_eq_false (by lia)]
   rfl
theorem bey_mono' {left:Bool}{a:Int}{xs:Array Keyed}{base n i j:Nat}(hs:SFT xs base (base + n)) (hij:i≤j) (hj:j < n) (h:bey left a xs base i=false):bey left a xs base j=false:=by
 cases e:bey left a xs base j with
 | false=>rfl
 | true=>rw [bey_mono hs hij hj e] at h; cases h
set_option maxHeartbeats 4000000 in
theorem gallop_at {st:SortSt}{left:Bool}{key:Keyed}{a:Int}{t:Tok}{xs:Array Keyed}{base n hint:Nat}{Q:Option Nat→SortSt→Prop}(hk:kindOf st=oneType') (hkey:key.1=.int a t) (hx:∀ i,i < n→∃ t q,xs[base + i]? = some (.int (K xs (base + i)) t,q))
   (hs:SFT xs base (base + n)) (hh:hint < n) (h:∀ r,r≤n→(∀ i,i < r→bey left a xs base i=true)→(∀ i,r≤i→i < n→bey left a xs base i=false)→Q (some r) st) :
   wpS (model prog w) A E s (gallop' left key xs base n hint) Q st:=by
 have B:∀ {i:Nat}{Q:Option Bool→SortSt→Prop},i < n→Q (some (bey left a xs base i)) st→wpS (model prog w) A E s (beyond' left key xs base i) Q st:=λ hi q=>by
   obtain ⟨u,v,e⟩:=hx _ hi
   exact bey_at hk hkey e q
 refine wpS_bind (B hh ?_)
 cases c:bey left a xs base hint with
 | true =>
   dsimp only
   rw [if_pos rfl]
   refine wpS_bind (wpS_mono (wpS_forRange (I:=λ x c st'=>st'=st∧∃ l o,c=(none,l,o)∧l < o∧x + 1≤o∧hint + l < n∧bey left a xs base (hint + l)=true) (Q:=λ c st'=>st'=st∧∃ l o,c=(none,l,o)∧l < o∧hint + l < n∧bey left a xs base (hint + l)=true∧(n - hint≤o∨(hint + o < n∧bey left a xs base (hint + o)=false))) ?_ ?_ ?_) ?_)
   · rintro x c st' hx1 hx2 ⟨rfl,l,o,rfl,lo,xo,hl,bl⟩
     dsimp only
     by_cases g:o ≥ n - hint
     · rw [if_pos g]
       exact wpS_pure ⟨rfl,l,o,rfl,lo,hl,bl,.inl g⟩
     · rw [if_neg g]
       refine wpS_bind (B (i:=hint + o) (by lia) ?_)
       cases c2:bey left a xs base (hint + o) with
       | true=>exact wpS_pure ⟨rfl,o,2 * o + 1,rfl,by lia,by lia,by lia,c2⟩
       | false=>exact wpS_pure ⟨rfl,l,o,rfl,lo,hl,bl,.inr ⟨by lia,c2⟩⟩
   · rintro c st' ⟨rfl,l,o,rfl,lo,xo,hl,bl⟩
     exact ⟨rfl,l,o,rfl,lo,hl,bl,.inl (by lia)⟩
   · exact ⟨rfl,0,1,rfl,by lia,by lia,hh,c⟩
   · rintro c st' ⟨rfl,l,o,rfl,lo,hl,bl,hor⟩
     dsimp only
     have f1:∀ i,i < hint + l + 1→bey left a xs base i=true:=λ i hi=>bey_mono hs (j:=hint + l) (by lia) hl bl
     have f2:∀ i,hint + min o (n - hint)≤i→i < n→bey left a xs base i=false:=λ i hi hin=>by
       rcases hor with g | ⟨g1,g2⟩
       · lia
       · exact bey_mono' hs (i:=hint + o) (by lia) hin g2
     have f3:hint + l + 1≤hint + min o (n - hint):=by lia
     have f4:hint + min o (n - hint)≤n:=by lia
     generalize hint + l + 1=lo' at f1 f3 ⊢
     generalize hint + min o (n - hint)=hi' at f2 f3 f4 ⊢
     refine wpS_bind (wpS_mono (wpS_forRange (I:=λ x c st2=>st2=st'∧∃ l r,c=(none,l,r)∧l≤r∧r≤n∧r - l≤n - x∧(∀ i,i < l→bey left a xs base i=true)∧∀ i,r≤i→i < n→bey left a xs base i=false) (Q:=λ c st2=>st2=st'∧∃ r,c=(none,r,r)∧r≤n∧(∀ i,i < r→bey left a xs base i=true)∧∀ i,r≤i→i < n→bey left a xs base i=false) ?_ ?_ ?_) ?_)
     · rintro x c st2 hx1 hx2 ⟨rfl,l,r,rfl,lr,rn,hm,a1,a2⟩
       dsimp only
       by_cases g:l ≥ r
       · rw [if_pos g]
         obtain rfl:l=r:=by lia
         exact wpS_pure ⟨rfl,l,rfl,rn,a1,a2⟩
       · rw [if_neg g]
         refine wpS_bind (B (i:=l + (r - l) / 2) (by lia) ?_)
         cases c2:bey left a xs base (l + (r - l) / 2) with
         | true=>exact wpS_pure ⟨rfl,l + (r - l) / 2 + 1,r,rfl,by lia,rn,by lia,λ i hi=>bey_mono hs (j:=l + (r - l) / 2) (by lia) (by lia) c2,a2⟩
         | false=>exact wpS_pure ⟨rfl,l,l + (r - l) / 2,rfl,by lia,by lia,by lia,a1,λ i hi hin=>bey_mono' hs hi hin c2⟩
     · rintro c st2 ⟨rfl,l,r,rfl,lr,rn,hm,a1,a2⟩
       obtain rfl:l=r:=by lia
       exact ⟨rfl,l,rfl,rn,a1,a2⟩
     · exact ⟨rfl,lo',hi',rfl,f3,f4,by lia,f1,f2⟩
     · rintro c st2 ⟨rfl,r,rfl,rn,a1,a2⟩
       exact wpS_pure (h r rn a1 a2)
 | false =>
   dsimp only
   rw [if_neg (by decide)]
   refine wpS_bind (wpS_mono (wpS_forRange (I:=λ x c st'=>st'=st∧∃ l o,c=(none,l,o)∧l < o∧x + 1≤o∧l≤hint∧bey left a xs base (hint - l)=false) (Q:=λ c st'=>st'=st∧∃ l o,c=(none,l,o)∧l < o∧l≤hint∧bey left a xs base (hint - l)=false∧(hint + 1≤o∨(o≤hint∧bey left a xs base (hint - o)=true))) ?_ ?_ ?_) ?_)
   · rintro x c st' hx1 hx2 ⟨rfl,l,o,rfl,lo,xo,hl,bl⟩
     dsimp only
     by_cases g:o ≥ hint + 1
     · rw [if_pos g]
       exact wpS_pure ⟨rfl,l,o,rfl,lo,hl,bl,.inl g⟩
     · rw [if_neg g]
       refine wpS_bind (B (i:=hint - o) (by lia) ?_)
       cases c2:bey left a xs base (hint - o) with
       | true=>exact wpS_pure ⟨rfl,l,o,rfl,lo,hl,bl,.inr ⟨by lia,c2⟩⟩
       | false=>exact wpS_pure ⟨rfl,o,2 * o + 1,rfl,by lia,by lia,by lia,c2⟩
   · rintro c st' ⟨rfl,l,o,rfl,lo,xo,hl,bl⟩
     exact ⟨rfl,l,o,rfl,lo,hl,bl,.inl (by lia)⟩
   · exact ⟨rfl,0,1,rfl,by lia,by lia,Nat.zero_le _,c⟩
   · rintro c st' ⟨rfl,l,o,rfl,lo,hl,bl,hor⟩
     dsimp only
     have f1:∀ i,i < hint + 1 - min o (hint + 1)→bey left a xs base i=true:=λ i hi=>by
       rcases hor with g | ⟨g1,g2⟩
       · lia
       · exact bey_mono hs (j:=hint - o) (by lia) (by lia) g2
     have f2:∀ i,hint - l≤i→i < n→bey left a xs base i=false:=λ i hi hin=>bey_mono' hs hi hin bl
     have f3:hint + 1 - min o (hint + 1)≤hint - l:=by lia
     have f4:hint - l≤n:=by lia
     generalize hint + 1 - min o (hint + 1)=lo' at f1 f3 ⊢
     generalize hint - l=hi' at f2 f3 f4 ⊢
     refine wpS_bind (wpS_mono (wpS_forRange (I:=λ x c st2=>st2=st'∧∃ l r,c=(none,l,r)∧l≤r∧r≤n∧r - l≤n - x∧(∀ i,i < l→bey left a xs base i=true)∧∀ i,r≤i→i < n→bey left a xs base i=false) (Q:=λ c st2=>st2=st'∧∃ r,c=(none,r,r)∧r≤n∧(∀ i,i < r→bey left a xs base i=true)∧∀ i,r≤i→i < n→bey left a xs base i=false) ?_ ?_ ?_) ?_)
     · rintro x c st2 hx1 hx2 ⟨rfl,l,r,rfl,lr,rn,hm,a1,a2⟩
       dsimp only
       by_cases g:l ≥ r
       · rw [if_pos g]
         obtain rfl:l=r:=by lia
         exact wpS_pure ⟨rfl,l,rfl,rn,a1,a2⟩
       · rw [if_neg g]
         refine wpS_bind (B (i:=l + (r - l) / 2) (by lia) ?_)
         cases c2:bey left a xs base (l + (r - l) / 2) with
         | true=>exact wpS_pure ⟨rfl,l + (r - l) / 2 + 1,r,rfl,by lia,rn,by lia,λ i hi=>bey_mono hs (j:=l + (r - l) / 2) (by lia) (by lia) c2,a2⟩
         | false=>exact wpS_pure ⟨rfl,l,l + (r - l) / 2,rfl,by lia,by lia,by lia,a1,λ i hi hin=>bey_mono' hs hi hin c2⟩
     · rintro c st2 ⟨rfl,l,r,rfl,lr,rn,hm,a1,a2⟩
       obtain rfl:l=r:=by lia
       exact ⟨rfl,l,rfl,rn,a1,a2⟩
     · exact ⟨rfl,lo',hi',rfl,f3,f4,by lia,f1,f2⟩
     · rintro c st2 ⟨rfl,r,rfl,rn,a1,a2⟩
       exact wpS_pure (h r rn a1 a2)
end
end Srt
namespace Srt
open PySem PyProof.Rows
def le (p q:Keyed):Prop:=numOf p.1≤numOf q.1
structure Up (a:Array Keyed):Prop where
 ik:IntKeys a
 up:a.toList.Pairwise le
theorem Up.at {a:Array Keyed}(u:Up a) {i:Nat}(hi:i < a.size):∃ t q,a[i]? = some (.int (K a i) t,q):=by
 obtain ⟨n,t,hn⟩:=u.ik a[i] (by simp)
 have e:a[i]? = some a[i]:=getElem?_pos _ i hi
 have e2:a[i]=(.int n t,a[i].2):=Prod.ext hn rfl
 refine ⟨t,a[i].2,?_⟩
 unfold K
 rw [e,e2]
 rfl
theorem Up.sft {a:Array Keyed}(u:Up a):SFT a 0 a.size:=λ i j _ hij hj=>by
 by_cases e:i=j
 · rw [e]; exact Int.le_refl _
 · have hi:i < a.size:=by lia
   have z:=List.pairwise_iff_getElem.mp u.up i j (by simpa using hi) (by simpa using hj) (by lia)
   rw [K_eq hi,K_eq hj]
   simpa [le] using z
theorem SFT.sub {a:Array Keyed}{lo hi lo' hi':Nat}(h:SFT a lo hi) (h1:lo≤lo') (h2:hi'≤hi):SFT a lo' hi':=λ i j hi hij hj=>h i j (by lia) hij (by lia)
structure MI (a b out:Array Keyed) (ia ib:Nat):Prop where
 la:ia≤a.size
 lb:ib≤b.size
 pm:(out.toList ++ a.toList.drop ia ++ b.toList.drop ib).Perm (a.toList ++ b.toList)
 up:out.toList.Pairwise le
 ba:∀ p∈out.toList,∀ q∈a.toList.drop ia,le p q
 bb:∀ p∈out.toList,∀ q∈b.toList.drop ib,le p q
theorem MI.sz {a b out:Array Keyed}{ia ib:Nat}(m:MI a b out ia ib):out.size + (a.size - ia) + (b.size - ib)=a.size + b.size:=by
 have:=m.pm.length_eq
 simp at this
 lia
theorem MI.takeA {a b out out':Array Keyed}{ia ib:Nat}(m:MI a b out ia ib) (ua:Up a) {k:Nat}(hk:ia + k≤a.size) (ho:out'.toList=out.toList ++ (a.toList.drop ia).take k) (h:∀ p∈(a.toList.drop ia).take k,∀ q∈b.toList.drop ib,le p q):MI a b out' (ia + k) ib:=by
 have hd:a.toList.drop (ia + k)=(a.toList.drop ia).drop k:=by rw [List.drop_drop]
 have hp:(a.toList.drop ia).Pairwise le:=ua.up.sublist (List.drop_sublist _ _)
 have hp2:=hp
 rw [← List.take_append_drop k (a.toList.drop ia)] at hp2
 obtain ⟨p1,p2,p3⟩:=List.pairwise_append.mp hp2
 refine ⟨hk,m.lb,?_,?_,λ p hpp q hq=>?_,λ p hpp q hq=>?_⟩
 · rw [ho,hd,List.append_assoc out.toList,List.take_append_drop]
   exact m.pm
 · rw [ho,List.pairwise_append]
   exact ⟨m.up,p1,λ p hp q hq=>m.ba p hp q (List.mem_of_mem_take hq)⟩
 · rw [hd] at hq
   rw [ho] at hpp
   rcases List.mem_append.mp hpp with z | z
   · exact m.ba p z q (List.mem_of_mem_drop hq)
   · exact p3 p z q hq
 · rw [ho] at hpp
   rcases List.mem_append.mp hpp with z | z
   · exact m.bb p z q hq
   · exact h p z q hq
theorem MI.takeB {a b out out':Array Keyed}{ia ib:Nat}(m:MI a b out ia ib) (ub:Up b) {k:Nat}(hk:ib + k≤b.size) (ho:out'.toList=out.toList ++ (b.toList.drop ib).take k) (h:∀ p∈(b.toList.drop ib).take k,∀ q∈a.toList.drop ia,le p q):MI a b out' ia (ib + k):=by
 have hd:b.toList.drop (ib + k)=(b.toList.drop ib).drop k:=by rw [List.drop_drop]
 have hp:(b.toList.drop ib).Pairwise le:=ub.up.sublist (List.drop_sublist _ _)
 have hp2:=hp
 rw [← List.take_append_drop k (b.toList.drop ib)] at hp2
 obtain ⟨p1,p2,p3⟩:=List.pairwise_append.mp hp2
 refine ⟨m.la,hk,?_,?_,λ p hpp q hq=>?_,λ p hpp q hq=>?_⟩
 · refine List.Perm.trans ?_ m.pm
   rw [ho,hd]
   have e:b.toList.drop ib=(b.toList.drop ib).take k ++ (b.toList.drop ib).drop k:=(List.take_append_drop _ _).symm
   conv=>rhs; rw [e]
   generalize (b.toList.drop ib).take k=T
   generalize (b.toList.drop ib).drop k=D
   rw [List.append_assoc,List.append_assoc,List.append_assoc]
   refine List.Perm.append_left _ ?_
   rw [← List.append_assoc, ← List.append_assoc]
   exact List.Perm.append_right _ List.perm_append_comm
 · rw [ho,List.pairwise_append]
   exact ⟨m.up,p1,λ p hp q hq=>m.bb p hp q (List.mem_of_mem_take hq)⟩
 · rw [ho] at hpp
   rcases List.mem_append.mp hpp with z | z
   · exact m.ba p z q hq
   · exact h p z q hq
 · rw [hd] at hq
   rw [ho] at hpp
   rcases List.mem_append.mp hpp with z | z
   · exact m.bb p z q (List.mem_of_mem_drop hq)
   · exact p3 p z q hq
def Good (a b R:Array Keyed):Prop:=R.toList.Perm (a.toList ++ b.toList)∧R.toList.Pairwise le
theorem mem_drop_ix {a:Array Keyed}{i:Nat}{q:Keyed}(h:q∈a.toList.drop i):∃ j,i≤j∧j < a.size∧numOf q.1=K a j:=by
 obtain ⟨n,hn,e⟩:=List.mem_iff_getElem.mp h
 have hn':i + n < a.size:=by
   rw [List.length_drop] at hn
   simp at hn
   lia
 refine ⟨i + n,by lia,hn',?_⟩
 rw [K_eq hn', ← e,List.getElem_drop]
 simp
theorem mem_take_ix {a:Array Keyed}{i k:Nat}{q:Keyed}(h:q∈(a.toList.drop i).take k):∃ j,j < k∧i + j < a.size∧numOf q.1=K a (i + j):=by
 obtain ⟨n,hn,e⟩:=List.mem_iff_getElem.mp h
 rw [List.length_take,List.length_drop] at hn
 simp at hn
 have hn':i + n < a.size:=by lia
 refine ⟨n,by lia,hn',?_⟩
 rw [K_eq hn', ← e,List.getElem_take,List.getElem_drop]
 simp
theorem MI.pushA {a b out:Array Keyed}{ia ib:Nat}(m:MI a b out ia ib) (ua:Up a) (ub:Up b) (hi:ia < a.size) {p:Keyed}(hp:a[ia]? = some p) (h:∀ j,ib≤j→j < b.size→K a ia≤K b j):MI a b (out.push p) (ia + 1) ib:=by
 have ep:a[ia]=p:=by rw [getElem?_pos a ia hi] at hp; exact Option.some.inj hp
 refine m.takeA ua (k:=1) (by lia) ?_ λ x hx q hq=>?_
 · rw [Array.toList_push,List.drop_eq_getElem_cons (by simpa using hi)]
   simp [ep]
 · obtain ⟨j,hj,_,e⟩:=mem_take_ix hx
   obtain ⟨j2,h2,h3,e2⟩:=mem_drop_ix hq
   have:j=0:=by lia
   subst this
   show numOf x.1≤numOf q.1
   rw [e,e2]
   exact h j2 h2 h3
theorem MI.pushB {a b out:Array Keyed}{ia ib:Nat}(m:MI a b out ia ib) (ua:Up a) (ub:Up b) (hi:ib < b.size) {p:Keyed}(hp:b[ib]? = some p) (h:∀ j,ia≤j→j < a.size→K b ib≤K a j):MI a b (out.push p) ia (ib + 1):=by
 have ep:b[ib]=p:=by rw [getElem?_pos b ib hi] at hp; exact Option.some.inj hp
 refine m.takeB ub (k:=1) (by lia) ?_ λ x hx q hq=>?_
 · rw [Array.toList_push,List.drop_eq_getElem_cons (by simpa using hi)]
   simp [ep]
 · obtain ⟨j,hj,_,e⟩:=mem_take_ix hx
   obtain ⟨j2,h2,h3,e2⟩:=mem_drop_ix hq
   have:j=0:=by lia
   subst this
   show numOf x.1≤numOf q.1
   rw [e,e2]
   exact h j2 h2 h3
theorem ext_take {a:Array Keyed}{i k:Nat}:(a.extract i (i + k)).toList=(a.toList.drop i).take k:=by
 rw [Array.toList_extract,List.extract_eq_take_drop]
 congr 1
 lia
theorem ext_drop {a:Array Keyed}{i:Nat}:(a.extract i a.size).toList=a.toList.drop i:=by
 rw [Array.toList_extract,List.extract_eq_take_drop]
 refine List.take_of_length_le ?_
 rw [List.length_drop]
 simp
theorem MI.doneB {a b out:Array Keyed}{ia ib:Nat}(m:MI a b out ia ib) (ua:Up a) (h:ib=b.size):Good a b (out ++ a.extract ia a.size ++ b.extract ib b.size):=by
 have e:(out ++ a.extract ia a.size ++ b.extract ib b.size).toList=out.toList ++ a.toList.drop ia ++ b.toList.drop ib:=by
   rw [Array.toList_append,Array.toList_append,ext_drop,ext_drop]
 refine ⟨by rw [e]; exact m.pm,?_⟩
 rw [e,h,List.drop_of_length_le (l:=b.toList) (by simp),List.append_nil,List.pairwise_append]
 exact ⟨m.up,ua.up.sublist (List.drop_sublist _ _),λ p hp q hq=>m.ba p hp q hq⟩
theorem MI.last {a b out:Array Keyed}{ia ib:Nat}(m:MI a b out ia ib) (ua:Up a) (ub:Up b) (hi:ia + 1=a.size) (h:∀ j,ib≤j→j < b.size→K b j≤K a ia):Good a b (out ++ b.extract ib b.size ++ a.extract ia a.size):=by
 have e:(out ++ b.extract ib b.size ++ a.extract ia a.size).toList=out.toList ++ b.toList.drop ib ++ a.toList.drop ia:=by
   rw [Array.toList_append,Array.toList_append,ext_drop,ext_drop]
 refine ⟨?_,?_⟩
 · rw [e]
   refine List.Perm.trans ?_ m.pm
   rw [List.append_assoc,List.append_assoc]
   exact List.Perm.append_left _ List.perm_append_comm
 · rw [e,List.pairwise_append,List.pairwise_append]
   refine ⟨⟨m.up,ub.up.sublist (List.drop_sublist _ _),λ p hp q hq=>m.bb p hp q hq⟩,ua.up.sublist (List.drop_sublist _ _),λ p hp q hq=>?_⟩
   rcases List.mem_append.mp hp with z | z
   · exact m.ba p z q hq
   · obtain ⟨j,h1,h2,e1⟩:=mem_drop_ix z
     obtain ⟨j2,h3,h4,e2⟩:=mem_drop_ix hq
     have:j2=ia:=by lia
     subst this
     show numOf p.1≤numOf q.1
     rw [e1,e2]
     exact h j h1 h2
theorem MI.extA {a b out:Array Keyed}{ia ib:Nat}(m:MI a b out ia ib) (ua:Up a) {k:Nat}(hk:ia + k≤a.size) (h:∀ i j,i < k→ib≤j→j < b.size→K a (ia + i)≤K b j):MI a b (out ++ a.extract ia (ia + k)) (ia + k) ib :=
 m.takeA ua hk (by rw [Array.toList_append,ext_take]) λ p hp q hq=>by
   obtain ⟨j,h1,h2,e1⟩:=mem_take_ix hp
   obtain ⟨j2,h3,h4,e2⟩:=mem_drop_ix hq
   show numOf p.1≤numOf q.1
   rw [e1,e2]
   exact h j j2 h1 h3 h4
theorem MI.extB {a b out:Array Keyed}{ia ib:Nat}(m:MI a b out ia ib) (ub:Up b) {k:Nat}(hk:ib + k≤b.size) (h:∀ i j,i < k→ia≤j→j < a.size→K b (ib + i)≤K a j):MI a b (out ++ b.extract ib (ib + k)) ia (ib + k) :=
 m.takeB ub hk (by rw [Array.toList_append,ext_take]) λ p hp q hq=>by
   obtain ⟨j,h1,h2,e1⟩:=mem_take_ix hp
   obtain ⟨j2,h3,h4,e2⟩:=mem_drop_ix hq
   show numOf p.1≤numOf q.1
   rw [e1,e2]
   exact h j j2 h1 h3 h4
theorem gal_f {a:Int}{xs:Array Keyed}{base n r:Nat}(r1:∀ i,i < r→bey false a xs base i=true) (r2:∀ i,r≤i→i < n→bey false a xs base i=false):(∀ i,i < r→K xs (base + i)≤a)∧∀ j,base + r≤j→j < base + n→a < K xs j:=by
 refine ⟨λ i hi=>?_,λ j hj hj2=>?_⟩
 · have:=r1 i hi
   unfold bey at this
   simpa using this
 · have:=r2 (j - base) (by lia) (by lia)
   unfold bey at this
   rw [show base + (j - base)=j by lia] at this
   simpa using this
theorem gal_t {a:Int}{xs:Array Keyed}{base n r:Nat}(r1:∀ i,i < r→bey true a xs base i=true) (r2:∀ i,r≤i→i < n→bey true a xs base i=false):(∀ i,i < r→K xs (base + i) < a)∧∀ j,base + r≤j→j < base + n→a≤K xs j:=by
 refine ⟨λ i hi=>?_,λ j hj hj2=>?_⟩
 · have:=r1 i hi
   unfold bey at this
   simpa using this
 · have:=r2 (j - base) (by lia) (by lia)
   unfold bey at this
   rw [show base + (j - base)=j by lia] at this
   simpa using this
theorem MI.grow {a b out O:Array Keyed}{ia ib I B:Nat}(m:MI a b out ia ib) (m2:MI a b O I B) (h1:ia≤I) (h2:ib≤B):out.size≤O.size:=by
 have a1:=m.sz
 have a2:=m2.sz
 have:=m2.la
 have:=m2.lb
 lia
end Srt
namespace Srt
open PySem PyProof.Rows
def mergeLo':Array Keyed→Array Keyed→StateT SortSt Sem (Array Keyed):=sortPriv% PySem.Builtin.mergeLo
structure Stk (st st':SortSt):Prop where
 arr:arrOf st'=arrOf st
 kind:kindOf st'=kindOf st
 failed:failedOf st'=failedOf st
 pend:pendingOf st'=pendingOf st
section
variable {prog:Program}{w:World}{A:Around}{E:Value→Shared→Prop}{s:Shared}{a₀:Array Keyed}
theorem ite_at {α:Type}{c:Prop} [Decidable c] {m n:StateT SortSt Sem α}{Q:α→SortSt→Prop}{st:SortSt}(h1:c→wpS (model prog w) A E s m Q st) (h2:¬ c→wpS (model prog w) A E s n Q st):wpS (model prog w) A E s (if c then m else n) Q st:=by
 by_cases z:c
 · rw [if_pos z]; exact h1 z
 · rw [if_neg z]; exact h2 z
def setMG':Nat→StateT SortSt Sem Unit:=sortPriv% PySem.Builtin.setMinGallop
theorem mg_at {st0 st:SortSt}{g:Nat}{Q:Unit→SortSt→Prop}(k:Stk st0 st) (h:∀ st',Stk st0 st'→Q () st'):wpS (model prog w) A E s (setMG' g) Q st :=
 wpS_modify (h _ ⟨k.arr,k.kind,k.failed,k.pend⟩)
set_option maxHeartbeats 4000000 in
theorem mergeLo_at {st:SortSt}{a b:Array Keyed}{Q:Array Keyed→SortSt→Prop}(hk:kindOf st=oneType') (ua:Up a) (ub:Up b) (na:1≤a.size) (nb:1≤b.size) (h0:K b 0 < K a 0) (hl:∀ j,j < b.size→K b j < K a (a.size - 1))
   (h:∀ R st',Good a b R→Stk st st'→Q R st'):wpS (model prog w) A E s (mergeLo' a b) Q st:=by
 refine wpS_bind (wpS_lift (wpAny_rule ⟨rfl,?_⟩))
 obtain ⟨t0,q0,e0⟩:=ub.at (i:=0) (by lia)
 refine wpS_bind (elem_at e0 ?_)
 have sa:=ua.sft
 have sb:=ub.sft
 have M0:MI a b #[(Value.int (K b 0) t0,q0)] 0 1:=by
   have M:MI a b #[] 0 0:=⟨Nat.zero_le _,Nat.zero_le _,by simp,List.Pairwise.nil,(λ p hp=>by cases hp),(λ p hp=>by cases hp)⟩
   exact M.pushB ua ub (by lia) e0 λ j _ hj=>by
     have:=sa 0 j (by lia) (by lia) hj
     lia
 refine ite_at (λ g=>?_) (λ g=>?_)
 · exact wpS_pure (h _ _ (M0.doneB ua (by simpa using g)) ⟨rfl,rfl,rfl,rfl⟩)
 have g1:¬ 1=b.size:=by simpa using g
 refine ite_at (λ g=>?_) (λ g=>?_)
 · have g':0 + 1=a.size:=by simpa using g
   refine wpS_pure (h _ _ (M0.last ua ub g' λ j _ hj=>?_) ⟨rfl,rfl,rfl,rfl⟩)
   have:=hl j hj
   rw [← g'] at this
   exact Int.le_of_lt this
 have g2:¬ 0 + 1=a.size:=by simpa using g
 refine wpS_bind (wpS_get ?_)
 refine wpS_bind (wpS_mono (wpS_forRange (I:=λ x c st' => ∃ out ia ib mg,c=(none,out,ia,ib,mg)∧MI a b out ia ib∧ia + 1 < a.size∧ib < b.size∧x + 1≤out.size∧Stk st st') (Q:=λ c st' => ∃ R,Good a b R∧c.1=some R∧Stk st st') ?_ ?_ ?_) ?_)
 · rintro x c st1 hx1 hx2 ⟨out,ia,ib,mg,rfl,M,la,lb,lo,K1⟩
   refine wpS_bind (wpS_mono (wpS_forRange (I:=λ y c st' => ∃ out' ia ib ac bc,c=(none,out',ia,ib,ac,bc)∧MI a b out' ia ib∧ia + 1 < a.size∧ib < b.size∧out.size + y≤out'.size∧Stk st st')
     (Q:=λ c st'=>Stk st st'∧((∃ R,Good a b R∧c.1=some R)∨∃ out' ia ib ac bc,c=(none,out',ia,ib,ac,bc)∧MI a b out' ia ib∧ia + 1 < a.size∧ib < b.size∧out.size + 1≤out'.size)) ?_ ?_ ?_) ?_)
   · rintro y c st2 hy1 hy2 ⟨out',ia,ib,ac,bc,rfl,M,la,lb,lo',K2⟩
     have hk2:kindOf st2=oneType':=K2.kind.trans hk
     obtain ⟨tb,qb,eb⟩:=ub.at lb
     obtain ⟨ta,qa,ea⟩:=ua.at (i:=ia) (by lia)
     refine wpS_bind (elem_at eb (wpS_bind (elem_at ea (wpS_bind (lt_two hk2 rfl rfl ?_)))))
     by_cases c:K b ib < K a ia
     · rw [decide_eq_true c]
       refine wpS_bind (elem_at eb ?_)
       have M2:=M.pushB ua ub lb eb λ j h1 h2=>by
         have:=sa ia j (by lia) h1 h2
         lia
       refine ite_at (λ g=>?_) (λ g=>?_)
       · exact wpS_pure ⟨K2,.inl ⟨_,M2.doneB ua (by simpa using g),rfl⟩⟩
       · have g':¬ ib + 1=b.size:=by simpa using g
         have sz:(out'.push (Value.int (K b ib) tb,qb)).size=out'.size + 1:=Array.size_push ..
         refine ite_at (λ g=>?_) (λ g=>?_)
         · exact wpS_pure ⟨K2,.inr ⟨out'.push (Value.int (K b ib) tb,qb),ia,ib + 1,_,_,rfl,M2,la,by lia,by lia⟩⟩
         · exact wpS_pure ⟨out'.push (Value.int (K b ib) tb,qb),ia,ib + 1,_,_,rfl,M2,la,by lia,by lia,K2⟩
     · rw [decide_eq_false c]
       refine wpS_bind (elem_at ea ?_)
       have M2:=M.pushA ua ub (by lia) ea λ j h1 h2=>by
         have:=sb ib j (by lia) h1 h2
         lia
       refine ite_at (λ g=>?_) (λ g=>?_)
       · have g':ia + 1 + 1=a.size:=by simpa using g
         refine wpS_pure ⟨K2,.inl ⟨_,M2.last ua ub g' (λ j h1 h2=>?_),rfl⟩⟩
         have:=hl j h2
         rw [show a.size - 1=ia + 1 by lia] at this
         exact Int.le_of_lt this
       · have g':¬ ia + 1 + 1=a.size:=by simpa using g
         have sz:(out'.push (Value.int (K a ia) ta,qa)).size=out'.size + 1:=Array.size_push ..
         refine ite_at (λ g=>?_) (λ g=>?_)
         · exact wpS_pure ⟨K2,.inr ⟨out'.push (Value.int (K a ia) ta,qa),ia + 1,ib,_,_,rfl,M2,by lia,lb,by lia⟩⟩
         · exact wpS_pure ⟨out'.push (Value.int (K a ia) ta,qa),ia + 1,ib,_,_,rfl,M2,by lia,lb,by lia,K2⟩
   · rintro c st2 ⟨out',ia,ib,ac,bc,rfl,M,la,lb,lo',K2⟩
     exact ⟨K2,.inr ⟨_,_,_,_,_,rfl,M,la,lb,by lia⟩⟩
   · exact ⟨out,ia,ib,_,_,rfl,M,la,lb,by lia,K1⟩
   · rintro c st2 ⟨K2,⟨R,hR,e⟩ | ⟨out',ia,ib,ac,bc,rfl,M,la,lb,lo'⟩⟩
     · obtain ⟨c1,c2⟩:=c
       cases e
       exact wpS_pure ⟨R,hR,rfl,K2⟩
     · refine wpS_bind (wpS_lift (wpAny_rule ⟨rfl,?_⟩))
       refine wpS_bind (wpS_mono (wpS_forRange (I:=λ y c st' => ∃ out2 ia ib mg ac bc,c=(none,out2,ia,ib,mg,ac,bc)∧MI a b out2 ia ib∧ia + 1 < a.size∧ib < b.size∧out'.size≤out2.size∧Stk st st')
         (Q:=λ c st'=>Stk st st'∧((∃ R,Good a b R∧c.1=some R)∨∃ out2 ia ib mg ac bc,c=(none,out2,ia,ib,mg,ac,bc)∧MI a b out2 ia ib∧ia + 1 < a.size∧ib < b.size∧out'.size≤out2.size)) ?_ ?_ ?_) ?_)
       · rintro y c st3 hy1 hy2 ⟨out2,ia,ib,mg2,ac,bc,rfl,M,la,lb,lo2,K3⟩
         refine ite_at (λ g=>?_) (λ g=>?_)
         all_goals
           refine wpS_bind (mg_at K3 λ st4 K4=>?_)
           have hk4:kindOf st4=oneType':=K4.kind.trans hk
           obtain ⟨tb,qb,eb⟩:=ub.at lb
           refine wpS_bind (elem_at eb (wpS_bind (gallop_at (base:=ia) (n:=a.size - ia) (hint:=0) hk4 rfl (λ i hi=>ua.at (by lia)) (sa.sub (Nat.zero_le _) (by lia)) (by lia) λ r hr r1 r2=>?_)))
           obtain ⟨R1,R2⟩:=gal_f r1 r2
           rw [show ia + (a.size - ia)=a.size by lia] at R2
           have rlt:ia + r < a.size:=by
             by_cases z:ia + r < a.size
             · exact z
             · have a1:=R1 (a.size - 1 - ia) (by lia)
               rw [show ia + (a.size - 1 - ia)=a.size - 1 by lia] at a1
               have:=hl ib lb
               lia
           have M1:=M.extA ua (k:=r) (by lia) λ i j hi h1 h2=>Int.le_trans (R1 i hi) (sb ib j (Nat.zero_le _) h1 h2)
           refine ite_at (λ g2=>?_) (λ g2=>?_)
           · refine ite_at (λ g3=>?_) (λ g3=>?_)
             · have g':ia + r + 1=a.size:=by simpa using g3
               refine wpS_pure ⟨K4,.inl ⟨_,M1.last ua ub g' (λ j h1 h2=>?_),rfl⟩⟩
               have:=hl j h2
               rw [show a.size - 1=ia + r by lia] at this
               exact Int.le_of_lt this
             · have g3':¬ ia + r + 1=a.size:=by simpa using g3
               refine ite_at (λ g4=>?_) (λ g4=>?_)
               · have g':ia + r=a.size:=by simpa using g4
                 lia
               · clear g4
                 have M2:=M1.pushB ua ub lb eb λ j h1 h2=>Int.le_of_lt (R2 j (by lia) h2)
                 refine wpS_bind (elem_at eb ?_)
                 refine ite_at (λ g5=>wpS_pure ⟨K4,.inl ⟨_,M2.doneB ua (by simpa using g5),rfl⟩⟩) (λ g5=>?_)
                 have g5':¬ ib + 1=b.size:=by simpa using g5
                 obtain ⟨ta,qa,ea⟩:=ua.at (i:=ia + r) (by lia)
                 refine wpS_bind (elem_at ea (wpS_bind (gallop_at (base:=ib + 1) (n:=b.size - (ib + 1)) (hint:=0) hk4 rfl (λ i hi=>ub.at (by lia)) (sb.sub (Nat.zero_le _) (by lia)) (by lia) λ r' hr' r1' r2'=>?_)))
                 obtain ⟨T1,T2⟩:=gal_t r1' r2'
                 rw [show ib + 1 + (b.size - (ib + 1))=b.size by lia] at T2
                 have M3:=M2.extB ub (k:=r') (by lia) λ i j hi h1 h2=>Int.le_of_lt (Int.lt_of_lt_of_le (T1 i hi) (sa _ j (Nat.zero_le _) h1 h2))
                 refine ite_at (λ g6=>?_) (λ g6=>?_)
                 · refine ite_at (λ g7=>wpS_pure ⟨K4,.inl ⟨_,M3.doneB ua (by simpa using g7),rfl⟩⟩) (λ g7=>?_)
                   have g7':¬ ib + 1 + r'=b.size:=by simpa using g7
                   refine wpS_bind (elem_at ea ?_)
                   have M4:=M3.pushA ua ub (by lia) ea λ j h1 h2=>T2 j (by lia) h2
                   refine ite_at (λ g8=>?_) (λ g8=>?_)
                   · have g8':ia + r + 1 + 1=a.size:=by simpa using g8
                     refine wpS_pure ⟨K4,.inl ⟨_,M4.last ua ub g8' (λ j h1 h2=>?_),rfl⟩⟩
                     have:=hl j h2
                     rw [show a.size - 1=ia + r + 1 by lia] at this
                     exact Int.le_of_lt this
                   · have g8':¬ ia + r + 1 + 1=a.size:=by simpa using g8
                     refine ite_at (λ g9=>wpS_pure ⟨K4,.inr ⟨_,ia + r + 1,ib + 1 + r',_,_,_,rfl,M4,by lia,by lia,Nat.le_trans lo2 (M.grow M4 (by lia) (by lia))⟩⟩) (λ g9=>wpS_pure ⟨_,ia + r + 1,ib + 1 + r',_,_,_,rfl,M4,by lia,by lia,Nat.le_trans lo2 (M.grow M4 (by lia) (by lia)),K4⟩)
                 · have r0':r'=0:=by lia
                   subst r0'
                   refine wpS_bind (elem_at ea ?_)
                   have M4:=M2.pushA ua ub (by lia) ea λ j h1 h2=>T2 j (by lia) h2
                   refine ite_at (λ g8=>?_) (λ g8=>?_)
                   · have g8':ia + r + 1 + 1=a.size:=by simpa using g8
                     refine wpS_pure ⟨K4,.inl ⟨_,M4.last ua ub g8' (λ j h1 h2=>?_),rfl⟩⟩
                     have:=hl j h2
                     rw [show a.size - 1=ia + r + 1 by lia] at this
                     exact Int.le_of_lt this
                   · have g8':¬ ia + r + 1 + 1=a.size:=by simpa using g8
                     refine ite_at (λ g9=>wpS_pure ⟨K4,.inr ⟨_,ia + r + 1,ib + 1,_,_,_,rfl,M4,by lia,by lia,Nat.le_trans lo2 (M.grow M4 (by lia) (by lia))⟩⟩) (λ g9=>wpS_pure ⟨_,ia + r + 1,ib + 1,_,_,_,rfl,M4,by lia,by lia,Nat.le_trans lo2 (M.grow M4 (by lia) (by lia)),K4⟩)
           · have r0:r=0:=by lia
             subst r0
             have M2:=M.pushB ua ub lb eb λ j h1 h2=>Int.le_of_lt (R2 j (by lia) h2)
             refine wpS_bind (elem_at eb ?_)
             refine ite_at (λ g5=>wpS_pure ⟨K4,.inl ⟨_,M2.doneB ua (by simpa using g5),rfl⟩⟩) (λ g5=>?_)
             have g5':¬ ib + 1=b.size:=by simpa using g5
             obtain ⟨ta,qa,ea⟩:=ua.at (i:=ia) (by lia)
             refine wpS_bind (elem_at ea (wpS_bind (gallop_at (base:=ib + 1) (n:=b.size - (ib + 1)) (hint:=0) hk4 rfl (λ i hi=>ub.at (by lia)) (sb.sub (Nat.zero_le _) (by lia)) (by lia) λ r' hr' r1' r2'=>?_)))
             obtain ⟨T1,T2⟩:=gal_t r1' r2'
             rw [show ib + 1 + (b.size - (ib + 1))=b.size by lia] at T2
             have M3:=M2.extB ub (k:=r') (by lia) λ i j hi h1 h2=>Int.le_of_lt (Int.lt_of_lt_of_le (T1 i hi) (sa _ j (Nat.zero_le _) h1 h2))
             refine ite_at (λ g6=>?_) (λ g6=>?_)
             · refine ite_at (λ g7=>wpS_pure ⟨K4,.inl ⟨_,M3.doneB ua (by simpa using g7),rfl⟩⟩) (λ g7=>?_)
               have g7':¬ ib + 1 + r'=b.size:=by simpa using g7
               refine wpS_bind (elem_at ea ?_)
               have M4:=M3.pushA ua ub (by lia) ea λ j h1 h2=>T2 j (by lia) h2
               refine ite_at (λ g8=>?_) (λ g8=>?_)
               · have g8':ia + 1 + 1=a.size:=by simpa using g8
                 refine wpS_pure ⟨K4,.inl ⟨_,M4.last ua ub g8' (λ j h1 h2=>?_),rfl⟩⟩
                 have:=hl j h2
                 rw [show a.size - 1=ia + 1 by lia] at this
                 exact Int.le_of_lt this
               · have g8':¬ ia + 1 + 1=a.size:=by simpa using g8
                 refine ite_at (λ g9=>wpS_pure ⟨K4,.inr ⟨_,ia + 1,ib + 1 + r',_,_,_,rfl,M4,by lia,by lia,Nat.le_trans lo2 (M.grow M4 (by lia) (by lia))⟩⟩) (λ g9=>wpS_pure ⟨_,ia + 1,ib + 1 + r',_,_,_,rfl,M4,by lia,by lia,Nat.le_trans lo2 (M.grow M4 (by lia) (by lia)),K4⟩)
             · have r0':r'=0:=by lia
               subst r0'
               refine wpS_bind (elem_at ea ?_)
               have M4:=M2.pushA ua ub (by lia) ea λ j h1 h2=>T2 j (by lia) h2
               refine ite_at (λ g8=>?_) (λ g8=>?_)
               · have g8':ia + 1 + 1=a.size:=by simpa using g8
                 refine wpS_pure ⟨K4,.inl ⟨_,M4.last ua ub g8' (λ j h1 h2=>?_),rfl⟩⟩
                 have:=hl j h2
                 rw [show a.size - 1=ia + 1 by lia] at this
                 exact Int.le_of_lt this
               · have g8':¬ ia + 1 + 1=a.size:=by simpa using g8
                 refine ite_at (λ g9=>wpS_pure ⟨K4,.inr ⟨_,ia + 1,ib + 1,_,_,_,rfl,M4,by lia,by lia,Nat.le_trans lo2 (M.grow M4 (by lia) (by lia))⟩⟩) (λ g9=>wpS_pure ⟨_,ia + 1,ib + 1,_,_,_,rfl,M4,by lia,by lia,Nat.le_trans lo2 (M.grow M4 (by lia) (by lia)),K4⟩)
       · rintro c st3 ⟨out2,ia,ib,mg2,ac,bc,rfl,M,la,lb,lo2,K3⟩
         exact ⟨K3,.inr ⟨_,_,_,_,_,_,rfl,M,la,lb,lo2⟩⟩
       · exact ⟨out',ia,ib,_,_,_,rfl,M,la,lb,Nat.le_refl _,K2⟩
       · rintro c st3 ⟨K3,⟨R,hR,e⟩ | ⟨out2,ia,ib,mg2,ac,bc,rfl,M,la,lb,lo2⟩⟩
         · obtain ⟨c1,c2⟩:=c
           cases e
           exact wpS_pure ⟨R,hR,rfl,K3⟩
         · refine wpS_bind (mg_at K3 λ st4 K4=>?_)
           exact wpS_pure ⟨out2,ia,ib,_,rfl,M,la,lb,by lia,K4⟩
 · rintro c st1 ⟨out,ia,ib,mg,rfl,M,la,lb,lo,K1⟩
   exfalso
   have:=M.sz
   lia
 · exact ⟨_,_,_,_,rfl,M0,by lia,by lia,Nat.le_refl _,⟨rfl,rfl,rfl,rfl⟩⟩
 · rintro c st1 ⟨R,hR,e,K1⟩
   obtain ⟨c1,c2⟩:=c
   cases e
   exact wpS_pure (h R st1 hR K1)
end
end Srt
namespace Srt
open PySem PyProof.Rows
def seg (a:Array Keyed) (k n:Nat):List Keyed:=(a.toList.drop k).take (n - k)
theorem seg_split {a:Array Keyed}{k n:Nat}(h:k≤n):a.toList.take n=a.toList.take k ++ seg a k n:=by
 unfold seg
 have e:a.toList.take k=(a.toList.take n).take k:=by rw [List.take_take,Nat.min_eq_left h]
 rw [e, ← List.drop_take,List.take_append_drop]
theorem mem_seg {a:Array Keyed}{k n:Nat}{q:Keyed}(h:q∈seg a k n):∃ j,k≤j∧j < n∧j < a.size∧numOf q.1=K a j:=by
 obtain ⟨j,h1,h2,e⟩:=mem_take_ix h
 exact ⟨k + j,by lia,by lia,h2,e⟩
theorem mem_pre {a:Array Keyed}{n:Nat}{q:Keyed}(h:q∈a.toList.take n):∃ j,j < n∧j < a.size∧numOf q.1=K a j:=by
 have:q∈(a.toList.drop 0).take n:=by rw [List.drop_zero]; exact h
 obtain ⟨j,h1,h2,e⟩:=mem_take_ix this
 rw [Nat.zero_add] at h2 e
 exact ⟨j,h1,h2,e⟩
theorem seg_ext {a:Array Keyed}{k n:Nat}:(a.extract k n).toList=seg a k n:=by
 unfold seg
 rw [Array.toList_extract,List.extract_eq_take_drop]
theorem pre_ext {a:Array Keyed}{n:Nat}:(a.extract 0 n).toList=a.toList.take n:=by
 rw [Array.toList_extract,List.extract_eq_take_drop]
 simp
theorem seg_one {a:Array Keyed}{k:Nat}(h:k < a.size):seg a k (k + 1)=[a[k]]:=by
 unfold seg
 rw [List.drop_eq_getElem_cons (by simpa using h)]
 simp
structure MH (a b out:Array Keyed) (na nb:Nat):Prop where
 la:na≤a.size
 lb:nb≤b.size
 pm:(a.toList.take na ++ b.toList.take nb ++ out.toList.reverse).Perm (a.toList ++ b.toList)
 up:out.toList.reverse.Pairwise le
 ab:∀ p∈a.toList.take na,∀ q∈out.toList,le p q
 bb:∀ p∈b.toList.take nb,∀ q∈out.toList,le p q
theorem MH.sz {a b out:Array Keyed}{na nb:Nat}(m:MH a b out na nb):out.size + na + nb=a.size + b.size:=by
 have:=m.pm.length_eq
 have h1:=m.la
 have h2:=m.lb
 simp at this
 lia
theorem MH.grow {a b out O:Array Keyed}{ia ib I B:Nat}(m:MH a b out ia ib) (m2:MH a b O I B) (h1:I≤ia) (h2:B≤ib):out.size≤O.size:=by
 have a1:=m.sz
 have a2:=m2.sz
 lia
theorem mem_rev {out:Array Keyed}{l r:List Keyed}{q:Keyed}(h:out.toList.reverse=l ++ r.reverse) (hq:q∈out.toList):q∈l∨q∈r:=by
 have:q∈out.toList.reverse:=List.mem_reverse.mpr hq
 rw [h] at this
 rcases List.mem_append.mp this with z | z
 · exact .inl z
 · exact .inr (List.mem_reverse.mp z)
theorem MH.takeA {a b out out':Array Keyed}{na nb k:Nat}(m:MH a b out na nb) (ua:Up a) (hk:k≤na) (ho:out'.toList.reverse=seg a k na ++ out.toList.reverse) (h:∀ i j,i < nb→i < b.size→k≤j→j < na→K b i≤K a j):MH a b out' k nb:=by
 have hsp:=seg_split (a:=a) hk
 have hp:(a.toList.take na).Pairwise le:=ua.up.sublist (List.take_sublist _ _)
 rw [hsp] at hp
 obtain ⟨p1,p2,p3⟩:=List.pairwise_append.mp hp
 have hla:=m.la
 refine ⟨by lia,m.lb,?_,?_,λ p hpp q hq=>?_,λ p hpp q hq=>?_⟩
 · refine List.Perm.trans ?_ m.pm
   rw [ho,hsp]
   generalize seg a k na=T
   generalize a.toList.take k=D
   generalize b.toList.take nb=B
   rw [List.append_assoc,List.append_assoc,List.append_assoc]
   refine List.Perm.append_left _ ?_
   rw [← List.append_assoc, ← List.append_assoc]
   exact List.Perm.append_right _ List.perm_append_comm
 · rw [ho,List.pairwise_append]
   refine ⟨p2,m.up,λ p hp q hq=>m.ab p ?_ q (List.mem_reverse.mp hq)⟩
   rw [hsp]
   exact List.mem_append_right _ hp
 · rcases mem_rev ho hq with z | z
   · exact p3 p hpp q z
   · refine m.ab p ?_ q z
     rw [hsp]
     exact List.mem_append_left _ hpp
 · rcases mem_rev ho hq with z | z
   · obtain ⟨i,i1,i2,e1⟩:=mem_pre hpp
     obtain ⟨j,j1,j2,j3,e2⟩:=mem_seg z
     show numOf p.1≤numOf q.1
     rw [e1,e2]
     exact h i j i1 i2 j1 j2
   · exact m.bb p hpp q z
theorem MH.takeB {a b out out':Array Keyed}{na nb k:Nat}(m:MH a b out na nb) (ub:Up b) (hk:k≤nb) (ho:out'.toList.reverse=seg b k nb ++ out.toList.reverse) (h:∀ i j,i < na→i < a.size→k≤j→j < nb→K a i≤K b j):MH a b out' na k:=by
 have hsp:=seg_split (a:=b) hk
 have hp:(b.toList.take nb).Pairwise le:=ub.up.sublist (List.take_sublist _ _)
 rw [hsp] at hp
 obtain ⟨p1,p2,p3⟩:=List.pairwise_append.mp hp
 have hlb:=m.lb
 refine ⟨m.la,by lia,?_,?_,λ p hpp q hq=>?_,λ p hpp q hq=>?_⟩
 · refine List.Perm.trans ?_ m.pm
   rw [ho,hsp]
   generalize seg b k nb=T
   generalize b.toList.take k=D
   generalize a.toList.take na=B
   rw [List.append_assoc,List.append_assoc,List.append_assoc]
 · rw [ho,List.pairwise_append]
   refine ⟨p2,m.up,λ p hp q hq=>m.bb p ?_ q (List.mem_reverse.mp hq)⟩
   rw [hsp]
   exact List.mem_append_right _ hp
 · rcases mem_rev ho hq with z | z
   · obtain ⟨i,i1,i2,e1⟩:=mem_pre hpp
     obtain ⟨j,j1,j2,j3,e2⟩:=mem_seg z
     show numOf p.1≤numOf q.1
     rw [e1,e2]
     exact h i j i1 i2 j1 j2
   · exact m.ab p hpp q z
 · rcases mem_rev ho hq with z | z
   · exact p3 p hpp q z
   · refine m.bb p ?_ q z
     rw [hsp]
     exact List.mem_append_left _ hpp
theorem MH.pushA {a b out:Array Keyed}{na nb:Nat}(m:MH a b out na nb) (ua:Up a) (hn:1≤na) {p:Keyed}(hp:a[na - 1]? = some p) (h:∀ i,i < nb→i < b.size→K b i≤K a (na - 1)):MH a b (out.push p) (na - 1) nb:=by
 have hla:=m.la
 have hi:na - 1 < a.size:=by lia
 have ep:a[na - 1]=p:=by rw [getElem?_pos a _ hi] at hp; exact Option.some.inj hp
 refine m.takeA ua (by lia) ?_ λ i j h1 h2 h3 h4=>?_
 · have:=seg_one hi
   rw [show na - 1 + 1=na by lia] at this
   rw [this,Array.toList_push,List.reverse_append,ep]
   rfl
 · rw [show j=na - 1 by lia]
   exact h i h1 h2
theorem MH.pushB {a b out:Array Keyed}{na nb:Nat}(m:MH a b out na nb) (ub:Up b) (hn:1≤nb) {p:Keyed}(hp:b[nb - 1]? = some p) (h:∀ i,i < na→i < a.size→K a i≤K b (nb - 1)):MH a b (out.push p) na (nb - 1):=by
 have hlb:=m.lb
 have hi:nb - 1 < b.size:=by lia
 have ep:b[nb - 1]=p:=by rw [getElem?_pos b _ hi] at hp; exact Option.some.inj hp
 refine m.takeB ub (by lia) ?_ λ i j h1 h2 h3 h4=>?_
 · have:=seg_one hi
   rw [show nb - 1 + 1=nb by lia] at this
   rw [this,Array.toList_push,List.reverse_append,ep]
   rfl
 · rw [show j=nb - 1 by lia]
   exact h i h1 h2
theorem MH.extA {a b out:Array Keyed}{na nb k:Nat}(m:MH a b out na nb) (ua:Up a) (hk:k≤na) (h:∀ i j,i < nb→i < b.size→k≤j→j < na→K b i≤K a j):MH a b (out ++ (a.extract k na).reverse) k nb :=
 m.takeA ua hk (by rw [Array.toList_append,List.reverse_append,Array.toList_reverse,List.reverse_reverse,seg_ext]) h
theorem MH.extB {a b out:Array Keyed}{na nb k:Nat}(m:MH a b out na nb) (ub:Up b) (hk:k≤nb) (h:∀ i j,i < na→i < a.size→k≤j→j < nb→K a i≤K b j):MH a b (out ++ (b.extract k nb).reverse) na k :=
 m.takeB ub hk (by rw [Array.toList_append,List.reverse_append,Array.toList_reverse,List.reverse_reverse,seg_ext]) h
theorem MH.done {a b out:Array Keyed}{na nb:Nat}(m:MH a b out na nb) (ua:Up a) (ub:Up b) (h:na=0∨nb=0):Good a b (a.extract 0 na ++ b.extract 0 nb ++ out.reverse):=by
 have e:(a.extract 0 na ++ b.extract 0 nb ++ out.reverse).toList=a.toList.take na ++ b.toList.take nb ++ out.toList.reverse:=by
   rw [Array.toList_append,Array.toList_append,pre_ext,pre_ext,Array.toList_reverse]
 refine ⟨by rw [e]; exact m.pm,?_⟩
 rw [e]
 rcases h with h | h
 · rw [h,List.take_zero,List.nil_append,List.pairwise_append]
   exact ⟨ub.up.sublist (List.take_sublist _ _),m.up,λ p hp q hq=>m.bb p hp q (List.mem_reverse.mp hq)⟩
 · rw [h,List.take_zero,List.append_nil,List.pairwise_append]
   exact ⟨ua.up.sublist (List.take_sublist _ _),m.up,λ p hp q hq=>m.ab p hp q (List.mem_reverse.mp hq)⟩
theorem MH.first {a b out:Array Keyed}{na nb:Nat}(m:MH a b out na nb) (ua:Up a) (ub:Up b) (hn:nb=1) (h:∀ j,j < a.size→K b 0≤K a j):Good a b (b.extract 0 nb ++ a.extract 0 na ++ out.reverse):=by
 have e:(b.extract 0 nb ++ a.extract 0 na ++ out.reverse).toList=b.toList.take nb ++ a.toList.take na ++ out.toList.reverse:=by
   rw [Array.toList_append,Array.toList_append,pre_ext,pre_ext,Array.toList_reverse]
 refine ⟨?_,?_⟩
 · rw [e]
   exact (List.Perm.append_right _ List.perm_append_comm).trans m.pm
 · rw [e,List.pairwise_append,List.pairwise_append]
   refine ⟨⟨ub.up.sublist (List.take_sublist _ _),ua.up.sublist (List.take_sublist _ _),λ p hp q hq=>?_⟩,m.up,λ p hp q hq=>?_⟩
   · obtain ⟨i,i1,i2,e1⟩:=mem_pre hp
     obtain ⟨j,j1,j2,e2⟩:=mem_pre hq
     show numOf p.1≤numOf q.1
     rw [e1,e2,show i=0 by lia]
     exact h j j2
   · rcases List.mem_append.mp hp with z | z
     · exact m.bb p z q (List.mem_reverse.mp hq)
     · exact m.ab p z q (List.mem_reverse.mp hq)
end Srt
namespace Srt
open PySem PyProof.Rows
def mergeHi':Array Keyed→Array Keyed→StateT SortSt Sem (Array Keyed):=sortPriv% PySem.Builtin.mergeHi
section
variable {prog:Program}{w:World}{A:Around}{E:Value→Shared→Prop}{s:Shared}{a₀:Array Keyed}
set_option maxHeartbeats 4000000 in
theorem mergeHi_at {st:SortSt}{a b:Array Keyed}{Q:Array Keyed→SortSt→Prop}(hk:kindOf st=oneType') (ua:Up a) (ub:Up b) (na:1≤a.size) (nb:1≤b.size) (h0:K b 0 < K a 0) (hl:∀ j,j < b.size→K b j < K a (a.size - 1))
   (h:∀ R st',Good a b R→Stk st st'→Q R st'):wpS (model prog w) A E s (mergeHi' a b) Q st:=by
 refine wpS_bind (wpS_lift (wpAny_rule ⟨rfl,?_⟩))
 have sa:=ua.sft
 have sb:=ub.sft
 have hb0:∀ j,j < a.size→K b 0≤K a j:=λ j hj=>by
   have:=sa 0 j (Nat.zero_le _) (Nat.zero_le _) hj
   lia
 obtain ⟨t0,q0,e0⟩:=ua.at (i:=a.size - 1) (by lia)
 refine wpS_bind (elem_at e0 ?_)
 have M0:MH a b #[(Value.int (K a (a.size - 1)) t0,q0)] (a.size - 1) b.size:=by
   have M:MH a b #[] a.size b.size:=⟨Nat.le_refl _,Nat.le_refl _,(by rw [List.take_of_length_le (l:=a.toList) (by simp),List.take_of_length_le (l:=b.toList) (by simp)]; simp),List.Pairwise.nil,(λ p _ q hq=>by cases hq),(λ p _ q hq=>by cases hq)⟩
   exact M.pushA ua na e0 λ i h1 h2=>Int.le_of_lt (hl i h2)
 refine ite_at (λ g=>wpS_pure (h _ _ (M0.done ua ub (.inl (by simpa using g))) ⟨rfl,rfl,rfl,rfl⟩)) (λ g=>?_)
 have g1:¬ a.size - 1=0:=by simpa using g
 refine ite_at (λ g=>wpS_pure (h _ _ (M0.first ua ub (by simpa using g) hb0) ⟨rfl,rfl,rfl,rfl⟩)) (λ g=>?_)
 have g2:¬ b.size=1:=by simpa using g
 refine wpS_bind (wpS_get ?_)
 refine wpS_bind (wpS_mono (wpS_forRange (I:=λ x c st' => ∃ na nb out mg,c=(none,na,nb,out,mg)∧MH a b out na nb∧1≤na∧2≤nb∧x + 1≤out.size∧Stk st st') (Q:=λ c st' => ∃ R,Good a b R∧c.1=some R∧Stk st st') ?_ ?_ ?_) ?_)
 · rintro x c st1 hx1 hx2 ⟨na,nb,out,mg,rfl,M,la,lb,lo,K1⟩
   refine wpS_bind (wpS_mono (wpS_forRange (I:=λ y c st' => ∃ na nb out' ac bc,c=(none,na,nb,out',ac,bc)∧MH a b out' na nb∧1≤na∧2≤nb∧out.size + y≤out'.size∧Stk st st')
     (Q:=λ c st'=>Stk st st'∧((∃ R,Good a b R∧c.1=some R)∨∃ na nb out' ac bc,c=(none,na,nb,out',ac,bc)∧MH a b out' na nb∧1≤na∧2≤nb∧out.size + 1≤out'.size)) ?_ ?_ ?_) ?_)
   · rintro y c st2 hy1 hy2 ⟨na,nb,out',ac,bc,rfl,M,la,lb,lo',K2⟩
     have hk2:kindOf st2=oneType':=K2.kind.trans hk
     have lA:=M.la
     have lB:=M.lb
     obtain ⟨tb,qb,eb⟩:=ub.at (i:=nb - 1) (by lia)
     obtain ⟨ta,qa,ea⟩:=ua.at (i:=na - 1) (by lia)
     refine wpS_bind (elem_at eb (wpS_bind (elem_at ea (wpS_bind (lt_two hk2 rfl rfl ?_)))))
     by_cases c:K b (nb - 1) < K a (na - 1)
     · rw [decide_eq_true c]
       refine wpS_bind (elem_at ea ?_)
       have M2:=M.pushA ua (by lia) ea λ i h1 h2=>Int.le_of_lt (Int.lt_of_le_of_lt (sb i (nb - 1) (Nat.zero_le _) (by lia) (by lia)) c)
       refine ite_at (λ g=>wpS_pure ⟨K2,.inl ⟨_,M2.done ua ub (.inl (by simpa using g)),rfl⟩⟩) (λ g=>?_)
       have g':¬ na - 1=0:=by simpa using g
       have sz:(out'.push (Value.int (K a (na - 1)) ta,qa)).size=out'.size + 1:=Array.size_push ..
       exact ite_at (λ g=>wpS_pure ⟨K2,.inr ⟨na - 1,nb,out'.push (Value.int (K a (na - 1)) ta,qa),_,_,rfl,M2,by lia,lb,by lia⟩⟩) (λ g=>wpS_pure ⟨na - 1,nb,out'.push (Value.int (K a (na - 1)) ta,qa),_,_,rfl,M2,by lia,lb,by lia,K2⟩)
     · rw [decide_eq_false c]
       refine wpS_bind (elem_at eb ?_)
       have M2:=M.pushB ub (by lia) eb λ i h1 h2=>Int.le_trans (sa i (na - 1) (Nat.zero_le _) (by lia) (by lia)) (Int.not_lt.mp c)
       refine ite_at (λ g=>wpS_pure ⟨K2,.inl ⟨_,M2.first ua ub (by simpa using g) hb0,rfl⟩⟩) (λ g=>?_)
       have g':¬ nb - 1=1:=by simpa using g
       have sz:(out'.push (Value.int (K b (nb - 1)) tb,qb)).size=out'.size + 1:=Array.size_push ..
       exact ite_at (λ g=>wpS_pure ⟨K2,.inr ⟨na,nb - 1,out'.push (Value.int (K b (nb - 1)) tb,qb),_,_,rfl,M2,la,by lia,by lia⟩⟩) (λ g=>wpS_pure ⟨na,nb - 1,out'.push (Value.int (K b (nb - 1)) tb,qb),_,_,rfl,M2,la,by lia,by lia,K2⟩)
   · rintro c st2 ⟨na,nb,out',ac,bc,rfl,M,la,lb,lo',K2⟩
     exact ⟨K2,.inr ⟨na,nb,out',_,_,rfl,M,la,lb,by lia⟩⟩
   · exact ⟨na,nb,out,_,_,rfl,M,la,lb,by lia,K1⟩
   · rintro c st2 ⟨K2,⟨R,hR,e⟩ | ⟨na,nb,out',ac,bc,rfl,M,la,lb,lo'⟩⟩
     · obtain ⟨c1,c2⟩:=c
       cases e
       exact wpS_pure ⟨R,hR,rfl,K2⟩
     · refine wpS_bind (wpS_lift (wpAny_rule ⟨rfl,?_⟩))
       refine wpS_bind (wpS_mono (wpS_forRange (I:=λ y c st' => ∃ na nb out2 mg ac bc,c=(none,na,nb,out2,mg,ac,bc)∧MH a b out2 na nb∧1≤na∧2≤nb∧out'.size≤out2.size∧Stk st st')
         (Q:=λ c st'=>Stk st st'∧((∃ R,Good a b R∧c.1=some R)∨∃ na nb out2 mg ac bc,c=(none,na,nb,out2,mg,ac,bc)∧MH a b out2 na nb∧1≤na∧2≤nb∧out'.size≤out2.size)) ?_ ?_ ?_) ?_)
       · rintro y c st3 hy1 hy2 ⟨na,nb,out2,mg2,ac,bc,rfl,M,la,lb,lo2,K3⟩
         refine ite_at (λ g=>?_) (λ g=>?_)
         all_goals
           refine wpS_bind (mg_at K3 λ st4 K4=>?_)
           have hk4:kindOf st4=oneType':=K4.kind.trans hk
           have lA:=M.la
           have lB:=M.lb
           obtain ⟨tb,qb,eb⟩:=ub.at (i:=nb - 1) (by lia)
           refine wpS_bind (elem_at eb (wpS_bind (gallop_at (base:=0) (n:=na) (hint:=na - 1) hk4 rfl (λ i hi=>ua.at (by lia)) (sa.sub (Nat.zero_le _) (by lia)) (by lia) λ r hr r1 r2=>?_)))
           obtain ⟨R1,R2⟩:=gal_f r1 r2
           simp only [Nat.zero_add] at R1 R2
           have M1:=M.extA ua (k:=r) (by lia) λ i j h1 h2 h3 h4=>Int.le_of_lt (Int.lt_of_le_of_lt (sb i (nb - 1) (Nat.zero_le _) (by lia) (by lia)) (R2 j h3 h4))
           refine ite_at (λ g2=>?_) (λ g2=>?_)
           · refine ite_at (λ g3=>wpS_pure ⟨K4,.inl ⟨_,M1.done ua ub (.inl (by simpa using g3)),rfl⟩⟩) (λ g3=>?_)
             have g3':¬ r=0:=by simpa using g3
             have M2:=M1.pushB ub (by lia) eb λ i h1 h2=>R1 i (by lia)
             refine wpS_bind (elem_at eb ?_)
             refine ite_at (λ g5=>wpS_pure ⟨K4,.inl ⟨_,M2.first ua ub (by simpa using g5) hb0,rfl⟩⟩) (λ g5=>?_)
             have g5':¬ nb - 1=1:=by simpa using g5
             obtain ⟨ta,qa,ea⟩:=ua.at (i:=r - 1) (by lia)
             refine wpS_bind (elem_at ea (wpS_bind (gallop_at (base:=0) (n:=nb - 1) (hint:=nb - 1 - 1) hk4 rfl (λ i hi=>ub.at (by lia)) (sb.sub (Nat.zero_le _) (by lia)) (by lia) λ r' hr' r1' r2'=>?_)))
             obtain ⟨T1,T2⟩:=gal_t r1' r2'
             simp only [Nat.zero_add] at T1 T2
             have M3:=M2.extB ub (k:=r') (by lia) λ i j h1 h2 h3 h4=>Int.le_trans (sa i (r - 1) (Nat.zero_le _) (by lia) (by lia)) (T2 j h3 h4)
             refine ite_at (λ g6=>?_) (λ g6=>?_)
             · refine ite_at (λ g7=>wpS_pure ⟨K4,.inl ⟨_,M3.first ua ub (by simpa using g7) hb0,rfl⟩⟩) (λ g7=>?_)
               have g7':¬ r'=1:=by simpa using g7
               refine ite_at (λ g10=>wpS_pure ⟨K4,.inl ⟨_,M3.done ua ub (.inr (by simpa using g10)),rfl⟩⟩) (λ g10=>?_)
               have g10':¬ r'=0:=by simpa using g10
               refine wpS_bind (elem_at ea ?_)
               have M4:=M3.pushA ua (by lia) ea λ i h1 h2=>Int.le_of_lt (T1 i (by lia))
               refine ite_at (λ g8=>wpS_pure ⟨K4,.inl ⟨_,M4.done ua ub (.inl (by simpa using g8)),rfl⟩⟩) (λ g8=>?_)
               have g8':¬ r - 1=0:=by simpa using g8
               exact ite_at (λ g9=>wpS_pure ⟨K4,.inr ⟨r - 1,r',_,_,_,_,rfl,M4,by lia,by lia,Nat.le_trans lo2 (M.grow M4 (by lia) (by lia))⟩⟩) (λ g9=>wpS_pure ⟨r - 1,r',_,_,_,_,rfl,M4,by lia,by lia,Nat.le_trans lo2 (M.grow M4 (by lia) (by lia)),K4⟩)
             · have g6':¬ nb - 1 - r' > 0:=g6
               have r0':r'=nb - 1:=by lia
               subst r0'
               refine wpS_bind (elem_at ea ?_)
               have M4:=M2.pushA ua (by lia) ea λ i h1 h2=>Int.le_of_lt (T1 i (by lia))
               refine ite_at (λ g8=>wpS_pure ⟨K4,.inl ⟨_,M4.done ua ub (.inl (by simpa using g8)),rfl⟩⟩) (λ g8=>?_)
               have g8':¬ r - 1=0:=by simpa using g8
               exact ite_at (λ g9=>wpS_pure ⟨K4,.inr ⟨r - 1,nb - 1,_,_,_,_,rfl,M4,by lia,by lia,Nat.le_trans lo2 (M.grow M4 (by lia) (by lia))⟩⟩) (λ g9=>wpS_pure ⟨r - 1,nb - 1,_,_,_,_,rfl,M4,by lia,by lia,Nat.le_trans lo2 (M.grow M4 (by lia) (by lia)),K4⟩)
           · have g2':¬ na - r > 0:=g2
             have r0:r=na:=by lia
             subst r0
             have M2:=M.pushB ub (by lia) eb λ i h1 h2=>R1 i (by lia)
             refine wpS_bind (elem_at eb ?_)
             refine ite_at (λ g5=>wpS_pure ⟨K4,.inl ⟨_,M2.first ua ub (by simpa using g5) hb0,rfl⟩⟩) (λ g5=>?_)
             have g5':¬ nb - 1=1:=by simpa using g5
             obtain ⟨ta,qa,ea⟩:=ua.at (i:=r - 1) (by lia)
             refine wpS_bind (elem_at ea (wpS_bind (gallop_at (base:=0) (n:=nb - 1) (hint:=nb - 1 - 1) hk4 rfl (λ i hi=>ub.at (by lia)) (sb.sub (Nat.zero_le _) (by lia)) (by lia) λ r' hr' r1' r2'=>?_)))
             obtain ⟨T1,T2⟩:=gal_t r1' r2'
             simp only [Nat.zero_add] at T1 T2
             have M3:=M2.extB ub (k:=r') (by lia) λ i j h1 h2 h3 h4=>Int.le_trans (sa i (r - 1) (Nat.zero_le _) (by lia) (by lia)) (T2 j h3 h4)
             refine ite_at (λ g6=>?_) (λ g6=>?_)
             · refine ite_at (λ g7=>wpS_pure ⟨K4,.inl ⟨_,M3.first ua ub (by simpa using g7) hb0,rfl⟩⟩) (λ g7=>?_)
               have g7':¬ r'=1:=by simpa using g7
               refine ite_at (λ g10=>wpS_pure ⟨K4,.inl ⟨_,M3.done ua ub (.inr (by simpa using g10)),rfl⟩⟩) (λ g10=>?_)
               have g10':¬ r'=0:=by simpa using g10
               refine wpS_bind (elem_at ea ?_)
               have M4:=M3.pushA ua (by lia) ea λ i h1 h2=>Int.le_of_lt (T1 i (by lia))
               refine ite_at (λ g8=>wpS_pure ⟨K4,.inl ⟨_,M4.done ua ub (.inl (by simpa using g8)),rfl⟩⟩) (λ g8=>?_)
               have g8':¬ r - 1=0:=by simpa using g8
               exact ite_at (λ g9=>wpS_pure ⟨K4,.inr ⟨r - 1,r',_,_,_,_,rfl,M4,by lia,by lia,Nat.le_trans lo2 (M.grow M4 (by lia) (by lia))⟩⟩) (λ g9=>wpS_pure ⟨r - 1,r',_,_,_,_,rfl,M4,by lia,by lia,Nat.le_trans lo2 (M.grow M4 (by lia) (by lia)),K4⟩)
             · have g6':¬ nb - 1 - r' > 0:=g6
               have r0':r'=nb - 1:=by lia
               subst r0'
               refine wpS_bind (elem_at ea ?_)
               have M4:=M2.pushA ua (by lia) ea λ i h1 h2=>Int.le_of_lt (T1 i (by lia))
               refine ite_at (λ g8=>wpS_pure ⟨K4,.inl ⟨_,M4.done ua ub (.inl (by simpa using g8)),rfl⟩⟩) (λ g8=>?_)
               have g8':¬ r - 1=0:=by simpa using g8
               exact ite_at (λ g9=>wpS_pure ⟨K4,.inr ⟨r - 1,nb - 1,_,_,_,_,rfl,M4,by lia,by lia,Nat.le_trans lo2 (M.grow M4 (by lia) (by lia))⟩⟩) (λ g9=>wpS_pure ⟨r - 1,nb - 1,_,_,_,_,rfl,M4,by lia,by lia,Nat.le_trans lo2 (M.grow M4 (by lia) (by lia)),K4⟩)
       · rintro c st3 ⟨na,nb,out2,mg2,ac,bc,rfl,M,la,lb,lo2,K3⟩
         exact ⟨K3,.inr ⟨na,nb,out2,_,_,_,rfl,M,la,lb,lo2⟩⟩
       · exact ⟨na,nb,out',_,_,_,rfl,M,la,lb,Nat.le_refl _,K2⟩
       · rintro c st3 ⟨K3,⟨R,hR,e⟩ | ⟨na,nb,out2,mg2,ac,bc,rfl,M,la,lb,lo2⟩⟩
         · obtain ⟨c1,c2⟩:=c
           cases e
           exact wpS_pure ⟨R,hR,rfl,K3⟩
         · refine wpS_bind (mg_at K3 λ st4 K4=>?_)
           exact wpS_pure ⟨na,nb,out2,_,rfl,M,la,lb,by lia,K4⟩
 · rintro c st1 ⟨na,nb,out,mg,rfl,M,la,lb,lo,K1⟩
   exfalso
   have:=M.sz
   lia
 · exact ⟨_,_,_,_,rfl,M0,by lia,by lia,Nat.le_refl _,⟨rfl,rfl,rfl,rfl⟩⟩
 · rintro c st1 ⟨R,hR,e,K1⟩
   obtain ⟨c1,c2⟩:=c
   cases e
   exact wpS_pure (h R st1 hR K1)
end
end Srt
namespace Srt
open PySem PyProof.Rows
def putAll (a:Array Keyed) (o n:Nat) (l:List Keyed):Array Keyed:=(l.zipIdx n).foldl (λ a (p,j)=>a.setIfInBounds (o + j) p) a
theorem putAll_get (o:Nat):∀ (l:List Keyed) (n:Nat) (a:Array Keyed),o + n + l.length≤a.size→∀ i,(putAll a o n l)[i]? = if o + n≤i∧i < o + n + l.length then l[i - (o + n)]? else a[i]?
 | [],n,a,_,i=>by
   rw [if_neg (by rw [List.length_nil]; lia)]
   rfl
 | p :: l,n,a,h,i=>by
   rw [List.length_cons] at h
   show (putAll (a.setIfInBounds (o + n) p) o (n + 1) l)[i]? = _
   rw [putAll_get o l (n + 1) _ (by rw [Array.size_setIfInBounds]; lia),List.length_cons,Array.getElem?_setIfInBounds]
   by_cases c:o + (n + 1)≤i∧i < o + (n + 1) + l.length
   · rw [if_pos c,if_pos (by lia),show i - (o + n)=(i - (o + (n + 1))) + 1 by lia]
     simp
   · rw [if_neg c]
     by_cases d:o + n=i
     · rw [if_pos d,if_pos (by lia),if_pos (by lia), ← d]
       simp
     · rw [if_neg d,if_neg (by lia)]
theorem putAll_list {a:Array Keyed}{o:Nat}{l:List Keyed}(h:o + l.length≤a.size):(putAll a o 0 l).toList=a.toList.take o ++ l ++ a.toList.drop (o + l.length):=by
 apply List.ext_getElem?
 intro i
 have e:=putAll_get o l 0 a (by lia) i
 rw [Array.getElem?_toList,e,List.append_assoc]
 by_cases c1:i < o
 · rw [if_neg (by lia),List.getElem?_append_left (by rw [List.length_take]; simp; lia),List.getElem?_take]
   simp [c1]
 · rw [List.getElem?_append_right (by rw [List.length_take]; lia)]
   have el:(a.toList.take o).length=o:=by rw [List.length_take]; simp; lia
   rw [el]
   by_cases c2:i < o + l.length
   · rw [if_pos (by lia),List.getElem?_append_left (by lia)]
     rfl
   · rw [if_neg (by lia),List.getElem?_append_right (by lia),List.getElem?_drop,Array.getElem?_toList]
     congr 1
     lia
theorem K_ext {a:Array Keyed}{lo hi i:Nat}(h:i < hi - lo) (hs:hi≤a.size):K (a.extract lo hi) i=K a (lo + i):=by
 refine K_congr ?_
 rw [Array.getElem?_extract]
 rw [if_pos (by lia)]
theorem ext_sz {a:Array Keyed}{lo hi:Nat}(hs:hi≤a.size):(a.extract lo hi).size=hi - lo:=by
 rw [Array.size_extract]
 lia
theorem up_ext {a₀ a:Array Keyed}(hp:a.Perm a₀) (k:Ks a₀) {lo hi:Nat}(hs:hi≤a.size) (h:SFT a lo hi):Up (a.extract lo hi):=by
 refine ⟨λ p hpp=>k.ik p ((Array.perm_iff_toList_perm.mp hp).mem_iff.mp ?_),List.pairwise_iff_getElem.mpr λ i j qi qj hij=>?_⟩
 · rw [seg_ext] at hpp
   exact List.mem_of_mem_drop (List.mem_of_mem_take hpp)
 · have sz:=ext_sz (a:=a) (lo:=lo) hs
   have hi':i < (a.extract lo hi).size:=by rw [← Array.length_toList]; exact qi
   have hj':j < (a.extract lo hi).size:=by rw [← Array.length_toList]; exact qj
   have e1:=K_eq hi'
   have e2:=K_eq hj'
   rw [K_ext (by lia) hs] at e1 e2
   have z:=h (lo + i) (lo + j) (by lia) (by lia) (by lia)
   rw [e1,e2] at z
   simpa [le] using z
theorem parts {a:Array Keyed}{lo mid hi:Nat}(h1:lo≤mid) (h2:mid≤hi):a.toList=a.toList.take lo ++ (seg a lo mid ++ seg a mid hi) ++ a.toList.drop hi:=by
 have e1:=seg_split (a:=a) h1
 have e2:=seg_split (a:=a) h2
 rw [← List.append_assoc, ← e1, ← e2,List.take_append_drop]
theorem put_mem {a R:Array Keyed}{lo mid hi:Nat}(h1:lo≤mid) (h2:mid≤hi) (h3:hi≤a.size) (G:Good (a.extract lo mid) (a.extract mid hi) R) :
   R.size=hi - lo∧(putAll a lo 0 R.toList).Perm a∧(∀ i,¬ (lo≤i∧i < hi)→(putAll a lo 0 R.toList)[i]? = a[i]?)∧SFT (putAll a lo 0 R.toList) lo hi∧∀ i,lo≤i→i < hi→∃ j,lo≤j∧j < hi∧K (putAll a lo 0 R.toList) i=K a j:=by
 obtain ⟨g1,g2⟩:=G
 have sz:R.size=hi - lo:=by
   have:=g1.length_eq
   simp only [List.length_append,Array.length_toList] at this
   rw [ext_sz (by lia),ext_sz h3] at this
   lia
 have hl:R.toList.length=hi - lo:=by rw [Array.length_toList]; exact sz
 have get:=putAll_get lo R.toList 0 a (by lia)
 have kk:∀ i,lo≤i→i < hi→∃ (h:i - lo < R.size),K (putAll a lo 0 R.toList) i=numOf (R[i - lo]).1:=λ i hi1 hi2=>by
   have hlt:i - lo < R.size:=by lia
   refine ⟨hlt,?_⟩
   have e:=get i
   rw [if_pos (by lia)] at e
   unfold K
   rw [e,Array.getElem?_toList,Nat.add_zero,getElem?_pos R (i - lo) hlt]
 refine ⟨sz,?_,λ i hi=>?_,λ i j hi hij hj=>?_,λ i hi1 hi2=>?_⟩
 · rw [Array.perm_iff_toList_perm,putAll_list (by lia)]
   conv=>rhs; rw [parts (a:=a) h1 h2]
   rw [hl,show lo + (hi - lo)=hi by lia]
   refine List.Perm.append_right _ (List.Perm.append_left _ ?_)
   rw [← seg_ext, ← seg_ext]
   exact g1
 · rw [get i,if_neg (by lia)]
 · obtain ⟨a1,e1⟩:=kk i hi (by lia)
   obtain ⟨a2,e2⟩:=kk j (by lia) hj
   rw [e1,e2]
   by_cases z:i=j
   · subst z; exact Int.le_refl _
   · have:=List.pairwise_iff_getElem.mp g2 (i - lo) (j - lo) (by simpa using a1) (by simpa using a2) (by lia)
     simpa [le] using this
 · obtain ⟨a1,e1⟩:=kk i hi1 hi2
   have hm:R[i - lo]∈(a.extract lo mid).toList ++ (a.extract mid hi).toList:=g1.mem_iff.mp (by simp)
   rw [e1]
   rcases List.mem_append.mp hm with z | z
   · rw [seg_ext] at z
     obtain ⟨j,j1,j2,j3,e⟩:=mem_seg z
     exact ⟨j,j1,by lia,e⟩
   · rw [seg_ext] at z
     obtain ⟨j,j1,j2,j3,e⟩:=mem_seg z
     exact ⟨j,by lia,j2,e⟩
structure Merged (a₀:Array Keyed) (st st':SortSt) (i lo n:Nat) (pw:Nat):Prop where
 S:SI a₀ st'
 out:∀ j,¬ (lo≤j∧j < lo + n)→(arrOf st')[j]? = (arrOf st)[j]?
 up:SFT (arrOf st') lo (lo + n)
 pend:pendingOf st'=((pendingOf st).setIfInBounds i (lo,n,pw)).eraseIdxIfInBounds (i + 1)
section
variable {prog:Program}{w:World}{A:Around}{E:Value→Shared→Prop}{s:Shared}{a₀:Array Keyed}
theorem set_at {st x:SortSt}{Q:PUnit→SortSt→Prop}(h:Q ⟨⟩ x):wpS (model prog w) A E s (set x:StateT SortSt Sem PUnit) Q st:=by
 unfold wpS
 rw [StateT.run_set]
 exact wpAny_pure ⟨rfl,h⟩
set_option maxHeartbeats 4000000 in
theorem merge_at {st:SortSt}{i sa na pw nb pw2:Nat}{Q:Bool→SortSt→Prop}(S:SI a₀ st) (k:Ks a₀) (h1:(pendingOf st)[i]? = some (sa,na,pw)) (h2:(pendingOf st)[i + 1]? = some (sa + na,nb,pw2)) (n1:1≤na) (n2:1≤nb) (hsz:sa + na + nb≤a₀.size)
   (u1:SFT (arrOf st) sa (sa + na)) (u2:SFT (arrOf st) (sa + na) (sa + na + nb)) (h:∀ st',Merged a₀ st st' i sa (na + nb) pw→Q true st'):wpS (model prog w) A E s (mergeAt' i) Q st:=by
 refine wpS_bind (wpS_get ?_)
 have hs:=S.size
 have ka:∀ {j:Nat},j < (arrOf st).size→∃ t q,(arrOf st)[j]? = some (.int (K (arrOf st) j) t,q):=λ hj=>key_at S.perm k hj
 rw [h1,h2]
 refine wpS_bind (set_at ?_)
 obtain ⟨tb,qb,eb⟩:=ka (j:=sa + na) (by lia)
 refine wpS_bind (elem_at eb (wpS_bind (gallop_at (base:=sa) (n:=na) (hint:=0) S.kind rfl (λ i hi=>ka (by lia)) u1 (by lia) λ r hr r1 r2=>?_)))
 obtain ⟨R1,R2⟩:=gal_f r1 r2
 refine ite_at (λ g=>?_) (λ g=>?_)
 · have g':na - r=0:=by simpa using g
   refine wpS_pure (h _ ⟨⟨S.perm,S.kind,S.failed⟩,λ _ _=>rfl,λ i j hi hij hj=>?_,rfl⟩)
   show K (arrOf st) i≤K (arrOf st) j
   by_cases c1:j < sa + na
   · exact u1 i j hi hij c1
   · by_cases c2:i < sa + na
     · have a1:=R1 (i - sa) (by lia)
       rw [show sa + (i - sa)=i by lia] at a1
       exact Int.le_trans a1 (u2 (sa + na) j (Nat.le_refl _) (by lia) (by lia))
     · exact u2 i j (by lia) hij (by lia)
 have g':¬ na - r=0:=by simpa using g
 obtain ⟨ta,qa,ea⟩:=ka (j:=sa + r + (na - r) - 1) (by lia)
 refine wpS_bind (elem_at ea (wpS_bind (gallop_at (base:=sa + na) (n:=nb) (hint:=nb - 1) S.kind rfl (λ i hi=>ka (by lia)) u2 (by lia) λ r' hr' r1' r2'=>?_)))
 obtain ⟨T1,T2⟩:=gal_t r1' r2'
 refine ite_at (λ g=>?_) (λ g=>?_)
 · have g'':r'=0:=by simpa using g
   refine wpS_pure (h _ ⟨⟨S.perm,S.kind,S.failed⟩,λ _ _=>rfl,λ i j hi hij hj=>?_,rfl⟩)
   show K (arrOf st) i≤K (arrOf st) j
   by_cases c1:j < sa + na
   · exact u1 i j hi hij c1
   · by_cases c2:i < sa + na
     · exact Int.le_trans (u1 i (sa + r + (na - r) - 1) hi (by lia) (by lia)) (T2 j (by lia) (by lia))
     · exact u2 i j (by lia) hij (by lia)
 have g2:¬ r'=0:=by simpa using g
 have ux:Up ((arrOf st).extract (sa + r) (sa + na)):=up_ext S.perm k (by lia) λ i j hi hij hj=>u1 i j (by lia) hij hj
 have uy:Up ((arrOf st).extract (sa + na) (sa + na + r')):=up_ext S.perm k (by lia) λ i j hi hij hj=>u2 i j hi hij (by lia)
 have sx:((arrOf st).extract (sa + r) (sa + na)).size=na - r:=by rw [ext_sz (by lia)]; lia
 have sy:((arrOf st).extract (sa + na) (sa + na + r')).size=r':=by rw [ext_sz (by lia)]; lia
 have x0:K ((arrOf st).extract (sa + na) (sa + na + r')) 0 < K ((arrOf st).extract (sa + r) (sa + na)) 0:=by
   rw [K_ext (by lia) (by lia),K_ext (by lia) (by lia)]
   exact R2 (sa + r) (Nat.le_refl _) (by lia)
 have xl:∀ j,j < ((arrOf st).extract (sa + na) (sa + na + r')).size→K ((arrOf st).extract (sa + na) (sa + na + r')) j < K ((arrOf st).extract (sa + r) (sa + na)) (((arrOf st).extract (sa + r) (sa + na)).size - 1):=λ j hj=>by
   rw [K_ext (by lia) (by lia),K_ext (by lia) (by lia),sx,show sa + r + (na - r - 1)=sa + r + (na - r) - 1 by lia]
   exact T1 j (by lia)
 refine ite_at (λ g=>?_) (λ g=>?_)
 · refine wpS_bind (mergeLo_at S.kind ux uy (by rw [sx]; lia) (by rw [sy]; lia) x0 xl λ R stC G KC=>?_)
   obtain ⟨z1,z2,z3,z4,z5⟩:=put_mem (a:=arrOf st) (lo:=sa + r) (mid:=sa + na) (hi:=sa + na + r') (by lia) (by lia) (by lia) G
   refine wpS_bind (wpS_modify (wpS_bind (wpS_get (wpS_pure ?_))))
   have hf:failedOf stC=none:=KC.failed.trans S.failed
   have hc:arrOf stC=arrOf st:=KC.arr
   show Q (failedOf stC).isNone (SortSt.mk' (kindOf stC) (putAll (arrOf stC) (sa + r) 0 R.toList) (pendingOf stC) (gallopOf stC) (failedOf stC))
   rw [hf,hc]
   refine h _ ⟨⟨z2.trans S.perm,KC.kind.trans S.kind,rfl⟩,λ j hj=>z3 j (by lia),λ i j hi hij hj=>?_,KC.pend⟩
   show K (putAll (arrOf st) (sa + r) 0 R.toList) i≤K (putAll (arrOf st) (sa + r) 0 R.toList) j
   have out:∀ i,¬ (sa + r≤i∧i < sa + na + r')→K (putAll (arrOf st) (sa + r) 0 R.toList) i=K (arrOf st) i:=λ i hi=>K_congr (z3 i hi)
   by_cases c1:i < sa + r
   · rw [out i (by lia)]
     have low:∀ j,sa + r≤j→j < sa + na + nb→K (arrOf st) i≤K (arrOf st) j:=λ j h1 h2=>by
       by_cases c:j < sa + na
       · exact u1 i j hi (by lia) c
       · have a1:=R1 (i - sa) (by lia)
         rw [show sa + (i - sa)=i by lia] at a1
         exact Int.le_trans a1 (u2 (sa + na) j (Nat.le_refl _) (by lia) h2)
     by_cases c2:sa + r≤j∧j < sa + na + r'
     · obtain ⟨j',q1,q2,e⟩:=z5 j c2.1 c2.2
       rw [e]
       exact low j' q1 (by lia)
     · rw [out j c2]
       by_cases c3:j < sa + r
       · exact u1 i j hi hij (by lia)
       · exact low j (by lia) (by lia)
   · by_cases c2:i < sa + na + r'
     · by_cases c3:j < sa + na + r'
       · exact z4 i j (by lia) hij c3
       · rw [out j (by lia)]
         obtain ⟨i',q1,q2,e⟩:=z5 i (by lia) c2
         rw [e]
         by_cases c4:i' < sa + na
         · have a1:=T2 j (by lia) (by lia)
           exact Int.le_trans (u1 i' (sa + r + (na - r) - 1) (by lia) (by lia) (by lia)) a1
         · exact u2 i' j (by lia) (by lia) (by lia)
     · rw [out i (by lia),out j (by lia)]
       exact u2 i j (by lia) hij (by lia)
 · refine wpS_bind (mergeHi_at S.kind ux uy (by rw [sx]; lia) (by rw [sy]; lia) x0 xl λ R stC G KC=>?_)
   obtain ⟨z1,z2,z3,z4,z5⟩:=put_mem (a:=arrOf st) (lo:=sa + r) (mid:=sa + na) (hi:=sa + na + r') (by lia) (by lia) (by lia) G
   refine wpS_bind (wpS_modify (wpS_bind (wpS_get (wpS_pure ?_))))
   have hf:failedOf stC=none:=KC.failed.trans S.failed
   have hc:arrOf stC=arrOf st:=KC.arr
   show Q (failedOf stC).isNone (SortSt.mk' (kindOf stC) (putAll (arrOf stC) (sa + r) 0 R.toList) (pendingOf stC) (gallopOf stC) (failedOf stC))
   rw [hf,hc]
   refine h _ ⟨⟨z2.trans S.perm,KC.kind.trans S.kind,rfl⟩,λ j hj=>z3 j (by lia),λ i j hi hij hj=>?_,KC.pend⟩
   show K (putAll (arrOf st) (sa + r) 0 R.toList) i≤K (putAll (arrOf st) (sa + r) 0 R.toList) j
   have out:∀ i,¬ (sa + r≤i∧i < sa + na + r')→K (putAll (arrOf st) (sa + r) 0 R.toList) i=K (arrOf st) i:=λ i hi=>K_congr (z3 i hi)
   by_cases c1:i < sa + r
   · rw [out i (by lia)]
     have low:∀ j,sa + r≤j→j < sa + na + nb→K (arrOf st) i≤K (arrOf st) j:=λ j h1 h2=>by
       by_cases c:j < sa + na
       · exact u1 i j hi (by lia) c
       · have a1:=R1 (i - sa) (by lia)
         rw [show sa + (i - sa)=i by lia] at a1
         exact Int.le_trans a1 (u2 (sa + na) j (Nat.le_refl _) (by lia) h2)
     by_cases c2:sa + r≤j∧j < sa + na + r'
     · obtain ⟨j',q1,q2,e⟩:=z5 j c2.1 c2.2
       rw [e]
       exact low j' q1 (by lia)
     · rw [out j c2]
       by_cases c3:j < sa + r
       · exact u1 i j hi hij (by lia)
       · exact low j (by lia) (by lia)
   · by_cases c2:i < sa + na + r'
     · by_cases c3:j < sa + na + r'
       · exact z4 i j (by lia) hij c3
       · rw [out j (by lia)]
         obtain ⟨i',q1,q2,e⟩:=z5 i (by lia) c2
         rw [e]
         by_cases c4:i' < sa + na
         · have a1:=T2 j (by lia) (by lia)
           exact Int.le_trans (u1 i' (sa + r + (na - r) - 1) (by lia) (by lia) (by lia)) a1
         · exact u2 i' j (by lia) (by lia) (by lia)
     · rw [out i (by lia),out j (by lia)]
       exact u2 i j (by lia) hij (by lia)
end
end Srt
namespace Srt
open PySem PyProof.Rows
def Chain (xs:Array Keyed):Nat→List (Nat×Nat×Nat)→Nat→Prop
 | s,[],e=>s=e
 | s,(t,n,_) :: r,e=>t=s∧1≤n∧SFT xs s (s + n)∧Chain xs (s + n) r e
theorem Chain.le {xs:Array Keyed}:∀ {s:Nat}{l:List (Nat×Nat×Nat)}{e:Nat},Chain xs s l e→s + l.length≤e
 | s,[],e,h=>Nat.le_of_eq h
 | s,(t,n,p) :: r,e,⟨_,h2,_,h4⟩=>by
   have:=Chain.le h4
   rw [List.length_cons]
   lia
theorem Chain.app {xs:Array Keyed}:∀ {s:Nat}{l l2:List (Nat×Nat×Nat)}{e:Nat},Chain xs s (l ++ l2) e↔∃ m,Chain xs s l m∧Chain xs m l2 e
 | s,[],l2,e=>⟨λ h=>⟨s,rfl,h⟩,λ ⟨m,h1,h2⟩=>by rw [show s=m from h1]; exact h2⟩
 | s,(t,n,p) :: r,l2,e=>by
   constructor
   · rintro ⟨h1,h2,h3,h4⟩
     obtain ⟨m,q1,q2⟩:=Chain.app.mp h4
     exact ⟨m,⟨h1,h2,h3,q1⟩,q2⟩
   · rintro ⟨m,⟨h1,h2,h3,q1⟩,q2⟩
     exact ⟨h1,h2,h3,Chain.app.mpr ⟨m,q1,q2⟩⟩
theorem SFT.congr {xs ys:Array Keyed}{lo hi:Nat}(h:SFT xs lo hi) (e:∀ i,lo≤i→i < hi→ys[i]? = xs[i]?):SFT ys lo hi:=λ i j hi hij hj=>by
 rw [K_congr (e i hi (by lia)),K_congr (e j (by lia) hj)]
 exact h i j hi hij hj
theorem Chain.congr {xs ys:Array Keyed}:∀ {s:Nat}{l:List (Nat×Nat×Nat)}{e:Nat},Chain xs s l e→(∀ i,s≤i→i < e→ys[i]? = xs[i]?)→Chain ys s l e
 | s,[],e,h,_=>h
 | s,(t,n,p) :: r,e,⟨h1,h2,h3,h4⟩,q=>by
   have:=Chain.le h4
   exact ⟨h1,h2,h3.congr λ i a b=>q i a (by lia),h4.congr λ i a b=>q i (by lia) b⟩
structure RI (a₀:Array Keyed) (st:SortSt) (lo:Nat):Prop where
 S:SI a₀ st
 ch:Chain (arrOf st) 0 (pendingOf st).toList lo
 le:lo≤a₀.size
theorem split2 {α:Type}{l:List α}{i:Nat}(h:i + 1 < l.length):∃ l1 x y l2,l=l1 ++ x :: y :: l2∧l1.length=i:=by
 refine ⟨l.take i,l[i],l[i + 1],l.drop (i + 2),?_,?_⟩
 · rw [← List.drop_eq_getElem_cons (by lia), ← List.drop_eq_getElem_cons (by lia),List.take_append_drop]
 · rw [List.length_take]; lia
theorem pend_list {p:Array (Nat×Nat×Nat)}{l1 l2:List (Nat×Nat×Nat)}{x y z:Nat×Nat×Nat}{i:Nat}(h:p.toList=l1 ++ x :: y :: l2) (hi:l1.length=i):((p.setIfInBounds i z).eraseIdxIfInBounds (i + 1)).toList=l1 ++ z :: l2:=by
 obtain ⟨l⟩:=p
 subst h
 subst hi
 simp
 rw [List.eraseIdx_append_of_length_le (by lia)]
 simp
theorem pick_ix {c:Bool}{n:Nat}(h:¬ n≤1):(if c=true then n - 2 - 1 else n - 2) + 1 < n:=by
 cases c
 · rw [if_neg (by decide)]; lia
 · rw [if_pos rfl]; lia
theorem modify_map {α β:Type}{l:List α}{i:Nat}{f:α→α}{g:α→β}(h:∀ x,g (f x)=g x):(l.modify i f).map g=l.map g:=by
 apply List.ext_getElem?
 intro j
 rw [List.getElem?_map,List.getElem?_map,List.getElem?_modify]
 cases l[j]? with
 | none=>rfl
 | some x =>
   by_cases c:i=j
   · simp [c,h]
   · simp [c]
theorem Chain.same {xs:Array Keyed}:∀ {s:Nat}{l l':List (Nat×Nat×Nat)}{e:Nat},Chain xs s l e→l'.map (λ x=>(x.1,x.2.1))=l.map (λ x=>(x.1,x.2.1))→Chain xs s l' e
 | s,[],l',e,h,q=>by
   cases l' with
   | nil=>exact h
   | cons x r=>cases q
 | s,(t,n,p) :: r,l',e,⟨h1,h2,h3,h4⟩,q=>by
   cases l' with
   | nil=>cases q
   | cons x r' =>
     obtain ⟨t',n',p'⟩:=x
     rw [List.map_cons,List.map_cons] at q
     obtain ⟨q1,q2⟩:=List.cons.inj q
     obtain ⟨q3,q4⟩:=Prod.mk.inj q1
     have q3:t'=t:=q3
     have q4:n'=n:=q4
     subst q3
     subst q4
     exact ⟨h1,h2,h3,h4.same q2⟩
theorem RI.push {a₀:Array Keyed}{st:SortSt}{lo n p:Nat}(R:RI a₀ st lo) (hn:1≤n) (hl:lo + n≤a₀.size) (u:SFT (arrOf st) lo (lo + n)):RI a₀ (setPending st ((pendingOf st).push (lo,n,p))) (lo + n):=by
 refine ⟨⟨R.S.perm,R.S.kind,R.S.failed⟩,?_,hl⟩
 show Chain (arrOf st) 0 ((pendingOf st).push (lo,n,p)).toList (lo + n)
 rw [Array.toList_push]
 exact Chain.app.mpr ⟨lo,R.ch,rfl,hn,u,rfl⟩
theorem RI.last {a₀:Array Keyed}{st:SortSt}{lo:Nat}(R:RI a₀ st lo) {f:Nat×Nat×Nat→Nat×Nat×Nat}(hf:∀ x,((f x).1,(f x).2.1)=(x.1,x.2.1)) (i:Nat):RI a₀ (setPending st ((pendingOf st).modify i f)) lo:=by
 refine ⟨⟨R.S.perm,R.S.kind,R.S.failed⟩,?_,R.le⟩
 show Chain (arrOf st) 0 ((pendingOf st).modify i f).toList lo
 refine R.ch.same ?_
 rw [Array.toList_modify]
 exact modify_map hf
section
variable {prog:Program}{w:World}{A:Around}{E:Value→Shared→Prop}{s:Shared}{a₀:Array Keyed}
theorem merge_runs {st:SortSt}{lo i:Nat}{Q:Bool→SortSt→Prop}(R:RI a₀ st lo) (k:Ks a₀) (hi:i + 1 < (pendingOf st).size)
   (h:∀ st',RI a₀ st' lo→(∀ j,lo≤j→(arrOf st')[j]? = (arrOf st)[j]?)→(pendingOf st').size + 1=(pendingOf st).size→Q true st'):wpS (model prog w) A E s (mergeAt' i) Q st:=by
 obtain ⟨l1,x,y,l2,e,hl⟩:=split2 (l:=(pendingOf st).toList) (i:=i) (by simpa using hi)
 obtain ⟨sa,na,pw⟩:=x
 obtain ⟨sb,nb,pw2⟩:=y
 have ch:=R.ch
 rw [e] at ch
 obtain ⟨m,c1,e1,n1,u1,e2,n2,u2,c2⟩:=Chain.app.mp ch
 subst e1
 subst e2
 have b1:=c1.le
 have b2:=c2.le
 have hle:=R.le
 have g1:(pendingOf st)[i]? = some (sa,na,pw):=by
   rw [← Array.getElem?_toList,e, ← hl]
   simp
 have g2:(pendingOf st)[i + 1]? = some (sa + na,nb,pw2):=by
   rw [← Array.getElem?_toList,e, ← hl]
   simp
 refine merge_at R.S k g1 g2 n1 n2 (by lia) u1 u2 λ st' M=>h st' ⟨M.S,?_,R.le⟩ (λ j hj=>M.out j (by lia)) ?_
 · rw [M.pend,pend_list e hl]
   refine Chain.app.mpr ⟨sa,c1.congr λ j _ hj=>M.out j (by lia),rfl,by lia,M.up,?_⟩
   rw [show sa + (na + nb)=sa + na + nb by lia]
   exact c2.congr λ j hj _=>M.out j (by lia)
 · have p1:(pendingOf st').toList.length=(l1 ++ (sa,na + nb,pw) :: l2).length:=by rw [M.pend,pend_list e hl]
   have p2:(pendingOf st).toList.length=(l1 ++ (sa,na,pw) :: (sa + na,nb,pw2) :: l2).length:=by rw [e]
   simp only [Array.length_toList,List.length_append,List.length_cons] at p1 p2
   lia
theorem sort_runs {st:SortSt}{Q:Unit→SortSt→Prop}(k:Ks a₀) (S:SI a₀ st) (hp:pendingOf st = #[]) (h2:2≤a₀.size) (h:∀ st',(arrOf st').Perm a₀→failedOf st'=none→SortedTo (arrOf st') a₀.size→Q () st'):wpS (model prog w) A E s sortRuns' Q st:=by
 rw [sortRuns'_eq]
 refine wpS_bind (wpS_get ?_)
 have hsz:=S.size
 have hsz2:(arrOf st).size=a₀.size:=hsz
 dsimp only
 rw [hsz]
 refine wpS_bind (wpS_mono (wpS_forRange (I:=λ x c st' => ∃ lo,c=(none,lo)∧RI a₀ st' lo∧x≤lo) (Q:=λ c st'=>c=(none,a₀.size)∧RI a₀ st' a₀.size) ?_ ?_ ?_) ?_)
 · rintro x c st1 hx1 hx2 ⟨lo,rfl,R,hx⟩
   have hle:=R.le
   refine ite_at (λ g=>?_) (λ g=>?_)
   · have g':a₀.size≤lo:=g
     obtain rfl:lo=a₀.size:=by lia
     exact wpS_pure ⟨rfl,R⟩
   have g':¬ a₀.size≤lo:=g
   refine wpS_bind (run_find R.S k (lo:=lo) (nrem:=a₀.size - lo) (by lia) (by lia) λ m st2 C m1 m2 us=>?_)
   dsimp only
   refine ite_at (λ gm=>?_) (λ gm=>?_)
   · refine wpS_bind (wpS_lift (wpAny_rule ⟨rfl,?_⟩))
     generalize hf:min (a₀.size - lo) (minRun' a₀.size a₀.size 0)=n
     refine wpS_bind (run_fill C.S k (lo:=lo) (n:=n) (ok:=m) (by lia) m1 (by lia) us λ st3 C3 us3=>?_)
     have R3:RI a₀ st3 lo:=⟨C3.S,by
       rw [C3.pend,C.pend]
       exact R.ch.congr λ i _ hi=>(C3.pre i hi).trans (C.pre i hi),R.le⟩
     refine wpS_bind (wpS_get ?_)
     cases e:(pendingOf st3).back? with
     | none=>exact wpS_bind (wpS_modify (wpS_pure ⟨lo + n,rfl,R3.push (by lia) (by lia) us3,by lia⟩))
     | some t =>
       obtain ⟨s1,n1,p1⟩:=t
       refine wpS_bind (wpS_mono (wpS_forRange (I:=λ y c st4=>c=(none,())∧RI a₀ st4 lo∧∀ j,lo≤j→(arrOf st4)[j]? = (arrOf st3)[j]?) (Q:=λ c st4=>c=(none,())∧RI a₀ st4 lo∧∀ j,lo≤j→(arrOf st4)[j]? = (arrOf st3)[j]?) ?_ ?_ ?_) ?_)
       · rintro y c st4 hy1 hy2 ⟨rfl,R4,o4⟩
         refine wpS_bind (wpS_get ?_)
         by_cases g:(pendingOf st4).size > 1
         · rw [if_pos g,getElem?_pos (pendingOf st4) ((pendingOf st4).size - 2) (by lia)]
           refine ite_at (λ _=>wpS_pure ⟨rfl,R4,o4⟩) (λ _=>?_)
           exact wpS_bind (merge_runs R4 k (by lia) λ st5 R5 o5 _=>wpS_pure ⟨rfl,R5,λ j hj=>(o5 j hj).trans (o4 j hj)⟩)
         · rw [if_neg g]
           exact wpS_pure ⟨rfl,R4,o4⟩
       · exact λ c st4 q=>q
       · exact ⟨rfl,R3,λ _ _=>rfl⟩
       · rintro c st4 ⟨rfl,R4,o4⟩
         refine wpS_bind (wpS_modify (wpS_bind (wpS_modify (wpS_pure ⟨lo + n,rfl,?_,by lia⟩))))
         exact RI.push (R4.last (f:=λ x=>(x.fst,x.2.fst,power' a₀.size (2 * s1 + n1) (2 * s1 + n1 + n1 + n) a₀.size)) (λ x=>rfl) _) (by lia) (by lia) (us3.congr λ i h1 _=>o4 i h1)
   · have R3:RI a₀ st2 lo:=⟨C.S,by
       rw [C.pend]
       exact R.ch.congr λ i _ hi=>C.pre i hi,R.le⟩
     refine wpS_bind (wpS_get ?_)
     cases e:(pendingOf st2).back? with
     | none=>exact wpS_bind (wpS_modify (wpS_pure ⟨lo + m,rfl,R3.push (by lia) (by lia) us,by lia⟩))
     | some t =>
       obtain ⟨s1,n1,p1⟩:=t
       refine wpS_bind (wpS_mono (wpS_forRange (I:=λ y c st4=>c=(none,())∧RI a₀ st4 lo∧∀ j,lo≤j→(arrOf st4)[j]? = (arrOf st2)[j]?) (Q:=λ c st4=>c=(none,())∧RI a₀ st4 lo∧∀ j,lo≤j→(arrOf st4)[j]? = (arrOf st2)[j]?) ?_ ?_ ?_) ?_)
       · rintro y c st4 hy1 hy2 ⟨rfl,R4,o4⟩
         refine wpS_bind (wpS_get ?_)
         by_cases g:(pendingOf st4).size > 1
         · rw [if_pos g,getElem?_pos (pendingOf st4) ((pendingOf st4).size - 2) (by lia)]
           refine ite_at (λ _=>wpS_pure ⟨rfl,R4,o4⟩) (λ _=>?_)
           exact wpS_bind (merge_runs R4 k (by lia) λ st5 R5 o5 _=>wpS_pure ⟨rfl,R5,λ j hj=>(o5 j hj).trans (o4 j hj)⟩)
         · rw [if_neg g]
           exact wpS_pure ⟨rfl,R4,o4⟩
       · exact λ c st4 q=>q
       · exact ⟨rfl,R3,λ _ _=>rfl⟩
       · rintro c st4 ⟨rfl,R4,o4⟩
         refine wpS_bind (wpS_modify (wpS_bind (wpS_modify (wpS_pure ⟨lo + m,rfl,?_,by lia⟩))))
         exact RI.push (R4.last (f:=λ x=>(x.fst,x.2.fst,power' a₀.size (2 * s1 + n1) (2 * s1 + n1 + n1 + m) a₀.size)) (λ x=>rfl) _) (by lia) (by lia) (us.congr λ i h1 _=>o4 i h1)
 · rintro c st' ⟨lo,rfl,R,hx⟩
   have:=R.le
   obtain rfl:lo=a₀.size:=by lia
   exact ⟨rfl,R⟩
 · exact ⟨0,rfl,⟨S,by rw [hp]; rfl,Nat.zero_le _⟩,Nat.le_refl _⟩
 · rintro c st' ⟨rfl,R⟩
   dsimp only
   refine wpS_bind (wpS_mono (wpS_forRange (I:=λ x c st2=>c=(none,())∧RI a₀ st2 a₀.size∧(pendingOf st2).size + x≤a₀.size) (Q:=λ c st2=>c=(none,())∧RI a₀ st2 a₀.size∧(pendingOf st2).size≤1) ?_ ?_ ?_) ?_)
   · rintro x c st2 hx1 hx2 ⟨rfl,R2,hle⟩
     refine wpS_bind (wpS_get ?_)
     refine ite_at (λ g=>wpS_pure ⟨rfl,R2,g⟩) (λ g=>?_)
     refine wpS_bind (merge_runs R2 k ?_ λ st3 R3 _ hs3=>?_)
     · exact pick_ix g
     · exact wpS_pure ⟨rfl,R3,by lia⟩
   · rintro c st2 ⟨rfl,R2,hle⟩
     exact ⟨rfl,R2,by lia⟩
   · refine ⟨rfl,R,?_⟩
     have:=R.ch.le
     simpa using this
   · rintro c st2 ⟨rfl,R2,hle⟩
     refine wpS_pure (h st2 R2.S.perm R2.S.failed ?_)
     have ch:=R2.ch
     cases e:(pendingOf st2).toList with
     | nil =>
       rw [e] at ch
       have:0=a₀.size:=ch
       lia
     | cons x r =>
       have hr:r=[]:=by
         have z:(pendingOf st2).toList.length=r.length + 1:=by rw [e]; rfl
         rw [Array.length_toList] at z
         exact List.length_eq_zero_iff.mp (by lia)
       subst hr
       obtain ⟨t,n,p⟩:=x
       rw [e] at ch
       obtain ⟨_,_,u,e2⟩:=ch
       have e3:0 + n=a₀.size:=e2
       rw [e3] at u
       exact λ i j hij hj=>u i j (Nat.zero_le _) hij hj
end
end Srt
namespace Srt
open PySem PyProof.Rows
theorem ks_of {vs:List Value}{ns:List Int}(hI:IntsAre vs ns) (hn:ns.Nodup):Ks (pairsOf vs):=by
 refine ⟨hI.intKeys,?_⟩
 have e:((pairsOf vs).toList.map λ p=>numOf p.1)=ns:=by
   rw [pairsOf_toList, ← hI.nums]
   conv=>rhs; rw [← List.map_fst_zip (l₁:=vs) (l₂:=vs) (Nat.le_refl _)]
   rw [List.map_map]
   rfl
 rw [e]
 exact hn
section
variable {prog:Program}{w:World}{A:Around}{E:Value→Shared→Prop}{s:Shared}
theorem sort_tree {a:Addr}{vs:List Value}{ns:List Int}{n:Nat}{P:Fin→Shared→Prop}(at0:s.heap.get? a=some (seqObj "list" vs.toArray n)) (hI:IntsAre vs ns) (hn:ns.Nodup) (hz:vs.length≤1000)
   (k:∀ (out:Array Value) (ns':List Int),IntsAre out.toList ns'→ns'.Perm ns→ns'.Pairwise (· ≤ ·)→P (.done (.ret .none)) { s with heap:=sortedHeap s.heap a vs out }):wpAny (model prog w) A (Builtin.«list.sort» ⟨[.ref a],[]⟩) P E s:=by
 have lz:sizeLine=16777216:=sizeLine_eq
 rw [list_sort_plain]
 have lt:=Heap.lt_size at0
 refine wpAny_bind (listItems_at at0 rfl (wpAny_bind (listUpdate_at at0 rfl ?_ (by simp only [List.size_toArray]; lia))))
 obtain ⟨ep,at1⟩:∃ ep,(s.heap.update a (Obj.mapSeq λ _ => #[])).get? a=some (seqObj "list" #[] ep):=⟨_,get?_update_seq at0 λ _ => #[]⟩
 refine wpAny_bind (seqEpoch_at at1 rfl (wpAny_bind (wpAny_newTuple (wpAny_bind (wpAny_newList (wpAny_holding ?_))))))
 have at2:(((s.heap.update a (Obj.mapSeq λ _ => #[])).push (seqObj "tuple" vs.toArray 0)).push (seqObj "list" #[] 0)).get? a=some (seqObj "list" #[] ep):=by
   have l1:a < ((s.heap.update a (Obj.mapSeq λ _ => #[])).push (seqObj "tuple" vs.toArray 0)).objs.size:=by rw [size_push',Heap.size_update]; exact Nat.lt_succ_of_lt lt
   rw [Heap.get?_push_ne _ _ _ (Nat.ne_of_lt l1),Heap.get?_push_ne _ _ _ (by rw [Heap.size_update]; exact Nat.ne_of_lt lt)]
   exact at1
 have done:∀ st':SortSt,(arrOf st').Perm (pairsOf vs)→SortedTo (arrOf st') (pairsOf vs).size→P (.done (.ret .none)) { s with heap:=sortedHeap s.heap a vs ((arrOf st').map (·.2)) }:=λ st' q1 q2=>by
   obtain ⟨ns',w1,w2,w3⟩:=sorted_out hI q1 q2
   exact k _ ns' w1 w2 w3
 show wpAny (model prog w) A _ P E { s with heap:=((s.heap.update a (Obj.mapSeq λ _ => #[])).push (seqObj "tuple" vs.toArray 0)).push (seqObj "list" #[] 0) }
 dsimp only
 by_cases two:vs.toArray.size < 2
 · rw [if_pos two,if_pos two]
   refine wpAny_bind (wpAny_pure ?_)
   rw [StateT.run_pure]
   refine wpAny_bind (wpAny_pure (wpAny_bind (seqEpoch_at at2 rfl (wpAny_bind (listUpdate_at at2 rfl ?_ (Nat.zero_le _) ?_)))))
   · simp only [bne_self_eq_false,Bool.false_eq_true,if_false]
     refine wpAny_pure (done (SortSt.mk' general' (vs.toArray.zip vs.toArray) #[] 7 none) (Array.Perm.refl _) λ i j hij hj=>?_)
     rw [pairsOf_size] at hj
     rw [List.size_toArray] at two
     rw [show i=j by lia]
     exact Int.le_refl _
   · show (Array.map (λ x:Keyed=>x.2) (vs.toArray.zip vs.toArray)).size≤sizeLine + 1
     rw [Array.size_map]
     show (pairsOf vs).size≤sizeLine + 1
     rw [pairsOf_size]
     lia
 · rw [if_neg two,if_neg two]
   rw [List.size_toArray] at two
   obtain ⟨v1,v2,vr,rfl⟩:∃ v1 v2 vr,vs=v1 :: v2 :: vr:=by
     match vs,two with
     | [],z=>exact absurd (by decide) z
     | [_],z=>exact absurd (by rw [List.length_singleton]; decide) z
     | v1 :: v2 :: vr,_=>exact ⟨v1,v2,vr,rfl⟩
   rw [keyKind_ints hI]
   have sr:=sort_runs (prog:=prog) (w:=w) (A:=A) (E:=E) (s:={ s with heap:=((s.heap.update a (Obj.mapSeq λ _ => #[])).push (seqObj "tuple" (v1 :: v2 :: vr).toArray 0)).push (seqObj "list" #[] 0) }) (ks_of hI hn)
     (st:=SortSt.mk' oneType' (pairsOf (v1 :: v2 :: vr)) #[] 7 none) (Q:=λ _ st'=>(arrOf st').Perm (pairsOf (v1 :: v2 :: vr))∧failedOf st'=none∧SortedTo (arrOf st') (pairsOf (v1 :: v2 :: vr)).size) ⟨Array.Perm.refl _,rfl,rfl⟩ rfl (by rw [pairsOf_size]; lia) λ st' q1 q2 q3=>⟨q1,q2,q3⟩
   refine wpAny_bind (wpAny_pure (wpAny_bind (wpAny_mono sr ?_ λ _ _ e=>e)))
   rintro ⟨⟨⟩,st'⟩ s' ⟨rfl,q1,q2,q3⟩
   dsimp only
   refine wpAny_bind (seqEpoch_at at2 rfl (wpAny_bind (listUpdate_at at2 rfl ?_ (Nat.zero_le _) ?_)))
   · rw [q2]
     simp only [bne_self_eq_false,Bool.false_eq_true,if_false]
     exact wpAny_pure (done st' q1 q3)
   · show (Array.map (λ x:Keyed=>x.2) (arrOf st')).size≤sizeLine + 1
     rw [Array.size_map,q1.size_eq,pairsOf_size]
     lia
end
end Srt
namespace Srt
open PySem PyProof.Rows
theorem ints_of:∀ {vs:List Value}{ns:List Int},vs.length=ns.length→(∀ (j:Nat) (v:Value),vs[j]? = some v→∃ (m:Int) (t:Tok),ns[j]? = some m∧v=.int m t)→IntsAre vs ns
 | [],[],_,_=>.nil
 | v :: vs,n :: ns,hl,h=>by
   obtain ⟨m,t,e,rfl⟩:=h 0 v rfl
   cases e
   exact .cons n t (ints_of (by simpa using hl) λ j u hu=>by simpa using h (j + 1) u (by simpa using hu))
 | [],_ :: _,hl,_=>by simp at hl
 | _ :: _,[],hl,_=>by simp at hl
section
variable {prog:Program}{w:World}{A:Around}{E:Value→Shared→Prop}{s:Shared}{T:String}{r d:Addr}{n:Nat}{P:Nat→Value→Prop}{OK:Heap→Prop}
theorem sorted_src {ns:List Int}{Q:Value→Shared→Prop}(S:PySem.W.KdlSrc prog w T r d n P OK) (hh:A.handled=none) (hok:OK s.heap) (hP:∀ (i:Nat) (v:Value),P i v→∃ (m:Int) (t:Tok),ns[i]? = some m∧v=.int m t) (hl:ns.length=n) (hn:ns.Nodup) (hz:n≤1000)
   (k:∀ (h1 h':Heap) (tk:Nat) (out:Array Value) (ns':List Int) (e:Nat),(∀ b o,s.heap.get? b=some o→h1.get? b=some o)→(∀ b o,h1.get? b=some o→h'.get? b=some o)→h'.get? h1.objs.size=some (seqObj "list" out e)→IntsAre out.toList ns'→ns'.Perm ns→ns'.Pairwise (· ≤ ·)→Q (.ref h1.objs.size) { s with heap:=h',toks:=tk }) :
   wpAny (model prog w) A (call (.builtin "sorted") [.ref r]) Q E s:=by
 have lz:sizeLine=16777216:=sizeLine_eq
 refine Calls.call_function_entry kind_sorted plain_sorted entry_sorted (args_sorted1 _) ?_
 refine wpAny_bind (m:=checkCount "sorted" 1 1 _) (wpAny_pure (wpAny_bind (PySem.W.kdu_collect (A:=A.in1) S hh hok (by lia) λ h1 tk acc k1 hacc=>?_)))
 have ln:acc.toList.length=n:=by rw [Array.length_toList]; exact hacc.1
 refine wpAny_bind (wpAny_newList ?_ (by lia))
 have hI:IntsAre acc.toList ns:=ints_of (by lia) λ j v e=>hP j v (hacc.2 j v (by rw [← Array.getElem?_toList]; exact e))
 have at1:=Heap.get?_push_size h1 (o:=seqObj "list" acc.toList.toArray 0) rfl
 show wpAny _ _ _ _ _ { s with heap:=h1.push (seqObj "list" acc.toList.toArray 0),toks:=tk }
 refine wpAny_bind (wpAny_holding (wpAny_call_entry slot_list_sort ⟨_,at1,rfl⟩ entry_list_sort (sort_tree at1 hI hn (by lia) λ out ns' w1 w2 w3=>⟨_,rfl,wpAny_pure ⟨_,rfl,?_⟩⟩) (args_list_sort _)))
 obtain ⟨e,he⟩:=sortedHeap_at (vs:=acc.toList) (out:=out) at1
 refine k h1 _ tk out ns' e k1 (λ b o q1=>?_) he w1 w2 w3
 have lt:=Heap.lt_size q1
 rw [sortedHeap_old (Nat.ne_of_lt lt) (by rw [size_push']; exact Nat.lt_succ_of_lt lt),Heap.get?_push_ne _ _ _ (Nat.ne_of_lt lt)]
 exact q1
end
end Srt
namespace L2
open PySem PySem.Spec PyProof.Rows
section
variable {X:Cx}
end
end L2
namespace Srt
open PySem PyProof.Rows
section
variable {prog:Program}{w:World}{A:Around}{s:Shared}{T:String}{r d:Addr}{n:Nat}{P:Nat→Value→Prop}{OK:Heap→Prop}
end
end Srt
namespace L2
open PySem PySem.Spec PyProof.Rows
theorem vals_of:∀ {xs:List V}{vs:List Value},xs.length=vs.length→(∀ (j:Nat) (x:V) (v:Value),xs[j]? = some x→vs[j]? = some v→RelV x v)→Vals xs vs
 | [],[],_,_=>.nil
 | x :: xs,v :: vs,hl,h=>.cons (h 0 x v rfl rfl) (vals_of (by simpa using hl) λ j a b ha hb=>h (j + 1) a b (by simpa using ha) (by simpa using hb))
 | [],_ :: _,hl,_=>by simp at hl
 | _ :: _,[],hl,_=>by simp at hl
section
variable {X:Cx}
end
end L2
namespace L2
open PySem PySem.Spec PyProof.Rows
def Deep (K:PySem.W.Frag) (H:Hp):Nat→V→V→Prop
 | 0,x,y=>x=y∧flatV x=true
 | n + 1,x,y=>(x=y∧flatV x=true)∨∃ p q xs ys,x=.ref p∧y=.ref q∧p≠q∧((SqL K H p xs∧SqL K H q ys)∨(SqT K H p xs∧SqT K H q ys))∧Paired (Deep K H n) xs ys
theorem eqV_refl:∀ {x:V},flatV x=true→eqV x x=true:=by
 intro x h
 cases x <;> first | (simp [eqV]; done) | exact nomatch h
theorem pr_len {α β:Type}{F:α→β→Prop}:∀ {xs:List α}{ys:List β},Paired F xs ys→xs.length=ys.length
 | _,_,.nil=>rfl
 | _,_,.cons _ t=>by rw [List.length_cons,List.length_cons,pr_len t]
theorem pr_at {α β:Type}{F:α→β→Prop}:∀ {xs:List α}{ys:List β},Paired F xs ys→∀ (j:Nat) (x:α) (y:β),xs[j]? = some x→ys[j]? = some y→F x y
 | _,_,.nil,j,_,_,h,_=>by simp at h
 | _,_,.cons r t,0,x,y,h1,h2=>by simp at h1 h2; subst h1; subst h2; exact r
 | _,_,.cons r t,j + 1,x,y,h1,h2=>pr_at t j x y (by simpa using h1) (by simpa using h2)
section
variable {X:Cx}{pins:List (Addr×Obj)}{σ:St}{H:Hp}{s:Shared}
theorem deep_items {n:Nat}{A:Around}{xs ys:List V}{its its2:List Value}(r:Vals xs its) (r2:Vals ys its2) (hp:Paired (Deep X.K H n) xs ys)
   (ih:∀ {x y:V}{v u:Value},Deep X.K H n x y→RelV x v→RelV y u→SeqAt.EqAt A s v u true) (j:Nat) (h1:j < its.toArray.size) (h2:j < its2.toArray.size):SeqAt.EqAt A s its.toArray[j] its2.toArray[j] true:=by
 have hl:=r.length
 have hl2:=r2.length
 rw [List.size_toArray] at h1 h2
 have j1:j < xs.length:=by lia
 have j2:j < ys.length:=by lia
 obtain ⟨a,ea,ra⟩:=r.get (i:=j) (x:=xs[j]) (by simp [j1])
 obtain ⟨b,eb,rb⟩:=r2.get (i:=j) (x:=ys[j]) (by simp [j2])
 obtain ⟨_,ea'⟩:=List.getElem?_eq_some_iff.mp ea
 obtain ⟨_,eb'⟩:=List.getElem?_eq_some_iff.mp eb
 have a1:its.toArray[j]=a:=by simpa using ea'
 have a2:its2.toArray[j]=b:=by simpa using eb'
 rw [a1,a2]
 exact ih (pr_at hp j _ _ (by simp [j1]) (by simp [j2])) ra rb
theorem deep_eq (I:Inv X pins σ H s):∀ (n:Nat) {A:Around}{x y:V}{v u:Value},A.units + n < cLine→Deep X.K H n x y→RelV x v→RelV y u→SeqAt.EqAt A s v u true
 | 0,A,x,y,v,u,_,⟨e,f⟩,rx,ry=>by
   subst e
   have z:=eqAt_V (A:=A) (s:=s) rx ry f f
   rwa [eqV_refl f] at z
 | n + 1,A,x,y,v,u,hu,h,rx,ry=>by
   rcases h with ⟨e,f⟩ | ⟨p,q,xs,ys,rfl,rfl,hne,hsq,hp⟩
   · subst e
     have z:=eqAt_V (A:=A) (s:=s) rx ry f f
     rwa [eqV_refl f] at z
   · cases rx
     cases ry
     have hin:A.in1.units + n < cLine:=by show A.units + 1 + n < cLine; lia
     have ih:∀ {x y:V}{v u:Value},Deep X.K H n x y→RelV x v→RelV y u→SeqAt.EqAt A.in1 s v u true:=λ a b c=>deep_eq I n hin a b c
     have hl:=pr_len hp
     rcases hsq with ⟨h1,h2⟩ | ⟨h1,h2⟩
     · obtain ⟨its,r,pl,_⟩:=I.list h1
       obtain ⟨its2,r2,pl2,_⟩:=I.list h2
       have l1:=r.length
       have l2:=r2.length
       have z:=SeqAt.RcAt.lists (A:=A) (s:=s) (e:=λ _=>true) pl.isList pl2.isList (by rw [List.size_toArray,List.size_toArray]; lia) (by lia) (deep_items r r2 hp ih)
       have e:((List.range its.toArray.size).all λ _=>true)=true:=List.all_eq_true.mpr λ _ _=>rfl
       rw [e] at z
       exact SeqAt.EqAt.of_refs hne z
     · obtain ⟨its,r,pl,_⟩:=I.tuple h1
       obtain ⟨its2,r2,pl2,_⟩:=I.tuple h2
       have l1:=r.length
       have l2:=r2.length
       have z:=SeqAt.RcAt.tuples (A:=A) (s:=s) (e:=λ _=>true) pl pl2 (by lia) (deep_items r r2 hp ih)
       have e:((List.range (min its.toArray.size its2.toArray.size)).all (λ _=>true) && its.toArray.size == its2.toArray.size)=true:=by
         rw [Bool.and_eq_true]
         exact ⟨List.all_eq_true.mpr λ _ _=>rfl,by rw [List.size_toArray,List.size_toArray]; exact beq_iff_eq.mpr (by lia)⟩
       rw [e] at z
       exact SeqAt.EqAt.of_refs hne z
end
section
variable {X:Cx}
end
end L2
namespace PySem
open Sem (wp)
theorem lk_list_keys:typeLookup (.type "list") "keys" = pure none:=by rw [typeLookup_type,builtinLookup_eq_fast]; kernel_rfl
theorem lk_list_hook:typeLookup (.type "list") "__getattr__" = pure none:=by rw [typeLookup_type,builtinLookup_eq_fast]; kernel_rfl
section
variable {prog:Program}{w:World}{A:Around}{E:Value→Shared→Prop}{h:Heap}{g:Array GenState}{d:Drawn}{t:Nat}{os:OsState}{a:Addr}{its:Array Value}{n:Nat}
set_option maxHeartbeats 4000000 in
theorem noattr_entry {tk:Tok}{Q:Fin→Shared→Prop}(hh:A.handled=none) (hx:h.get? a=some { cls:=.type "list",data:=.seq its n })
   (hE:∀ h' t' e,(∀ b u,h.get? b=some u→h'.get? b=some u)→(∃ oe,h'.get? e=some oe∧oe.cls=.type "AttributeError")→E (.ref e) ⟨h',g,d,t',os⟩) :
   wpAny (model prog w) A (Builtin.«object.__getattribute__» ⟨[.ref a,.str "keys" tk],[]⟩) Q E ⟨h,g,d,t,os⟩:=by
 have hT:(⟨h,g,d,t,os⟩:Shared).TypeIs (.ref a) "list" := ⟨_,hx,rfl⟩
 have f4:=lk_list_keys
 unfold Builtin.«object.__getattribute__»
 repeat (any_goals (first | assumption | wp_step))
 have hm:(Str.ofString (toString "'" ++ toString ((Manifest.find? "list").elim "list" λ x=>x.tpName) ++ toString "' object has no attribute '") ++ Str.ofString "keys" ++ Str.ofString "'").length≤sizeLine:=by decide +kernel
 generalize (Str.ofString (toString "'" ++ toString ((Manifest.find? "list").elim "list" λ x=>x.tpName) ++ toString "' object has no attribute '") ++ Str.ofString "keys" ++ Str.ofString "'")=msg at hm ⊢
 unfold raiseAttrError newExc newTuple
 repeat (any_goals (first | assumption | wp_step))
 have fs:isSubtype (.type "AttributeError") (.type "AttributeError")=pure true:=by rw [isSubtype_type]; kernel_rfl
 refine wpAny_of_eq fs ?_
 rw [if_neg (by decide)]
 generalize hH1:(h.push { cls:=Value.type "tuple",data:=Data.seq #[Value.str msg t] })=H1
 have h1:∀ b u,h.get? b=some u→H1.get? b=some u:=λ b u e=>by rw [← hH1]; exact Heap.get?_push_of_some _ e
 rw [show ownMembersOf (Value.type "AttributeError") [Value.str msg t] = #[unsetMember,unsetMember] from rfl]
 generalize (if ((Manifest.find? "AttributeError").elim false λ t=>t.mro.contains "StopIteration" || t.mro.contains "SystemExit")=true then [Value.str msg t].headD Value.none else Value.none)=mv
 have e0:(H1.push { cls:=Value.type "AttributeError",data:=Data.fields (#[Value.ref h.objs.size,Value.none,Value.none,Value.none,Value.bool false,mv] ++ #[unsetMember,unsetMember]) }).get? H1.objs.size=some _:=Heap.get?_push_size _ rfl
 generalize hH2:(H1.push { cls:=Value.type "AttributeError",data:=Data.fields (#[Value.ref h.objs.size,Value.none,Value.none,Value.none,Value.bool false,mv] ++ #[unsetMember,unsetMember]) })=H2 at e0 ⊢
 have h2:∀ b u,h.get? b=some u→H2.get? b=some u:=λ b u e=>by rw [← hH2]; exact Heap.get?_push_of_some _ (h1 b u e)
 refine wpAny_bind (wpAny_load e0 ?_)
 dsimp only
 rw [if_neg (by with_unfolding_all exact Bool.false_ne_true),if_neg (by with_unfolding_all exact Bool.false_ne_true)]
 refine wpAny_pure ?_
 rw [if_pos rfl]
 refine wpAny_bind (wpAny_rule (wpAny_bind (wpAny_typeOf (T := "AttributeError") ⟨_,e0,rfl⟩ ?_)))
 unfold layMembers
 refine wpAny_bind (wpAny_load e0 ?_)
 dsimp only
 refine wpAny_update e0 ?_
 have hlt:∀ b u,h.get? b=some u→b≠H1.objs.size:=λ b u e z=>by
   have:=Heap.lt_size (h1 b u e)
   exact absurd this (by rw [z]; exact Nat.lt_irrefl _)
 refine wpAny_raiseNew_none hh (hE _ _ _ (λ b u e=>(Heap.get?_update_other _ _ (Ne.symm (hlt b u e))).trans (h2 b u e)) ?_)
 exact ⟨_,Heap.get?_update_self _ e0 rfl,rfl⟩
theorem noattr_call {tk:Tok}{R:Result→Shared→Prop}(hh:A.handled=none) (hx:h.get? a=some { cls:=.type "list",data:=.seq its n })
   (hE:∀ h' t' e,(∀ b u,h.get? b=some u→h'.get? b=some u)→(∃ oe,h'.get? e=some oe∧oe.cls=.type "AttributeError")→R (.error (.ref e)) ⟨h',g,d,t',os⟩) :
   codeAny (model prog w) A (.call (.builtin "list.__getattribute__") ⟨[.ref a,.str "keys" tk],[]⟩) R ⟨h,g,d,t,os⟩ :=
 codeAny_call_builtin F.slot_list_getattribute.plain F.entry_list_ga (F.slot_list_getattribute.check _ _ _ _ _ _ _ _ (show (⟨h,g,d,t,os⟩:Shared).TypeIs (.ref a) "list" from ⟨_,hx,rfl⟩) (F.args_list_getattribute_2 _ _) (noattr_entry hh hx λ h' t' e k1 k2=>hE h' t' e k1 k2))
theorem noattr_by {tk:Tok}{Q:Value→Shared→Prop}(hh:A.handled=none) (hx:h.get? a=some { cls:=.type "list",data:=.seq its n })
   (hE:∀ h' t' e,(∀ b u,h.get? b=some u→h'.get? b=some u)→(∃ oe,h'.get? e=some oe∧oe.cls=.type "AttributeError")→E (.ref e) ⟨h',g,d,t',os⟩) :
   wpAny (model prog w) A (getAttrBy (.ref a) (.str "keys" tk) false) Q E ⟨h,g,d,t,os⟩:=by
 have hT:(⟨h,g,d,t,os⟩:Shared).TypeIs (.ref a) "list" := ⟨_,hx,rfl⟩
 have f2:=F.slot_list_getattribute.lookup
 have f3:=F.slot_list_getattribute.bind (.ref a)
 repeat (any_goals (first | assumption | wp_step))
 have fs:isSubtype (.type "AttributeError") (.type "AttributeError")=pure true:=by rw [isSubtype_type]; kernel_rfl
 refine noattr_call hh hx λ h' t' e k1 k2=>?_
 dsimp only
 unfold getattributeRaised
 obtain ⟨oe,k3,k4⟩:=id k2
 refine wpAny_bind (wpAny_isInstance (T := "AttributeError") (b:=true) ⟨oe,k3,k4⟩ fs ?_)
 rw [if_pos rfl]
 unfold hookBehind
 refine wpAny_bind (wpAny_of_eq (a:=none) (by rw [if_neg (by decide)]; exact lk_list_hook) ?_)
 unfold hookOrError attributeErrorLeaves
 dsimp only
 rw [if_pos (show (!false)=true from rfl)]
 exact wpAny_bind (wpAny_throw (hE h' t' e k1 k2))
theorem noattr_list {Q:Option Value→Shared→Prop}(hh:A.handled=none) (hx:h.get? a=some { cls:=.type "list",data:=.seq its n })
   (hQ:∀ h' t',(∀ b u,h.get? b=some u→h'.get? b=some u)→Q none ⟨h',g,d,t',os⟩):wpAny (model prog w) A (getAttr? (.ref a) "keys") Q E ⟨h,g,d,t,os⟩:=by
 have fs:isSubtype (.type "AttributeError") (.type "AttributeError")=pure true:=by rw [isSubtype_type]; kernel_rfl
 unfold getAttr? getAttrBy?
 refine wpAny_bind ?_
 unfold mkText
 repeat (any_goals (first | assumption | with_reducible refine noattr_by hh hx ?_ | wp_step))
 intro h' t' e k1 k2
 obtain ⟨oe,k3,k4⟩:=id k2
 dsimp only
 refine wpAny_bind (wpAny_isInstance (T := "AttributeError") (b:=true) ⟨oe,k3,k4⟩ fs ?_)
 rw [if_pos rfl]
 exact wpAny_pure (hQ h' t' k1)
end
end PySem
namespace PySem
open PyProof.Rows
namespace F
theorem entry_dict_update_loop:entryFor table "dict.update.loop" = some Builtin.«dict.update.loop» := entryFor_of_tree (by kernel_rfl)
theorem plain_dict_update_loop:plainId "dict.update.loop" = true:=by decide +kernel
end F
section
variable {prog:Program}{w:World}{K:Type} [DecidableEq K] {knd:KeyKind prog w K}{A:Around}{E:Value→Shared→Prop}
theorem dictOf_at {h h':Heap}{d:Addr}{kvs:List (K×Value)}(m:h.DictOf knd d kvs) (k:∀ o,h.get? d=some o→h'.get? d=some o):h'.DictOf knd d kvs :=
 let ⟨o,es,ep,ho,r⟩:=m; ⟨o,es,ep,k o ho,r⟩
theorem upd_loop (hh:A.handled=none) {R:Result→Shared→Prop}{d it l:Addr}{items:List Value}{res:Value}{ps:List (K×Value)}(h1:d≠it) (h2':d≠l) (h3:l≠it) (hlen:items.length=ps.length) :
   ∀ (m i:Nat) (z:Int) (s:Shared) (kvs:List (K×Value)),ps.length - i=m→i≤ps.length→s.heap.IsListIter it l i→s.heap.IsList l items.toArray→s.heap.DictOf knd d kvs→kvs.length + m≤sizeLine →
     (∀ (j:Nat) (k:K) (v:Value),i≤j→ps[j]? = some (k,v)→∃ T key,items[j]? = some (.ref T)∧IsTup s.heap T #[key,v]∧knd.is k key=true∧T≠it∧T≠d) →
     (∀ h' tk,h'.DictOf knd d ((ps.drop i).foldl (λ q p=>stored q p.1 p.2) kvs)→(∀ b o,b≠d→b≠it→s.heap.get? b=some o→h'.get? b=some o)→R (.ok (.ret res)) { s with heap:=h',toks:=tk }) →
     codeAny (model prog w) A (.builtin "dict.update.loop" ⟨[.ref d,.ref it,rawInt z,res],[]⟩) R s:=by
 intro m
 induction m with
 | zero =>
   intro i z s kvs hm hi hit hl hd hz hp hR
   have e:i=ps.length:=by lia
   subst e
   refine codeAny_builtin F.entry_dict_update_loop ?_
   rw [Around.under_plainId F.plain_dict_update_loop _]
   show wpAny _ A.in1 (pyNext (.ref it) >>= _) _ _ s
   refine wpAny_bind (wpAny_pyNext_list_end (A:=A.in1) hh hit hl (by rw [← hlen]; simp) λ h' eb=>?_)
   refine wpAny_bind (m:=Builtin.Dict.addKeywords d []) (wpAny_pure (wpAny_pure ?_))
   refine hR h' s.toks ?_ λ b o _ hb q=>eb b o hb q
   rw [List.drop_length]
   exact dictOf_at hd λ o q=>eb d o h1 q
 | succ m ih =>
   intro i z s kvs hm hi hit hl hd hz hp hR
   have hlt:i < ps.length:=by lia
   obtain ⟨T,key,e1,e2,e3,e4,e5⟩:=hp i (ps[i]).1 (ps[i]).2 (Nat.le_refl _) (by rw [List.getElem?_eq_getElem hlt])
   refine codeAny_builtin F.entry_dict_update_loop ?_
   rw [Around.under_plainId F.plain_dict_update_loop _]
   show wpAny _ A.in1 (pyNext (.ref it) >>= _) _ _ s
   refine wpAny_bind (wpAny_pyNext_list_item hit hl (x:=.ref T) (by simpa using e1) λ h' hit' sb=>?_)
   obtain ⟨oT,g1,g2,nT,g3⟩:=e2
   have gT:h'.get? T=some oT:=(sb.2 T e4).trans g1
   have hd':h'.DictOf knd d kvs:=dictOf_at hd λ o q=>(sb.2 d h1).trans q
   dsimp only
   refine wpAny_bind (wpAny_holding (wpAny_bind ?_))
   unfold Builtin.Dict.pairItems
   have hTT:Shared.TypeIs { s with heap:=h' } (.ref T) "tuple" := ⟨oT,gT,g2⟩
   refine wpAny_tryCatch (wpAny_bind (wpAny_typeOf hTT ?_))
   rw [if_pos (by decide)]
   refine wpAny_bind (wpAny_seqItems gT g3 (wpAny_pure ?_))
   show wpAny _ A.in1 (holding [key,(ps[i]).2] (dictSet d key (ps[i]).2)) _ _ _
   refine wpAny_holding (wpAny_dictSet_pairs (hsz:=by lia) e3 hd' λ h2 hd2 sb2=>?_)
   replace sb2:Heap.SameBut d h' h2:=sb2
   have hl2:(stored kvs (ps[i]).1 (ps[i]).2).length≤kvs.length + 1:=stored_length_le _ _ _
   have up:∀ b o,b≠d→b≠it→s.heap.get? b=some o→h2.get? b=some o:=λ b o n1 n2 q=>(sb2.2 b n1).trans ((sb.2 b n2).trans q)
   refine wpAny_pure ⟨plainId_quiet F.plain_dict_update_loop _,ih (i + 1) (z + 1) _ _ (by lia) (by lia) (hit'.extBut sb2.extBut (Ne.symm h1)) ?_ hd2 (by lia) (λ j k v hj hjk=>?_) λ h4 tk q1 q2=>?_⟩
   · exact hl.at λ o q=>up l o (Ne.symm h2') h3 q
   · obtain ⟨T',key',a1,⟨oT',b1,b2,nT',b3⟩,a3,a4,a5⟩:=hp j k v (by lia) hjk
     exact ⟨T',key',a1,⟨oT',up T' _ a5 a4 b1,b2,nT',b3⟩,a3,a4,a5⟩
   · refine hR h4 tk ?_ λ b o n1 n2 q=>q2 b o n1 n2 (up b o n1 n2 q)
     rw [List.drop_eq_getElem_cons hlt,List.foldl_cons]
     exact q1
theorem call_dict_pairs {s:Shared}{l:Addr}{its:List Value}{n:Nat}{ps:List (K×Value)}{Q:Value→Shared→Prop}(hh:A.handled=none) (hx:s.heap.get? l=some { cls:=.type "list",data:=.seq its.toArray n }) (hlen:its.length=ps.length) (hz:ps.length≤sizeLine)
   (hp:∀ (j:Nat) (k:K) (v:Value),ps[j]? = some (k,v)→∃ T key,its[j]? = some (.ref T)∧IsTup s.heap T #[key,v]∧knd.is k key=true)
   (h:∀ h' tk,h'.DictOf knd s.heap.objs.size (ps.foldl (λ q p=>stored q p.1 p.2) [])→(∀ b o,s.heap.get? b=some o→h'.get? b=some o)→Q (.ref s.heap.objs.size) { s with heap:=h',toks:=tk }) :
   wpAny (model prog w) A (call (.type "dict") [.ref l]) Q E s:=by
 refine callType_codes (Q₁:=λ obj s₁=>obj=.ref s.heap.objs.size∧s₁={ s with heap:=s.heap.push { cls:=.type "dict",data:=.dict #[] } }) F.kt_called_dict (F.kt_typeCall_dict_1 _) F.entry_dict_init (kt_code_dict_new _ ⟨rfl,rfl⟩) ?_
 rintro obj s₁ ⟨rfl,rfl⟩
 have hnew:(s.heap.push { cls:=.type "dict",data:=.dict #[] }).DictOf knd s.heap.objs.size []:=Heap.DictOf.new s.heap
 have llt:l < s.heap.objs.size:=Heap.lt_size hx
 have hx1:(s.heap.push { cls:=.type "dict",data:=.dict #[] }).get? l=some { cls:=.type "list",data:=.seq its.toArray n }:=Heap.get?_push_of_some _ hx
 refine ⟨hnew.typeIs,F.args_dict_init_2 _ _,?_⟩
 unfold Builtin.«dict.__init__»
 refine wpAny_bind ?_
 unfold Builtin.Dict.selfAndRest
 refine wpAny_bind (wpAny_notOrdered_dict hnew.typeIs ?_)
 show wpAny _ _ (pure (s.heap.objs.size,[Value.ref l])) _ _ _
 refine wpAny_pure ?_
 show wpAny _ _ (Builtin.Dict.updateFrom "dict.__init__" s.heap.objs.size (.ref l) [] .none) _ _ _
 unfold Builtin.Dict.updateFrom
 refine wpAny_bind (wpAny_typeOf (T := "list") ⟨_,hx1,rfl⟩ ?_)
 rw [if_pos (by decide)]
 refine wpAny_bind (noattr_list hh hx1 λ h2 t2 k2=>?_)
 rw [if_pos (show (none:Option Value).isNone=true from rfl)]
 have hx2:=k2 _ _ hx1
 have hd2:h2.DictOf knd s.heap.objs.size []:=dictOf_at hnew λ o q=>k2 _ _ q
 refine wpAny_bind (wpAny_rule (wpAny_bind (wpAny_pyIter_list ⟨_,hx2,rfl,_,rfl⟩ ?_)))
 have lt2:s.heap.objs.size < h2.objs.size:=let ⟨_,_,_,q,_⟩:=hd2; Heap.lt_size q
 refine wpAny_pure ⟨plainId_quiet F.plain_dict_update_loop _,?_⟩
 refine upd_loop (A:=A.in1) hh (items:=its) (ps:=ps) (Nat.ne_of_lt lt2) (Nat.ne_of_gt llt) (Nat.ne_of_lt (Nat.lt_trans llt lt2)) hlen ps.length 0 0 _ [] (by lia) (Nat.zero_le _) ⟨_,Heap.get?_push_size _ rfl,rfl,rfl⟩ ⟨_,Heap.get?_push_of_some _ hx2,rfl,_,rfl⟩ (dictOf_at hd2 λ o q=>Heap.get?_push_of_some _ q) (by simpa using hz) (λ j k v _ hj=>?_) λ h4 tk q1 q2=>?_
 · obtain ⟨T,key,a1,⟨oT,b1,b2,nT,b3⟩,a3⟩:=hp j k v hj
   have Tlt:T < s.heap.objs.size:=Heap.lt_size b1
   exact ⟨T,key,a1,⟨oT,Heap.get?_push_of_some _ (k2 _ _ (Heap.get?_push_of_some _ b1)),b2,nT,b3⟩,a3,Nat.ne_of_lt (Nat.lt_trans Tlt lt2),Nat.ne_of_lt Tlt⟩
 · refine ⟨rfl,h h4 tk q1 λ b o q=>?_⟩
   have blt:b < s.heap.objs.size:=Heap.lt_size q
   exact q2 b o (Nat.ne_of_lt blt) (Nat.ne_of_lt (Nat.lt_trans blt lt2)) (Heap.get?_push_of_some _ (k2 _ _ (Heap.get?_push_of_some _ q)))
end
end PySem
namespace L2
open PySem PySem.Spec PyProof.Rows
section
variable {X:Cx}{scope:Scope}{cl:List (Str×Addr)}{t:Str×Str}{caps:List (Str×Nat)}{pins:List (Addr×Obj)}{σ:St}{H:Hp}{s:Shared}{C:Addr}{fp:List Addr}
end
section
variable {X:Cx}{scope:Scope}{cl:List (Str×Addr)}{t:Str×Str}{caps:List (Str×Nat)}{elt iter:Expr}{ifs:List Expr}{px pos:Pos}{es:List Expr}{kx:Nat}{g:TG}{wi:TI}{tt:TT}{te:TE}
end
end L2
namespace L2
open PySem PySem.Spec PyProof.Rows
theorem bt_zip:bootBuiltins "zip" = some (.type "zip"):=by decide +kernel
theorem bt_enumerate:bootBuiltins "enumerate" = some (.type "enumerate"):=by decide +kernel
theorem bt_min:bootBuiltins "min" = some (.builtin "min"):=by decide +kernel
section
variable {X:Cx}{pins:List (Addr×Obj)}{σ:St}{H:Hp}{s:Shared}{h':Heap}
theorem Inv.turnedL {t':Nat}{ch:List Addr}(I:Inv X pins σ H s) (k:∀ b o,b∉ch→s.heap.get? b=some o→h'.get? b=some o) (hf:∀ b∈ch,FpOk X pins H b):Inv X pins σ H { s with heap:=h',toks:=t' }:=by
 have nit:∀ b u,H b=some u→b∉ch:=λ b u e z=>by rw [(hf b z).1] at e; cases e
 refine I.step (g':=s.gens) (d':=s.drawn) (ch:=ch) (λ b hb=>?_) (λ b o _ _ hc e _=>k b o hc e) (λ b o _ _ hc e _=>⟨o.slots,k b o hc e⟩) (λ _ _ _ _ n=>n)
   (λ b o hc e=>⟨o,k b o hc e⟩) (λ _ _ e=>e) (λ _ _ _ e=>e) (λ b ps e=>⟨#[],by rw [e]; simp⟩) (λ m hm=>?_) (λ b u e=>?_) I.bare
 · obtain ⟨_,f1,f2,f3,f4,f5⟩:=hf b hb
   exact ⟨f3,f1,f4,f5⟩
 · obtain ⟨o,es,ep,ho,r⟩:=hm
   exact ⟨o,es,ep,k _ o (λ z=>(hf _ z).2.1 rfl) ho,r⟩
 · refine (I.hok b u e).stay (λ c v hc q=>k c v ?_ q) (λ _ q=>q) λ _ _ q=>q
   rcases hc with z | z
   · rw [z]; exact nit b u e
   · exact nit c _ z
theorem Inv.trackT {D:Addr}{ys:List V}{its:List Value}(I:Inv X pins σ H s) (f:FpOk X pins H D) (e:IsTup s.heap D its.toArray) (r:Vals ys its) (hz:ys.length≤sizeLine) :
   Inv X pins σ (upd H D (.tup ys)) s:=by
 obtain ⟨f0,f1,f2,f3,f4,f5⟩:=f
 obtain ⟨hh,g,d,tk,os⟩:=s
 refine I.step (g':=g) (d':=d) (t':=tk) (h':=hh) (ch:=[D]) (λ b hb=>?_) (λ b o _ _ _ e _=>e) (λ b o _ _ _ e _=>⟨o.slots,e⟩) (λ b o hb _ n=>?_) (λ b o _ e=>⟨o,e⟩) (λ b xs q=>?_) (λ b o u q=>?_) (λ b ps q=>⟨#[],?_⟩) (λ m hm=>hm) (λ b u q=>?_) I.bare
 · have z:b=D:=by simpa using hb
   subst z
   exact ⟨f3,f1,f4,f5⟩
 · rw [upd_ne (λ z=>hb (by simp [z]))]; exact n
 · rw [upd_ne (ne_of_none q f0)]; exact q
 · rw [upd_ne (ne_of_none q f0)]; exact q
 · rw [upd_ne (ne_of_none q f0),q]; simp
 · by_cases hb:b=D
   · subst hb
     rw [upd_same] at q
     cases q
     exact ⟨hz,its,r,e⟩
   · rw [upd_ne hb] at q
     exact (I.hok b u q).stay (λ _ _ _ z=>z) (λ c z=>by rw [upd_ne (ne_of_none z f0)]; exact z) λ c xs z=>by rw [upd_ne (ne_of_none z f0)]; exact z
end
def Itz (K:PySem.W.Frag) (l1 l2:Addr):It :=
 ⟨λ i H => ∃ xs ys x y,SqL K H l1 xs∧SqL K H l2 ys∧xs[i]? = some x∧ys[i]? = some y,
  λ i H v H' => ∃ T x y,v=.ref T∧H T=none∧H'=upd H T (.tup [x,y])∧(∀ xs,SqL K H l1 xs→xs[i]? = some x)∧∀ ys,SqL K H l2 ys→ys[i]? = some y,
  λ i H => ∃ xs ys,SqL K H l1 xs∧SqL K H l2 ys∧(xs.length≤i∨ys.length≤i)⟩
def znT (z TI TO i1 i2 l1 l2:Addr) (i:Nat) (h:Heap):Prop:=IsZip h z TI TO .none∧IsPair h TI (.ref i1) (.ref i2)∧(∃ a b,IsPair h TO a b)∧h.IsListIter i1 l1 i∧h.IsListIter i2 l2 i
theorem two_le:2≤sizeLine:=by rw [sizeLine_eq]; decide
theorem turn_zip {P:Program}{w:World}{K:PySem.W.Frag}{es:List Expr}{kx:Nat}{px:Pos}{z TI TO i1 i2 l1 l2:Addr}(D:ZipApart z TI TO i1 i2 l1 l2):Turn P w K (.Tuple es kx px) (Itz K l1 l2) [z,TI,TO,i1,i2] z (znT z TI TO i1 i2 l1 l2) where
 mem:=by simp
 obj:=by
   rintro i h ⟨hz,hTI,⟨a,b',hTO⟩,h1,h2⟩ b hb
   simp only [List.mem_cons,List.not_mem_nil,or_false] at hb
   rcases hb with rfl | rfl | rfl | rfl | rfl
   · exact ⟨_,hz,λ v q=>by cases (show Data.fields _=Data.cell v from q)⟩
   · exact ⟨_,hTI,λ v q=>by cases (show Data.seq _ _=Data.cell v from q)⟩
   · exact ⟨_,hTO,λ v q=>by cases (show Data.seq _ _=Data.cell v from q)⟩
   · obtain ⟨o,e,c,d⟩:=h1; exact ⟨o,e,λ v q=>by rw [d] at q; cases q⟩
   · obtain ⟨o,e,c,d⟩:=h2; exact ⟨o,e,λ v q=>by rw [d] at q; cases q⟩
 keep:=λ i h h' ⟨hz,hTI,⟨a,b,hTO⟩,h1,h2⟩ k=>⟨k z (by simp) _ hz,k TI (by simp) _ hTI,⟨a,b,k TO (by simp) _ hTO⟩,h1.at λ o e=>k i1 (by simp) o e,h2.at λ o e=>k i2 (by simp) o e⟩
 item:=by
   intro X hP hw hK hc i pins s σ H E I hf st hg
   subst hP hw hK
   obtain ⟨hz,hTI,⟨a,b,hTO⟩,h1,h2⟩:=st
   obtain ⟨xs,ys,x,y,q1,q2,e1,e2⟩:=hg
   obtain ⟨its1,rv1,p1,_⟩:=I.list q1
   obtain ⟨its2,rv2,p2,_⟩:=I.list q2
   obtain ⟨u1,hu1,ru1⟩:=rv1.get e1
   obtain ⟨u2,hu2,ru2⟩:=rv2.get e2
   have f4:∀ b∈[z,TO,i1,i2],FpOk X pins H b:=λ b hb=>hf b (by simp only [List.mem_cons,List.not_mem_nil,or_false] at hb ⊢; rcases hb with h | h | h | h <;> simp [h])
   refine wpAny_pyNext_zip_item D hz hTI hTO h1 h2 p1.isList p2.isList (x:=u1) (y:=u2) (by simpa using hu1) (by simpa using hu2) λ h' z' TO' a1 a2 pT sz kk=>?_
   have I1:Inv X pins σ H { s with heap:=h' }:=I.turnedL (t':=s.toks) (ch:=[z,TO,i1,i2]) (λ b o hb e=>kk b o (λ q=>hb (by simp [q])) (λ q=>hb (by simp [q])) (λ q=>hb (by simp [q])) (λ q=>hb (by simp [q])) e) f4
   refine ⟨_,rfl,wpAny_letOwnedTupleGo_zip z' λ h2' z2 sb=>?_⟩
   replace sb:Heap.SameBut z h' h2':=sb
   have I2:Inv X pins σ H { s with heap:=h2' }:=I1.turnedL (s:={ s with heap:=h' }) (h':=h2') (t':=s.toks) (ch:=[z]) (λ b o hb e=>(sb.2 b (λ q=>hb (by simp [q]))).trans e) λ b hb=>hf b (by simp only [List.mem_singleton] at hb; simp [hb])
   have fT:FpOk X pins H s.heap.objs.size:=I.fpOk (Nat.le_refl _) (I.hok.fresh (Nat.le_refl _))
   have nz:s.heap.objs.size≠z:=Nat.ne_of_gt (Heap.lt_size hz)
   have pT2:IsPair h2' s.heap.objs.size u1 u2:=sb.extBut _ _ nz pT
   have I3:Inv X pins σ (upd H s.heap.objs.size (.tup [x,y])) { s with heap:=h2' }:=I2.trackT (its:=[u1,u2]) fT ⟨_,pT2,rfl,_,rfl⟩ (.cons ru1 (.cons ru2 .nil)) two_le
   refine ⟨.ref s.heap.objs.size,_,I3,rfl,⟨_,x,y,rfl,fT.1,rfl,λ zs hzs=>by rw [I.list_inj hzs q1]; exact e1,λ zs hzs=>by rw [I.list_inj hzs q2]; exact e2⟩,⟨z2,sb.extBut _ _ D.TIz (kk _ _ D.TIz D.TITO D.TIi1 D.TIi2 hTI),⟨_,_,sb.extBut _ _ D.TOz TO'⟩,a1.extBut sb.extBut D.i1z,a2.extBut sb.extBut D.i2z⟩,λ b hb=>?_⟩
   have nb:b≠s.heap.objs.size:=by
     intro q
     simp only [List.mem_cons,List.not_mem_nil,or_false] at hb
     obtain ⟨o1,g1,_⟩:=h1
     obtain ⟨o2,g2,_⟩:=h2
     rcases hb with e | e | e | e | e <;> rw [e] at q
     · exact nz q.symm
     · exact Nat.ne_of_lt (Heap.lt_size hTI) q
     · exact Nat.ne_of_lt (Heap.lt_size hTO) q
     · exact Nat.ne_of_lt (Heap.lt_size g1) q
     · exact Nat.ne_of_lt (Heap.lt_size g2) q
   rw [upd_ne nb]
   exact (hf b hb).1
 done:=by
   intro X hP hw hK hc i pins s σ H E I hf st hg
   subst hP hw hK
   obtain ⟨hz,hTI,⟨a,b,hTO⟩,h1,h2⟩:=st
   obtain ⟨xs,ys,q1,q2,e⟩:=hg
   obtain ⟨its1,rv1,p1,_⟩:=I.list q1
   obtain ⟨its2,rv2,p2,_⟩:=I.list q2
   have hl1:=rv1.length
   have hl2:=rv2.length
   have f4:∀ b∈[z,TO,i1,i2],FpOk X pins H b:=λ b hb=>hf b (by simp only [List.mem_cons,List.not_mem_nil,or_false] at hb ⊢; rcases hb with h | h | h | h <;> simp [h])
   refine wpAny_pyNext_zip_end (I.ok.hd hc) D hz hTI hTO h1 h2 p1.isList p2.isList (e.elim (λ e=>.inl (by simp; lia)) λ e=>.inr (by simp; lia)) λ h' kk=>⟨rfl,I.turnedL (t':=s.toks) (ch:=[z,TO,i1,i2]) (λ b o hb e=>kk b o (λ q=>hb (by simp [q])) (λ q=>hb (by simp [q])) (λ q=>hb (by simp [q])) (λ q=>hb (by simp [q])) e) f4⟩
 self:=λ _ _ _ _ _ st h=>wpAny_pyIter_zip st.1 h
section
variable {X:Cx}
def iZip (K:PySem.W.Frag) (ta:TA):TI:=λ σ H R=>ta σ H λ vs H1 => ∃ l1 l2,vs=[.ref l1,.ref l2]∧(∃ xs,SqL K H1 l1 xs)∧(∃ ys,SqL K H1 l2 ys)∧R (Itz K l1 l2) H1
theorem pi_zip {es:List Expr}{kx:Nat}{px:Pos}{a b:Expr}{ta:TA}{p pos:Pos}(hg:Gl X "zip") (hm:X.mg "zip" = none) (ha:PA X [a,b] ta) (hs:starEach [a,b] X.env=[(false,eval a X.env),(false,eval b X.env)]:=by rfl) (hs2:starEach [b] X.env=[(false,eval b X.env)]:=by rfl) :
   PI X (.Tuple es kx px) (.Call (.Name "zip" p) [a,b] [] pos) (iZip X.K ta):=by
 intro pins s σ H R I h
 refine Call_ (ld_blt I hg hm bt_zip (PyProof.Rows.callWith_type1 (thn (ha pos pins s σ H _ I h) λ us s1 ⟨vs,H1,I1,r1,q1⟩=>?_) (by rw [hs,hs2]) (by rw [hs2]; rfl)))
 obtain ⟨l1,l2,rfl,⟨xs,g1⟩,⟨ys,g2⟩,q⟩:=q1
 obtain ⟨u1,u2,rfl,e1,e2⟩:=vals2 r1
 obtain rfl:u1=Value.ref l1:=e1
 obtain rfl:u2=Value.ref l2:=e2
 obtain ⟨its1,rv1,p1,_⟩:=I1.list g1
 obtain ⟨its2,rv2,p2,_⟩:=I1.list g2
 have lt1:l1 < s1.heap.objs.size:=let ⟨_,e,_⟩:=p1.isList; Heap.lt_size e
 have lt2:l2 < s1.heap.objs.size:=let ⟨_,e,_⟩:=p2.isList; Heap.lt_size e
 refine call_zip_2 p1.isList p2.isList λ h' hz hTI hTO hi1 hi2 hsz hk=>?_
 refine wpAny_pyIter_zip hz ?_
 refine ⟨s1.heap.objs.size + 4,[s1.heap.objs.size + 4,s1.heap.objs.size + 2,s1.heap.objs.size + 3,s1.heap.objs.size,s1.heap.objs.size + 1],_,_,H1,rfl,I1.kept (t':=s1.toks) hk,turn_zip (zipApart_new lt1 lt2),⟨hz,hTI,⟨_,_,hTO⟩,hi1,hi2⟩,λ b hb=>?_,q⟩
 have le:s1.heap.objs.size≤b:=by
   simp only [List.mem_cons,List.not_mem_nil,or_false] at hb
   rcases hb with e | e | e | e | e <;> rw [e] <;> first | exact Nat.le_refl _ | exact Nat.le_add_right _ _
 exact I1.fpOk le (I1.hok.fresh le)
def Ite (K:PySem.W.Frag) (l:Addr):It :=
 ⟨λ i H => ∃ xs x,SqL K H l xs∧xs[i]? = some x,
  λ i H v H' => ∃ T x,v=.ref T∧H T=none∧H'=upd H T (.tup [.int i,x])∧∀ xs,SqL K H l xs→xs[i]? = some x,
  λ i H => ∃ xs,SqL K H l xs∧xs.length≤i⟩
def enT (e it l:Addr) (i:Nat) (h:Heap):Prop:=(∃ old,IsEnum h e it i old)∧h.IsListIter it l i
theorem turn_enum {P:Program}{w:World}{K:PySem.W.Frag}{es:List Expr}{kx:Nat}{px:Pos}{e it l:Addr}(D:e≠it):Turn P w K (.Tuple es kx px) (Ite K l) [e,it] e (enT e it l) where
 mem:=by simp
 obj:=by
   rintro i h ⟨⟨old,he⟩,h1⟩ b hb
   simp only [List.mem_cons,List.not_mem_nil,or_false] at hb
   rcases hb with rfl | rfl
   · exact ⟨_,he,λ v q=>by cases (show Data.fields _=Data.cell v from q)⟩
   · obtain ⟨o,e,c,d⟩:=h1; exact ⟨o,e,λ v q=>by rw [d] at q; cases q⟩
 keep:=λ i h h' ⟨⟨old,he⟩,h1⟩ k=>⟨⟨old,k e (by simp) _ he⟩,h1.at λ o q=>k it (by simp) o q⟩
 item:=by
   intro X hP hw hK hc i pins s σ H E I hf st hg
   subst hP hw hK
   obtain ⟨⟨old,he⟩,h1⟩:=st
   obtain ⟨xs,x,q1,e1⟩:=hg
   obtain ⟨its1,rv1,p1,_⟩:=I.list q1
   obtain ⟨u1,hu1,ru1⟩:=rv1.get e1
   refine wpAny_pyNext_enum_item he h1 p1.isList (x:=u1) (by simpa using hu1) D λ h' eo a1 pT sz kk=>?_
   have I1:Inv X pins σ H { s with heap:=h',toks:=s.toks + 1 }:=I.turnedL (t':=s.toks + 1) (ch:=[e,it]) (λ b o hb q=>kk b o (λ z=>hb (by simp [z])) (λ z=>hb (by simp [z])) q) hf
   refine ⟨_,rfl,wpAny_letOwnedTupleGo_enum eo λ h2' e2 sb=>?_⟩
   replace sb:Heap.SameBut e h' h2':=sb
   have I2:Inv X pins σ H { s with heap:=h2',toks:=s.toks + 1 }:=I1.turnedL (s:={ s with heap:=h',toks:=s.toks + 1 }) (h':=h2') (t':=s.toks + 1) (ch:=[e]) (λ b o hb q=>(sb.2 b (λ z=>hb (by simp [z]))).trans q) λ b hb=>hf b (by simp only [List.mem_singleton] at hb; simp [hb])
   have fT:FpOk X pins H s.heap.objs.size:=I.fpOk (Nat.le_refl _) (I.hok.fresh (Nat.le_refl _))
   have ne:s.heap.objs.size≠e:=Nat.ne_of_gt (Heap.lt_size he)
   have pT2:=sb.extBut _ _ ne pT
   have I3:Inv X pins σ (upd H s.heap.objs.size (.tup [.int i,x])) { s with heap:=h2',toks:=s.toks + 1 }:=I2.trackT (its:=[.int i s.toks,u1]) fT ⟨_,pT2,rfl,_,rfl⟩ (.cons ⟨_,rfl⟩ (.cons ru1 .nil)) two_le
   refine ⟨.ref s.heap.objs.size,_,I3,rfl,⟨_,x,rfl,fT.1,rfl,λ zs hzs=>by rw [I.list_inj hzs q1]; exact e1⟩,⟨⟨u1,?_⟩,a1.extBut sb.extBut (Ne.symm D)⟩,λ b hb=>?_⟩
   · have ec:((i + 1:Nat):Int)=(i:Int) + 1:=by push_cast; rfl
     rw [ec]
     exact e2
   · have nb:b≠s.heap.objs.size:=by
       intro q
       simp only [List.mem_cons,List.not_mem_nil,or_false] at hb
       obtain ⟨o1,g1,_⟩:=h1
       rcases hb with z | z <;> rw [z] at q
       · exact ne q.symm
       · exact Nat.ne_of_lt (Heap.lt_size g1) q
     rw [upd_ne nb]
     exact (hf b hb).1
 done:=by
   intro X hP hw hK hc i pins s σ H E I hf st hg
   subst hP hw hK
   obtain ⟨⟨old,he⟩,h1⟩:=st
   obtain ⟨xs,q1,e1⟩:=hg
   obtain ⟨its1,rv1,p1,_⟩:=I.list q1
   have hl1:=rv1.length
   obtain ⟨f0,f1,f2,f3,f4,f5⟩:=hf it (by simp)
   exact wpAny_pyNext_enum_end (I.ok.hd hc) he h1 p1.isList (by simp; lia) λ h' eb=>⟨rfl,I.turned (t':=s.toks) (λ b o hb q=>eb b o hb q) f0 f1 f3 f4 f5⟩
 self:=λ _ _ _ _ _ st h=>let ⟨⟨_,he⟩,_⟩:=st; wpAny_pyIter_enum he h
def iEnum (K:PySem.W.Frag) (ta:TA):TI:=λ σ H R=>ta σ H λ vs H1 => ∃ l,vs=[.ref l]∧(∃ xs,SqL K H1 l xs)∧R (Ite K l) H1
theorem pi_enum {es:List Expr}{kx:Nat}{px:Pos}{a:Expr}{ta:TA}{p pos:Pos}(hg:Gl X "enumerate") (hm:X.mg "enumerate" = none) (ha:PA X [a] ta) (hs:starEach [a] X.env=[(false,eval a X.env)]:=by rfl) :
   PI X (.Tuple es kx px) (.Call (.Name "enumerate" p) [a] [] pos) (iEnum X.K ta):=by
 intro pins s σ H R I h
 refine Call_ (ld_blt I hg hm bt_enumerate (PyProof.Rows.callWith_type1 (thn (ha pos pins s σ H _ I h) λ us s1 ⟨vs,H1,I1,r1,q1⟩=>?_) hs rfl))
 obtain ⟨l,rfl,⟨xs,g1⟩,q⟩:=q1
 obtain ⟨u1,rfl,e1⟩:=vals1 r1
 obtain rfl:u1=Value.ref l:=e1
 obtain ⟨its1,rv1,p1,_⟩:=I1.list g1
 refine call_enumerate_list p1.isList λ h' he hi hsz hk=>?_
 refine wpAny_pyIter_enum he ?_
 refine ⟨s1.heap.objs.size + 1,[s1.heap.objs.size + 1,s1.heap.objs.size],_,_,H1,rfl,I1.kept (t':=s1.toks) hk,turn_enum (l:=l) (Nat.succ_ne_self _),⟨⟨_,he⟩,hi⟩,λ b hb=>?_,q⟩
 have le:s1.heap.objs.size≤b:=by
   simp only [List.mem_cons,List.not_mem_nil,or_false] at hb
   rcases hb with e | e <;> rw [e] <;> first | exact Nat.le_refl _ | exact Nat.le_add_right _ _
 exact I1.fpOk le (I1.hok.fresh le)
end
theorem for_enum {K:PySem.W.Frag}{a:Addr}{xs:List V}{g:TG}{tb:TS}{D:Ends}{σ:St}{H:Hp}(Pv:Nat→St→Hp→Prop) (h0:Pv 0 σ H) (hl:∀ i σ H,i≤xs.length→Pv i σ H→SqL K H a xs)
   (hs:∀ i x σ H T,xs[i]? = some x→H T=none→Pv i σ H→g (.ref T) σ (upd H T (.tup [.int i,x])) λ σ2 H2=>tb { D with nx:=Pv (i + 1),ct:=Pv (i + 1),bk:=D.nx } σ2 H2) (hd:∀ σ H,Pv xs.length σ H→D.nx σ H) :
   ∃ W:Nat→Nat→St→Hp→Prop,(∃ m,W 0 m σ H)∧∀ i m σ H,W i m σ H →
     ((Ite K a).stop i H∧D.nx σ H)∨((Ite K a).go i H∧∃ N:St→Hp→Prop,(∀ σ' H',N σ' H'→∃ m',m' < m∧W (i + 1) m' σ' H')∧∀ x H',(Ite K a).yld i H x H'→g x σ H' λ σ2 H2=>tb { D with nx:=N,ct:=N,bk:=D.nx } σ2 H2):=by
 refine ⟨λ i m σ H=>m=xs.length - i∧i≤xs.length∧Pv i σ H,⟨xs.length,by simp,Nat.zero_le _,h0⟩,?_⟩
 rintro i m σ H ⟨rfl,hi,p⟩
 have q1:=hl i σ H hi p
 by_cases hlt:i < xs.length
 · refine .inr ⟨⟨xs,xs[i],q1,by simp [hlt]⟩,Pv (i + 1),λ σ' H' p'=>⟨xs.length - (i + 1),by lia,rfl,hlt,p'⟩,?_⟩
   rintro v H' ⟨T,x,rfl,hT,rfl,e1⟩
   exact hs i x σ H T (e1 xs q1) hT p
 · have e:i=xs.length:=by lia
   subst e
   exact .inl ⟨⟨xs,q1,Nat.le_refl _⟩,hd σ H p⟩
def rListOf (K:PySem.W.Frag):List V→Hp→VK→Prop:=λ xs H Q => ∃ p ys,xs=[.ref p]∧(SqL K H p ys∨SqT K H p ys)∧∀ l,H l=none→Q (.ref l) (upd H l (.lst ys))
theorem call_listK {X:Cx}:CallR X (.type "list") (rListOf X.K):=call_list_of
end L2
namespace L2
open PySem PySem.Spec PyProof.Rows
section
variable {X:Cx}
theorem pairs_of {P:Program}{w:World}{H:Hp}{h:Heap}(ok:HOk P w H h):∀ {ts:List Addr}{kvs:List (Key×V)},Paired (λ t (p:Key×V)=>H t=some (.tup [kV p.1,p.2])) ts kvs →
   ∃ ps:List (Key×Value),KV kvs ps∧∀ (j:Nat) (k:Key) (v:Value),ps[j]? = some (k,v)→∃ T key,(ts.map Value.ref)[j]? = some (.ref T)∧IsTup h T #[key,v]∧(mixKind P w).is k key=true
 | _,_,.nil=>⟨[],.nil,λ j k v e=>by simp at e⟩
 | t :: ts,p :: kvs,.cons r rest=>by
   obtain ⟨ps,q1,q2⟩:=pairs_of ok rest
   obtain ⟨_,its,rv,it⟩:=(show ObjOk P w H h t (.tup [kV p.1,p.2]) from ok t _ r)
   obtain ⟨u1,u2,rfl,r1,r2⟩:=vals2 rv
   refine ⟨(p.1,u2) :: ps,.cons ⟨rfl,r2⟩ q1,λ j k v e=>?_⟩
   cases j with
   | zero =>
     have e':(p.1,u2)=(k,v):=by simpa using e
     cases e'
     exact ⟨t,u1,rfl,it,kV_is r1⟩
   | succ j =>
     obtain ⟨T,key,a1,a2,a3⟩:=q2 j k v (by simpa using e)
     exact ⟨T,key,by simpa using a1,a2,a3⟩
theorem vals_refs:∀ {ts:List Addr}{its:List Value},Vals (ts.map V.ref) its→its=ts.map Value.ref
 | [],_,.nil=>rfl
 | t :: ts,_,.cons r rest=>by rw [vals_refs rest,show _=Value.ref t from r]; rfl
theorem call_dictP (hc:X.calm=true):CallR X (.type "dict") (λ xs H Q => ∃ (l:Addr) (ts:List Addr) (kvs:List (Key×V)),xs=[.ref l]∧H l=some (.lst (ts.map V.ref))∧Paired (λ t (p:Key×V)=>H t=some (.tup [kV p.1,p.2])) ts kvs∧(kvs.map (·.1)).Nodup ∧
   ∀ a,H a=none→Q (.ref a) (upd H a (.dK kvs))):=by
 intro pins s σ H xs us Q I r h
 obtain ⟨l,ts,kvs,rfl,hl,hp,hn,q⟩:=h
 obtain ⟨u,rfl,ru⟩:=vals1 r
 obtain rfl:u=Value.ref l:=ru
 obtain ⟨hz,its,n,rv,hlen,hx⟩:=I.lstM hl
 have ei:=vals_refs rv
 subst ei
 obtain ⟨ps,q1,q2⟩:=pairs_of I.hok hp
 have l1:=Paired.length hp
 have l2:=Paired.length q1
 rw [List.length_map] at hz
 refine call_dict_pairs (knd:=mixKind X.prog X.w) (ps:=ps) (I.ok.hd hc) hx (by rw [List.length_map]; lia) (by lia) q2 λ h' tk dd k=>?_
 have hk:(ps.map (·.1)).Nodup:=by rw [← KV.keys q1]; exact hn
 have e:=merged_nil_of_nodup ps hk
 unfold merged at e
 rw [e] at dd
 refine ⟨.ref s.heap.objs.size,_,I.laid (t':=tk) k (Nat.le_refl _) (dk_new (by lia) ?_ q1 dd),rfl,q _ I.fresh⟩
 exact beq_false_of_ne (Nat.ne_of_gt I.big)
theorem call_sortedK (hc:X.calm=true):CallR X (.builtin "sorted") (λ xs H Q => ∃ (a:Addr) (kvs:List (Key×V)) (ns:List Int),xs=[.ref a]∧H a=some (.dK kvs)∧kvs.map (·.1)=ns.map Sum.inl∧ns.Nodup∧ns.length≤1000 ∧
   ∀ (l:Addr) (ns':List Int),H l=none→ns'.Perm ns→ns'.Pairwise (· ≤ ·)→Q (.ref l) (upd H l (.lst (ns'.map V.int)))):=by
 intro pins s σ H xs us Q I r h
 obtain ⟨a,kvs,ns,rfl,ha,hk,hnd,hn,q⟩:=h
 obtain ⟨u,rfl,ru⟩:=vals1 r
 cases ru
 obtain ⟨_,hd,vs,rel,dd⟩:=dk_of I.hok ha
 obtain ⟨ep,dat⟩:=dd.dictAt
 have el:vs.map (·.1)=ns.map Sum.inl:=by rw [← rel.keys]; exact hk
 have ll:ns.length=vs.length:=by
   have:=congrArg List.length el
   simpa using this.symm
 have hs:sizeLine=16777216:=sizeLine_eq
 refine Srt.sorted_src (PySem.W.kdl_dict (knd:=mixKind X.prog X.w) (kvs:=vs) (ep:=ep) (d:=a) hd) (I.ok.hd hc) dat (ns:=ns) (λ i w' hw=>?_) ll hnd (by lia) λ h1 h' tk out ns' e k1 k2 he a1 a2 a3=>?_
 · obtain ⟨k,x,e1,e2⟩:=hw
   have e3:(vs.map (·.1))[i]? = some k:=by rw [List.getElem?_map,e1]; rfl
   rw [el,List.getElem?_map] at e3
   cases e4:ns[i]? with
   | none=>rw [e4] at e3; cases e3
   | some m =>
     rw [e4] at e3
     obtain rfl:Sum.inl m=k:=Option.some.inj e3
     obtain ⟨t,rfl⟩:=kV_rel e2
     exact ⟨m,t,rfl,rfl⟩
 · have I1:Inv X pins σ H { s with heap:=h1,toks:=tk }:=I.kept k1
   exact ⟨.ref h1.objs.size,_,I1.laid (t':=tk) k2 (Nat.le_refl _) (show ObjOk X.prog X.w _ _ _ (.lst (ns'.map V.int)) from ⟨by rw [List.length_map,a2.length_eq]; lia,out.toList,e,vals_ints a1,by simpa using he⟩),rfl,q _ ns' (I1.hok.fresh (Nat.le_refl _)) a2 a3⟩
def tThawE (H₀:Hp) (t:TE):TE:=λ σ H Q=>t σ H λ v H' => ∃ a o kvs,H' a=some (.frz o (.dK kvs))∧(∀ o u',H₀ a≠some (.frz o u'))∧Q v (upd H' a (.dK kvs))
theorem pe_thaw {e:Expr}{t:TE}(h:PE X e t):PE X e (tThawE X.H₀ t):=by
 intro pins s σ H Q I q
 refine thn (h pins s σ H _ I q) λ u s1 ⟨v,H',I',r,a,o,kvs,ha,hn,q'⟩=>?_
 exact ⟨v,_,I'.thaw ha hn,r,q'⟩
end
section
variable {X:Cx}
end
section
variable {X:Cx}{tg:Expr}
end
end L2
namespace Srt
open PySem PyProof.Rows
section
variable {prog:Program}{w:World}{A:Around}{E:Value→Shared→Prop}{s:Shared}{a₀:Array Keyed}
end
section
variable {prog:Program}{w:World}{A:Around}{E:Value→Shared→Prop}{s:Shared}
end
section
variable {prog:Program}{w:World}{A:Around}{E:Value→Shared→Prop}{s:Shared}{T:String}{r d:Addr}{n:Nat}{P:Nat→Value→Prop}{OK:Heap→Prop}
end
end Srt
namespace L2
open PySem PySem.Spec PyProof.Rows
section
variable {X:Cx}
end
theorem for_listX {K:PySem.W.Frag}{a:Addr}{xs:List V}{g:TG}{tb:TSX}{R:XR}{D:Ends}{σ:St}{H:Hp}(Pv:Nat→St→Hp→Prop) (h0:Pv 0 σ H) (hl:∀ i σ H,i≤xs.length→Pv i σ H→SqL K H a xs)
   (hs:∀ i x σ H,xs[i]? = some x→Pv i σ H→g x σ H λ σ2 H2=>tb { D with nx:=Pv (i + 1),ct:=Pv (i + 1),bk:=D.nx } R σ2 H2) (hd:∀ σ H,Pv xs.length σ H→D.nx σ H) :
   ∃ W:Nat→Nat→St→Hp→Prop,(∃ m,W 0 m σ H)∧∀ i m σ H,W i m σ H →
     ((Itl K a).stop i H∧D.nx σ H)∨((Itl K a).go i H∧∃ N:St→Hp→Prop,(∀ σ' H',N σ' H'→∃ m',m' < m∧W (i + 1) m' σ' H')∧∀ x H',(Itl K a).yld i H x H'→g x σ H' λ σ2 H2=>tb { D with nx:=N,ct:=N,bk:=D.nx } R σ2 H2) :=
 for_list (tb:=λ D σ H=>tb D R σ H) Pv h0 hl hs hd
end L2
namespace Sp
open PySem PySem.StrLaws PySem.Builtin PySem.Builtin.Str
end Sp
namespace L2
open PySem PySem.Spec PyProof.Rows PySem.Builtin PySem.Builtin.Str
section
variable {X:Cx}
theorem call_sum (hc:X.calm=true):CallR X (.builtin "sum") (λ xs H Q => ∃ (p:Addr) (ns:List Int),xs=[.ref p]∧SqL X.K H p (ns.map V.int)∧Q (.int ns.sum) H):=by
 intro pins s σ H xs us Q I r h
 obtain ⟨p,ns,rfl,hp,q⟩:=h
 obtain ⟨u,rfl,ru⟩:=vals1 r
 cases ru
 obtain ⟨its,rv,pl,hz⟩:=I.list hp
 have hI:=intsAre_of rv
 have hn:=hI.numsOf
 obtain ⟨ys,e⟩:=hI.allInts.items
 have hl:=pl.isList
 rw [e] at hl
 refine sum_intListG (I.ok.hd hc) hl λ h' tk t' hk=>?_
 have hs:preSum (numAt ys) ys.size=ns.sum:=by
   rw [preSum_eq,List.take_of_length_le (by simp), ← nums_intItems, ← e]
   rw [show its.toArray.toList=its from rfl,hn]
 exact ⟨.int ns.sum,H,I.kept hk,⟨_,by rw [hs]⟩,q⟩
end
end L2
namespace L2
open PySem PySem.Spec PyProof.Rows PySem.Builtin
section
variable {X:Cx}
theorem call_rng2:CallR X (.type "range") (λ xs H Q => ∃ i j:Int,xs=[.int i,.int j]∧∀ p,H p=none→Q (.ref p) (upd H p (.rng i j))):=by
 intro pins s σ H xs us Q I r h
 obtain ⟨i,j,rfl,q⟩:=h
 obtain ⟨u,u',rfl,⟨t,rfl⟩,⟨t',rfl⟩⟩:=vals2 r
 refine call_range_2 ⟨.ref s.heap.objs.size,_,I.laid (λ b o e=>Heap.get?_push_of_some _ e) (Nat.le_refl _) ?_,rfl,q _ (I.hok.fresh (Nat.le_refl _))⟩
 exact ⟨_,_,_,Heap.get?_push_size s.heap rfl⟩
end
end L2
namespace L2
open PySem PySem.Spec PyProof.Rows
section
variable {X:Cx}
end
end L2
namespace L2
open PySem PySem.Spec PyProof.Rows
section
variable {X:Cx}
theorem call_list_rng2 (hc:X.calm=true):CallR X (.type "list") (λ xs H Q => ∃ (p:Addr) (i:Int) (n:Nat),xs=[.ref p]∧H p=some (.rng i (i + n))∧n≤1000 ∧ -1000≤i∧i≤1000∧∀ l,H l=none→Q (.ref l) (upd H l (.lst ((List.range n).map λ k:Nat=>V.int (i + k))))):=by
 intro pins s σ H xs us Q I r h
 obtain ⟨p,i,n,rfl,hp,hn,i0,i1,q⟩:=h
 obtain ⟨u,rfl,ru⟩:=vals1 r
 cases ru
 have hs:sizeLine=16777216:=sizeLine_eq
 obtain ⟨t,u,v,e⟩:=(show ObjOk X.prog X.w H s.heap p (.rng i (i + n)) from I.hok p _ hp)
 refine call_list_range (n:=n) (I.ok.hd hc) e (small_one (by lia) (by lia) (by lia) (by lia)) (by rw [rangeSize_one]; split <;> lia) (by lia) λ h' tk acc' c' kp e' it=>?_
 have rv:Vals ((List.range n).map λ k:Nat=>V.int (i + k)) acc'.toList:=by
   obtain ⟨h1,h2⟩:=it
   refine vals_of ?_ λ j x v hx hv=>?_
   · rw [List.length_map,List.length_range]; simpa using h1.symm
   · rw [List.getElem?_map] at hx
     obtain ⟨k,hk,rfl⟩:=Option.map_eq_some_iff.mp hx
     have hk':k=j:=by
       have:=List.getElem?_eq_some_iff.mp hk
       obtain ⟨_,e⟩:=this
       simpa using e.symm
     obtain ⟨t,e⟩:=h2 j v (by simpa using hv)
     exact ⟨t,by rw [e,hk']; congr 1; lia⟩
 refine ⟨.ref s.heap.objs.size,_,I.laid kp (Nat.le_refl _) (show ObjOk X.prog X.w _ h' _ (.lst ((List.range n).map λ k:Nat=>V.int (i + k))) from ⟨by rw [List.length_map,List.length_range]; lia,acc'.toList,c',rv,by simpa using e'⟩),rfl,q _ (I.hok.fresh (Nat.le_refl _))⟩
theorem call_listD (hc:X.calm=true):CallR X (.type "list") (λ xs H Q => ∃ (d:Addr) (kvs:List (Key×V)),xs=[.ref d]∧H d=some (.dK kvs)∧kvs.length≤1000∧∀ l,H l=none→Q (.ref l) (upd H l (.lst (kvs.map λ kv=>kV kv.1)))):=by
 intro pins s σ H xs us Q I r h
 obtain ⟨d,kvs,rfl,hD,hn,q⟩:=h
 obtain ⟨u,rfl,ru⟩:=vals1 r
 cases ru
 have hs:sizeLine=16777216:=sizeLine_eq
 obtain ⟨_,hd,vs,rel,dd⟩:=dk_of I.hok hD
 obtain ⟨ep,dat⟩:=dd.dictAt
 have hlen:=rel.length
 refine PySem.W.kdl_call (PySem.W.kdl_dict (knd:=mixKind X.prog X.w) (kvs:=vs) (ep:=ep) hd) (I.ok.hd hc) dat (by lia) λ h' tk acc' c' k1 k2 k3=>?_
 obtain ⟨sz,it⟩:=k3
 have rv:Vals (kvs.map λ kv=>kV kv.1) acc'.toList:=by
   refine vals_of ?_ λ j x v hx hv=>?_
   · have al:acc'.toList.length=acc'.size:=Array.length_toList
     rw [List.length_map]; lia
   · rw [List.getElem?_map] at hx
     obtain ⟨kv,hk,rfl⟩:=Option.map_eq_some_iff.mp hx
     have hv':acc'[j]? = some v:=by rw [← Array.getElem?_toList]; exact hv
     obtain ⟨k,y,e1,e2⟩:=it j v hv'
     have e3:(vs.map (·.1))[j]? = some k:=by rw [List.getElem?_map,e1]; rfl
     rw [← rel.keys,List.getElem?_map,hk] at e3
     obtain rfl:kv.1=k:=Option.some.inj e3
     exact kV_rel e2
 refine ⟨.ref s.heap.objs.size,_,I.laid k1 (Nat.le_refl _) (show ObjOk X.prog X.w _ h' _ (.lst (kvs.map λ kv=>kV kv.1)) from ⟨by rw [List.length_map]; lia,acc'.toList,c',rv,by simpa using k2⟩),rfl,q _ (I.hok.fresh (Nat.le_refl _))⟩
end
theorem comp_dict0 {a:Addr}{o:Obj}{kvs:List (Key×V)}{caps:List (Str×Nat)}{te:TE}{σ:St}{H:Hp}{QE:List V→Hp→Prop}(Pv:Nat→List V→Hp→Prop) (h0:Pv 0 [] H)
   (hl:∀ i zs H,i≤kvs.length→Pv i zs H→H a=some (.frz o (.dK kvs)))
   (hs:∀ i k v zs H,kvs[i]? = some (k,v)→Pv i zs H→te (capS caps σ (some (kV k))) H (λ z H3=>zs.length < sizeLine∧Pv (i + 1) (zs ++ [z]) H3))
   (hd:∀ zs H,Pv kvs.length zs H→QE zs H):∃ W:Nat→Nat→List V→Hp→Prop,(∃ m,W 0 m [] H)∧CompW caps tYes te σ (Itd a o kvs) QE W:=by
 refine ⟨λ i m zs H=>m=kvs.length - i∧i≤kvs.length∧Pv i zs H,⟨kvs.length,by simp,Nat.zero_le _,h0⟩,?_⟩
 rintro i m zs H ⟨rfl,hi,p⟩
 have q1:=hl i zs H hi p
 by_cases hlt:i < kvs.length
 · refine .inr ⟨⟨q1,hlt⟩,Pv (i + 1),λ zs' H' p'=>⟨kvs.length - (i + 1),by lia,rfl,hlt,p'⟩,?_⟩
   rintro x H' ⟨rfl,k,v,hk,rfl⟩
   unfold tYes
   dsimp only
   rw [if_pos rfl]
   exact hs i k v zs _ hk p
 · have e:i=kvs.length:=by lia
   subst e
   exact .inl ⟨⟨q1,Nat.le_refl _⟩,hd zs H p⟩
theorem comp_rangeS0 {caps:List (Str×Nat)}{te:TE}{σ:St}{H:Hp}{lo st:Int}{n:Nat}{QE:List V→Hp→Prop}(Pv:Nat→List V→Hp→Prop) (h0:Pv 0 [] H)
   (hs:∀ i ys H,i < n→Pv i ys H→te (capS caps σ (some (.int (lo + i * st)))) H (λ y H3=>ys.length < sizeLine∧Pv (i + 1) (ys ++ [y]) H3))
   (hd:∀ ys H,Pv n ys H→QE ys H):∃ W:Nat→Nat→List V→Hp→Prop,(∃ m,W 0 m [] H)∧CompW caps tYes te σ (Itrs lo st n) QE W:=by
 refine ⟨λ i m ys H=>m=n - i∧i≤n∧Pv i ys H,⟨n,by simp,Nat.zero_le _,h0⟩,?_⟩
 rintro i m ys H ⟨rfl,hi,p⟩
 by_cases hlt:i < n
 · refine .inr ⟨hlt,Pv (i + 1),λ ys' H' p'=>⟨n - (i + 1),by lia,rfl,hlt,p'⟩,λ x H' y=>?_⟩
   obtain ⟨e,y⟩:=y
   subst e y
   unfold tYes
   dsimp only
   rw [if_pos rfl]
   exact hs i ys _ hlt p
 · have e:i=n:=by lia
   subst e
   exact .inl ⟨Nat.le_refl _,hd ys H p⟩
theorem for_zip {K:PySem.W.Frag}{a b:Addr}{xs ys:List V}{g:TG}{tb:TS}{D:Ends}{σ:St}{H:Hp}(Pv:Nat→St→Hp→Prop) (h0:Pv 0 σ H) (he:xs.length=ys.length)
   (hl:∀ i σ H,i≤xs.length→Pv i σ H→SqL K H a xs∧SqL K H b ys)
   (hs:∀ i x y σ H T,xs[i]? = some x→ys[i]? = some y→H T=none→Pv i σ H→g (.ref T) σ (upd H T (.tup [x,y])) λ σ2 H2=>tb { D with nx:=Pv (i + 1),ct:=Pv (i + 1),bk:=D.nx } σ2 H2)
   (hd:∀ σ H,Pv xs.length σ H→D.nx σ H) :
   ∃ W:Nat→Nat→St→Hp→Prop,(∃ m,W 0 m σ H)∧∀ i m σ H,W i m σ H →
     ((Itz K a b).stop i H∧D.nx σ H)∨((Itz K a b).go i H∧∃ N:St→Hp→Prop,(∀ σ' H',N σ' H'→∃ m',m' < m∧W (i + 1) m' σ' H')∧∀ x H',(Itz K a b).yld i H x H'→g x σ H' λ σ2 H2=>tb { D with nx:=N,ct:=N,bk:=D.nx } σ2 H2):=by
 refine ⟨λ i m σ H=>m=xs.length - i∧i≤xs.length∧Pv i σ H,⟨xs.length,by simp,Nat.zero_le _,h0⟩,?_⟩
 rintro i m σ H ⟨rfl,hi,p⟩
 obtain ⟨q1,q2⟩:=hl i σ H hi p
 by_cases hlt:i < xs.length
 · have hlt':i < ys.length:=by lia
   refine .inr ⟨⟨xs,ys,xs[i],ys[i],q1,q2,by simp [hlt],by simp [hlt']⟩,Pv (i + 1),λ σ' H' p'=>⟨xs.length - (i + 1),by lia,rfl,hlt,p'⟩,?_⟩
   rintro v H' ⟨T,x,y,rfl,hT,rfl,e1,e2⟩
   exact hs i x y σ H T (e1 _ q1) (e2 _ q2) hT p
 · have e:i=xs.length:=by lia
   subst e
   exact .inl ⟨⟨xs,ys,q1,q2,.inl (Nat.le_refl _)⟩,hd σ H p⟩
end L2
namespace L2
open PySem PySem.Spec PyProof.Rows
theorem turn_long {P:Program}{w:World}{K:PySem.W.Frag}{tg:Expr}(it:Addr) (lo:Int) (n:Nat):Turn P w K tg (Itr lo n) [it] it (λ i h=>IsLongIter h it (lo + (i:Nat) * 1) ((n:Int) - (i:Nat)) 1) where
 mem:=by simp
 obj:=λ i h st b hb=>by
   have e:b=it:=by simpa using hb
   subst e
   exact ⟨_,st,λ v z=>by
     have z':Data.fields _=Data.cell v:=z
     cases z'⟩
 keep:=λ i h h' st k=>k it (by simp) _ st
 item:=by
   intro X hP hw hK hc i pins s σ H E I hf st hg
   subst hP hw hK
   obtain ⟨f0,f1,f2,f3,f4,f5⟩:=hf it (by simp)
   have W:=Walks.longrange (prog:=X.prog) (w:=X.w) (I.ok.hd hc) it lo 1 n
   refine W.item i s _ _ hg st λ v h' tk hv st' kk=>?_
   obtain ⟨t,rfl⟩:=hv
   have I1:Inv X pins σ H { s with heap:=h',toks:=tk }:=I.turned (λ b o hb e=>kk b o (by simpa using hb) e) f0 f1 f3 f4 f5
   refine ⟨_,rfl,go_of (s:={ s with heap:=h',toks:=tk }) (n := "longrange_iterator") st' rfl rfl (by decide) ⟨.int (lo + i),H,I1,⟨t,?_⟩,⟨rfl,rfl⟩,st',λ b hb=>(hf b hb).1⟩⟩
   rw [Int.mul_one]
 done:=by
   intro X hP hw hK hc i pins s σ H E I hf st hg
   subst hP hw hK
   obtain ⟨f0,f1,f2,f3,f4,f5⟩:=hf it (by simp)
   exact wpAny_pyNext_long_end (I.ok.hd hc) st (by have:n≤i:=hg; lia) λ h' eb=>⟨rfl,I.turned (t':=s.toks) (λ b o hb e=>eb b o hb e) f0 f1 f3 f4 f5⟩
 self:=λ _ _ _ _ _ st h=>wpAny_pyIter_longiter st h
section
variable {X:Cx}{tg:Expr}
theorem range_any {pins:List (Addr×Obj)}{σ:St}{H:Hp}{s:Shared}{R:It→Hp→Prop}{E:Value→Shared→Prop}{lo hi:Int}{t u v:Tok}{tk:Nat}(I:Inv X pins σ H s)
   (q:R (Itr lo (hi - lo).toNat) H):wpAny (model X.prog X.w) X.A (pyIter (.ref s.heap.objs.size)) (PIE X pins σ tg R) E { s with heap:=s.heap.push { cls:=.type "range",data:=.fields #[.int lo t,.int hi u,.int 1 v] },toks:=tk }:=by
 have e1:lo + ((0:Nat):Int) * 1=lo:=by simp
 have e2:(((hi - lo).toNat:Nat):Int) - ((0:Nat):Int)=Builtin.Range.rangeSize lo hi 1:=by rw [rangeSize_one]; split <;> lia
 have I1:Inv X pins σ H { s with heap:=s.heap.push { cls:=.type "range",data:=.fields #[.int lo t,.int hi u,.int 1 v] },toks:=tk }:=I.kept λ b o e=>Heap.get?_push_of_some _ e
 cases sm:Builtin.Range.small lo hi 1 with
 | true =>
   refine wpAny_pyIter_range (IsRange.new ..) sm ?_
   refine ⟨_,[_],_,_,H,rfl,I1.kept (t':=tk) λ b o e=>Heap.get?_push_of_some _ e,turn_range _ lo (hi - lo).toNat,?_,λ b hb=>?_,q⟩
   · show IsRangeIter _ _ (lo + ((0:Nat):Int) * 1) ((((hi - lo).toNat:Nat):Int) - ((0:Nat):Int)) 1
     rw [e1,e2]
     exact Heap.get?_push_size _ rfl
   · have e:b=(s.heap.push { cls:=.type "range",data:=.fields #[.int lo t,.int hi u,.int 1 v] }).objs.size:=by simpa using hb
     subst e
     exact I1.fpOk (Nat.le_refl _) (I1.hok.fresh (Nat.le_refl _))
 | false =>
   refine wpAny_pyIter_longrange (IsRange.new ..) sm ?_
   refine ⟨_,[_],_,_,H,rfl,I1.kept (t':=tk) λ b o e=>Heap.get?_push_of_some _ e,turn_long _ lo (hi - lo).toNat,?_,λ b hb=>?_,q⟩
   · show IsLongIter _ _ (lo + ((0:Nat):Int) * 1) ((((hi - lo).toNat:Nat):Int) - ((0:Nat):Int)) 1
     rw [e1,e2]
     exact Heap.get?_push_size _ rfl
   · have e:b=(s.heap.push { cls:=.type "range",data:=.fields #[.int lo t,.int hi u,.int 1 v] }).objs.size:=by simpa using hb
     subst e
     exact I1.fpOk (Nat.le_refl _) (I1.hok.fresh (Nat.le_refl _))
def iRngL (ta:TA):TI:=λ σ H R=>ta σ H λ vs H1 => ∃ i j:Int,vs=[.int i,.int j]∧R (Itr i (j - i).toNat) H1
theorem pi_rangeL {a b:Expr}{ta:TA}{p pos:Pos}(hg:Gl X "range") (hm:X.mg "range" = none) (ha:PA X [a,b] ta) (hs:starEach [a,b] X.env=[(false,eval a X.env),(false,eval b X.env)]:=by rfl) (hs2:starEach [b] X.env=[(false,eval b X.env)]:=by rfl) :
   PI X tg (.Call (.Name "range" p) [a,b] [] pos) (iRngL ta):=by
 intro pins s σ H R I h
 refine Call_ (ld_blt I hg hm boot_range (PyProof.Rows.callWith_type1 (thn (ha pos pins s σ H _ I h) λ us s1 ⟨vs,H1,I1,r1,q1⟩=>?_) (by rw [hs,hs2]) (by rw [hs2]; rfl)))
 obtain ⟨i,j,e,q⟩:=q1
 subst e
 cases r1 with
 | cons r rr =>
   cases rr with
   | cons r' rr =>
     cases rr
     obtain ⟨t,rfl⟩:=r
     obtain ⟨t',rfl⟩:=r'
     exact call_range_2 (range_any I1 q)
end
end L2
namespace L2
open PySem PySem.Spec PyProof.Rows
section
variable {X:Cx}
end
end L2
namespace L2
open PySem PySem.Spec PyProof.Rows
theorem entry_unchain:entryFor table "proto.unchain" = some Builtin.«proto.unchain» := entryFor_of_fast (by kernel_rfl)
section
variable {prog:Program}{w:World}{A:Around}{E:Value→Shared→Prop}{s:Shared}
theorem unchain_at {h e:Addr}{oh:Obj}{vh:Array Value}{Q:Value→Shared→Prop}(hoh:s.heap.get? h=some oh) (hdh:oh.data=.fields vh) (hc:vh[2]? = some .none) (q:Q .none s) :
   wpAny (model prog w) A (runValue (.builtin "proto.unchain" ⟨[.ref e,.ref h,.ref h,.bool false],[]⟩)) Q E s:=by
 refine wpAny_runValue (codeAny_builtin entry_unchain ?_)
 unfold Builtin.«proto.unchain»
 refine wpAny_bind (wpAny_field hoh hdh hc ?_)
 rw [if_pos (show (Value.none == Value.none)=true from rfl)]
 exact wpAny_pure q
theorem raise_at {α:Type}{h e:Addr}{oh oe:Obj}{vh vs:Array Value}{Q:α→Shared→Prop}(hh:A.handled=some (.ref h)) (ne:h≠e) (hoh:s.heap.get? h=some oh) (hdh:oh.data=.fields vh) (hc:vh[2]? = some .none)
   (he:s.heap.get? e=some oe) (hd:oe.data=.fields vs) (h2:2 < vs.size) (q:E (.ref e) { s with heap:=s.heap.update e (Obj.mapFields (·.setIfInBounds 2 (.ref h))) }):wpAny (model prog w) A (raiseNew (.ref e):Sem α) Q E s:=by
 unfold raiseNew
 refine wpAny_bind (wpAny_handled ?_)
 rw [hh]
 dsimp only
 rw [if_pos (show (Value.ref h != Value.ref e)=true from by simpa using ne)]
 refine wpAny_bind (wpAny_holding (unchain_at hoh hdh hc ?_))
 unfold updateField
 refine wpAny_bind (wpAny_bind (wpAny_load he ?_))
 rw [hd]
 dsimp only
 rw [if_pos h2]
 exact wpAny_update he (wpAny_throw q)
theorem raise_stop {α:Type}{hx:Addr}{oh:Obj}{vh:Array Value}{Q:α→Shared→Prop}(hh:A.handled=some (.ref hx)) (hoh:s.heap.get? hx=some oh) (hdh:oh.data=.fields vh) (hc:vh[2]? = some .none)
   (q:∀ h' e,(∀ b o,s.heap.get? b=some o→h'.get? b=some o)→(∃ o,h'.get? e=some o∧o.cls=.type "StopIteration")→E (.ref e) { s with heap:=h' }) :
   wpAny (model prog w) A (newExc (.type "StopIteration") [] >>= λ x=>(raiseNew x:Sem α)) Q E s:=by
 refine wpAny_bind ?_
 unfold newExc newTuple
 refine wpAny_bind (wpAny_newObj_type (?_:wpAny _ _ _ _ _ _) (by size_fits))
 refine wpAny_bind (m:=firstArgMember _ _) (wpAny_of_eq (a:=Value.none) (by first | rfl | (unfold firstArgMember; rfl)) ?_)
 refine wpAny_newObj_type ?_ (by size_fits)
 have k1:∀ b o,s.heap.get? b=some o→(s.heap.push { cls:=Value.type "tuple",dict:=none,data:=Data.seq ([]:List Value).toArray }).get? b=some o:=λ b o e=>Heap.get?_push_of_some _ e
 have lt:=Heap.lt_size hoh
 refine raise_at (e:=(s.heap.push _).objs.size) hh (by rw [Heap.size_push]; exact Nat.ne_of_lt (Nat.lt_succ_of_lt lt)) (Heap.get?_push_of_some _ (Heap.get?_push_of_some _ hoh)) hdh hc (Heap.get?_push_size _ rfl) rfl (by simp [ownMembersOf]) (q _ _ (λ b o e=>?_) ?_)
 · have lb:=Heap.lt_size e
   rw [Heap.get?_update_other _ _ (by rw [Heap.size_push]; exact Nat.ne_of_gt (Nat.lt_succ_of_lt lb))]
   exact Heap.get?_push_of_some _ (Heap.get?_push_of_some _ e)
 · exact ⟨_,Heap.get?_update_self _ (Heap.get?_push_size _ rfl) (Obj.isFreed_of_fields (Obj.data_mapFields rfl _)),Obj.cls_mapFields _ _⟩
theorem list_end_at {it l hx:Addr}{i:Nat}{items:Array Value}{oh:Obj}{vh:Array Value}{Q:Option Value→Shared→Prop}(hh:A.handled=some (.ref hx)) (hoh:s.heap.get? hx=some oh) (hdh:oh.data=.fields vh) (hc:vh[2]? = some .none) (nx:it≠hx)
   (hit:s.heap.IsListIter it l i) (hl:s.heap.IsList l items) (hn:items[i]? = none) (q:∀ h',Heap.ExtBut it s.heap h'→Q none { s with heap:=h' }):wpAny (model prog w) A (pyNext (.ref it)) Q E s:=by
 obtain ⟨ob,gb,cb,db⟩:=id hit
 obtain ⟨ol,gl,cl,nl,dl⟩:=hl
 unfold pyNext
 refine wpAny_bind (wpAny_attempt (wpAny_callSpecial?_slot (name:=Str.ofString "__next__") hit.typeIs slot_listiter_next (wpAny_call_entry slot_listiter_next hit.typeIs entry_listiter_next (?_:wpAny _ _ _ _ _ _) (args_listiter_next _))))
 refine (wpAny_bind (wpAny_field gb db (x:=.ref l) rfl ?_):wpAny _ _ (field (.ref it) 0 >>= _) _ _ s)
 rw [if_neg (show ¬ ((Value.ref l == Value.none)=true) from Bool.false_ne_true)]
 refine (wpAny_bind (wpAny_field gb db (x:=.int i 0) rfl ?_):wpAny _ _ (field (.ref it) 1 >>= _) _ _ s)
 refine (wpAny_bind (wpAny_seqItems gl dl ?_):wpAny _ _ (seqItems? (.ref l) >>= _) _ _ s)
 simp only [Int.toNat_natCast,hn]
 refine wpAny_bind (wpAny_rule (wpAny_bind (wpAny_setField gb db (by simp) ?_)))
 have sb:Heap.SameBut it s.heap (s.heap.update it (Obj.mapFields (·.setIfInBounds 0 Value.none))):=Heap.SameBut.update ..
 refine raise_stop (A:=A.in1) hh ((sb.2 hx (Ne.symm nx)).trans hoh) hdh hc λ h' e keep ⟨o,ho,co⟩=>?_
 refine wpAny_bind (wpAny_isInstance (T := "StopIteration") (b:=true) ⟨o,ho,co⟩ isSubtype_stop ?_)
 exact wpAny_pure (q h' λ b u nb eb=>keep b u ((sb.2 b nb).trans eb))
theorem range_end_at {it hx:Addr}{x left step:Int}{oh:Obj}{vh:Array Value}{Q:Option Value→Shared→Prop}(hh:A.handled=some (.ref hx)) (hoh:s.heap.get? hx=some oh) (hdh:oh.data=.fields vh) (hc:vh[2]? = some .none)
   (hit:IsRangeIter s.heap it x left step) (hn:left≤0) (q:∀ h',Heap.ExtBut it s.heap h'→Q none { s with heap:=h' }):wpAny (model prog w) A (pyNext (.ref it)) Q E s:=by
 have ty:s.TypeIs (.ref it) "range_iterator" := ⟨_,hit,rfl⟩
 unfold pyNext
 refine wpAny_bind (wpAny_attempt (wpAny_callSpecial?_slot (name:=Str.ofString "__next__") ty F.slot_range_iterator_next (wpAny_call_entry F.slot_range_iterator_next ty F.entry_range_iterator_next (?_:wpAny _ _ _ _ _ _) (F.args_range_iterator_next_1 _))))
 refine (wpAny_bind (wpAny_field hit rfl (x:=rawInt x) rfl ?_):wpAny _ _ (field (.ref it) 0 >>= _) _ _ s)
 refine (wpAny_bind (wpAny_field hit rfl (x:=rawInt left) rfl ?_):wpAny _ _ (field (.ref it) 1 >>= _) _ _ s)
 refine (wpAny_bind (wpAny_field hit rfl (x:=rawInt step) rfl ?_):wpAny _ _ (field (.ref it) 2 >>= _) _ _ s)
 refine (?_:wpAny _ _ (if left≤0 then _ else _) _ _ s)
 rw [if_pos hn]
 refine wpAny_bind (wpAny_rule ?_)
 refine wpAny_bind ?_
 refine raise_stop (A:=A.in1) hh hoh hdh hc λ h' e keep ⟨o,ho,co⟩=>?_
 refine wpAny_bind (wpAny_isInstance (T := "StopIteration") (b:=true) ⟨o,ho,co⟩ isSubtype_stop ?_)
 exact wpAny_pure (q h' λ b u nb eb=>keep b u eb)
end
end L2
namespace L2
open PySem PySem.Spec PyProof.Rows
def xq (e:Addr) (cls:Value):HO:=.ext λ h => ∃ o vs,h.get? e=some o∧o.cls=cls∧o.data=.fields vs∧vs[2]? = some .none
theorem xq_ok {P:Program}{w:World}{H:Hp}{h:Heap}{e:Addr}{cls:Value}(x:∃ o vs,h.get? e=some o∧o.cls=cls∧o.data=.fields vs∧vs[2]? = some .none):ObjOk P w H h e (xq e cls) :=
 ⟨x,let ⟨o,_,e1,_⟩:=x; ⟨o,e1⟩,λ h1 h2 ⟨o,vs,e1,e2⟩ k=>⟨o,vs,k o e1,e2⟩⟩
theorem Inv.xq_at {X:Cx}{pins:List (Addr×Obj)}{σ:St}{H:Hp}{s:Shared}{e:Addr}{cls:Value}(I:Inv X pins σ H s) (h:H e=some (xq e cls)):∃ o vs,s.heap.get? e=some o∧o.cls=cls∧o.data=.fields vs∧vs[2]? = some .none:=by
 obtain ⟨p,_⟩:=(show ObjOk X.prog X.w H s.heap e (xq e cls) from I.hok e _ h)
 exact p
structure TurnH (hx:Addr) (xc:Value) (P:Program) (w:World) (K:PySem.W.Frag) (tg:Expr) (J:It) (fp:List Addr) (it:Addr) (tn:Nat→Heap→Prop):Prop where
 mem:it∈fp
 obj:∀ i h,tn i h→∀ b∈fp,∃ o,h.get? b=some o∧∀ v,o.data≠.cell v
 keep:∀ i h h',tn i h→(∀ b∈fp,∀ o,h.get? b=some o→h'.get? b=some o)→tn i h'
 item:∀ (X:Cx),X.prog=P→X.w=w→X.K=K→X.A.handled=some (.ref hx)→∀ (i:Nat) (pins:List (Addr×Obj)) (s:Shared) (σ:St) (H:Hp) (E:Value→Shared→Prop),H hx=some (xq hx xc)→Inv X pins σ H s→(∀ b∈fp,FpOk X pins H b)→tn i s.heap→J.go i H →
   wpAny (model P w) X.A (pyNext (.ref it)) (λ r s1 => ∃ u,r=some u ∧
     wpAny (model P w) X.A (letOwnedTupleGo tg (.ref it) u) (λ _ s2 => ∃ x H',Inv X pins σ H' s2∧RelV x u∧J.yld i H x H'∧tn (i + 1) s2.heap∧∀ b∈fp,H' b=none) E s1) E s
 done:∀ (X:Cx),X.prog=P→X.w=w→X.K=K→X.A.handled=some (.ref hx)→∀ (i:Nat) (pins:List (Addr×Obj)) (s:Shared) (σ:St) (H:Hp) (E:Value→Shared→Prop),H hx=some (xq hx xc)→Inv X pins σ H s→(∀ b∈fp,FpOk X pins H b)→tn i s.heap→J.stop i H →
   wpAny (model P w) X.A (pyNext (.ref it)) (λ r s1=>r=none∧Inv X pins σ H s1) E s
 self:∀ (A:Around) (i:Nat) (s:Shared) (Q:Value→Shared→Prop) (E:Value→Shared→Prop),tn i s.heap→Q (.ref it) s→wpAny (model P w) A (pyIter (.ref it)) Q E s
theorem turn_listH {hx:Addr}{xc:Value}{P:Program}{w:World}{K:PySem.W.Frag}{tg:Expr}(a it:Addr):TurnH hx xc P w K tg (Itl K a) [it] it (λ i h=>h.IsListIter it a i) where
 mem:=(turn_list (P:=P) (w:=w) (K:=K) (tg:=tg) a it).mem
 obj:=(turn_list (P:=P) (w:=w) (K:=K) (tg:=tg) a it).obj
 keep:=(turn_list (P:=P) (w:=w) (K:=K) (tg:=tg) a it).keep
 item:=by
   intro X hP hw hK hA i pins s σ H E hX I hf st hg
   subst hP hw hK
   obtain ⟨xs,x,hq,hi⟩:=hg
   obtain ⟨its,rv,pl,hz⟩:=I.list hq
   obtain ⟨u,hu,ru⟩:=rv.get hi
   obtain ⟨g0,g1,g2,g3,g4,g5⟩:=hf it (by simp)
   refine wpAny_pyNext_list_item st pl.isList (x:=u) (by simpa using hu) λ hN stN sbN=>?_
   have IN:Inv X pins σ H { s with heap:=hN }:=I.turned (t':=s.toks) (λ b o nb e=>(sbN.2 b nb).trans e) g0 g1 g3 g4 g5
   obtain ⟨o,eo,co,od⟩:=id stN
   exact ⟨u,rfl,go_of (s:={ s with heap:=hN }) eo co od (by decide) ⟨x,H,IN,ru,⟨rfl,λ ys hy=>by rw [I.list_inj hy hq]; exact hi⟩,stN,λ b hb=>(hf b hb).1⟩⟩
 done:=by
   intro X hP hw hK hA i pins s σ H E hX I hf st hg
   subst hP hw hK
   obtain ⟨xs,hq,hi⟩:=hg
   obtain ⟨its,rv,pl,hz⟩:=I.list hq
   obtain ⟨g0,g1,g2,g3,g4,g5⟩:=hf it (by simp)
   obtain ⟨o,vs,eo,_,od,oc⟩:=I.xq_at hX
   have hl:=rv.length
   exact list_end_at hA eo od oc (λ e=>by rw [e,hX] at g0; cases g0) st pl.isList (by simp; lia) λ hN eN=>⟨rfl,I.turned (t':=s.toks) (λ b o nb e=>eN b o nb e) g0 g1 g3 g4 g5⟩
 self:=(turn_list (P:=P) (w:=w) (K:=K) (tg:=tg) a it).self
theorem turn_rangeH {hx:Addr}{xc:Value}{P:Program}{w:World}{K:PySem.W.Frag}{tg:Expr}(it:Addr) (lo:Int) (n:Nat):TurnH hx xc P w K tg (Itr lo n) [it] it (λ i h=>IsRangeIter h it (lo + (i:Nat) * 1) ((n:Int) - (i:Nat)) 1) where
 mem:=(turn_range (P:=P) (w:=w) (K:=K) (tg:=tg) it lo n).mem
 obj:=(turn_range (P:=P) (w:=w) (K:=K) (tg:=tg) it lo n).obj
 keep:=(turn_range (P:=P) (w:=w) (K:=K) (tg:=tg) it lo n).keep
 item:=by
   intro X hP hw hK hA i pins s σ H E hX I hf st hg
   subst hP hw hK
   have hg':i < n:=hg
   obtain ⟨g0,g1,g2,g3,g4,g5⟩:=hf it (by simp)
   refine wpAny_pyNext_range_item st (by lia) λ hN stN sbN=>?_
   have IN:Inv X pins σ H { s with heap:=hN,toks:=s.toks + 1 }:=I.turned (t':=s.toks + 1) (λ b o nb e=>(sbN.2 b nb).trans e) g0 g1 g3 g4 g5
   have e1:lo + ((i + 1:Nat):Int) * 1=lo + (i:Int) * 1 + 1:=by lia
   have e2:(n:Int) - ((i + 1:Nat):Int)=(n:Int) - (i:Int) - 1:=by lia
   have st2:IsRangeIter hN it (lo + ((i + 1:Nat):Int) * 1) ((n:Int) - ((i + 1:Nat):Int)) 1:=by rw [e1,e2]; exact stN
   refine ⟨_,rfl,go_of (s:={ s with heap:=hN,toks:=s.toks + 1 }) (n := "range_iterator") st2 rfl rfl (by decide) ⟨.int (lo + i),H,IN,⟨s.toks,?_⟩,⟨rfl,rfl⟩,st2,λ b hb=>(hf b hb).1⟩⟩
   rw [Int.mul_one]
 done:=by
   intro X hP hw hK hA i pins s σ H E hX I hf st hg
   subst hP hw hK
   have hg':n≤i:=hg
   obtain ⟨g0,g1,g2,g3,g4,g5⟩:=hf it (by simp)
   obtain ⟨o,vs,eo,_,od,oc⟩:=I.xq_at hX
   exact range_end_at hA eo od oc st (by lia) λ hN eN=>⟨rfl,I.turned (t':=s.toks) (λ b o nb e=>eN b o nb e) g0 g1 g3 g4 g5⟩
 self:=(turn_range (P:=P) (w:=w) (K:=K) (tg:=tg) it lo n).self
def PIEH (hx:Addr) (xc:Value) (X:Cx) (pins:List (Addr×Obj)) (σ:St) (tg:Expr) (R:It→Hp→Prop) (itv:Value) (s2:Shared):Prop :=
 ∃ (it:Addr) (fp:List Addr) (tn:Nat→Heap→Prop) (J:It) (H':Hp),itv=.ref it∧Inv X pins σ H' s2∧TurnH hx xc X.prog X.w X.K tg J fp it tn∧tn 0 s2.heap∧(∀ b∈fp,FpOk X pins H' b)∧R J H'
def PIH (hx:Addr) (xc:Value) (X:Cx) (tg iter:Expr) (wi:TI):Prop :=
 ∀ (pins:List (Addr×Obj)) (s:Shared) (σ:St) (H:Hp) (R:It→Hp→Prop),Inv X pins σ H s→wi σ H R →
   wpAny (model X.prog X.w) X.A (eval iter X.env) (λ v s1=>wpAny (model X.prog X.w) X.A (pyIter v) (PIEH hx xc X pins σ tg R) X.xe s1) X.xe s
theorem pi_listH {hx:Addr}{xc:Value}{X:Cx}{tg l:Expr}{tl:TE}(hl:PE X l tl):PIH hx xc X tg l (iList X.K tl):=by
 intro pins s σ H R I h
 refine thn (hl pins s σ H _ I h) λ v s1 ⟨x,H1,I1,r1,a,e,⟨xs,hq⟩,q⟩=>?_
 subst e
 cases r1
 obtain ⟨its,rv,pl,hz⟩:=I1.list hq
 refine wpAny_pyIter_list pl.isList ⟨s1.heap.objs.size,[s1.heap.objs.size],_,_,H1,rfl,I1.kept (t':=s1.toks) λ b o e=>Heap.get?_push_of_some _ e,turn_listH a _,⟨_,Heap.get?_push_size _ rfl,rfl,rfl⟩,λ b hb=>?_,q⟩
 obtain rfl:b=s1.heap.objs.size:=by simpa using hb
 exact I1.fpOk (Nat.le_refl _) (I1.hok.fresh (Nat.le_refl _))
def tCompH (hx:Addr) (xc:Value) (caps:List (Str×Nat)) (wi:TI) (tt:TT) (te:TE):TE:=λ σ H Q=>wi σ H λ J H1 =>
 ∃ W:Nat→Nat→List V→Hp→Prop,(∃ m,W 0 m [] H1)∧(∀ i m ys H,W i m ys H→H hx=some (xq hx xc))∧CompW caps tt te σ J (λ ys H2 => ∀ p,H2 p=none→Q (.ref p) (upd H2 p (.lst ys))) W
section
variable {X:Cx}{scope:Scope}{cl:List (Str×Addr)}{t:Str}{caps:List (Str×Nat)}{elt iter:Expr}{ifs:List Expr}{px pos:Pos}{wi:TI}{tt:TT}{te:TE}
theorem comp_blockH {hx:Addr}{xc:Value}{pins:List (Addr×Obj)}{σ:St}{H:Hp}{s:Shared}{J:It}{fp:List Addr}{it:Addr}{tn:Nat→Heap→Prop}{W:Nat→Nat→List V→Hp→Prop}{QE:List V→Hp→Prop}{E:Value→Shared→Prop}{RR:Value→Addr→Result→Shared→Prop}{m0:Nat}
   (K:CapOk X scope cl t caps) (hA:X.A.handled=some (.ref hx))
   (ht:∀ C s₀ H₀ ex,PTs (cxC X (capN t caps) scope cl C s₀ H₀ ex) ifs tt) (he:∀ C s₀ H₀ ex,PE (cxC X (capN t caps) scope cl C s₀ H₀ ex) elt te)
   (I:Inv X pins σ H s) (T:TurnH hx xc X.prog X.w X.K (.Name t px) J fp it tn) (st:tn 0 s.heap) (hf:∀ b∈fp,FpOk X pins H b) (w0:W 0 m0 [] H) (hW:CompW caps tt te σ J QE W) (hWx:∀ i m ys H,W i m ys H→H hx=some (xq hx xc))
   (fin:∀ D C ys H' s' m,H' D=none→Inv X pins σ (upd H' D (.lst ys)) s'→s'.heap.Ns C m→FpOk X pins (upd H' D (.lst ys)) C→QE ys H'→RR (.ref D) C (.ok .next) s') :
   wpAny (model X.prog X.w) X.A (newList []) (λ acc s₃=>wpAny (model X.prog X.w) X.A (newFunctionEnv scope X.env.globals cl [] X.env.qual none .none (some X.env)) (λ cenv s₄ =>
     codeAny (model X.prog X.w) X.A (.compStart (.ListComp elt [⟨.Name t px,iter,ifs,0⟩] scope pos) 0 (.ref it) acc { cenv with scope:=relabel scope X.env }) (RR acc cenv.locals) s₄) E s₃) E s:=by
 refine wpAny_newObj_type (wpAny_newFunctionEnv K.nocell (by intro y hy; simp at hy) (λ h₁ hns₁ hsb₁=>?_) K.kind)
 dsimp only at hns₁ hsb₁ ⊢
 generalize hH2:s.heap.push { cls:=.type "list",dict:=none,data:=.seq ([]:List Value).toArray }=H2 at hns₁ hsb₁ ⊢
 have hC:H2.objs.size=s.heap.objs.size + 1:=by rw [← hH2,Heap.size_push]
 have hDC:s.heap.objs.size≠H2.objs.size:=by rw [hC]; exact Nat.ne_of_lt (Nat.lt_succ_self _)
 have hCle:s.heap.objs.size≤H2.objs.size:=by rw [hC]; exact Nat.le_succ _
 have below:∀ b,b < s.heap.objs.size→b≠H2.objs.size:=λ b hb=>by rw [hC]; exact Nat.ne_of_lt (Nat.lt_succ_of_lt hb)
 have old:∀ b o,s.heap.get? b=some o→h₁.get? b=some o:=λ b o e=>hsb₁.extBut b o (below b (Heap.lt_size e)) (Heap.get?_push_of_some _ (hH2 ▸ Heap.get?_push_of_some _ e))
 have hacc:h₁.get? s.heap.objs.size=some { cls:=.type "list",data:=.seq ([]:List Value).toArray }:=hsb₁.extBut _ _ hDC (Heap.get?_push_of_some _ (hH2 ▸ Heap.get?_push_size _ rfl))
 have ho:∀ b∈fp,b < s.heap.objs.size:=λ b hb=>let ⟨_,e,_⟩:=T.obj 0 _ st b hb; Heap.lt_size e
 have hDf:s.heap.objs.size∉fp:=λ hm=>Nat.lt_irrefl _ (ho _ hm)
 have st₁:tn 0 h₁:=T.keep 0 _ _ st λ b _ o e=>old b o e
 have hDfs:s.heap.objs.size∉frs X.stack:=λ z=>by
   rcases List.mem_cons.mp (I.stkSub _ z) with e | e
   · exact absurd (e ▸ I.lt) (Nat.lt_irrefl _)
   · exact I.nofs (Nat.le_refl _) e
 have hDcell:∀ x c,cl.lookup x=some c→c≠s.heap.objs.size:=λ x c e z=>by
   obtain ⟨v,q⟩:=I.cell x c (K.look e)
   exact absurd (z ▸ q.lt) (Nat.lt_irrefl _)
 have stat:∀ {pl:List (Addr×Obj)}{HC:Hp},(∀ b∈fp,HC b=none)→(∀ p∈pl,p.1∉fp)→∀ b∈fp,FpOk (cxC X (capN t caps) scope cl H2.objs.size s H fp) pl HC b:=λ {pl HC} hn hp b hb =>
   ⟨hn b hb,below b (ho b hb),(okC I K hf ho hCle).exfs b hb,.inl hb,λ x c e=>(hf b hb).2.2.2.2.1 x c (K.look e),λ p hpp z=>by
     have hpp':p∈pl:=hpp
     exact hp p hpp' (z ▸ hb)⟩
 have loop:∀ s₃:Shared,s₃={ s with heap:=h₁,toks:=s.toks + ([]:List (Str×Value)).length } →
     codeAny (model X.prog X.w) X.A (.compLoop (.ListComp elt [⟨.Name t px,iter,ifs,0⟩] scope pos) 0 (.ref it) (.ref s.heap.objs.size) (compEnvC scope cl H2.objs.size X.env)) (RR (.ref s.heap.objs.size) H2.objs.size) s₃:=by
   rintro s₃ rfl
   refine codeAny_loop rfl (λ n s' => ∃ i ys its nn HC v0,Inv (cxC X (capN t caps) scope cl H2.objs.size s H fp) [] (capS caps σ v0) HC s'∧tn i s'.heap∧(∀ b∈fp,HC b=none)∧HC s.heap.objs.size=none ∧
     s'.heap.get? s.heap.objs.size=some { cls:=.type "list",data:=.seq its.toArray nn }∧Vals ys its∧ys.length≤sizeLine∧W i n ys HC) (λ n s' hI=>?_) m0
     ⟨0,[],[],0,H,none,invC I K hf ho hCle old hns₁,st₁,λ b hb=>(hf b hb).1,I.hok.fresh (Nat.le_refl _),hacc,.nil,Nat.zero_le _,w0⟩
   obtain ⟨i,ys,its,nn,HC,v0,I3,st3,fr3,hD3,e3,r3,z3,w3⟩:=hI
   show wpAny _ X.A ((compTurn (.ListComp elt [⟨.Name t px,iter,ifs,0⟩] scope pos) 0 (.ref it) (.ref s.heap.objs.size) (compEnvC scope cl H2.objs.size X.env)).onRaise (λ x=>do noteFrame x (compEnvC scope cl H2.objs.size X.env); theTreesLotGoes x)) _ _ s'
   refine wpAny_noted ?_
   rw [compTurn_list]
   have I3p:Inv (cxC X (capN t caps) scope cl H2.objs.size s H fp) [(s.heap.objs.size, { cls:=.type "list",data:=.seq its.toArray nn })] (capS caps σ v0) HC s':=I3.pins_of λ p hp=>by
     have ep:p=(s.heap.objs.size, { cls:=.type "list",data:=.seq its.toArray nn }):=by simpa using hp
     subst ep
     exact ⟨e3,hD3,hDC,hDfs,λ v z=>by cases (show Data.seq its.toArray nn=Data.cell v from z)⟩
   have pD:∀ p∈[((s.heap.objs.size:Addr),({ cls:=.type "list",data:=.seq its.toArray nn }:Obj))],p.1∉fp:=λ p hp=>by
     have ep:p=(s.heap.objs.size, { cls:=.type "list",data:=.seq its.toArray nn }):=by simpa using hp
     subst ep
     exact hDf
   rcases hW i n ys HC w3 with ⟨stop,q⟩ | ⟨go,N,hN,step⟩
   · refine wpAny_bind (wpAny_standAt (wpAny_bind (thn (T.done (cxC X (capN t caps) scope cl H2.objs.size s H fp) rfl rfl rfl hA i _ s' _ HC _ (hWx _ _ _ _ w3) I3p (stat fr3 pD) st3 stop) λ r s4 ⟨hr,I4⟩=>?_)))
     subst hr
     refine wpAny_pure ?_
     have I5:Inv X pins σ HC s4:=I.call' (ch:=fp) I4.os I4.base I4.hok I4.bare λ b hb=>⟨(hf b hb).2.2.2.1,(hf b hb).2.1,(hf b hb).2.2.2.2.1,(hf b hb).2.2.2.2.2⟩
     have e4:=(I4.pin _ (List.mem_append_right _ List.mem_cons_self)).1
     have fD:FpOk X pins HC s.heap.objs.size:=I.fpOk (Nat.le_refl _) hD3
     have I6:=I5.track fD e4 r3 z3
     obtain ⟨m,hn,_⟩:=I4.loc
     refine fin _ _ ys HC s4 m hD3 I6 hn (I.fpOk hCle ?_) q
     rw [upd_ne (Ne.symm hDC)]
     exact I4.free
   · refine wpAny_bind (wpAny_standAt (wpAny_bind (thn (T.item (cxC X (capN t caps) scope cl H2.objs.size s H fp) rfl rfl rfl hA i _ s' _ HC _ (hWx _ _ _ _ w3) I3p (stat fr3 pD) st3 go) λ r s4 ⟨u,hr,h4⟩=>?_)))
     subst hr
     refine wpAny_bind (thn h4 λ _ s5 ⟨x,H5,I5,r5,y5,st5,fr5⟩=>?_)
     have hD5:=(I5.pin _ (List.mem_append_right _ List.mem_cons_self)).2.1
     have I5':=I5.pinned (stat fr5 pD) (T.obj _ _ st5)
     have nox:∀ {α:Type}{tr:Sem α}{Q:α→Shared→Prop}{E':Value→Shared→Prop}{sx:Shared},wpAny (model X.prog X.w) X.A tr Q (λ _ _=>False) sx→wpAny (model X.prog X.w) X.A tr Q E' sx:=λ h=>wpAny_mono h (λ _ _ z=>z) λ _ _ z=>z.elim
     refine wpAny_bind (wpAny_assign_Name (store_ok (X:=cxC X (capN t caps) scope cl H2.objs.size s H fp) (i:=0) (x:=t) I5' K.nd rfl (.inl (lookup_relabel_local K.tgt)) r5 (λ s6 I6=>?_) (.inr (lookup_relabel_local K.tgt))))
     have e0:(capS caps σ v0).set 0 (some x)=capS caps σ (some x):=rfl
     rw [e0] at I6
     refine wpAny_bind (nox (thn (ht _ _ _ _ _ s6 _ H5 _ I6 (step x H5 y5)) λ ok s7 ⟨H7,I7,q7⟩=>?_))
     have pinD:∀ {σ':St}{H':Hp}{sx:Shared},Inv (cxC X (capN t caps) scope cl H2.objs.size s H fp) ([(s.heap.objs.size, { cls:=.type "list",data:=.seq its.toArray nn })] ++ pinsAt fp s5.heap) σ' H' sx →
         sx.heap.get? s.heap.objs.size=some { cls:=.type "list",data:=.seq its.toArray nn }∧H' s.heap.objs.size=none∧tn (i + 1) sx.heap∧(∀ b∈fp,H' b=none):=λ {σ' H' sx} Ix=>by
       have a:=Ix.pin _ (List.mem_append_right _ (List.mem_append_left _ List.mem_cons_self))
       refine ⟨a.1,a.2.1,T.keep _ _ _ st5 λ b hb o e=>(Ix.pin (b,o) (List.mem_append_right _ (List.mem_append_right _ (mem_pinsAt hb e)))).1,λ b hb=>?_⟩
       obtain ⟨o,e,d⟩:=T.obj _ _ st5 b hb
       exact (Ix.pin (b,o) (List.mem_append_right _ (List.mem_append_right _ (mem_pinsAt hb e)))).2.1
     have bare:∀ {pl:List (Addr×Obj)}{σ':St}{H':Hp}{sx:Shared},Inv (cxC X (capN t caps) scope cl H2.objs.size s H fp) pl σ' H' sx→Inv (cxC X (capN t caps) scope cl H2.objs.size s H fp) [] σ' H' sx:=λ Ix=>Ix.pins_of λ p hp=>absurd hp (by simp)
     cases ok with
     | false =>
       rw [if_neg Bool.false_ne_true] at q7
       obtain ⟨m',hm,w7⟩:=hN _ _ q7
       obtain ⟨a1,a2,a3,a4⟩:=pinD I7
       exact wpAny_pure ⟨rfl,m',hm,i + 1,ys,its,nn,H7,some x,bare I7,a3,a4,a2,a1,r3,z3,w7⟩
     | true =>
       rw [if_pos rfl] at q7
       refine wpAny_bind (wpAny_bind (nox (thn (he _ _ _ _ _ s7 _ H7 _ I7 q7) λ y s8 ⟨yv,H8,I8,r8,hz8,n8⟩=>?_)))
       obtain ⟨m',hm,w8⟩:=hN _ _ n8
       obtain ⟨a1,a2,a3,a4⟩:=pinD I8
       have hlen:=r3.length
       refine wpAny_bind (call_meets F.slot_list_append ⟨_,a1,rfl⟩ F.entry_list_append (F.args_list_append_2 _ _) (PySem.list_append s.heap.objs.size its.toArray nn y (by rw [List.size_toArray]; lia)) ⟨a1,?_⟩)
       obtain ⟨nn',q⟩:∃ nn':Nat,(s8.heap.update s.heap.objs.size (Obj.mapSeq (·.push y))).get? s.heap.objs.size=some { cls:=.type "list",data:=.seq (its ++ [y]).toArray nn' }:=by
         have q:=PySem.IsL.update a1 (·.push y)
         have ea:its.toArray.push y=(its ++ [y]).toArray:=by simp
         rw [ea] at q
         exact ⟨_,q⟩
       have I9:Inv (cxC X (capN t caps) scope cl H2.objs.size s H fp) [] (capS caps σ (some x)) H8 { s8 with heap:=s8.heap.update s.heap.objs.size (Obj.mapSeq (·.push y)) } :=
         (bare I8).turned (t':=s8.toks) (λ b o hb e=>(Heap.get?_update_other _ _ (Ne.symm hb)).trans e) a2 hDC (.inr (Nat.le_refl _)) hDcell (λ p hp=>absurd (show p∈([]:List (Addr×Obj)) from hp) (by simp))
       refine wpAny_pure (wpAny_pure ⟨rfl,m',hm,i + 1,ys ++ [yv],its ++ [y],nn',H8,some x,I9,T.keep _ _ _ a3 λ b hb o e=>(Heap.get?_update_other _ _ (show s.heap.objs.size≠b from λ z=>hDf (by rw [z]; exact hb))).trans e,a4,a2,q,r3.append (.cons r8 .nil),?_,w8⟩)
       · rw [List.length_append,List.length_singleton]; lia
 exact codeAny_compStart_list (loop _ rfl) (T.self _ 0 _ _ _ st₁ (loop _ rfl))
theorem pe_compH {hx:Addr}{xc:Value}(K:CapOk X scope cl t caps) (hA:X.A.handled=some (.ref hx)) (hi:PIH hx xc X (.Name t px) iter wi)
   (ht:∀ C s₀ H₀ ex,PTs (cxC X (capN t caps) scope cl C s₀ H₀ ex) ifs tt) (he:∀ C s₀ H₀ ex,PE (cxC X (capN t caps) scope cl C s₀ H₀ ex) elt te)
   (hs:∀ x,foldedSetIterable iter X.env x=pure x:=by intro _; rfl):PE X (.ListComp elt [⟨.Name t px,iter,ifs,0⟩] scope pos) (tCompH hx xc caps wi tt te):=by
 intro pins s σ H Q I h
 rw [eval_ListComp]
 refine wpAny_comprehension_free (use:=none) rfl hs K.clos K.kind K.names (thn (hi pins s σ H _ I h) λ v s1 h1=>thn h1 λ itv s2 h2=>?_)
 obtain ⟨it,fp,tn,J,H2,e,I2,T,st2,f2,W,⟨m0,w0⟩,hWx,hW⟩:=h2
 subst e
 refine comp_blockH (RR:=λ acc C=>compPost (model X.prog X.w) X.A X.xe none (EP X pins σ Q) acc C) K hA ht he I2 T st2 f2 w0 hW hWx ?_
 intro D C ys H' s' m hD I' hn hC q
 refine ⟨m,hn,λ h' hs'=>?_⟩
 obtain ⟨c0,c1,c2,c3,c4,c5⟩:=hC
 exact ⟨.ref D,_,I'.turned (t':=s'.toks) (λ b o hb e=>(hs'.2 b hb).trans e) c0 c1 c3 c4 c5,rfl,q D hD⟩
end
end L2
namespace L2
open PySem PySem.Spec PyProof.Rows
theorem call_isq {X:Cx}:CallR X (.builtin "isinstance") (λ xs H Q => ∃ (e C:Addr) (c:V) (cv:Value) (b:Bool),xs=[.ref e,c]∧((∃ D,c=.ref D∧cv=.ref D)∨∃ n,c=.ty n∧cv=.type n)∧PySem.W.XCls X.K C∧H e=some (xq e (.ref C))∧PySem.W.kitOne X.K (.ref C) cv=some b∧Q (.bl b) H):=by
 intro pins s σ H xs us Q I r h
 obtain ⟨e,C,c,cv,b,rfl,hc,xc,he,hk,q⟩:=h
 obtain ⟨u,u2,rfl,ru,rc⟩:=vals2 r
 obtain rfl:u=Value.ref e:=ru
 have ec:u2=cv:=by
   rcases hc with ⟨D,rfl,rfl⟩ | ⟨n,rfl,rfl⟩
   · exact rc
   · exact rc
 subst ec
 obtain ⟨o,vs,e1,e2,_⟩:=I.xq_at he
 exact PySem.W.kia_one (PySem.W.kitx_exc xc) I.kIn ⟨o,e1,e2⟩ hk (λ z=>nomatch z) λ tk=>⟨.bl b,H,I.tok _,rfl,q⟩
theorem walks_listH {prog:Program}{w:World}{A:Around}{hx:Addr}{oh:Obj}{vh:Array Value}(hh:A.handled=some (.ref hx)) (hdh:oh.data=.fields vh) (hc:vh[2]? = some .none) (it l:Addr) (nl:l≠it) (nx:it≠hx) (items:Array Value) :
   Walks prog w A it [it,l,hx] [it] items.size (λ i v=>items[i]? = some v) (λ i h=>h.IsListIter it l i∧h.IsList l items∧h.get? hx=some oh) where
 sub:=λ b hb=>by simp at hb; simp [hb]
 frame:=λ _ _ _ st hk=>⟨st.1.at λ o e=>hk it (by simp) o e,st.2.1.at λ o e=>hk l (by simp) o e,hk hx (by simp) _ st.2.2⟩
 item:=λ i s Q E hi st hQ=>by
   refine wpAny_pyNext_list_item st.1 st.2.1 (x:=items[i]) (by simp [hi]) λ hN itN sN=>?_
   exact hQ _ hN s.toks (by simp [hi]) ⟨itN,st.2.1.extBut sN.extBut nl,(sN.2 hx (Ne.symm nx)).trans st.2.2⟩ λ b o hb e=>sN.extBut b o (λ z=>hb (by simp [z])) e
 done:=λ s Q E st hQ=>list_end_at hh st.2.2 hdh hc nx st.1 st.2.1 (by simp) λ hN eN=>hQ hN s.toks λ b o hb e=>eN b o (λ z=>hb (by simp [z])) e
 self:=λ _ _ _ _ st hQ=>wpAny_pyIter_listiter st.1 hQ
theorem call_sumH {X:Cx}{hx:Addr}{xc:Value}(hA:X.A.handled=some (.ref hx)):CallR X (.builtin "sum") (λ xs H Q => ∃ (p:Addr) (ns:List Int),xs=[.ref p]∧SqL X.K H p (ns.map V.int)∧H hx=some (xq hx xc)∧Q (.int ns.sum) H):=by
 intro pins s σ H xs us Q I r h
 obtain ⟨p,ns,rfl,hp,hX,q⟩:=h
 obtain ⟨u,rfl,ru⟩:=vals1 r
 cases ru
 obtain ⟨its,rv,pl,hz⟩:=I.list hp
 have hI:=intsAre_of rv
 have hn:=hI.numsOf
 obtain ⟨ys,e⟩:=hI.allInts.items
 have hl:=pl.isList
 rw [e] at hl
 obtain ⟨o,vs,eo,_,od,oc⟩:=I.xq_at hX
 refine call_sum_walkG (iter_intList hl λ s2 e2 st hfp hlI=>?_)
 subst e2
 have lx:=Heap.lt_size eo
 refine ⟨_,_,_,_,_,_,numAt ys,rfl,walks_listH (A:=X.A.in1) hA od oc _ p hlI (Nat.ne_of_gt lx) (intItems ys),⟨st.1,st.2,Heap.get?_push_of_some _ eo⟩,λ b hb=>?_,(λ _ _=>intItems_at),λ h' tk t' hk=>?_⟩
 · rcases List.mem_cons.mp hb with z | hb
   · exact hfp b (by simp [z])
   · rcases List.mem_cons.mp hb with z | hb
     · exact hfp b (by simp [z])
     · rw [List.mem_singleton.mp hb]
       show hx < (s.heap.push _).objs.size
       rw [Heap.size_push]
       exact Nat.lt_succ_of_lt lx
 · have hs:preSum (numAt ys) ys.size=ns.sum:=by
     rw [preSum_eq,List.take_of_length_le (by simp), ← nums_intItems, ← e]
     rw [show its.toArray.toList=its from rfl,hn]
   have hz2:(intItems ys).size=ys.size:=by simp [intItems]
   refine ⟨.int ns.sum,H,I.kept λ b o eb=>hk b o (λ hm=>?_) (Heap.get?_push_of_some _ eb),⟨_,by rw [hz2,hs]⟩,q⟩
   exact absurd (List.mem_singleton.mp hm ▸ Heap.lt_size eb) (Nat.lt_irrefl _)
theorem pi_range1H {hx:Addr}{xc:Value}{X:Cx}{tg a:Expr}{ta:TA}{p pos:Pos}(hg:Gl X "range") (hm:X.mg "range" = none) (ha:PA X [a] ta) (hs:starEach [a] X.env=[(false,eval a X.env)]:=by rfl):PIH hx xc X tg (.Call (.Name "range" p) [a] [] pos) (iRng1 ta):=by
 intro pins s σ H R I h
 refine Call_ (ld_blt I hg hm boot_range (PyProof.Rows.callWith_type1 (thn (ha pos pins s σ H _ I h) λ us s1 ⟨vs,H1,I1,r1,j,e,q1,q2,q⟩=>?_) hs rfl))
 subst e
 cases r1 with
 | cons r rr =>
   cases rr
   obtain ⟨t,rfl⟩:=r
   refine call_range_1 (wpAny_pyIter_range (IsRange.new ..) (small_one (by lia) (by lia) q1 q2) ?_)
   have I2:Inv X pins σ H1 _:=I1.kept (t':=s1.toks + 1 + 1) λ b o e=>Heap.get?_push_of_some { cls:=Value.type "range",data:=Data.fields #[Value.int 0 s1.toks,Value.int j t,Value.int 1 (s1.toks + 1)] } e
   refine ⟨_,[_],_,_,H1,rfl,I2.kept (t':=s1.toks + 1 + 1) λ b o e=>Heap.get?_push_of_some _ e,turn_rangeH _ 0 j.toNat,?_,λ b hb=>?_,q⟩
   · have e1:(0:Int) + ((0:Nat):Int) * 1=0:=by simp
     have e2:((j.toNat:Nat):Int) - ((0:Nat):Int)=Builtin.Range.rangeSize 0 j 1:=by rw [rangeSize_one]; split <;> lia
     rw [e1,e2]
     exact Heap.get?_push_size _ rfl
   · have eb:=List.mem_singleton.mp hb
     subst eb
     exact I2.fpOk (Nat.le_refl _) (I2.hok.fresh (Nat.le_refl _))
end L2
namespace L2
open PySem PySem.Spec PyProof.Rows
structure RoomH (hx:Addr) (k:Nat) (A:Around):Prop where
 hd:A.handled=some (.ref hx)
 dp:A.depth + 3 * k + 5 < recursionLimit
 un:A.units + 16 * k + 200 < cLine
theorem RoomH.deeper {hx:Addr}{k:Nat}{A:Around}(r:RoomH hx (k + 1) A) (env:Env):RoomH hx k (A.deeper env) :=
 ⟨r.hd,by have:=r.dp; show A.depth + 1 + 3 * k + 5 < _; lia,by have:=r.un; show A.units + 3 + 16 * k + 200 < _; lia⟩
theorem Room.hand {k:Nat}{A:Around}(r:Room k A) (hx:Addr):RoomH hx k (A.mark (some (.ref hx))):=⟨rfl,r.dp,r.un⟩
structure FnOkH (hx:Addr) (P:Program) (w:World) (K:PySem.W.Frag) (mg:Str→Option Value) (base:Heap) (k:Nat) (f:Addr) (fd:FuncData) (ps:List Str) (sp:Sp):Prop where
 len:∀ vs H Q E,sp vs H Q E→vs.length=ps.length
 run:∀ (A:Around) (outer:List Env) (s:Shared) (H:Hp) (args:Args) (us:List Value) (vs:List V) (Q:VK),RoomH hx k A→Env0 P w K mg base A outer s H→BindsTo s fd args (ps.zip us)→Vals vs us→sp vs H Q E0 →
   codeAny (model P w) A (.call (.ref f) args) (CR CX0 outer P w H s Q E0) s
def cxH (hx:Addr) (P:Program) (w:World) (K:PySem.W.Frag) (mg:Str→Option Value) (base:Heap) (N:List Str) (qual:Str) (scope:Scope) (f:Addr) (cd:Value) (A:Around) (outer:List Env) (s:Shared) (H:Hp):Cx :=
 (cxOf CX0 P w K mg base N qual scope f cd { A with handled:=none } outer s H E0).hand hx
theorem cxH_A {hx:Addr}{P:Program}{w:World}{K:PySem.W.Frag}{mg:Str→Option Value}{base:Heap}{N:List Str}{qual:Str}{scope:Scope}{f:Addr}{cd:Value}{A:Around}{outer:List Env}{s:Shared}{H:Hp}(h:A.handled=some (.ref hx)) :
   (cxH hx P w K mg base N qual scope f cd A outer s H).A=A.deeper (envOfC qual scope s.heap.objs.size f cd):=by
 obtain ⟨a,b,c,d,e⟩:=A
 obtain rfl:a=some (.ref hx):=h
 rfl
section
variable {hx:Addr}{P:Program}{w:World}{K:PySem.W.Frag}{mg:Str→Option Value}{base:Heap}
theorem Fun.okH {x qual:Str}{st:Stmt}{f:Addr}{fd:FuncData}{N ps:List Str}{k:Nat}{sp:Sp}(F:Fun K x qual st f fd) (S:FnScope N ps (defScope st)) (len:∀ vs H Q E,sp vs H Q E→vs.length=ps.length)
   (hbody:∀ (cdv:Value) (A:Around) (outer:List Env) (s:Shared) (H:Hp) (vs:List V) (Q:VK),RoomH hx k (cxH hx P w K mg base N qual (defScope st) f cdv A outer s H).A→sp vs H Q E0 →
     ∃ t,PSs (cxH hx P w K mg base N qual (defScope st) f cdv A outer s H).nox (defBody st) t∧t { nx:=λ _ H'=>Q .non H',rt:=Q } (start N vs) H):FnOkH hx P w K mg base (k + 1) f fd ps sp:=by
 obtain ⟨oc,od,kV,doc,pm,an,cdv,ct,osl,rfl,lk,hcd⟩:=F.ex
 refine ⟨len,λ A outer s H args us vs Q hr e0 hb r hsp=>?_⟩
 have hl:=len _ _ _ _ hsp
 have KX:K.In s.heap:=e0.mod.kin.keeps λ b o e=>(e0.bs b o e).1
 have lim:s.heap.NoLimit:=e0.mod.nolimit.keeps λ b o e=>(e0.bs b o e).1
 have kinds:∀ y∈ps.zip us,(defScope st).names.lookup y.1=some .local∨((defScope st).names.lookup y.1=some .cell∧((cellsFrom (s.heap.objs.size + 1) (defScope st).names []).lookup y.1).isSome=true):=λ y hy=>by
   rcases S.par y.1 (List.of_mem_zip (show (y.1,y.2)∈ps.zip us from hy)).1 with z | z
   · exact .inl z
   · exact .inr ⟨z,PySem.W.cellsFrom_some _ _ _ (.inl z)⟩
 refine codeAny_call_function (by have:=hr.dp; lia) (KX _ _ lk) rfl S.co S.gen rfl (PySem.W.codeRec_of KX hcd) (hb _ _ _ _ ?_)
 refine wpAny_newFunctionEnv_cells S.kind kinds λ env he s1 x=>?_
 subst he
 refine ⟨lim.keeps x.toInCall.keep,codeAny_func ?_⟩
 have eA:=cxH_A (P:=P) (w:=w) (K:=K) (mg:=mg) (base:=base) (N:=N) (qual:=qual) (scope:=defScope st) (f:=f) (cd:=cdv) (outer:=outer) (s:=s) (H:=H) hr.hd
 obtain ⟨t,ht,hq⟩:=hbody cdv A outer s H vs Q (by rw [eA]; exact hr.deeper _) hsp
 have e1:Env0 P w K mg base { A with handled:=none } outer s H:=⟨e0.frames,e0.mod,e0.bs,e0.bsz,e0.funs,e0.frf,e0.hok,e0.bare⟩
 have I:Inv (cxH hx P w K mg base N qual (defScope st) f cdv A outer s H) [] (start N vs) H s1:=(inv_start (CX:=CX0) (E:=E0) (A:={ A with handled:=none }) S rfl e1 hl r x).hand hx
 have run:=ht [] s1 (start N vs) H _ (I.wish _) hq
 have run':wpAny (model P w) (cxH hx P w K mg base N qual (defScope st) f cdv A outer s H).A (execs (defBody st) (envOfC qual (defScope st) s.heap.objs.size f cdv)) _ _ s1:=run
 rw [eA] at run'
 refine wpAny_mono run' (λ fl s' hs=>?_) λ e s' hs=>hs.elim
 have fin:∀ {σ':St}{H':Hp}{v:V}{u:Value},Inv (cxH hx P w K mg base N qual (defScope st) f cdv A outer s H).nox [] σ' H' s'→RelV v u→Q v H'→CE outer P w H s Q u s' :=
   λ J rv q=>⟨_,_,J.os,J.bare,J.base,J.hok,rv,q⟩
 cases fl with
 | ret u=>obtain ⟨v,σ',H',J,rv,q⟩:=hs; exact fin J rv q
 | next=>obtain ⟨σ',H',J,q⟩:=hs; exact fin (v:=V.non) (u:=Value.none) J rfl q
 | brk=>obtain ⟨_,_,_,q⟩:=hs; exact False.elim q
 | cont=>obtain ⟨_,_,_,q⟩:=hs; exact False.elim q
end
section
variable {hx:Addr}{X:Cx}{k:Nat}{f:Addr}{fd:FuncData}{ps:List Str}{sp:Sp}{x:Str}{p pos:Pos}{e:Expr}{es:List Expr}{t:TA}
theorem pe_callH (F:FnOkH hx X.prog X.w X.K X.mg X.base k f fd ps sp) (hr:RoomH hx k X.A) (hg:Gl X x) (hm:X.mg x=some (.ref f)) (hk:PySem.W.keepIn X.K (.ref f)=true) (hb:Binds X.K fd ps [])
   (ha:PA X (e :: es) t) (hdb:(x == ("__debug__" : Str))=false:=by decide) (he:starEach (e :: es) X.env=(false,eval e X.env) :: starEach es X.env:=by rfl) (hpl:(backTo pos (starEach es X.env)).any (·.1)=false:=by rfl) :
   PE X (.Call (.Name x p) (e :: es) [] pos) (tCall sp [] E0 t):=by
 intro pins s σ H Q I h
 refine wpAny_Call_Name_kw (ld_glob I hg hm ?_ hdb)
 refine PySem.W.callWith_K (h₀:=X.base) I.ok.mod.kin hk (thn (ha pos pins s σ H _ I h) λ us s1 ⟨vs,H1,I1,r,q⟩=>⟨I1.kIn,?_⟩) he hpl
 have q':sp vs H1 Q E0:=by
   have z:sp (vs ++ []) H1 Q E0:=q
   rw [List.append_nil] at z
   exact z
 have hl:us.length=ps.length:=by rw [← r.length]; exact F.len _ _ _ _ q'
 have bz:=hb s1 us I1.kIn (by rw [List.append_nil]; exact hl)
 rw [List.append_nil] at bz
 refine wpAny_call (codeAny_mono (F.run X.A X.stack s1 H1 ⟨us,[]⟩ us vs Q hr I1.env0 bz r q') λ res s2 hq=>?_)
 cases res with
 | error e=>exact False.elim hq
 | ok fl =>
   cases fl with
   | ret u=>exact I1.after hq
   | next=>exact False.elim hq
   | brk=>exact False.elim hq
   | cont=>exact False.elim hq
end
end L2
namespace L2
open PySem PySem.Spec PyProof.Rows
section
variable {X:Cx}{pins:List (Addr×Obj)}{σ:St}{H:Hp}{s:Shared}
theorem Inv.trackQ {e:Addr}{cls:Value}(I:Inv X pins σ H s) (n:NewTo X pins H e) (x:∃ o vs,s.heap.get? e=some o∧o.cls=cls∧o.data=.fields vs∧vs[2]? = some .none):Inv X pins σ (upd H e (xq e cls)) s:=by
 have ne:∀ b o,H b=some o→b≠e:=λ b o q=>ne_of_none q n.free
 refine ⟨I.ok,I.os,I.bare,⟨I.base.keep,I.base.slot,λ b o q nn hx=>?_,I.base.there,λ b xs q=>?_,λ b o u q=>?_,λ b ps q=>?_⟩,I.loc,I.cell,?_,λ y c q=>?_,λ p hp=>?_,λ b u q=>?_,I.len⟩
 · rw [upd_ne (λ z=>by rw [z,n.old] at q; cases q)]; exact I.base.free b o q nn hx
 · have z:=I.base.tups b xs q
   rw [upd_ne (ne _ _ z)]; exact z
 · have z:=I.base.frzs b o u q
   rw [upd_ne (ne _ _ z)]; exact z
 · obtain ⟨more,z⟩:=I.base.tbls b ps q
   exact ⟨more,by rw [upd_ne (ne _ _ z)]; exact z⟩
 · rw [upd_ne (Ne.symm n.loc)]; exact I.free
 · rw [upd_ne (n.cell y c q)]; exact I.freeC y c q
 · obtain ⟨a1,a2,a3⟩:=I.pin p hp
   exact ⟨a1,by rw [upd_ne (n.pin p hp)]; exact a2,a3⟩
 · by_cases hb:b=e
   · subst hb
     rw [upd_same] at q
     cases q
     exact xq_ok x
   · rw [upd_ne hb] at q
     exact (I.hok b u q).stay (λ _ _ _ z=>z) (λ c z=>by rw [upd_ne (ne _ _ z)]; exact z) λ c xs z=>by rw [upd_ne (ne _ _ z)]; exact z
end
def tTryQ (K:PySem.W.Frag) (C:Addr) (i:Nat) (tb:TSX) (ts:Addr→TS):TS:=λ D σ H=>tb D (λ σ' cls H'=>PySem.W.exmOne K cls (.ref C)=some true∧∀ e,H' e=none→ts e (goneE i D) (σ'.set i (some (.ref e))) (upd H' e (xq e cls))) σ H
section
variable {X:Cx}{C:Addr}{i:Nat}{x n:Str}{np hpos pos:Pos}{body suite:List Stmt}{b₀:Stmt}{tb:TSX}{ts:Addr→TS}
theorem ps_tryQ (hex:X.ex=[]) (hst:X.stack=X.env :: X.outer) (hf:X.env.frame=some X.env.locals) (hg:Gl X x) (hm:X.mg x=some (.ref C)) (hN:X.N.Nodup) (hi:X.N[i]? = some n) (hl:X.env.scope.names.lookup n=some .local)
   (hb:PSsX X body tb) (hs:∀ e,PSs (X.hand e).nox (b₀ :: suite) (ts e)) (hd:(x == ("__debug__" : Str))=false:=by decide) :
   PS X (.Try body [.ExceptHandler (some (.Name x np)) (some n) (b₀ :: suite) hpos] [] [] pos) (tTryQ X.K C i tb ts):=by
 intro pins s σ H D I h
 refine wpAny_Try_except (wpAny_mono (hb pins s σ H D _ I h) (λ f s1 q=>?_) λ v s1 hx=>?_)
 · cases f with
   | next=>exact wpAny_execs_nil q
   | ret v=>exact q
   | brk=>exact q
   | cont=>exact q
 obtain ⟨e,cls,a0,B,σ1,H1,rfl,fl,c2,be,new,hmt,hk⟩:=hx
 have stay:B.StaysIn s1.heap:=by
   rcases fl with z | z | ⟨_,_,z⟩
   · exact z.1
   · exact z.1
   · exact z.1
 have I1:=be.now stay
 have hfr:=I1.ok.frames
 rw [hst] at fl hfr
 have okX:=I1.ok
 refine made_looks hfr hf fl c2 λ h4 held up4 c4=>?_
 refine lands_c held c4 λ h5 fl5 up5 c5=>?_
 have up5':=up4.trans up5
 have I5:=(be h5 s1.toks fl5.1 up5').hand e
 obtain ⟨ob,hob,hobc⟩:=fl5.there
 refine wpAny_handleBy_cons (codeAny_handlers_test (ld_glob (X:=X.hand e) I5 hg hm ?_ hd)) (by intro q; cases q)
 have LT:PySem.W.Looks (model X.prog X.w) h5 (typeOf (.ref e)) cls:=hobc ▸ (PySem.W.Looks.ld hob).andThen .now
 refine (PySem.W.exm_one I5.kIn LT hmt).here (s:={ s1 with heap:=h5 }) ?_
 refine codeAny_handlers_suite_as ?_
 refine lands_c2 fl5 c5 λ h6 fl6 up6 c6=>?_
 have I6:=be h6 s1.toks fl6.1 (up5'.trans up6)
 have I6':=(I6.trackQ (cls:=cls) new (by
   obtain ⟨o1,g1,g2⟩:=fl6.there
   obtain ⟨o2,vs,g3,g4,g5⟩:=c6
   obtain rfl:o1=o2:=Option.some.inj (g1.symm.trans g3)
   exact ⟨o1,vs,g1,g2,g4,g5⟩)).hand e
 refine store_ok (X:=X.hand e) (v:=.ref e) I6' hN hi (.inl hl) rfl (λ s7 I7=>?_) (.inr hl)
 refine nx (hs e pins s7 _ _ _ (I7.wish _) (hk e new.free)) λ f s8 hq=>?_
 have fin:∀ {σ8:St}{H8:Hp}{Q:Shared→Prop},Inv (X.hand e).nox pins σ8 H8 s8→(∀ s9,Inv X pins (σ8.set i none) H8 s9→Q s9) →
     wpAny (model X.prog X.w) X.A (do bindName X.env n .none; unbindBehindTheSuite X.env n hpos) (λ _ s9=>Q s9) X.xe s8:=λ {σ8 H8 Q} I8 k=>by
   have I8':Inv X pins σ8 H8 s8:=(I8.unwish).unhand okX
   obtain ⟨m,hn,hl'⟩:=I8'.loc
   exact wpAny_nameGoes_keeps hl hn (by rw [I8'.ok.kind]; rfl) λ h' v hn' hs'=>k _ (I8'.unset hN hi hl hn hl' hn' hs')
 cases f with
 | next =>
   obtain ⟨σ8,H8,I8,q⟩:=hq
   exact fin I8 λ s9 I9=>⟨_,_,I9,q⟩
 | brk =>
   obtain ⟨σ8,H8,I8,q⟩:=hq
   exact fin I8 λ s9 I9=>⟨_,_,I9,q⟩
 | cont =>
   obtain ⟨σ8,H8,I8,q⟩:=hq
   exact fin I8 λ s9 I9=>⟨_,_,I9,q⟩
 | ret u =>
   obtain ⟨v,σ8,H8,I8,rv,q⟩:=hq
   exact fin I8 λ s9 I9=>⟨v,_,_,I9,rv,q⟩
end
theorem comp_rangeH {hx:Addr}{xc:Value}{caps:List (Str×Nat)}{tt:TT}{te:TE}{σ:St}{H:Hp}{lo:Int}{n:Nat}{QE:List V→Hp→Prop}(Pv:Nat→List V→Hp→Prop) (h0:Pv 0 [] H) (hX:∀ i ys H,Pv i ys H→H hx=some (xq hx xc))
   (hs:∀ i ys H,i < n→Pv i ys H→tt (capS caps σ (some (.int (lo + i)))) H λ b H2=>if b=true then te (capS caps σ (some (.int (lo + i)))) H2 (λ y H3=>ys.length < sizeLine∧Pv (i + 1) (ys ++ [y]) H3) else Pv (i + 1) ys H2)
   (hd:∀ ys H,Pv n ys H→QE ys H):∃ W:Nat→Nat→List V→Hp→Prop,(∃ m,W 0 m [] H)∧(∀ i m ys H,W i m ys H→H hx=some (xq hx xc))∧CompW caps tt te σ (Itr lo n) QE W:=by
 refine ⟨λ i m ys H=>m=n - i∧i≤n∧Pv i ys H,⟨n,by simp,Nat.zero_le _,h0⟩,λ i m ys H q=>hX i ys H q.2.2,?_⟩
 rintro i m ys H ⟨rfl,hi,p⟩
 by_cases hlt:i < n
 · refine .inr ⟨hlt,Pv (i + 1),λ ys' H' p'=>⟨n - (i + 1),by lia,rfl,hlt,p'⟩,λ x H' y=>?_⟩
   obtain ⟨e,y⟩:=y
   subst e y
   exact hs i ys _ hlt p
 · have e:i=n:=by lia
   subst e
   exact .inl ⟨Nat.le_refl _,hd ys H p⟩
theorem comp_listH {hx:Addr}{xc:Value}{K:PySem.W.Frag}{a:Addr}{xs:List V}{caps:List (Str×Nat)}{tt:TT}{te:TE}{σ:St}{H:Hp}{QE:List V→Hp→Prop}(Pv:Nat→List V→Hp→Prop) (h0:Pv 0 [] H) (hX:∀ i ys H,Pv i ys H→H hx=some (xq hx xc)) (hl:∀ i ys H,i≤xs.length→Pv i ys H→SqL K H a xs)
   (hs:∀ i x ys H,xs[i]? = some x→Pv i ys H→tt (capS caps σ (some x)) H λ b H2=>if b=true then te (capS caps σ (some x)) H2 (λ y H3=>ys.length < sizeLine∧Pv (i + 1) (ys ++ [y]) H3) else Pv (i + 1) ys H2)
   (hd:∀ ys H,Pv xs.length ys H→QE ys H):∃ W:Nat→Nat→List V→Hp→Prop,(∃ m,W 0 m [] H)∧(∀ i m ys H,W i m ys H→H hx=some (xq hx xc))∧CompW caps tt te σ (Itl K a) QE W:=by
 refine ⟨λ i m ys H=>m=xs.length - i∧i≤xs.length∧Pv i ys H,⟨xs.length,by simp,Nat.zero_le _,h0⟩,λ i m ys H q=>hX i ys H q.2.2,?_⟩
 rintro i m ys H ⟨rfl,hi,p⟩
 have q:=hl i ys H hi p
 by_cases hlt:i < xs.length
 · refine .inr ⟨⟨xs,xs[i],q,by simp [hlt]⟩,Pv (i + 1),λ ys' H' p'=>⟨xs.length - (i + 1),by lia,rfl,hlt,p'⟩,λ x H' y=>?_⟩
   obtain ⟨e,y⟩:=y
   subst e
   exact hs i x ys _ (y xs q) p
 · have e:i=xs.length:=by lia
   subst e
   exact .inl ⟨⟨xs,q,Nat.le_refl _⟩,hd ys H p⟩
end L2
namespace Rm
open PySem L2
def top (i:Nat):Stmt:=PySem.Challenge.pw_ownroom_k20_plain_rooms_deeds.main.body.getD i (.Pass ⟨0,0,0,0⟩)
abbrev sRoomOf:Stmt:=top 9
abbrev sSecond:Stmt:=top 10
abbrev sAbove:Stmt:=top 11
abbrev sPagesFrom:Stmt:=top 12
abbrev sUnmapped:Stmt:=top 13
abbrev sToMap:Stmt:=top 14
abbrev sToDrop:Stmt:=top 15
abbrev sOfCells:Stmt:=top 16
abbrev sWithin:Stmt:=top 17
abbrev sWith:Stmt:=top 18
theorem same_new {H:Hp}{l:Addr}{X:HO}(h:H l=none):Same H (upd H l X):=λ b o e=>by rw [upd_ne (ne_of_none e h)]; exact e
theorem same_wr {H H':Hp}{l:Addr}{X:HO}(s:Same H H') (h:H l=none):Same H (upd H' l X):=λ b o e=>by rw [upd_ne (ne_of_none e h)]; exact s b o e
structure XTxt (K:PySem.W.Frag) (mg:Str→Option Value) (x:Str) (C:Addr):Prop where
 mgN:mg x=some (.ref C)
 exN:PySem.W.excIn K C veMro "ValueError.__new__" = true
structure Def (K:PySem.W.Frag) (mg:Str→Option Value) (x:Str) (f:Addr) (fd:FuncData) (ps:List Str):Prop where
 mg:mg x=some (.ref f)
 kp:PySem.W.keepIn K (.ref f)=true
 b:Binds K fd ps []
structure STxt (mg:Str→Option Value):Prop where
 pages:∃ u,mg "ROOM_PAGES" = some u∧RelV (.int 64) u
 cells:∃ u,mg "PAGE_CELLS" = some u∧RelV (.int 8) u
 list:mg "list" = none
 range:mg "range" = none
 len:mg "len" = none
def noPages (p m:Int):Prop:=m < 1∨p < 0∨64 < p + m
def pagesL (p m:Int):List Int:=(List.range m.toNat).map λ k:Nat=>p + k
def spPagesFrom (CP:Addr):Sp:=λ vs H Q E => ∃ p m:Int,vs=[.int p,.int m]∧p.natAbs.log2 < 1920∧m.natAbs.log2 < 1920∧(noPages p m→E (.ref CP) none H) ∧
 (¬ noPages p m→∀ (H':Hp) (l:Addr),Same H H'→H l=none→H' l=some (.lst ((pagesL p m).map V.int))→Q (.ref l) H')
theorem inV_ints (q:Int):∀ ms:List Int,inV (.int q) (ms.map V.int)=decide (q∈ms)
 | []=>rfl
 | m :: ms=>by
   have ih:=inV_ints q ms
   unfold inV at ih ⊢
   rw [List.map_cons,List.any_cons,ih]
   by_cases e:q=m
   · rw [e]; simp [eqV]
   · have e':m≠q:=Ne.symm e
     simp [eqV,e,e']
def spUnmapped (CP:Addr):Sp:=λ vs H Q E => ∃ (a b:Addr) (ms ps:List Int),vs=[.ref a,.ref b]∧H a=some (.lst (ms.map V.int))∧H b=some (.lst (ps.map V.int))∧(∀ q∈ps,q.natAbs.log2 < 1920) ∧
 ((¬ ∀ q∈ps,q∈ms)→E (.ref CP) none H)∧((∀ q∈ps,q∈ms)→Q .non H)
section
variable {P:Program}{w:World}{K:PySem.W.Frag}{mg:Str→Option Value}{base:Heap}
theorem scPf:FnScope ["page","many"] ["page","many"] (defScope sPagesFrom):=⟨rfl,rfl,rfl,by decide +kernel,rfl,by decide +kernel,by decide +kernel⟩
theorem ok_pagesFrom {f CP:Addr}{fd:FuncData}(F:Fun K "pages_from" "pages_from" sPagesFrom f fd) (T:STxt mg) (XP:XTxt K mg "NoPage" CP):FnOk P w K mg base (CXO P w) 1 f fd ["page","many"] (spPagesFrom CP):=by
 obtain ⟨u64,m64,r64⟩:=T.pages
 refine F.okx scPf (λ vs H Q E h=>?_) (λ cdv A outer s H vs Q E hr h=>?_)
 · obtain ⟨p,m,rfl,_⟩:=h
   rfl
 · obtain ⟨p,m,rfl,hp,hm,kE,kQ⟩:=h
   have hs:sizeLine=16777216:=sizeLine_eq
   refine ⟨_,(pssx_cons (psx_if (PW.pt (pw_or (pt_cmpR op_lt (pv 1) pe_int (nomark _)) (pw_or (pt_cmpR op_lt (pv 0) pe_int (nomark _)) (pw_or1 (pt_cmpR op_gt (pe_op op_add (pv 0) (pv 1)) (pe_glob (by rfl) m64 r64) (nomark _)))))) (pssx_one (psx_raise rfl XP.mgN XP.exN rfl rfl (pa_cons (pe_join (pj_cons (pe_fv (pv 1)) (pj_cons pe_str (pj_cons (pe_fv (pv 0)) (pj_cons pe_str pj_nil))))) pa_nil))) pssx_nil)
     (pssx_of (pss_one (ps_ret (pe_callTy (call_list_rng2 rfl) (by rfl) T.list bt_list (pa_cons (pe_callTy call_rng2 (by rfl) T.range bt_range (pa_cons (pv 0) (pa_cons (pe_op op_add (pv 0) (pv 1)) pa_nil))) pa_nil)))))),?_⟩
   have l1:=len_int hm
   have l2:=len_int hp
   have c0:(Str.empty:Str).length=0:=rfl
   have c1:(Str.ofString " from ").length=6:=by decide +kernel
   have c2:(Str.ofString " on are no pages of a room").length=26:=by decide +kernel
   have g1:(Str.empty ++ toString m:Str).length≤sizeLine:=by rw [len_app,c0]; lia
   have g2:(Str.empty ++ toString m ++ Str.ofString " from " : Str).length≤sizeLine:=by rw [len_app,len_app,c0,c1]; lia
   have g3:(Str.empty ++ toString m ++ Str.ofString " from " ++ toString p:Str).length≤sizeLine:=by rw [len_app,len_app,len_app,c0,c1]; lia
   have g4:(Str.empty ++ toString m ++ Str.ofString " from " ++ toString p ++ Str.ofString " on are no pages of a room" : Str).length≤sizeLine:=by rw [len_app,len_app,len_app,len_app,c0,c1,c2]; lia
   refine hidXC λ _ ji je=>?_
   have jj:noPages p m→_:=λ hb=>ji H ⟨_,rfl,m,rfl,hm,_,rfl,g1,_,rfl,g2,_,rfl,p,rfl,hp,_,rfl,g3,_,rfl,g4,g4,(by show 1≤sizeLine; decide),kE hb⟩
   refine ⟨_,rfl,_,_,rfl,rfl,_,rfl,?_⟩
   refine ite2 (λ c=>jj (.inl (of_decide_eq_true c))) (λ c=>?_)
   refine ⟨_,rfl,_,_,rfl,rfl,_,rfl,?_⟩
   refine ite2 (λ c'=>jj (.inr (.inl (of_decide_eq_true c')))) (λ c'=>?_)
   refine ⟨_,rfl,_,rfl,_,_,rfl,rfl,_,_,rfl,rfl,_,rfl,?_⟩
   refine iteB (λ c''=>jj (.inr (.inr (of_decide_eq_true c'')))) (λ c''=>je _ ?_)
   have d1:¬ m < 1:=λ z=>c (decide_eq_true z)
   have d2:¬ p < 0:=λ z=>c' (decide_eq_true z)
   have d3:¬ 64 < p + m:=λ z=>c'' (decide_eq_true z)
   refine ⟨_,rfl,_,rfl,_,rfl,_,_,rfl,rfl,p,p + m,rfl,λ pr hpr=>?_⟩
   have s1:=same_new (X:=.rng p (p + m)) hpr
   refine ⟨pr,p,m.toNat,rfl,by rw [upd_same,Int.toNat_of_nonneg (by lia)],by lia,by lia,by lia,λ l hl=>?_⟩
   refine kQ (λ z=>z.elim d1 λ z=>z.elim d2 d3) _ l (s1.trans (same_new hl)) (s1.free hl) ?_
   rw [upd_same]
   unfold pagesL
   rw [List.map_map]
   rfl
theorem scUn:FnScope ["mapped","pages","page"] ["mapped","pages"] (defScope sUnmapped):=⟨rfl,rfl,rfl,by decide +kernel,rfl,by decide +kernel,by decide +kernel⟩
theorem ok_unmapped {f CP:Addr}{fd:FuncData}(F:Fun K "refuse_unmapped" "refuse_unmapped" sUnmapped f fd) (XP:XTxt K mg "NoPage" CP):FnOk P w K mg base (CXO P w) 1 f fd ["mapped","pages"] (spUnmapped CP):=by
 refine F.okx scUn (λ vs H Q E h=>?_) (λ cdv A outer s H vs Q E hr h=>?_)
 · obtain ⟨a,b,ms,ps,rfl,_⟩:=h
   rfl
 · obtain ⟨a,b,ms,ps,rfl,ha,hb,hg,kE,kQ⟩:=h
   have hs:sizeLine=16777216:=sizeLine_eq
   refine ⟨_,(pssx_one (psx_for rfl rfl rfl (pi_list (pv 1)) (pg_name (i:=2) scUn.nd rfl (Or.inl rfl)) (pssx_one (psx_if (pt_cmpR op_notIn_seq (pv 2) (pv 0) (by with_unfolding_all rfl)) (pssx_one (psx_raise rfl XP.mgN XP.exN rfl rfl (pa_cons (pe_join (pj_cons pe_str (pj_cons (pe_fv (pv 2)) (pj_cons pe_str pj_nil)))) pa_nil))) pssx_nil)))),?_⟩
   refine ⟨_,rfl,b,rfl,⟨_,SqL.of hb⟩,?_⟩
   refine for_listX (K:=K) (a:=b) (xs:=ps.map V.int) (λ i σ H2 => ∃ v2:Option V,σ=[some (.ref a),some (.ref b),v2]∧H2=H∧∀ q∈ps.take i,q∈ms) ⟨_,rfl,rfl,(λ _ h=>nomatch h)⟩ (λ i σ H2 _ z0=>by obtain ⟨_,_,e,_⟩:=z0; rw [e]; exact SqL.of hb) ?_ ?_
   · rintro i x σ H2 hx ⟨v2,rfl,rfl,hq⟩
     rw [List.getElem?_map] at hx
     obtain ⟨q,hq1,rfl⟩:=Option.map_eq_some_iff.mp hx
     have hm:=List.mem_of_getElem? hq1
     have hl:=hg q hm
     have l1:=len_int hl
     have c0:(Str.empty:Str).length=0:=rfl
     have c1:(Str.ofString "page ").length=5:=by decide +kernel
     have c2:(Str.ofString " is not mapped").length=14:=by decide +kernel
     have g1:(Str.empty ++ Str.ofString "page " : Str).length≤sizeLine:=by rw [len_app,c0,c1]; lia
     have g2:(Str.empty ++ Str.ofString "page " ++ toString q:Str).length≤sizeLine:=by rw [len_app,len_app,c0,c1]; lia
     have g3:(Str.empty ++ Str.ofString "page " ++ toString q ++ Str.ofString " is not mapped" : Str).length≤sizeLine:=by rw [len_app,len_app,len_app,c0,c1,c2]; lia
     refine ⟨_,rfl,_,rfl,a,_,rfl,.inl (SqL.of ha),rfl,flat_ints _,_,rfl,?_⟩
     rw [inV_ints]
     by_cases h:q∈ms
     · rw [decide_eq_true h]
       refine iteF ⟨_,rfl,rfl,λ r hr=>?_⟩
       rw [List.take_add_one,hq1] at hr
       rcases List.mem_append.mp hr with hr | hr
       · exact hq r hr
       · have:r=q:=by simpa using hr
         rw [this]; exact h
     · rw [decide_eq_false h]
       exact iteT ⟨_,rfl,g1,_,rfl,q,rfl,hl,_,rfl,g2,_,rfl,g3,g3,(by show 1≤sizeLine; decide),kE λ z=>h (z q hm)⟩
   · rintro σ H2 ⟨v2,rfl,rfl,hq⟩
     rw [List.length_map,List.take_length] at hq
     exact kQ hq
end
end Rm
namespace Rm
open PySem L2
theorem pages_log {p m:Int}(h:¬ noPages p m):∀ q∈pagesL p m,0≤q∧q < 64∧q.natAbs.log2 < 1920:=λ q hq=>by
 unfold pagesL at hq
 obtain ⟨k,hk,rfl⟩:=List.mem_map.mp hq
 rw [List.mem_range] at hk
 have h1:¬ m < 1:=λ z=>h (.inl z)
 have h2:¬ p < 0:=λ z=>h (.inr (.inl z))
 have h3:¬ 64 < p + m:=λ z=>h (.inr (.inr z))
 refine ⟨by lia,by lia,?_⟩
 by_cases z:(p + (k:Int)).natAbs=0
 · rw [z]; decide
 · rw [Nat.log2_lt z]
   have h5:(p + (k:Int)).natAbs < 64:=by lia
   have h4:(64:Nat) < 2 ^ 1920:=by decide +kernel
   lia
def spToMap (CP CT:Addr):Sp:=λ vs H Q E => ∃ (a:Addr) (ms:List Int) (p m:Int),vs=[.ref a,.int p,.int m]∧H a=some (.lst (ms.map V.int))∧p.natAbs.log2 < 1920∧m.natAbs.log2 < 1920 ∧
 (noPages p m→∀ H',Same H H'→E (.ref CP) none H')∧(¬ noPages p m→(∃ q∈pagesL p m,q∈ms)→∀ H',Same H H'→E (.ref CT) none H') ∧
 (¬ noPages p m→(∀ q∈pagesL p m,¬ q∈ms)→∀ (H':Hp) (l:Addr),Same H H'→H l=none→H' l=some (.lst ((pagesL p m).map V.int))→Q (.ref l) H')
def spToDrop (CP:Addr):Sp:=λ vs H Q E => ∃ (a:Addr) (ms:List Int) (p m:Int),vs=[.ref a,.int p,.int m]∧H a=some (.lst (ms.map V.int))∧p.natAbs.log2 < 1920∧m.natAbs.log2 < 1920 ∧
 (noPages p m∨(¬ ∀ q∈pagesL p m,q∈ms)→∀ H',Same H H'→E (.ref CP) none H') ∧
 (¬ noPages p m→(∀ q∈pagesL p m,q∈ms)→∀ (H':Hp) (l:Addr),Same H H'→H l=none→H' l=some (.lst ((pagesL p m).map V.int))→Q (.ref l) H')
def cFst (ad:Int):Int:=ad / 8
def cCnt (ad n:Int):Int:=(ad + n - 1) / 8 - ad / 8 + 1
def badCells (ad n:Int) (ms:List Int):Prop:=n < 0∨(0 < n∧(noPages (cFst ad) (cCnt ad n)∨¬ ∀ q∈pagesL (cFst ad) (cCnt ad n),q∈ms))
def cellPages (ad n:Int):List Int:=if n=0 then [] else pagesL (cFst ad) (cCnt ad n)
def spOfCells (CP:Addr):Sp:=λ vs H Q E => ∃ (a:Addr) (ms:List Int) (ad n:Int),vs=[.ref a,.int ad,.int n]∧H a=some (.lst (ms.map V.int))∧n.natAbs.log2 < 1920∧(cFst ad).natAbs.log2 < 1920∧(cCnt ad n).natAbs.log2 < 1920 ∧
 (badCells ad n ms→∀ H',Same H H'→E (.ref CP) none H') ∧
 (¬ badCells ad n ms→∀ (H':Hp) (l:Addr),Same H H'→H l=none→H' l=some (.lst ((cellPages ad n).map V.int))→Q (.ref l) H')
section
variable {P:Program}{w:World}{K:PySem.W.Frag}{mg:Str→Option Value}{base:Heap}
theorem scTm:FnScope ["mapped","page","many","pages","wanted"] ["mapped","page","many"] (defScope sToMap):=⟨rfl,rfl,rfl,by decide +kernel,rfl,by decide +kernel,by decide +kernel⟩
theorem ok_toMap {f CP CT fP:Addr}{fd dP:FuncData}(F:Fun K "pages_to_map" "pages_to_map" sToMap f fd) (XK:XTxt K mg "Taken" CT)
   (GP:FnOk P w K mg base (CXO P w) 1 fP dP ["page","many"] (spPagesFrom CP)) (DP:Def K mg "pages_from" fP dP ["page","many"]):FnOk P w K mg base (CXO P w) 2 f fd ["mapped","page","many"] (spToMap CP CT):=by
 refine F.okx scTm (λ vs H Q E h=>?_) (λ cdv A outer s H vs Q E hr h=>?_)
 · obtain ⟨a,ms,p,m,rfl,_⟩:=h
   rfl
 · obtain ⟨a,ms,p,m,rfl,ha,hp,hm,kP,kT,kQ⟩:=h
   have hs:sizeLine=16777216:=sizeLine_eq
   refine ⟨_,(pssx_cons (psx_set (i:=3) scTm.nd rfl (Or.inl rfl) (pex_call GP (hr.mono (by decide)) rfl (by rfl) DP.mg DP.kp DP.b .nil (pa_cons (pv 1) (pa_cons (pv 2) pa_nil))))
     (pssx_cons (psx_for rfl rfl rfl (pi_list (pv 3)) (pg_name (i:=4) scTm.nd rfl (Or.inl rfl)) (pssx_one (psx_if (pt_cmpR op_in_seq (pv 4) (pv 0) (by with_unfolding_all rfl)) (pssx_one (psx_raise rfl XK.mgN XK.exN rfl rfl (pa_cons (pe_join (pj_cons pe_str (pj_cons (pe_fv (pv 4)) (pj_cons pe_str pj_nil)))) pa_nil))) pssx_nil)))
     (pssx_of (pss_one (ps_ret (pv 3)))))),?_⟩
   refine hidXN λ _ jt=>?_
   refine ⟨_,rfl,_,rfl,p,m,rfl,hp,hm,λ h=>kP h H (Same.refl H),λ h H1 l s1 nl hl1=>?_⟩
   have hlog:=pages_log h
   refine jt _ _ (hidX λ _ jt=>?_)
   refine ⟨_,rfl,l,rfl,⟨_,SqL.of hl1⟩,?_⟩
   refine for_listX (K:=K) (a:=l) (xs:=(pagesL p m).map V.int) (λ i σ H2 => ∃ v4:Option V,σ=[some (.ref a),some (.int p),some (.int m),some (.ref l),v4]∧H2=H1∧∀ q∈(pagesL p m).take i,¬ q∈ms) ⟨_,rfl,rfl,(λ _ h=>nomatch h)⟩ (λ i σ H2 _ z0=>by obtain ⟨_,_,e,_⟩:=z0; rw [e]; exact SqL.of hl1) ?_ ?_
   · rintro i x σ H2 hx ⟨v4,rfl,rfl,hq⟩
     rw [List.getElem?_map] at hx
     obtain ⟨q,hq1,rfl⟩:=Option.map_eq_some_iff.mp hx
     have hmq:=List.mem_of_getElem? hq1
     have hl:=(hlog q hmq).2.2
     have l1:=len_int hl
     have c0:(Str.empty:Str).length=0:=rfl
     have c1:(Str.ofString "page ").length=5:=by decide +kernel
     have c2:(Str.ofString " is mapped").length=10:=by decide +kernel
     have g1:(Str.empty ++ Str.ofString "page " : Str).length≤sizeLine:=by rw [len_app,c0,c1]; lia
     have g2:(Str.empty ++ Str.ofString "page " ++ toString q:Str).length≤sizeLine:=by rw [len_app,len_app,c0,c1]; lia
     have g3:(Str.empty ++ Str.ofString "page " ++ toString q ++ Str.ofString " is mapped" : Str).length≤sizeLine:=by rw [len_app,len_app,len_app,c0,c1,c2]; lia
     refine ⟨_,rfl,_,rfl,a,_,rfl,.inl (SqL.of (s1 _ _ ha)),rfl,flat_ints _,_,rfl,?_⟩
     rw [inV_ints]
     by_cases h':q∈ms
     · rw [decide_eq_true h']
       exact iteT ⟨_,rfl,g1,_,rfl,q,rfl,hl,_,rfl,g2,_,rfl,g3,g3,(by show 1≤sizeLine; decide),kT h ⟨q,hmq,h'⟩ _ s1⟩
     · rw [decide_eq_false h']
       refine iteF ⟨_,rfl,rfl,λ r hr=>?_⟩
       rw [List.take_add_one,hq1] at hr
       rcases List.mem_append.mp hr with hr | hr
       · exact hq r hr
       · have:r=q:=by simpa using hr
         rw [this]; exact h'
   · rintro σ H2 ⟨v4,rfl,rfl,hq⟩
     rw [List.length_map,List.take_length] at hq
     exact jt _ _ _ _ ⟨_,rfl,kQ h hq _ l s1 nl hl1⟩
theorem scTd:FnScope ["mapped","page","many","pages"] ["mapped","page","many"] (defScope sToDrop):=⟨rfl,rfl,rfl,by decide +kernel,rfl,by decide +kernel,by decide +kernel⟩
theorem ok_toDrop {f CP fP fU:Addr}{fd dP dU:FuncData}(F:Fun K "pages_to_drop" "pages_to_drop" sToDrop f fd)
   (GP:FnOk P w K mg base (CXO P w) 1 fP dP ["page","many"] (spPagesFrom CP)) (DP:Def K mg "pages_from" fP dP ["page","many"])
   (GU:FnOk P w K mg base (CXO P w) 1 fU dU ["mapped","pages"] (spUnmapped CP)) (DU:Def K mg "refuse_unmapped" fU dU ["mapped","pages"]):FnOk P w K mg base (CXO P w) 2 f fd ["mapped","page","many"] (spToDrop CP):=by
 refine F.okx scTd (λ vs H Q E h=>?_) (λ cdv A outer s H vs Q E hr h=>?_)
 · obtain ⟨a,ms,p,m,rfl,_⟩:=h
   rfl
 · obtain ⟨a,ms,p,m,rfl,ha,hp,hm,kP,kQ⟩:=h
   refine ⟨_,(pssx_cons (psx_set (i:=3) scTd.nd rfl (Or.inl rfl) (pex_call GP (hr.mono (by decide)) rfl (by rfl) DP.mg DP.kp DP.b .nil (pa_cons (pv 1) (pa_cons (pv 2) pa_nil))))
     (pssx_cons (psx_expr (pex_call GU (hr.mono (by decide)) rfl (by rfl) DU.mg DU.kp DU.b .nil (pa_cons (pv 0) (pa_cons (pv 3) pa_nil))))
     (pssx_of (pss_one (ps_ret (pv 3)))))),?_⟩
   refine ⟨_,rfl,_,rfl,p,m,rfl,hp,hm,λ h=>kP (.inl h) H (Same.refl H),λ h H1 l s1 nl hl1=>?_⟩
   exact ⟨_,rfl,_,rfl,a,l,ms,pagesL p m,rfl,s1 _ _ ha,hl1,λ q hq=>(pages_log h q hq).2.2,λ z=>kP (.inr z) _ s1,λ z=>⟨_,rfl,kQ h z _ l s1 nl hl1⟩⟩
theorem scOc:FnScope ["mapped","address","many","first","last","pages"] ["mapped","address","many"] (defScope sOfCells):=⟨rfl,rfl,rfl,by decide +kernel,rfl,by decide +kernel,by decide +kernel⟩
theorem ok_ofCells {f CP fP fU:Addr}{fd dP dU:FuncData}(F:Fun K "pages_of_cells" "pages_of_cells" sOfCells f fd) (T:STxt mg) (XP:XTxt K mg "NoPage" CP)
   (GP:FnOk P w K mg base (CXO P w) 1 fP dP ["page","many"] (spPagesFrom CP)) (DP:Def K mg "pages_from" fP dP ["page","many"])
   (GU:FnOk P w K mg base (CXO P w) 1 fU dU ["mapped","pages"] (spUnmapped CP)) (DU:Def K mg "refuse_unmapped" fU dU ["mapped","pages"]):FnOk P w K mg base (CXO P w) 2 f fd ["mapped","address","many"] (spOfCells CP):=by
 obtain ⟨u8,m8,r8⟩:=T.cells
 refine F.okx scOc (λ vs H Q E h=>?_) (λ cdv A outer s H vs Q E hr h=>?_)
 · obtain ⟨a,ms,ad,n,rfl,_⟩:=h
   rfl
 · obtain ⟨a,ms,ad,n,rfl,ha,hn,hf,hc,kP,kQ⟩:=h
   have hs:sizeLine=16777216:=sizeLine_eq
   refine ⟨_,(pssx_cons (psx_of (ps_if (pt_cmpR op_eq (pv 2) pe_int (nomark _)) (pss_one (ps_ret (pe_lst pa_nil))) pss_nil))
     (pssx_cons (psx_if (pt_cmpR op_lt (pv 2) pe_int (nomark _)) (pssx_one (psx_raise rfl XP.mgN XP.exN rfl rfl (pa_cons (pe_join (pj_cons (pe_fv (pv 2)) (pj_cons pe_str pj_nil))) pa_nil))) pssx_nil)
     (pssx_cons (psx_of (ps_set (i:=3) scOc.nd rfl (Or.inl rfl) (pe_op op_fdiv (pv 1) (pe_glob (by rfl) m8 r8))))
     (pssx_cons (psx_of (ps_set (i:=4) scOc.nd rfl (Or.inl rfl) (pe_op op_fdiv (pe_op op_sub (pe_op op_add (pv 1) (pv 2)) pe_int) (pe_glob (by rfl) m8 r8))))
     (pssx_cons (psx_set (i:=5) scOc.nd rfl (Or.inl rfl) (pex_call GP (hr.mono (by decide)) rfl (by rfl) DP.mg DP.kp DP.b .nil (pa_cons (pv 3) (pa_cons (pe_op op_add (pe_op op_sub (pv 4) (pv 3)) pe_int) pa_nil))))
     (pssx_cons (psx_expr (pex_call GU (hr.mono (by decide)) rfl (by rfl) DU.mg DU.kp DU.b .nil (pa_cons (pv 0) (pa_cons (pv 5) pa_nil))))
     (pssx_of (pss_one (ps_ret (pv 5)))))))))),?_⟩
   have l1:=len_int hn
   have c0:(Str.empty:Str).length=0:=rfl
   have c1:(Str.ofString " is no count of cells").length=21:=by decide +kernel
   have g1:(Str.empty ++ toString n:Str).length≤sizeLine:=by rw [len_app,c0]; lia
   have g2:(Str.empty ++ toString n ++ Str.ofString " is no count of cells" : Str).length≤sizeLine:=by rw [len_app,len_app,c0,c1]; lia
   refine hidX λ _ jt=>?_
   refine ⟨_,rfl,rfl,_,rfl,?_⟩
   refine ite2 (λ c=>?_) (λ c=>?_)
   · have e:n=0:=V.int.inj (of_decide_eq_true c)
     refine ⟨by decide,λ l hl=>?_⟩
     refine kQ (λ z=>by rcases z with z | ⟨z,_⟩ <;> lia) _ l (same_new hl) hl ?_
     rw [upd_same]
     unfold cellPages
     rw [if_pos e]
     rfl
   have ne:¬ n=0:=λ z=>c (decide_eq_true (by rw [z]))
   refine jt _ _ _ _ (hidX λ _ jt=>?_)
   refine ⟨_,rfl,_,_,rfl,rfl,_,rfl,?_⟩
   refine ite2 (λ c'=>?_) (λ c'=>?_)
   · exact ⟨_,rfl,n,rfl,hn,_,rfl,g1,_,rfl,g2,g2,(by show 1≤sizeLine; decide),kP (.inl (of_decide_eq_true c')) H (Same.refl H)⟩
   have nn:¬ n < 0:=λ z=>c' (decide_eq_true z)
   have n0:0 < n:=by lia
   refine jt _ _ _ _ ?_
   refine ⟨_,rfl,_,_,rfl,rfl,⟨by decide,by decide⟩,_,rfl,_,rfl,_,_,rfl,rfl,_,_,rfl,rfl,_,_,rfl,rfl,⟨by decide,by decide⟩,?_⟩
   refine ⟨_,rfl,_,rfl,_,rfl,_,_,rfl,rfl,_,_,rfl,rfl,cFst ad,cCnt ad n,rfl,hf,hc,λ h=>kP (.inr ⟨n0,.inl h⟩) H (Same.refl H),λ h H1 l s1 nl hl1=>?_⟩
   refine ⟨_,rfl,_,rfl,a,l,ms,pagesL (cFst ad) (cCnt ad n),rfl,s1 _ _ ha,hl1,λ q hq=>(pages_log h q hq).2.2,λ z=>kP (.inr ⟨n0,.inr z⟩) _ s1,λ z=>⟨_,rfl,kQ (λ y=>?_) _ l s1 nl ?_⟩⟩
   · rcases y with y | ⟨_,y | y⟩
     · exact nn y
     · exact h y
     · exact y z
   · unfold cellPages
     rw [if_neg ne]
     exact hl1
end
end Rm
namespace Rm
open PySem L2
theorem cut_nat {ws:List Int}{s n:Nat}:cutV (ws.map V.int) (some (s:Int)) (some ((s:Int) + (n:Int)))=((ws.drop s).take n).map V.int:=by
 unfold cutV
 rw [List.length_map,HT.sIx_nat,show ((s:Int) + (n:Int))=((s + n:Nat):Int) by push_cast; rfl,HT.sIx_nat, ← List.map_drop, ← List.map_take]
 congr 1
 by_cases h:s≤ws.length
 · rw [Nat.min_eq_left h]
   by_cases h2:s + n≤ws.length
   · rw [Nat.min_eq_left h2,show s + n - s=n by lia]
   · rw [Nat.min_eq_right (by lia),List.take_of_length_le (by rw [List.length_drop]; lia),List.take_of_length_le (by rw [List.length_drop]; lia)]
 · rw [Nat.min_eq_right (by lia),Nat.min_eq_right (by lia),List.drop_eq_nil_of_le (Nat.le_refl _),List.drop_eq_nil_of_le (by lia)]
   simp
theorem cut_to {ws:List Int}{s:Nat}:cutV (ws.map V.int) none (some (s:Int))=(ws.take s).map V.int:=by
 unfold cutV
 rw [List.length_map,HT.sIx_nat,show HT.sIx ws.length 0 none=0 from rfl,List.drop_zero,Nat.sub_zero, ← List.map_take]
 congr 1
 by_cases h:s≤ws.length
 · rw [Nat.min_eq_left h]
 · rw [Nat.min_eq_right (by lia),List.take_of_length_le (Nat.le_refl _),List.take_of_length_le (by lia)]
theorem cut_fromN {ws:List Int}{s:Nat}:cutV (ws.map V.int) (some (s:Int)) none=(ws.drop s).map V.int:=by
 unfold cutV
 rw [List.length_map,HT.sIx_nat,show HT.sIx ws.length ws.length none=ws.length from rfl, ← List.map_drop, ← List.map_take]
 congr 1
 by_cases h:s≤ws.length
 · rw [Nat.min_eq_left h,List.take_of_length_le (by rw [List.length_drop]; lia)]
 · rw [Nat.min_eq_right (by lia),List.drop_eq_nil_of_le (Nat.le_refl _),List.drop_eq_nil_of_le (by lia)]
   simp
theorem seq_keep {K:PySem.W.Frag}{H H':Hp}{a:Addr}{xs:List V}(h:SqL K H a xs) (s:∀ o,H a=some o→H' a=some o):SqL K H' a xs:=by
 rcases h with (h | ⟨o,h⟩) | h
 · exact .inl (.inl (s _ h))
 · exact .inl (.inr ⟨o,s _ h⟩)
 · exact .inr h
theorem pr_imp {α β:Type}{F G:α→β→Prop}(h:∀ x y,F x y→G x y):∀ {xs:List α}{ys:List β},Paired F xs ys→Paired G xs ys
 | _,_,.nil=>.nil
 | _,_,.cons q t=>.cons (h _ _ q) (pr_imp h t)
theorem paired_app {α β:Type}{F:α→β→Prop}{xs xs':List α}{ys ys':List β}(p:Paired F xs ys) (h:Paired F xs' ys'):Paired F (xs ++ xs') (ys ++ ys'):=by
 induction p with
 | nil=>exact h
 | cons q _ ih=>exact .cons q ih
theorem paired_mem {α β:Type}{F:α→β→Prop}{x:α}{xs:List α}{ys:List β}(p:Paired F xs ys) (h:x∈xs):∃ y,F x y:=by
 induction p with
 | nil=>cases h
 | cons q _ ih =>
   rcases List.mem_cons.mp h with e | h
   · exact ⟨_,e ▸ q⟩
   · exact ih h
def spWithin:Sp:=λ vs H Q _ => ∃ (a:Addr) (ws:List Int) (ad:Int) (n:Nat),vs=[.ref a,.int ad,.int n]∧H a=some (.lst (ws.map V.int)) ∧
 ∀ (H':Hp) (l:Addr),Same H H'→H l=none→H' l=some (.lst (((ws.drop (ad % 8).toNat).take n).map V.int))→Q (.ref l) H'
def splice (ws:List Int) (s:Nat) (cs:List Int):List Int:=ws.take s ++ cs ++ ws.drop (s + cs.length)
def chunks (k:Nat) (ws:List Int):List (List Int):=(List.range k).map λ i=>(ws.drop (8 * i)).take 8
def spWith (K:PySem.W.Frag):Sp:=λ vs H Q _ => ∃ (a c:Addr) (ws cs:List Int) (ad:Int) (k:Nat),vs=[.ref a,.int ad,.ref c]∧H a=some (.lst (ws.map V.int))∧SqL K H c (cs.map V.int)∧ws.length≤600∧cs.length≤600∧k≤64∧(splice ws (ad % 8).toNat cs).length=8 * k ∧
 ∀ (H':Hp) (l:Addr) (rs:List Addr),Same H H'→H l=none→H' l=some (.lst (rs.map V.ref))→Paired (λ r (row:List Int)=>H' r=some (.lst (row.map V.int))) rs (chunks k (splice ws (ad % 8).toNat cs))→(∀ r∈rs,H r=none)→rs.Nodup→Q (.ref l) H'
theorem rng8:∀ k:Nat,k < 65→Builtin.Range.small 0 (8 * (k:Int)) 8=true∧Builtin.Range.rangeSize 0 (8 * (k:Int)) 8=(k:Int)∧Builtin.divisionGoesByPylong (8 * (k:Int) - 0) 8=false:=by decide +kernel
section
variable {P:Program}{w:World}{K:PySem.W.Frag}{mg:Str→Option Value}{base:Heap}
theorem scWi:FnScope ["whole","address","many","start"] ["whole","address","many"] (defScope sWithin):=⟨rfl,rfl,rfl,by decide +kernel,rfl,by decide +kernel,by decide +kernel⟩
theorem ok_within {f:Addr}{fd:FuncData}(F:Fun K "run_within" "run_within" sWithin f fd) (T:STxt mg):FnOk P w K mg base CX0 1 f fd ["whole","address","many"] spWithin:=by
 obtain ⟨u8,m8,r8⟩:=T.cells
 refine F.ok scWi (λ vs H Q E h=>?_) (λ cdv A outer s H vs Q E hr h=>?_)
 · obtain ⟨a,ws,ad,n,rfl,_⟩:=h
   rfl
 · obtain ⟨a,ws,ad,n,rfl,ha,k⟩:=h
   refine ⟨_,(pss_cons (ps_set (i:=3) scWi.nd rfl (Or.inl rfl) (pe_op op_mod (pv 1) (pe_glob (by rfl) m8 r8)))
     (pss_one (ps_ret (pe_slice sl_list (pv 0) (po_some (pv 3)) (po_some (pe_op op_add (pv 3) (pv 2))))))),?_⟩
   refine ⟨_,rfl,_,_,rfl,rfl,(by show (0:Int) < 8; decide),?_⟩
   have m0:=Int.emod_nonneg ad (show (8:Int)≠0 by decide)
   refine ⟨_,rfl,_,rfl,ad % 8,rfl,_,rfl,_,rfl,_,_,rfl,rfl,ad % 8 + n,rfl,a,_,rfl,SqL.of ha,λ l hl=>?_⟩
   have e:ad % 8=((ad % 8).toNat:Int):=(Int.toNat_of_nonneg m0).symm
   have ec:cutV (ws.map V.int) (some (ad % 8)) (some (ad % 8 + n))=((ws.drop (ad % 8).toNat).take n).map V.int:=by
     rw [e]; exact cut_nat
   exact k _ l (same_new hl) hl (by rw [upd_same,ec])
theorem scWw:FnScope ["whole","address","cells","start","changed"] ["whole","address","cells"] (defScope sWith):=⟨rfl,rfl,rfl,by decide +kernel,rfl,by decide +kernel,by decide +kernel⟩
set_option maxHeartbeats 4000000 in
theorem ok_with {f:Addr}{fd:FuncData}(F:Fun K "pages_with" "pages_with" sWith f fd) (T:STxt mg):FnOk P w K mg base CX0 1 f fd ["whole","address","cells"] (spWith K):=by
 obtain ⟨u8,m8,r8⟩:=T.cells
 refine F.ok scWw (λ vs H Q E h=>?_) (λ cdv A outer s H vs Q E hr h=>?_)
 · obtain ⟨a,c,ws,cs,ad,j,rfl,_⟩:=h
   rfl
 · obtain ⟨a,c,ws,cs,ad,j,rfl,ha,hc,hw,hcl,hj,lsp,k⟩:=h
   have hs:sizeLine=16777216:=sizeLine_eq
   refine ⟨_,(pss_cons (ps_set (i:=3) scWw.nd rfl (Or.inl rfl) (pe_op op_mod (pv 1) (pe_glob (by rfl) m8 r8)))
     (pss_cons (ps_set (i:=4) scWw.nd rfl (Or.inr rfl) (pe_op op_cat (pe_op op_cat (pe_slice sl_list (pv 0) po_none (po_some (pv 3))) (pe_callTy call_list_of (by rfl) T.list bt_list (pa_cons (pv 2) pa_nil))) (pe_slice sl_list (pv 0) (po_some (pe_op op_add (pv 3) (pe_callB call_len_seq (by rfl) T.len PySem.boot_len (pa_cons (pv 2) pa_nil)))) po_none)))
     (pss_one (ps_ret (pe_comp (cl:=[("changed",s.heap.objs.size + 1)]) (caps:=[("changed",4)]) ⟨rfl,by decide +kernel,by decide +kernel,rfl,by kernel_rfl,by intro p hp; simp only [List.mem_cons,List.not_mem_nil,or_false] at hp; rcases hp with rfl <;> first | rfl | exact ⟨rfl,.inl rfl,.inl rfl⟩ | exact ⟨rfl,.inl rfl,.inr rfl⟩,by kernel_rfl,by intro p hp; simp only [List.mem_cons,List.not_mem_nil,or_false] at hp; rcases hp with rfl <;> first | rfl | exact ⟨rfl,.inl rfl,.inl rfl⟩ | exact ⟨rfl,.inl rfl,.inr rfl⟩,by decide +kernel⟩ rfl (pi_range3 (by rfl) T.range (pa_cons pe_int (pa_cons (pe_callB call_len_seq (by rfl) T.len PySem.boot_len (pa_cons (pv 4) pa_nil)) (pa_cons (pe_glob (by rfl) m8 r8) pa_nil)))) (λ _ _ _ _=>pts_nil) (λ _ _ _ _=>(pe_slice (show SlR _ (rSlL K) from sl_list) (pv 1) (po_some (pv 0)) (po_some (pe_op op_add (pv 0) (pe_glob (by rfl) m8 r8)))))))))),?_⟩
   refine hidN λ _ jt=>?_
   refine ⟨_,rfl,_,_,rfl,rfl,(by show (0:Int) < 8; decide),?_⟩
   have m0:=Int.emod_nonneg ad (show (8:Int)≠0 by decide)
   have e:ad % 8=((ad % 8).toNat:Int):=(Int.toNat_of_nonneg m0).symm
   refine jt _ _ ?_
   show tSeq _ _ _ [some (V.ref a),some (.int ad),some (.ref c),some (.int (ad % 8)),none] H
   rw [e]
   generalize (ad % 8).toNat=st at *
   clear e m0
   refine hidN λ _ jt=>?_
   refine ⟨_,rfl,_,rfl,(st:Int),rfl,a,_,rfl,SqL.of ha,λ l1 hl1=>?_⟩
   rw [cut_to]
   have s1:=same_new (X:=.lst ((ws.take st).map V.int)) hl1
   have e1:(upd H l1 (.lst ((ws.take st).map V.int))) l1=some (.lst ((ws.take st).map V.int)):=upd_same
   refine ⟨_,rfl,c,_,rfl,.inl (seq_keep hc (s1 _)),λ l2 hl2=>?_⟩
   have s2:=same_new (X:=.lst (cs.map V.int)) hl2
   refine ⟨l1,l2,_,_,rfl,rfl,s2 _ _ e1,upd_same,by rw [List.length_map,List.length_map,List.length_take]; lia,λ l3 hl3=>?_⟩
   rw [← List.map_append]
   have s3:=same_new (X:=.lst ((ws.take st ++ cs).map V.int)) hl3
   have S3:=(s1.trans s2).trans s3
   have e3:(upd (upd (upd H l1 (.lst ((ws.take st).map V.int))) l2 (.lst (cs.map V.int))) l3 (.lst ((ws.take st ++ cs).map V.int))) l3=some (.lst ((ws.take st ++ cs).map V.int)):=upd_same
   generalize upd (upd (upd H l1 (.lst ((ws.take st).map V.int))) l2 (.lst (cs.map V.int))) l3 (.lst ((ws.take st ++ cs).map V.int))=H3 at *
   refine ⟨_,rfl,_,rfl,_,rfl,c,_,rfl,.inl (seq_keep hc (S3 _)),_,_,rfl,rfl,_,rfl,a,_,rfl,SqL.of (S3 _ _ ha),λ l4 hl4=>?_⟩
   rw [show ((st:Int) + ((cs.map V.int).length:Nat))=((st + cs.length:Nat):Int) by rw [List.length_map]; push_cast; rfl,cut_fromN]
   have s4:=same_new (X:=.lst ((ws.drop (st + cs.length)).map V.int)) hl4
   refine ⟨l3,l4,_,_,rfl,rfl,s4 _ _ e3,upd_same,by rw [List.length_map,List.length_map,List.length_append,List.length_take,List.length_drop]; lia,λ l5 hl5=>?_⟩
   rw [← List.map_append,show ws.take st ++ cs ++ ws.drop (st + cs.length)=splice ws st cs from rfl]
   have S5:Same H (upd (upd H3 l4 (.lst ((ws.drop (st + cs.length)).map V.int))) l5 (.lst ((splice ws st cs).map V.int))):=(S3.trans s4).trans (same_new hl5)
   have e5:(upd (upd H3 l4 (.lst ((ws.drop (st + cs.length)).map V.int))) l5 (.lst ((splice ws st cs).map V.int))) l5=some (.lst ((splice ws st cs).map V.int)):=upd_same
   generalize upd (upd H3 l4 (.lst ((ws.drop (st + cs.length)).map V.int))) l5 (.lst ((splice ws st cs).map V.int))=H5 at *
   generalize splice ws st cs=sp at *
   obtain ⟨r1,r2,r3⟩:=rng8 j (by lia)
   refine jt _ _ (hidR λ _ jr=>?_)
   refine ⟨_,rfl,l5,_,rfl,.inl (SqL.of e5),0,8 * (j:Int),8,j,by rw [List.length_map,lsp]; push_cast; rfl,r1,r2,by decide,r3,?_⟩
   refine comp_rangeS0 (lo:=0) (st:=8) (n:=j) (λ i ys H6 => ∃ rs:List Addr,ys=rs.map V.ref∧rs.length=i∧Paired (λ r (row:List Int)=>H6 r=some (.lst (row.map V.int))) rs (chunks i sp)∧Same H5 H6∧(∀ r∈rs,H5 r=none)∧rs.Nodup) ⟨[],rfl,rfl,.nil,Same.refl _,(λ _ h=>nomatch h),List.nodup_nil⟩ ?_ ?_
   · rintro i ys H6 hi ⟨rs,rfl,hr1,hp,s6,hn,nd⟩
     refine ⟨_,rfl,_,rfl,_,rfl,_,rfl,_,_,rfl,rfl,_,rfl,l5,_,rfl,SqL.of (s6 _ _ e5),λ r hr0=>?_⟩
     rw [show (0 + (i:Int) * 8)=((8 * i:Nat):Int) by push_cast; lia,show (((8 * i:Nat):Int) + 8)=((8 * i:Nat):Int) + ((8:Nat):Int) from rfl,cut_nat]
     have sr:=same_new (X:=.lst (((sp.drop (8 * i)).take 8).map V.int)) hr0
     refine ⟨by rw [List.length_map]; lia,rs ++ [r],by rw [List.map_append]; rfl,by rw [List.length_append,hr1]; rfl,?_,s6.trans sr,λ x hx=>?_,?_⟩
     · unfold chunks at hp ⊢
       rw [List.range_succ,List.map_append]
       exact paired_app (pr_imp (λ x y h=>sr _ _ h) hp) (.cons upd_same .nil)
     · rcases List.mem_append.mp hx with hx | hx
       · exact hn x hx
       · rw [List.mem_singleton.mp hx]; exact s6.free hr0
     · refine List.nodup_append.mpr ⟨nd,List.nodup_cons.mpr ⟨by simp,List.nodup_nil⟩,λ x hx y hy=>?_⟩
       rw [List.mem_singleton.mp hy]
       intro z
       obtain ⟨row,hrow⟩:=paired_mem hp hx
       rw [z,hr0] at hrow
       cases hrow
   · rintro ys H6 ⟨rs,rfl,hr1,hp,s6,hn,nd⟩ l6 hl6
     have s7:=same_new (X:=.lst (rs.map V.ref)) hl6
     exact jr _ _ (k _ l6 rs ((S5.trans s6).trans s7) ((S5.trans s6).free hl6) upd_same (pr_imp (λ x y h=>s7 _ _ h) hp) (λ r h=>S5.free (hn r h)) nd)
end
end Rm
namespace Rm
open PySem L2
section
variable {α:Type}
def look (l:List (Int×α)) (k:Int):Option α:=(l.find? λ x=>decide (x.1=k)).map (·.2)
def dk (f:α→V) (l:List (Int×α)):List (Key×V):=l.map λ x=>(Sum.inl x.1,f x.2)
def setA (l:List (Int×α)) (k:Int) (a:α):List (Int×α):=l.map λ x=>if x.1=k then (k,a) else x
def delA (l:List (Int×α)) (k:Int):List (Int×α):=l.filter λ x=>decide (x.1≠k)
theorem look_cons (x:Int×α) (l:List (Int×α)) (k:Int):look (x :: l) k=if x.1=k then some x.2 else look l k:=by
 unfold look
 rw [List.find?_cons]
 by_cases h:x.1=k
 · rw [decide_eq_true h,if_pos h]; rfl
 · rw [decide_eq_false h,if_neg h]
theorem valV_dk (f:α→V) (k:Int):∀ l:List (Int×α),valV (dk f l) (Sum.inl k)=(look l k).map f
 | []=>rfl
 | x :: l=>by
   have ih:=valV_dk f k l
   show valV ((Sum.inl x.1,f x.2) :: dk f l) (Sum.inl k)=_
   rw [look_cons]
   by_cases h:x.1=k
   · rw [if_pos h,valV_pos (by rw [h])]; rfl
   · rw [if_neg h,valV_neg (λ e=>h (Sum.inl.inj e)),ih]
theorem look_mem {l:List (Int×α)}{k:Int}{a:α}(h:look l k=some a):(k,a)∈l:=by
 unfold look at h
 obtain ⟨x,hx,e⟩:=Option.map_eq_some_iff.mp h
 have h1:=List.mem_of_find?_eq_some hx
 have h2:x.1=k:=by simpa using List.find?_some hx
 rw [← h2, ← e]
 exact h1
theorem look_none {l:List (Int×α)}{k:Int}(h:look l k=none):¬ k∈l.map (·.1):=by
 unfold look at h
 rw [Option.map_eq_none_iff,List.find?_eq_none] at h
 rintro m
 obtain ⟨x,hx,e⟩:=List.mem_map.mp m
 exact h x hx (decide_eq_true e)
theorem look_some {l:List (Int×α)}{k:Int}{a:α}(nd:(l.map (·.1)).Nodup) (h:(k,a)∈l):look l k=some a:=by
 induction l with
 | nil=>cases h
 | cons x l ih =>
   rw [look_cons]
   obtain ⟨n1,n2⟩:=List.nodup_cons.mp (show (x.1 :: l.map (·.1)).Nodup from nd)
   rcases List.mem_cons.mp h with e | m
   · rw [← e,if_pos rfl]
   · have:¬ x.1=k:=λ e=>n1 (e ▸ List.mem_map.mpr ⟨_,m,rfl⟩)
     rw [if_neg this]
     exact ih n2 m
theorem any_dk (f:α→V) (l:List (Int×α)) (k:Int):((dk f l).any λ kv=>decide (kv.1=Sum.inl k))=(look l k).isSome:=by
 rw [valV_any,valV_dk]
 cases look l k <;> rfl
theorem putK_new' {f:α→V}{l:List (Int×α)}{k:Int}{a:α}(h:look l k=none):putK (dk f l) (Sum.inl k) (f a)=dk f (l ++ [(k,a)]):=by
 rw [putK_new _ (by rw [valV_dk,h]; rfl)]
 unfold dk
 rw [List.map_append]
 rfl
theorem putK_old {f:α→V}{l:List (Int×α)}{k:Int}{a b:α}(h:look l k=some b):putK (dk f l) (Sum.inl k) (f a)=dk f (setA l k a):=by
 unfold putK
 rw [if_pos (by rw [any_dk,h]; rfl)]
 unfold dk setA
 rw [List.map_map,List.map_map]
 congr 1
 funext x
 show (if (Sum.inl x.1:Key)=Sum.inl k then ((Sum.inl x.1:Key),f a) else (Sum.inl x.1,f x.2))=((Sum.inl (if x.1=k then (k,a) else x).1:Key),f (if x.1=k then (k,a) else x).2)
 by_cases e:x.1=k
 · rw [if_pos (by rw [e]),if_pos e,e]
 · rw [if_neg (λ z=>e (Sum.inl.inj z)),if_neg e]
theorem dropK_dk (f:α→V) (l:List (Int×α)) (k:Int):dropK (dk f l) (Sum.inl k)=dk f (delA l k):=by
 unfold dropK dk delA
 rw [List.filter_map]
 congr 1
 congr 1
 funext x
 show decide (¬ (Sum.inl x.1:Key)=Sum.inl k)=decide (¬ x.1=k)
 by_cases e:x.1=k
 · rw [e]; simp
 · simp [e]
end
abbrev Room:=List (Int×Addr×List Int)
def fP (x:Addr×List Int):V:=.ref x.1
abbrev kvP (R:Room):List (Key×V):=dk fP R
abbrev Rms:=List (Int×Addr×Room)
def fR (x:Addr×Room):V:=.ref x.1
abbrev kvR (W:Rms):List (Key×V):=dk fR W
def Off (B:Addr→Prop) (H H':Hp):Prop := ∀ b o,H b=some o→¬ B b→H' b=some o
structure RoomAt (H:Hp) (a:Addr) (R:Room):Prop where
 hd:H a=some (.dK (kvP R))
 hr:∀ x∈R,H x.2.1=some (.lst (x.2.2.map V.int))∧x.2.2.length=8
 nd:(R.map (·.1)).Nodup
 rg:∀ x∈R,0≤x.1∧x.1 < 64
structure RmsAt (H:Hp) (a:Addr) (W:Rms):Prop where
 hd:H a=some (.dK (kvR W))
 rm:∀ x∈W,RoomAt H x.2.1 x.2.2
 nd:(W.map (·.1)).Nodup
 sp:(W.map (·.2.1)).Nodup
 ne:∀ x∈W,x.2.1≠a
theorem RoomAt.same {H H':Hp}{a:Addr}{R:Room}(r:RoomAt H a R) (s:Same H H'):RoomAt H' a R:=⟨s _ _ r.hd,λ x hx=>⟨s _ _ (r.hr x hx).1,(r.hr x hx).2⟩,r.nd,r.rg⟩
theorem RmsAt.same {H H':Hp}{a:Addr}{W:Rms}(r:RmsAt H a W) (s:Same H H'):RmsAt H' a W:=⟨s _ _ r.hd,λ x hx=>(r.rm x hx).same s,r.nd,r.sp,r.ne⟩
theorem RoomAt.off {B:Addr→Prop}{H H':Hp}{a:Addr}{R:Room}(r:RoomAt H a R) (o:Off B H H') (n:¬ B a) (nl:∀ b xs,H b=some (.lst xs)→¬ B b):RoomAt H' a R :=
 ⟨o _ _ r.hd n,λ x hx=>⟨o _ _ (r.hr x hx).1 (nl _ _ (r.hr x hx).1),(r.hr x hx).2⟩,r.nd,r.rg⟩
theorem kt1:¬ (("total" : Str) = "rooms"):=by decide +kernel
def flds (t:Int) (a:Addr):List (Str×V):=putF "rooms" (.ref a) (putF "total" (.int t) [])
theorem flds_r (t:Int) (a:Addr):(flds t a).lookup ("rooms" : Str)=some (.ref a):=by
 unfold flds
 rw [lookup_putF,if_pos rfl]
theorem flds_t (t:Int) (a:Addr):(flds t a).lookup ("total" : Str)=some (.int t):=by
 unfold flds
 rw [lookup_putF,if_neg kt1,lookup_putF,if_pos rfl]
theorem flds_no (t:Int) (a:Addr) {m:Str}(h1:¬ m = "rooms") (h2:¬ m = "total"):(flds t a).lookup m=none:=by
 unfold flds
 rw [lookup_putF,if_neg h1,lookup_putF,if_neg h2]
 rfl
structure PRAt (C:Addr) (H:Hp) (p a:Addr) (t:Int) (W:Rms):Prop where
 ob:∃ dx,H p=some (.ins C dx (flds t a))
 R:RmsAt H a W
theorem PRAt.same {C:Addr}{H H':Hp}{p a:Addr}{t:Int}{W:Rms}(r:PRAt C H p a t W) (s:Same H H'):PRAt C H' p a t W:=let ⟨dx,h⟩:=r.ob; ⟨⟨dx,s _ _ h⟩,r.R.same s⟩
structure Txt (K:PySem.W.Frag) (mg:Str→Option Value) (C:Addr):Prop where
 cl:Cls K C
 nT:NoAttr K C "total"
 nR:NoAttr K C "rooms"
 len:mg "len" = none
 list:mg "list" = none
 sum:mg "sum" = none
 zip:mg "zip" = none
abbrev sInit:Stmt:=inClass (top 20) 0
abbrev sBegin:Stmt:=inClass (top 20) 1
abbrev sClose:Stmt:=inClass (top 20) 2
abbrev sMap:Stmt:=inClass (top 20) 3
abbrev sDrop:Stmt:=inClass (top 20) 4
abbrev sPeek:Stmt:=inClass (top 20) 5
abbrev sPoke:Stmt:=inClass (top 20) 6
abbrev sCopy:Stmt:=inClass (top 20) 7
abbrev sHeld:Stmt:=inClass (top 20) 8
def spRoomOf (CN:Addr):Sp:=λ vs H Q E => ∃ (a:Addr) (W:Rms) (t:Int),vs=[.ref a,.int t]∧H a=some (.dK (kvR W))∧t.natAbs.log2 < 1920∧(look W t=none→E (.ref CN) none H)∧(∀ x,look W t=some x→Q (.ref x.1) H)
def spSecond (CT:Addr):Sp:=λ vs H Q E => ∃ (a:Addr) (W:Rms) (t:Int),vs=[.ref a,.int t]∧H a=some (.dK (kvR W))∧t.natAbs.log2 < 1920∧((∃ x,look W t=some x)→E (.ref CT) none H)∧(look W t=none→Q .non H)
def spAbove (CR:Addr):Sp:=λ vs H Q E => ∃ h t:Int,vs=[.int h,.int t]∧h.natAbs.log2 < 1920∧t.natAbs.log2 < 1920∧(t < h→E (.ref CR) none H)∧(¬ t < h→Q .non H)
theorem get_dk {α:Type}{f:α→V}{H:Hp}{a:Addr}{l:List (Int×α)}{t:Int}(h:H a=some (.dK (dk f l))):DGet H a (.int t) ((look l t).map f):=by
 have q:=DGet.k (k:=Sum.inl t) h
 rw [valV_dk] at q
 exact q
theorem dk_len {α:Type}(f:α→V) (l:List (Int×α)):(dk f l).length=l.length:=by unfold dk; rw [List.length_map]
def spInit (C:Addr):Sp:=λ vs H Q _ => ∃ (p dx:Addr) (t:Int),vs=[.ref p,.int t]∧H p=some (.ins C dx [])∧∀ (H':Hp) (a:Addr),H a=none→PRAt C H' p a t []→Off (· = p) H H'→Q .non H'
def spBegin (C CT:Addr):Sp:=λ vs H Q E => ∃ (p a:Addr) (tot t:Int) (W:Rms),vs=[.ref p,.int t]∧PRAt C H p a tot W∧t.natAbs.log2 < 1920∧W.length≤1000∧((∃ x,look W t=some x)→E (.ref CT) none H) ∧
 (look W t=none→∀ (H':Hp) (r:Addr),H r=none→PRAt C H' p a tot (W ++ [(t,r,[])])→Off (· = a) H H'→Q .non H')
def spClose (C CN:Addr):Sp:=λ vs H Q E => ∃ (p a:Addr) (tot t:Int) (W:Rms),vs=[.ref p,.int t]∧PRAt C H p a tot W∧t.natAbs.log2 < 1920∧(look W t=none→E (.ref CN) none H) ∧
 ((∃ x,look W t=some x)→∀ H',PRAt C H' p a tot (delA W t)→Off (· = a) H H'→Q .non H')
theorem dk_ne_ins {H:Hp}{a b C dx:Addr}{kvs:List (Key×V)}{fs:List (Str×V)}(h:H a=some (.dK kvs)) (h':H b=some (.ins C dx fs)):a≠b:=ne_of h h' (by intro z; cases z)
theorem dk_ne_lst {H:Hp}{a b:Addr}{kvs:List (Key×V)}{xs:List V}(h:H a=some (.dK kvs)) (h':H b=some (.lst xs)):a≠b:=ne_of h h' (by intro z; cases z)
theorem RoomAt.upd {H:Hp}{a b:Addr}{R:Room}{o:HO}(r:RoomAt H b R) (n:b≠a) (h:∃ kvs,H a=some (.dK kvs)):RoomAt (upd H a o) b R:=by
 obtain ⟨kvs,h⟩:=h
 exact ⟨by rw [upd_ne n]; exact r.hd,λ x hx=>⟨by rw [upd_ne (Ne.symm (dk_ne_lst h (r.hr x hx).1))]; exact (r.hr x hx).1,(r.hr x hx).2⟩,r.nd,r.rg⟩
section
variable {P:Program}{w:World}{K:PySem.W.Frag}{mg:Str→Option Value}{base:Heap}
theorem scRo:FnScope ["rooms","task"] ["rooms","task"] (defScope sRoomOf):=⟨rfl,rfl,rfl,by decide +kernel,rfl,by decide +kernel,by decide +kernel⟩
theorem ok_roomOf {f CN:Addr}{fd:FuncData}(F:Fun K "room_of" "room_of" sRoomOf f fd) (XT:XTxt K mg "NoTask" CN):FnOk P w K mg base (CXO P w) 1 f fd ["rooms","task"] (spRoomOf CN):=by
 refine F.okx scRo (λ vs H Q E h=>?_) (λ cdv A outer s H vs Q E hr h=>?_)
 · obtain ⟨a,W,t,rfl,_⟩:=h
   rfl
 · obtain ⟨a,W,t,rfl,ha,ht,kE,kQ⟩:=h
   have hs:sizeLine=16777216:=sizeLine_eq
   refine ⟨_,(pssx_cons (psx_if (pt_cmp (pc_dnotin (hu_of hr) (pv 1) (pv 0))) (pssx_one (psx_raise rfl XT.mgN XT.exN rfl rfl (pa_cons (pe_join (pj_cons (pe_fv (pv 1)) (pj_cons pe_str pj_nil))) pa_nil))) pssx_nil)
     (pssx_of (pss_one (ps_ret (pe_dget (hu_of hr) (pv 0) (pv 1) (λ _ _=>rfl)))))),?_⟩
   have l1:=len_int ht
   have c0:(Str.empty:Str).length=0:=rfl
   have c1:(Str.ofString " has no room").length=12:=by decide +kernel
   have g1:(Str.empty ++ toString t:Str).length≤sizeLine:=by rw [len_app,c0]; lia
   have g2:(Str.empty ++ toString t ++ Str.ofString " has no room" : Str).length≤sizeLine:=by rw [len_app,len_app,c0,c1]; lia
   have hg:=get_dk (t:=t) ha
   refine ⟨_,rfl,_,rfl,a,_,rfl,hg,_,rfl,?_⟩
   cases e:look W t with
   | none=>exact iteT ⟨_,rfl,t,rfl,ht,_,rfl,g1,_,rfl,g2,g2,(by show 1≤sizeLine; decide),kE e⟩
   | some x =>
     rw [e] at hg
     exact iteF ⟨_,rfl,_,rfl,a,fR x,rfl,hg,kQ x e⟩
theorem scSe:FnScope ["rooms","task"] ["rooms","task"] (defScope sSecond):=⟨rfl,rfl,rfl,by decide +kernel,rfl,by decide +kernel,by decide +kernel⟩
theorem ok_second {f CT:Addr}{fd:FuncData}(F:Fun K "refuse_second_room" "refuse_second_room" sSecond f fd) (XK:XTxt K mg "Taken" CT):FnOk P w K mg base (CXO P w) 1 f fd ["rooms","task"] (spSecond CT):=by
 refine F.okx scSe (λ vs H Q E h=>?_) (λ cdv A outer s H vs Q E hr h=>?_)
 · obtain ⟨a,W,t,rfl,_⟩:=h
   rfl
 · obtain ⟨a,W,t,rfl,ha,ht,kE,kQ⟩:=h
   have hs:sizeLine=16777216:=sizeLine_eq
   refine ⟨_,(pssx_one (psx_if (pt_cmp (pc_din (hu_of hr) (pv 1) (pv 0))) (pssx_one (psx_raise rfl XK.mgN XK.exN rfl rfl (pa_cons (pe_join (pj_cons (pe_fv (pv 1)) (pj_cons pe_str pj_nil))) pa_nil))) pssx_nil)),?_⟩
   have l1:=len_int ht
   have c0:(Str.empty:Str).length=0:=rfl
   have c1:(Str.ofString " has a room").length=11:=by decide +kernel
   have g1:(Str.empty ++ toString t:Str).length≤sizeLine:=by rw [len_app,c0]; lia
   have g2:(Str.empty ++ toString t ++ Str.ofString " has a room" : Str).length≤sizeLine:=by rw [len_app,len_app,c0,c1]; lia
   refine ⟨_,rfl,_,rfl,a,_,rfl,get_dk (t:=t) ha,_,rfl,?_⟩
   cases e:look W t with
   | none=>exact iteF (kQ e)
   | some x=>exact iteT ⟨_,rfl,t,rfl,ht,_,rfl,g1,_,rfl,g2,g2,(by show 1≤sizeLine; decide),kE ⟨x,e⟩⟩
theorem scAb:FnScope ["held","total"] ["held","total"] (defScope sAbove):=⟨rfl,rfl,rfl,by decide +kernel,rfl,by decide +kernel,by decide +kernel⟩
theorem ok_above {f CR:Addr}{fd:FuncData}(F:Fun K "refuse_above" "refuse_above" sAbove f fd) (XR:XTxt K mg "NoRoom" CR):FnOk P w K mg base (CXO P w) 1 f fd ["held","total"] (spAbove CR):=by
 refine F.okx scAb (λ vs H Q E h=>?_) (λ cdv A outer s H vs Q E hr h=>?_)
 · obtain ⟨h,t,rfl,_⟩:=h
   rfl
 · obtain ⟨h,t,rfl,hh,ht,kE,kQ⟩:=h
   have hs:sizeLine=16777216:=sizeLine_eq
   refine ⟨_,(pssx_one (psx_if (pt_cmpR op_gt (pv 0) (pv 1) (nomark _)) (pssx_one (psx_raise rfl XR.mgN XR.exN rfl rfl (pa_cons (pe_join (pj_cons (pe_fv (pv 0)) (pj_cons pe_str (pj_cons (pe_fv (pv 1)) pj_nil)))) pa_nil))) pssx_nil)),?_⟩
   have l1:=len_int hh
   have l2:=len_int ht
   have c0:(Str.empty:Str).length=0:=rfl
   have c1:(Str.ofString " pages are more than ").length=21:=by decide +kernel
   have g1:(Str.empty ++ toString h:Str).length≤sizeLine:=by rw [len_app,c0]; lia
   have g2:(Str.empty ++ toString h ++ Str.ofString " pages are more than " : Str).length≤sizeLine:=by rw [len_app,len_app,c0,c1]; lia
   have g3:(Str.empty ++ toString h ++ Str.ofString " pages are more than " ++ toString t:Str).length≤sizeLine:=by rw [len_app,len_app,len_app,c0,c1]; lia
   refine ⟨_,rfl,_,rfl,_,_,rfl,rfl,_,rfl,?_⟩
   refine ite2 (λ c=>?_) (λ c=>?_)
   · exact ⟨_,rfl,h,rfl,hh,_,rfl,g1,_,rfl,g2,_,rfl,t,rfl,ht,_,rfl,g3,g3,(by show 1≤sizeLine; decide),kE (of_decide_eq_true c)⟩
   · exact kQ λ z=>c (decide_eq_true z)
theorem scBe:FnScope ["self","task"] ["self","task"] (defScope sBegin):=⟨rfl,rfl,rfl,by decide +kernel,rfl,by decide +kernel,by decide +kernel⟩
theorem ok_begin {f C CT fS:Addr}{fd dS:FuncData}(F:Fun K "begin" "PlainRooms.begin" sBegin f fd) (T:Txt K mg C)
   (GS:FnOk P w K mg base (CXO P w) 1 fS dS ["rooms","task"] (spSecond CT)) (DS:Def K mg "refuse_second_room" fS dS ["rooms","task"]):FnOk P w K mg base (CXO P w) 2 f fd ["self","task"] (spBegin C CT):=by
 refine F.okx scBe (λ vs H Q E h=>?_) (λ cdv A outer s H vs Q E hr h=>?_)
 · obtain ⟨p,a,tot,t,W,rfl,_⟩:=h
   rfl
 · obtain ⟨p,a,tot,t,W,rfl,D,ht,lw,kE,kQ⟩:=h
   have hs:sizeLine=16777216:=sizeLine_eq
   obtain ⟨dx,h1⟩:=id D.ob
   refine ⟨_,(pssx_cons (psx_expr (pex_call GS (hr.mono (by decide)) rfl (by rfl) DS.mg DS.kp DS.b .nil (pa_cons (pe_fld (pv 0) rfl) (pa_cons (pv 1) pa_nil))))
     (pssx_of (pss_one (ps_dput (hu_of hr) (pe_fld (pv 0) rfl) (pv 1) pe_dnewK rfl)))),?_⟩
   refine ⟨_,rfl,p,C,dx,_,_,rfl,h1,T.cl,T.nR,flds_r _ _,_,rfl,a,W,t,rfl,D.R.hd,ht,kE,λ hn=>?_⟩
   intro r hr0
   have sr:=same_new (X:=.dK []) hr0
   have D1:=D.same sr
   have er:(upd H r (.dK [])) r=some (.dK []):=upd_same
   have nra:r≠a:=Ne.symm (ne_of_none D.R.hd hr0)
   refine ⟨_,rfl,p,C,dx,_,_,rfl,sr _ _ h1,T.cl,T.nR,flds_r _ _,_,rfl,a,_,rfl,DPut.k (k:=Sum.inl t) D1.R.hd (by rw [dk_len]; lia),?_⟩
   rw [show (V.ref r)=fR (r,([]:Room)) from rfl,putK_new' hn]
   generalize upd H r (.dK [])=H1 at *
   have h1':H1 p=some (.ins C dx (flds tot a)):=sr _ _ h1
   refine kQ hn _ r hr0 ⟨⟨dx,by rw [upd_ne (Ne.symm (dk_ne_ins D1.R.hd h1'))]; exact h1'⟩,upd_same,λ x hx=>?_,?_,?_,λ x hx=>?_⟩ (λ b o e nb=>by rw [upd_ne nb]; exact sr _ _ e)
   · rcases List.mem_append.mp hx with hx | hx
     · exact (D1.R.rm x hx).upd (D.R.ne x hx) ⟨_,D1.R.hd⟩
     · rw [List.mem_singleton.mp hx]
       exact ⟨by rw [upd_ne nra]; exact er,(λ _ h=>nomatch h),List.nodup_nil,(λ _ h=>nomatch h)⟩
   · rw [List.map_append]
     exact List.nodup_append.mpr ⟨D.R.nd,List.nodup_cons.mpr ⟨by simp,List.nodup_nil⟩,λ x hx y hy=>by
       have:y=t:=by simpa using hy
       rw [this]
       rintro rfl
       exact look_none hn hx⟩
   · rw [List.map_append]
     exact List.nodup_append.mpr ⟨D.R.sp,List.nodup_cons.mpr ⟨by simp,List.nodup_nil⟩,λ x hx y hy=>by
       have:y=r:=by simpa using hy
       rw [this]
       rintro rfl
       obtain ⟨z,hz,e⟩:=List.mem_map.mp hx
       have:=(D.R.rm z hz).hd
       rw [e,hr0] at this
       cases this⟩
   · rcases List.mem_append.mp hx with hx | hx
     · exact D.R.ne x hx
     · rw [List.mem_singleton.mp hx]; exact nra
theorem scCl:FnScope ["self","task"] ["self","task"] (defScope sClose):=⟨rfl,rfl,rfl,by decide +kernel,rfl,by decide +kernel,by decide +kernel⟩
theorem ok_close {f C CN fR':Addr}{fd dR:FuncData}(F:Fun K "close" "PlainRooms.close" sClose f fd) (T:Txt K mg C)
   (GR:FnOk P w K mg base (CXO P w) 1 fR' dR ["rooms","task"] (spRoomOf CN)) (DR:Def K mg "room_of" fR' dR ["rooms","task"]):FnOk P w K mg base (CXO P w) 2 f fd ["self","task"] (spClose C CN):=by
 refine F.okx scCl (λ vs H Q E h=>?_) (λ cdv A outer s H vs Q E hr h=>?_)
 · obtain ⟨p,a,tot,t,W,rfl,_⟩:=h
   rfl
 · obtain ⟨p,a,tot,t,W,rfl,D,ht,kE,kQ⟩:=h
   obtain ⟨dx,h1⟩:=id D.ob
   refine ⟨_,(pssx_cons (psx_expr (pex_call GR (hr.mono (by decide)) rfl (by rfl) DR.mg DR.kp DR.b .nil (pa_cons (pe_fld (pv 0) rfl) (pa_cons (pv 1) pa_nil))))
     (pssx_of (pss_one (ps_expr (pe_dpop1 (pe_fld (pv 0) rfl) (pv 1) ⟨rfl,rfl,rfl,rfl⟩))))),?_⟩
   refine ⟨_,rfl,p,C,dx,_,_,rfl,h1,T.cl,T.nR,flds_r _ _,_,rfl,a,W,t,rfl,D.R.hd,ht,kE,λ x hx=>?_⟩
   refine ⟨_,rfl,p,C,dx,_,_,rfl,h1,T.cl,T.nR,flds_r _ _,a,rfl,.inl ⟨_,.inl D.R.hd⟩,_,rfl,_,Sum.inl t,fR x,D.R.hd,rfl,by rw [valV_dk,hx]; rfl,?_⟩
   rw [dropK_dk]
   have sub:∀ y∈delA W t,y∈W:=λ y hy=>(List.mem_filter.mp hy).1
   refine kQ ⟨x,hx⟩ _ ⟨⟨dx,by rw [upd_ne (Ne.symm (dk_ne_ins D.R.hd h1))]; exact h1⟩,upd_same,λ y hy=>(D.R.rm y (sub y hy)).upd (D.R.ne y (sub y hy)) ⟨_,D.R.hd⟩,?_,?_,λ y hy=>D.R.ne y (sub y hy)⟩ (λ b o e nb=>by rw [upd_ne nb]; exact e)
   · exact D.R.nd.sublist (List.Sublist.map _ List.filter_sublist)
   · exact D.R.sp.sublist (List.Sublist.map _ List.filter_sublist)
end
end Rm
namespace Rm
open PySem L2
theorem bt_sum:bootBuiltins "sum" = some (.builtin "sum"):=by decide +kernel
abbrev sCells:Stmt:=top 21
def heldW (W:Rms):Int:=((W.map λ x=>(x.2.2.length:Int))).sum
def spHeld (C:Addr):Sp:=λ vs H Q _ => ∃ (p a:Addr) (tot:Int) (W:Rms),vs=[.ref p]∧PRAt C H p a tot W∧W.length≤1000∧∀ H',Same H H'→Q (.int (heldW W)) H'
def cellsOf (R:Room) (ps:List Int):List Int:=(ps.map λ q=>((look R q).map (·.2)).getD []).flatten
def spCells:Sp:=λ vs H Q _ => ∃ (a b:Addr) (R:Room) (ps:List Int),vs=[.ref a,.ref b]∧RoomAt H a R∧H b=some (.lst (ps.map V.int))∧ps.length≤64∧(∀ q∈ps,∃ x,look R q=some x) ∧
 ∀ (H':Hp) (l:Addr),Same H H'→H l=none→H' l=some (.lst ((cellsOf R ps).map V.int))→Q (.ref l) H'
section
variable {P:Program}{w:World}{K:PySem.W.Frag}{mg:Str→Option Value}{base:Heap}
theorem scHe:FnScope ["self"] ["self"] (defScope sHeld):=⟨rfl,rfl,rfl,by decide +kernel,rfl,by decide +kernel,by decide +kernel⟩
set_option maxHeartbeats 4000000 in
theorem ok_held {f C:Addr}{fd:FuncData}(F:Fun K "held" "PlainRooms.held" sHeld f fd) (T:Txt K mg C):FnOk P w K mg base CX0 1 f fd ["self"] (spHeld C):=by
 refine F.ok scHe (λ vs H Q E h=>?_) (λ cdv A outer s H vs Q E hr h=>?_)
 · obtain ⟨p,a,tot,W,rfl,_⟩:=h
   rfl
 · obtain ⟨p,a,tot,W,rfl,D,lw,k⟩:=h
   have hs:sizeLine=16777216:=sizeLine_eq
   obtain ⟨dx,h1⟩:=id D.ob
   refine ⟨_,(pss_one (ps_ret (pe_callB (call_sum rfl) (by rfl) T.sum bt_sum (pa_cons (pe_thaw (pe_comp (cl:=[("self",s.heap.objs.size + 1)]) (caps:=[("self",0)]) ⟨rfl,by decide +kernel,by decide +kernel,rfl,by kernel_rfl,by intro p hp; simp only [List.mem_cons,List.not_mem_nil,or_false] at hp; rcases hp with rfl <;> first | rfl | exact ⟨rfl,.inl rfl,.inl rfl⟩ | exact ⟨rfl,.inl rfl,.inr rfl⟩,by kernel_rfl,by intro p hp; simp only [List.mem_cons,List.not_mem_nil,or_false] at hp; rcases hp with rfl <;> first | rfl | exact ⟨rfl,.inl rfl,.inl rfl⟩ | exact ⟨rfl,.inl rfl,.inr rfl⟩,by decide +kernel⟩ rfl (pi_dict (pe_fld (pv 0) rfl)) (λ _ _ _ _=>pts_nil) (λ _ _ _ _=>(pe_callB call_lenD (by rfl) T.len PySem.boot_len (pa_cons (pe_dget (hu_of hr) (show PE _ _ (tFld K _ "rooms") from pe_fld (pv 1) rfl) (pv 0) (λ _ _=>rfl)) pa_nil))))) pa_nil)))),?_⟩
   have hn:∀ (o:Obj) u',H a≠some (.frz o u'):=λ o u' z=>by rw [D.R.hd] at z; cases z
   refine ⟨_,rfl,p,C,dx,_,_,rfl,h1,T.cl,T.nR,flds_r _ _,a,_,rfl,D.R.hd,hn,λ o=>?_⟩
   have npa:p≠a:=Ne.symm (dk_ne_ins D.R.hd h1)
   have hf:(upd H a (.frz o (.dK (kvR W)))) a=some (.frz o (.dK (kvR W))):=upd_same
   have h1f:(upd H a (.frz o (.dK (kvR W)))) p=some (.ins C dx (flds tot a)):=by rw [upd_ne npa]; exact h1
   refine comp_dict0 (a:=a) (o:=o) (kvs:=kvR W) (λ i ys H2=>ys=((W.take i).map λ x=>(x.2.2.length:Int)).map V.int∧H2=upd H a (.frz o (.dK (kvR W)))) ⟨rfl,rfl⟩ (λ i zs H2 _ ⟨_,e⟩=>by rw [e]; exact hf) ?_ ?_
   · rintro i kk v zs H2 hk ⟨rfl,rfl⟩
     have hk':(W.map λ x:Int×Addr×Room=>((Sum.inl x.1:Key),fR x.2))[i]? = some (kk,v):=hk
     rw [List.getElem?_map] at hk'
     obtain ⟨x,hx,e⟩:=Option.map_eq_some_iff.mp hk'
     cases e
     have hm:=List.mem_of_getElem? hx
     have hi:i < W.length:=(List.getElem?_eq_some_iff.mp hx).1
     have hlk:look W x.1=some x.2:=look_some D.R.nd hm
     have hg:DGet (upd H a (.frz o (.dK (kvR W)))) a (.int x.1) (some (fR x.2)):=.inl ⟨kvR W,Sum.inl x.1,.inr ⟨o,hf⟩,rfl,by rw [valV_dk,hlk]; rfl⟩
     have hrm:(upd H a (.frz o (.dK (kvR W)))) x.2.1=some (.dK (kvP x.2.2)):=by rw [upd_ne (D.R.ne x hm)]; exact (D.R.rm x hm).hd
     refine ⟨_,rfl,p,C,dx,_,_,rfl,h1f,T.cl,T.nR,flds_r _ _,_,rfl,a,fR x.2,rfl,hg,x.2.1,_,rfl,hrm,?_,?_,rfl⟩
     · rw [List.length_map,List.length_map,List.length_take]; lia
     · rw [List.take_add_one,hx,List.map_append,List.map_append,dk_len]
       rfl
   · rintro zs H2 ⟨rfl,rfl⟩ l hl
     have nla:l≠a:=λ z=>by rw [z,hf] at hl; cases hl
     refine ⟨a,o,kvR W,by rw [upd_ne (Ne.symm nla)]; exact hf,hn,l,(W.map λ x=>(x.2.2.length:Int)),rfl,SqL.of ?_,?_⟩
     · rw [upd_ne nla,upd_same,dk_len,List.take_length]
     · refine k _ λ b u e=>?_
       by_cases z:b=a
       · rw [z,upd_same, ← e,z,D.R.hd]
       · rw [upd_ne z,upd_ne (λ y=>by
           rw [y] at e
           rw [upd_ne nla] at hl
           rw [hl] at e
           cases e),upd_ne z]
         exact e
theorem scCp:FnScope ["room","pages","cells","page"] ["room","pages"] (defScope sCells):=⟨rfl,rfl,rfl,by decide +kernel,rfl,by decide +kernel,by decide +kernel⟩
theorem ok_cellsOf {f:Addr}{fd:FuncData}(F:Fun K "cells_of_pages" "cells_of_pages" sCells f fd):FnOk P w K mg base CX0 1 f fd ["room","pages"] spCells:=by
 refine F.ok scCp (λ vs H Q E h=>?_) (λ cdv A outer s H vs Q E hr h=>?_)
 · obtain ⟨a,b,R,ps,rfl,_⟩:=h
   rfl
 · obtain ⟨a,b,R,ps,rfl,ha,hb,lp,hin,k⟩:=h
   have hs:sizeLine=16777216:=sizeLine_eq
   refine ⟨_,(pss_cons (ps_set (i:=2) scCp.nd rfl (Or.inl rfl) (pe_lst pa_nil))
     (pss_cons (ps_for PassesOwn.never rfl (pi_list (pv 1)) (pg_name (i:=3) scCp.nd rfl (Or.inl rfl)) (pss_one (ps_expr (pe_bm PySem.F.plainAttrs_list PySem.F.slot_list_extend PySem.F.type_list_extend mt_extend (pv 2) (pa_cons (pe_dget (hu_of hr) (pv 0) (pv 3) (λ _ _=>rfl)) pa_nil)))))
     (pss_one (ps_ret (pv 2))))),?_⟩
   refine ⟨by decide,λ l hl=>?_⟩
   have s0:=same_new (X:=.lst []) hl
   refine ⟨_,rfl,b,rfl,⟨_,SqL.of (s0 _ _ hb)⟩,?_⟩
   refine for_list (K:=K) (a:=b) (xs:=ps.map V.int) (λ i σ H2 => ∃ v3:Option V,σ=[some (.ref a),some (.ref b),some (.ref l),v3]∧H2 l=some (.lst ((cellsOf R (ps.take i)).map V.int))∧(cellsOf R (ps.take i)).length≤8 * i∧Same H H2) ⟨_,rfl,upd_same,Nat.le_refl _,s0⟩ (λ i σ H2 _ z0=>by obtain ⟨_,_,_,_,s2⟩:=z0; exact SqL.of (s2 _ _ hb)) ?_ ?_
   · rintro i x σ H2 hx ⟨v3,rfl,h2,lc,s2⟩
     have hi:i < ps.length:=by simpa using (List.getElem?_eq_some_iff.mp hx).1
     rw [List.getElem?_map] at hx
     obtain ⟨q,hq,rfl⟩:=Option.map_eq_some_iff.mp hx
     obtain ⟨y,hy⟩:=hin q (List.mem_of_getElem? hq)
     have r2:=ha.same s2
     have hg:=get_dk (t:=q) r2.hd
     rw [hy] at hg
     obtain ⟨rr,r8⟩:=r2.hr (q,y) (look_mem hy)
     have ec:cellsOf R (ps.take (i + 1))=cellsOf R (ps.take i) ++ y.2:=by
       unfold cellsOf
       rw [List.take_add_one,hq,List.map_append,List.flatten_append]
       simp [hy]
     refine ⟨_,rfl,.inl ⟨rfl,_,SqL.of h2⟩,_,rfl,_,rfl,a,fP y,rfl,hg,l,y.1,_,_,rfl,rfl,h2,rr,by rw [List.length_map,List.length_map]; have:y.2.length=8:=r8; lia,?_⟩
     refine ⟨_,rfl,?_,?_,same_wr s2 hl⟩
     · rw [upd_same,ec,List.map_append]
     · rw [ec,List.length_append]
       have:y.2.length=8:=r8
       lia
   · rintro σ H2 ⟨v3,rfl,h2,lc,s2⟩
     rw [List.length_map,List.take_length] at h2
     exact ⟨_,rfl,k H2 l s2 hl h2⟩
end
end Rm
namespace Rm
open PySem L2
def keysR (R:Room):List Int:=R.map (·.1)
theorem keys_is (R:Room):((kvP R).map λ kv=>kV kv.1)=(keysR R).map V.int:=by
 unfold kvP dk keysR
 rw [List.map_map,List.map_map]
 rfl
theorem keys_look {R:Room}{q:Int}(h:q∈keysR R):∃ x,look R q=some x:=by
 cases e:look R q with
 | some x=>exact ⟨x,rfl⟩
 | none=>exact absurd h (look_none e)
def peekC (R:Room) (ad n:Int):List Int:=((cellsOf R (cellPages ad n)).drop (ad % 8).toNat).take n.toNat
theorem cellPages_ok {ad n:Int}{ms:List Int}(h:¬ badCells ad n ms):(cellPages ad n).length≤64∧∀ q∈cellPages ad n,q∈ms:=by
 unfold cellPages
 by_cases e:n=0
 · rw [if_pos e]
   exact ⟨Nat.zero_le _,λ _ h=>nomatch h⟩
 · rw [if_neg e]
   have hn:0 < n:=by
     have:¬ n < 0:=λ z=>h (.inl z)
     lia
   have h1:¬ noPages (cFst ad) (cCnt ad n):=λ z=>h (.inr ⟨hn,.inl z⟩)
   have h2:∀ q∈pagesL (cFst ad) (cCnt ad n),q∈ms:=Classical.byContradiction λ z=>h (.inr ⟨hn,.inr z⟩)
   refine ⟨?_,h2⟩
   unfold pagesL
   rw [List.length_map,List.length_range]
   have a1:¬ cFst ad < 0:=λ z=>h1 (.inr (.inl z))
   have a2:¬ 64 < cFst ad + cCnt ad n:=λ z=>h1 (.inr (.inr z))
   lia
def spPeek (C CN CP:Addr):Sp:=λ vs H Q E => ∃ (p a:Addr) (tot t ad n:Int) (W:Rms),vs=[.ref p,.int t,.int ad,.int n]∧PRAt C H p a tot W∧t.natAbs.log2 < 1920∧n.natAbs.log2 < 1920∧(cFst ad).natAbs.log2 < 1920∧(cCnt ad n).natAbs.log2 < 1920∧(∀ x∈W,x.2.2.length≤1000) ∧
 (look W t=none→E (.ref CN) none H)∧(∀ x,look W t=some x→badCells ad n (keysR x.2)→∀ H',Same H H'→E (.ref CP) none H') ∧
 (∀ x,look W t=some x→¬ badCells ad n (keysR x.2)→∀ (H':Hp) (l:Addr),Same H H'→H l=none→H' l=some (.lst ((peekC x.2 ad n).map V.int))→Q (.ref l) H')
section
variable {P:Program}{w:World}{K:PySem.W.Frag}{mg:Str→Option Value}{base:Heap}
theorem scPe:FnScope ["self","task","address","many","room","pages"] ["self","task","address","many"] (defScope sPeek):=⟨rfl,rfl,rfl,by decide +kernel,rfl,by decide +kernel,by decide +kernel⟩
theorem ok_peek {f C CN CP fR' fO fC' fWi:Addr}{fd dR dO dC dWi:FuncData}(F:Fun K "peek" "PlainRooms.peek" sPeek f fd) (T:Txt K mg C)
   (GR:FnOk P w K mg base (CXO P w) 1 fR' dR ["rooms","task"] (spRoomOf CN)) (DR:Def K mg "room_of" fR' dR ["rooms","task"])
   (GO:FnOk P w K mg base (CXO P w) 2 fO dO ["mapped","address","many"] (spOfCells CP)) (DO:Def K mg "pages_of_cells" fO dO ["mapped","address","many"])
   (GC:FnOk P w K mg base CX0 1 fC' dC ["room","pages"] spCells) (DC:Def K mg "cells_of_pages" fC' dC ["room","pages"])
   (GWi:FnOk P w K mg base CX0 1 fWi dWi ["whole","address","many"] spWithin) (DWi:Def K mg "run_within" fWi dWi ["whole","address","many"]):FnOk P w K mg base (CXO P w) 3 f fd ["self","task","address","many"] (spPeek C CN CP):=by
 refine F.okx scPe (λ vs H Q E h=>?_) (λ cdv A outer s H vs Q E hr h=>?_)
 · obtain ⟨p,a,tot,t,ad,n,W,rfl,_⟩:=h
   rfl
 · obtain ⟨p,a,tot,t,ad,n,W,rfl,D,ht,hn,hf,hc,hlr,kN,kP,kQ⟩:=h
   obtain ⟨dx,h1⟩:=id D.ob
   refine ⟨_,(pssx_cons (psx_set (i:=4) scPe.nd rfl (Or.inl rfl) (pex_call GR (hr.mono (by decide)) rfl (by rfl) DR.mg DR.kp DR.b .nil (pa_cons (pe_fld (pv 0) rfl) (pa_cons (pv 1) pa_nil))))
     (pssx_cons (psx_set (i:=5) scPe.nd rfl (Or.inl rfl) (pex_call GO (hr.mono (by decide)) rfl (by rfl) DO.mg DO.kp DO.b .nil (pa_cons (pe_callTy (call_listD rfl) (by rfl) T.list bt_list (pa_cons (pv 4) pa_nil)) (pa_cons (pv 2) (pa_cons (pv 3) pa_nil)))))
     (pssx_of (pss_one (ps_ret (pe_call GWi (hr.mono (by decide)) (by rfl) DWi.mg DWi.kp DWi.b .nil pass0 (pa_cons (pe_call GC (hr.mono (by decide)) (by rfl) DC.mg DC.kp DC.b .nil pass0 (pa_cons (pv 4) (pa_cons (pv 5) pa_nil))) (pa_cons (pv 2) (pa_cons (pv 3) pa_nil))))))))),?_⟩
   refine hidXN λ _ jt=>?_
   refine ⟨_,rfl,p,C,dx,_,_,rfl,h1,T.cl,T.nR,flds_r _ _,_,rfl,a,W,t,rfl,D.R.hd,ht,kN,λ x hx=>?_⟩
   have hm:=look_mem hx
   have rm:=D.R.rm _ hm
   refine jt _ _ (hidXN λ _ jt=>?_)
   refine ⟨_,rfl,x.1,_,rfl,rm.hd,by rw [dk_len]; exact hlr _ hm,λ l1 hl1=>?_⟩
   rw [keys_is]
   have s1:=same_new (X:=.lst ((keysR x.2).map V.int)) hl1
   refine ⟨_,rfl,_,rfl,l1,keysR x.2,ad,n,rfl,upd_same,hn,hf,hc,λ h H2 s2=>kP x hx h H2 (s1.trans s2),λ h H2 l2 s2 nl2 hl2=>?_⟩
   obtain ⟨c1,c2⟩:=cellPages_ok h
   have S2:=s1.trans s2
   have n0:0≤n:=Int.not_lt.mp λ z=>h (.inl z)
   refine jt _ _ ?_
   refine ⟨_,rfl,_,rfl,x.1,l2,x.2,cellPages ad n,rfl,rm.same S2,hl2,c1,λ q hq=>keys_look (c2 q hq),λ H3 l3 s3 nl3 hl3=>?_⟩
   refine ⟨_,rfl,_,rfl,l3,_,ad,n.toNat,by rw [Int.toNat_of_nonneg n0]; rfl,hl3,λ H4 l4 s4 nl4 hl4=>?_⟩
   exact kQ x hx h H4 l4 ((S2.trans s3).trans s4) ((S2.trans s3).free nl4) hl4
end
end Rm
namespace Rm
open PySem L2
theorem setA_keys {α:Type}(l:List (Int×α)) (k:Int) (a:α):(setA l k a).map (·.1)=l.map (·.1):=by
 unfold setA
 rw [List.map_map]
 apply List.map_congr_left
 intro x _
 show (if x.1=k then (k,a) else x).1=x.1
 by_cases e:x.1=k
 · rw [if_pos e,e]
 · rw [if_neg e]
theorem setA_mem {α:Type}{l:List (Int×α)}{k:Int}{a:α}{y:Int×α}(h:y∈setA l k a):y=(k,a)∨(y∈l∧y.1≠k):=by
 unfold setA at h
 obtain ⟨x,hx,e⟩:=List.mem_map.mp h
 by_cases z:x.1=k
 · rw [if_pos z] at e; exact .inl e.symm
 · rw [if_neg z] at e; rw [← e]; exact .inr ⟨hx,z⟩
theorem setA_addr {W:Rms}{t:Int}{r:Addr}{R R':Room}(nd:(W.map (·.1)).Nodup) (h:look W t=some (r,R)):(setA W t (r,R')).map (·.2.1)=W.map (·.2.1):=by
 unfold setA
 rw [List.map_map]
 apply List.map_congr_left
 intro x hx
 show (if x.1=t then (t,(r,R')) else x).2.1=x.2.1
 by_cases e:x.1=t
 · rw [if_pos e]
   have:look W x.1=some x.2:=look_some nd (by exact hx)
   rw [e,h] at this
   rw [← Option.some.inj this]
 · rw [if_neg e]
theorem RmsAt.setRoom {H H':Hp}{a r:Addr}{W:Rms}{t:Int}{R R':Room}(D:RmsAt H a W) (h:look W t=some (r,R)) (o:Off (· = r) H H') (rm:RoomAt H' r R'):RmsAt H' a (setA W t (r,R')):=by
 have hm:=look_mem h
 have hr:H r=some (.dK (kvP R)):=(D.rm _ hm).hd
 refine ⟨?_,λ y hy=>?_,by rw [setA_keys]; exact D.nd,by rw [setA_addr D.nd h]; exact D.sp,λ y hy=>?_⟩
 · have e1:=o _ _ D.hd (Ne.symm (D.ne _ hm))
   rw [e1]
   congr 2
   unfold kvR dk setA
   rw [List.map_map]
   apply List.map_congr_left
   intro x hx
   show ((Sum.inl x.1:Key),fR x.2)=((Sum.inl (if x.1=t then (t,(r,R')) else x).1:Key),fR (if x.1=t then (t,(r,R')) else x).2)
   by_cases e:x.1=t
   · have:look W x.1=some x.2:=look_some D.nd hx
     rw [e,h] at this
     have e2:x.2=(r,R):=(Option.some.inj this).symm
     rw [if_pos e,e,e2]
     rfl
   · rw [if_neg e]
 · rcases setA_mem hy with e | ⟨hy',ny⟩
   · rw [e]; exact rm
   · refine (D.rm y hy').off o (λ z=>?_) (λ b xs hb z=>?_)
     · apply ny
       have hp:y=(t,r,R):=by
         have n1:=D.sp
         obtain ⟨i,hi,ei⟩:=List.mem_iff_getElem.mp hy'
         obtain ⟨j,hj,ej⟩:=List.mem_iff_getElem.mp hm
         have:i=j:=by
           have q1:(W.map (·.2.1))[i]'(by rw [List.length_map]; exact hi)=(W.map (·.2.1))[j]'(by rw [List.length_map]; exact hj):=by
             rw [List.getElem_map,List.getElem_map,ei,ej]; exact z
           exact (List.getElem_inj n1).mp q1
         subst this
         rw [← ei,ej]
       rw [hp]
     · rw [z,hr] at hb; cases hb
 · rcases setA_mem hy with e | ⟨hy',_⟩
   · rw [e]
     show r≠a
     exact D.ne _ hm
   · exact D.ne y hy'
theorem PRAt.setRoom {C:Addr}{H H':Hp}{p a r:Addr}{tot t:Int}{W:Rms}{R R':Room}(D:PRAt C H p a tot W) (h:look W t=some (r,R)) (o:Off (· = r) H H') (rm:RoomAt H' r R'):PRAt C H' p a tot (setA W t (r,R')):=by
 obtain ⟨dx,h1⟩:=D.ob
 have hr:H r=some (.dK (kvP R)):=(D.R.rm _ (look_mem h)).hd
 exact ⟨⟨dx,o _ _ h1 (Ne.symm (dk_ne_ins hr h1))⟩,D.R.setRoom h o rm⟩
def dropAll (R:Room) (ps:List Int):Room:=ps.foldl delA R
def spDrop (C CN CP:Addr):Sp:=λ vs H Q E => ∃ (p a:Addr) (tot t pg m:Int) (W:Rms),vs=[.ref p,.int t,.int pg,.int m]∧PRAt C H p a tot W∧t.natAbs.log2 < 1920∧pg.natAbs.log2 < 1920∧m.natAbs.log2 < 1920∧(∀ x∈W,x.2.2.length≤1000) ∧
 (look W t=none→E (.ref CN) none H)∧(∀ x,look W t=some x→(noPages pg m∨¬ ∀ q∈pagesL pg m,q∈keysR x.2)→∀ H',Same H H'→E (.ref CP) none H') ∧
 (∀ x,look W t=some x→¬ noPages pg m→(∀ q∈pagesL pg m,q∈keysR x.2)→∀ H',PRAt C H' p a tot (setA W t (x.1,dropAll x.2 (pagesL pg m)))→Off (· = x.1) H H'→Q .non H')
theorem pages_nodup (p m:Int):(pagesL p m).Nodup:=by
 unfold pagesL
 refine List.Pairwise.map _ (λ a b (h:a≠b)=>?_) List.nodup_range
 lia
theorem look_del {R:Room}{k q:Int}(h:q≠k):look (delA R k) q=look R q:=by
 induction R with
 | nil=>rfl
 | cons x R ih =>
   unfold delA at ih ⊢
   rw [List.filter_cons]
   by_cases e:x.1=k
   · rw [if_neg (by simp [e]),ih,look_cons,if_neg (λ z=>h (z.symm.trans e))]
   · rw [if_pos (by simp [e]),look_cons,look_cons,ih]
theorem RoomAt.del {H:Hp}{r:Addr}{R:Room}{k:Int}(rm:RoomAt H r R):RoomAt (L2.upd H r (.dK (kvP (delA R k)))) r (delA R k):=by
 have sub:∀ y∈delA R k,y∈R:=λ y hy=>(List.mem_filter.mp hy).1
 exact ⟨upd_same,λ y hy=>⟨by rw [upd_ne (Ne.symm (dk_ne_lst rm.hd (rm.hr y (sub y hy)).1))]; exact (rm.hr y (sub y hy)).1,(rm.hr y (sub y hy)).2⟩,rm.nd.sublist (List.Sublist.map _ List.filter_sublist),λ y hy=>rm.rg y (sub y hy)⟩
section
variable {P:Program}{w:World}{K:PySem.W.Frag}{mg:Str→Option Value}{base:Heap}
theorem scDr:FnScope ["self","task","page","many","room","pages","dropped"] ["self","task","page","many"] (defScope sDrop):=⟨rfl,rfl,rfl,by decide +kernel,rfl,by decide +kernel,by decide +kernel⟩
theorem ok_drop {f C CN CP fR' fD:Addr}{fd dR dD:FuncData}(F:Fun K "drop" "PlainRooms.drop" sDrop f fd) (T:Txt K mg C)
   (GR:FnOk P w K mg base (CXO P w) 1 fR' dR ["rooms","task"] (spRoomOf CN)) (DR:Def K mg "room_of" fR' dR ["rooms","task"])
   (GD:FnOk P w K mg base (CXO P w) 2 fD dD ["mapped","page","many"] (spToDrop CP)) (DD:Def K mg "pages_to_drop" fD dD ["mapped","page","many"]):FnOk P w K mg base (CXO P w) 3 f fd ["self","task","page","many"] (spDrop C CN CP):=by
 refine F.okx scDr (λ vs H Q E h=>?_) (λ cdv A outer s H vs Q E hr h=>?_)
 · obtain ⟨p,a,tot,t,pg,m,W,rfl,_⟩:=h
   rfl
 · obtain ⟨p,a,tot,t,pg,m,W,rfl,D,ht,hpg,hmm,hlr,kN,kP,kQ⟩:=h
   obtain ⟨dx,h1⟩:=id D.ob
   refine ⟨_,(pssx_cons (psx_set (i:=4) scDr.nd rfl (Or.inl rfl) (pex_call GR (hr.mono (by decide)) rfl (by rfl) DR.mg DR.kp DR.b .nil (pa_cons (pe_fld (pv 0) rfl) (pa_cons (pv 1) pa_nil))))
     (pssx_cons (psx_set (i:=5) scDr.nd rfl (Or.inl rfl) (pex_call GD (hr.mono (by decide)) rfl (by rfl) DD.mg DD.kp DD.b .nil (pa_cons (pe_callTy (call_listD rfl) (by rfl) T.list bt_list (pa_cons (pv 4) pa_nil)) (pa_cons (pv 2) (pa_cons (pv 3) pa_nil)))))
     (pssx_of (pss_one (ps_for PassesOwn.never rfl (pi_list (pv 5)) (pg_name (i:=6) scDr.nd rfl (Or.inl rfl)) (pss_one (ps_expr (pe_dpop1 (pv 4) (pv 6) ⟨rfl,rfl,rfl,rfl⟩)))))))),?_⟩
   refine hidXN λ _ jt=>?_
   refine ⟨_,rfl,p,C,dx,_,_,rfl,h1,T.cl,T.nR,flds_r _ _,_,rfl,a,W,t,rfl,D.R.hd,ht,kN,λ x hx=>?_⟩
   have hm:=look_mem hx
   have rm:=D.R.rm _ hm
   refine jt _ _ (hidXN λ _ jt=>?_)
   refine ⟨_,rfl,x.1,_,rfl,rm.hd,by rw [dk_len]; exact hlr _ hm,λ l1 hl1=>?_⟩
   rw [keys_is]
   have s1:=same_new (X:=.lst ((keysR x.2).map V.int)) hl1
   refine ⟨_,rfl,_,rfl,l1,keysR x.2,pg,m,rfl,upd_same,hpg,hmm,λ h H2 s2=>kP x hx h H2 (s1.trans s2),λ h hin H2 l2 s2 nl2 hl2=>?_⟩
   have S2:=s1.trans s2
   refine jt _ _ (hidF λ _ jb=>?_)
   refine ⟨_,rfl,l2,rfl,⟨_,SqL.of hl2⟩,?_⟩
   refine for_list (K:=K) (a:=l2) (xs:=(pagesL pg m).map V.int) (λ i σ H3 => ∃ v6:Option V,σ=[some (.ref p),some (.int t),some (.int pg),some (.int m),some (.ref x.1),some (.ref l2),v6]∧RoomAt H3 x.1 (dropAll x.2 ((pagesL pg m).take i))∧Off (· = x.1) H2 H3∧(∀ q∈(pagesL pg m).drop i,∃ y,look (dropAll x.2 ((pagesL pg m).take i)) q=some y))
     ⟨_,rfl,rm.same S2,(λ b o e _=>e),λ q hq=>keys_look (hin q hq)⟩ (λ i σ H3 _ z0=>by obtain ⟨_,_,_,o3,_⟩:=z0; exact SqL.of (o3 _ _ hl2 (Ne.symm (dk_ne_lst (rm.same S2).hd hl2)))) ?_ ?_
   · rintro i y σ H3 hy ⟨v6,rfl,r3,o3,hl3⟩
     rw [List.getElem?_map] at hy
     obtain ⟨q,hq,rfl⟩:=Option.map_eq_some_iff.mp hy
     have hi:=(List.getElem?_eq_some_iff.mp hq).1
     have edr:(pagesL pg m).drop i=q :: (pagesL pg m).drop (i + 1):=by
       rw [List.drop_eq_getElem_cons hi,(List.getElem?_eq_some_iff.mp hq).2]
     obtain ⟨z,hz⟩:=hl3 q (by rw [edr]; exact List.mem_cons_self ..)
     have eta:(pagesL pg m).take (i + 1)=(pagesL pg m).take i ++ [q]:=by rw [List.take_add_one,hq]; rfl
     have edd:dropAll x.2 ((pagesL pg m).take (i + 1))=delA (dropAll x.2 ((pagesL pg m).take i)) q:=by
       unfold dropAll
       rw [eta,List.foldl_append]
       rfl
     have ndq:((pagesL pg m).drop i).Nodup:=(pages_nodup pg m).sublist (List.drop_sublist _ _)
     rw [edr] at ndq
     refine jb _ _ _ ?_
     refine ⟨_,rfl,x.1,rfl,.inl ⟨_,.inl r3.hd⟩,_,rfl,_,Sum.inl q,fP z,r3.hd,rfl,by rw [valV_dk,hz]; rfl,?_⟩
     rw [dropK_dk]
     refine ⟨_,rfl,by rw [edd]; exact r3.del,λ b o e nb=>by rw [upd_ne nb]; exact o3 _ _ e nb,λ q' hq'=>?_⟩
     rw [edd,look_del (λ z=>(List.nodup_cons.mp ndq).1 (by rw [← z]; exact hq'))]
     exact hl3 q' (by rw [edr]; exact List.mem_cons_of_mem _ hq')
   · rintro σ H3 ⟨v6,rfl,r3,o3,_⟩
     rw [List.length_map,List.take_length] at r3
     have O3:Off (· = x.1) H H3:=λ b o e nb=>o3 _ _ (S2 _ _ e) nb
     exact kQ x hx h hin H3 (D.setRoom hx O3 r3) O3
end
end Rm
namespace Rm
open PySem L2
theorem rep1 {α:Type}(x:α) (n:Nat):(List.replicate n [x]).flatten=List.replicate n x:=by
 induction n with
 | zero=>rfl
 | succ n ih=>rw [List.replicate_succ,List.flatten_cons,ih,List.replicate_succ]; rfl
def z8:List Int:=List.replicate 8 0
def spMap (C CN CP CT CR:Addr):Sp:=λ vs H Q E => ∃ (p a:Addr) (tot t pg m:Int) (W:Rms),vs=[.ref p,.int t,.int pg,.int m]∧PRAt C H p a tot W∧t.natAbs.log2 < 1920∧pg.natAbs.log2 < 1920∧m.natAbs.log2 < 1920∧W.length≤1000∧(∀ x∈W,x.2.2.length≤64)∧tot.natAbs.log2 < 1920 ∧
 (look W t=none→E (.ref CN) none H)∧(∀ x,look W t=some x→noPages pg m→∀ H',Same H H'→E (.ref CP) none H')∧(∀ x,look W t=some x→¬ noPages pg m→(∃ q∈pagesL pg m,q∈keysR x.2)→∀ H',Same H H'→E (.ref CT) none H') ∧
 (∀ x,look W t=some x→¬ noPages pg m→(∀ q∈pagesL pg m,¬ q∈keysR x.2)→tot < heldW W + m→∀ H',Same H H'→E (.ref CR) none H') ∧
 (∀ x,look W t=some x→¬ noPages pg m→(∀ q∈pagesL pg m,¬ q∈keysR x.2)→¬ tot < heldW W + m→∀ (H':Hp) (N:Room),N.map (·.1)=pagesL pg m→(∀ y∈N,y.2.2=z8∧H y.2.1=none)→PRAt C H' p a tot (setA W t (x.1,x.2 ++ N))→Off (· = x.1) H H'→Q .non H')
theorem held_le {W:Rms}(h:∀ x∈W,x.2.2.length≤64):0≤heldW W∧heldW W≤64 * W.length:=by
 unfold heldW
 induction W with
 | nil=>exact ⟨Int.le_refl _,Int.le_refl _⟩
 | cons x W ih =>
   have h1:=h x (List.mem_cons_self ..)
   obtain ⟨i1,i2⟩:=ih λ y hy=>h y (List.mem_cons_of_mem _ hy)
   rw [List.map_cons,List.sum_cons,List.length_cons]
   push_cast
   lia
theorem small_log {n:Int}(h1 : -100000≤n) (h2:n≤100000):n.natAbs.log2 < 1920:=by
 by_cases z:n.natAbs=0
 · rw [z]; decide
 · rw [Nat.log2_lt z]
   have h3:n.natAbs≤100000:=by lia
   have h4:(100000:Nat) < 2 ^ 1920:=by decide +kernel
   lia
theorem RoomAt.add {H:Hp}{r c:Addr}{R:Room}{q:Int}{row:List Int}(rm:RoomAt H r R) (hc:H c=some (.lst (row.map V.int))) (h8:row.length=8) (hq:look R q=none) (q0:0≤q) (q1:q < 64):RoomAt (L2.upd H r (.dK (kvP (R ++ [(q,c,row)])))) r (R ++ [(q,c,row)]):=by
 refine ⟨upd_same,λ y hy=>?_,?_,λ y hy=>?_⟩
 · rcases List.mem_append.mp hy with hy | hy
   · exact ⟨by rw [upd_ne (Ne.symm (dk_ne_lst rm.hd (rm.hr y hy).1))]; exact (rm.hr y hy).1,(rm.hr y hy).2⟩
   · rw [List.mem_singleton.mp hy]
     exact ⟨by rw [upd_ne (Ne.symm (dk_ne_lst rm.hd hc))]; exact hc,h8⟩
 · rw [List.map_append]
   exact List.nodup_append.mpr ⟨rm.nd,List.nodup_cons.mpr ⟨by simp,List.nodup_nil⟩,λ x hx y hy=>by
     have:y=q:=by simpa using hy
     rw [this]
     rintro rfl
     exact look_none hq hx⟩
 · rcases List.mem_append.mp hy with hy | hy
   · exact rm.rg y hy
   · rw [List.mem_singleton.mp hy]; exact ⟨q0,q1⟩
theorem look_not {α:Type}{l:List (Int×α)}{k:Int}(h:¬ k∈l.map (·.1)):look l k=none:=by
 cases e:look l k with
 | none=>rfl
 | some x=>exact absurd (List.mem_map.mpr ⟨_,look_mem e,rfl⟩) h
section
variable {P:Program}{w:World}{K:PySem.W.Frag}{mg:Str→Option Value}{base:Heap}
theorem scMp:FnScope ["self","task","page","many","room","pages","wanted"] ["self","task","page","many"] (defScope sMap):=⟨rfl,rfl,rfl,by decide +kernel,rfl,by decide +kernel,by decide +kernel⟩
set_option maxHeartbeats 4000000 in
theorem ok_map {f C CN CP CT CR fR' fM fA fH:Addr}{fd dR dM dA dH:FuncData}(F:Fun K "map" "PlainRooms.map" sMap f fd) (T:Txt K mg C) (TS:STxt mg)
   (GR:FnOk P w K mg base (CXO P w) 1 fR' dR ["rooms","task"] (spRoomOf CN)) (DR:Def K mg "room_of" fR' dR ["rooms","task"])
   (GM:FnOk P w K mg base (CXO P w) 2 fM dM ["mapped","page","many"] (spToMap CP CT)) (DM:Def K mg "pages_to_map" fM dM ["mapped","page","many"])
   (GA:FnOk P w K mg base (CXO P w) 1 fA dA ["held","total"] (spAbove CR)) (DA:Def K mg "refuse_above" fA dA ["held","total"])
   (GH:FnOk P w K mg base CX0 1 fH dH ["self"] (spHeld C)) (bH:Binds K dH ["self"] []) (mH:Meth K C "held" fH):FnOk P w K mg base (CXO P w) 3 f fd ["self","task","page","many"] (spMap C CN CP CT CR):=by
 obtain ⟨u8,m8,r8⟩:=TS.cells
 refine F.okx scMp (λ vs H Q E h=>?_) (λ cdv A outer s H vs Q E hr h=>?_)
 · obtain ⟨p,a,tot,t,pg,m,W,rfl,_⟩:=h
   rfl
 · obtain ⟨p,a,tot,t,pg,m,W,rfl,D,ht,hpg,hmm,lw,hlr,htot,kN,kP,kT,kR,kQ⟩:=h
   have hs:sizeLine=16777216:=sizeLine_eq
   obtain ⟨dx,h1⟩:=id D.ob
   have nHeld:(flds tot a).lookup ("held" : Str)=none:=flds_no _ _ (by decide +kernel) (by decide +kernel)
   refine ⟨_,(pssx_cons (psx_set (i:=4) scMp.nd rfl (Or.inl rfl) (pex_call GR (hr.mono (by decide)) rfl (by rfl) DR.mg DR.kp DR.b .nil (pa_cons (pe_fld (pv 0) rfl) (pa_cons (pv 1) pa_nil))))
     (pssx_cons (psx_set (i:=5) scMp.nd rfl (Or.inl rfl) (pex_call GM (hr.mono (by decide)) rfl (by rfl) DM.mg DM.kp DM.b .nil (pa_cons (pe_callTy (call_listD rfl) (by rfl) T.list bt_list (pa_cons (pv 4) pa_nil)) (pa_cons (pv 2) (pa_cons (pv 3) pa_nil)))))
     (pssx_cons (psx_expr (pex_call GA (hr.mono (by decide)) rfl (by rfl) DA.mg DA.kp DA.b .nil (pa_cons (pe_op op_add (pe_meth0 (pv 0) T.cl mH GH (hr.mono (by decide)) bH .nil pass0) (pe_callB call_len_seq (by rfl) T.len PySem.boot_len (pa_cons (pv 5) pa_nil))) (pa_cons (pe_fld (pv 0) rfl) pa_nil))))
     (pssx_of (pss_one (ps_for PassesOwn.never rfl (pi_list (pv 5)) (pg_name (i:=6) scMp.nd rfl (Or.inl rfl)) (pss_one (ps_dput (hu_of hr) (pv 4) (pv 6) (pe_op op_rep (pe_lst (pa_cons pe_int pa_nil)) (pe_glob (by rfl) m8 r8)) rfl)))))))),?_⟩
   refine hidXN λ _ jt=>?_
   refine ⟨_,rfl,p,C,dx,_,_,rfl,h1,T.cl,T.nR,flds_r _ _,_,rfl,a,W,t,rfl,D.R.hd,ht,kN,λ x hx=>?_⟩
   have hm:=look_mem hx
   have rm:=D.R.rm _ hm
   refine jt _ _ (hidXN λ _ jt=>?_)
   refine ⟨_,rfl,x.1,_,rfl,rm.hd,by rw [dk_len]; have:=hlr _ hm; have e:x.2.length≤64:=this; lia,λ l1 hl1=>?_⟩
   rw [keys_is]
   have s1:=same_new (X:=.lst ((keysR x.2).map V.int)) hl1
   refine ⟨_,rfl,_,rfl,l1,keysR x.2,pg,m,rfl,upd_same,hpg,hmm,λ h H2 s2=>kP x hx h H2 (s1.trans s2),λ h h' H2 s2=>kT x hx h h' H2 (s1.trans s2),λ h hin H2 l2 s2 nl2 hl2=>?_⟩
   have S2:=s1.trans s2
   have lp:(pagesL pg m).length=m.toNat:=by unfold pagesL; rw [List.length_map,List.length_range]
   have m1:¬ m < 1:=λ z=>h (.inl z)
   have m2:¬ pg < 0:=λ z=>h (.inr (.inl z))
   have m3:¬ 64 < pg + m:=λ z=>h (.inr (.inr z))
   obtain ⟨hw0,hw1⟩:=held_le hlr
   have D2:=D.same S2
   refine jt _ _ (hidXD λ _ jt=>?_)
   refine ⟨_,rfl,p,dx,_,rfl,S2 _ _ h1,nHeld,p,a,tot,W,rfl,D2,lw,λ H3 s3=>?_⟩
   have S3:=S2.trans s3
   refine ⟨_,rfl,l2,_,rfl,.inl (SqL.of (s3 _ _ hl2)),_,_,rfl,rfl,_,rfl,p,C,dx,_,_,rfl,S3 _ _ h1,T.cl,T.nT,flds_t _ _,heldW W + m,tot,?_,small_log (by lia) (by lia),htot,λ z=>kR x hx h hin z H3 S3,λ z=>?_⟩
   · show [V.int (heldW W + (((pagesL pg m).map V.int).length:Nat)),V.int tot]=_
     rw [List.length_map,lp,Int.toNat_of_nonneg (by lia)]
   · have rm3:=rm.same S3
     have hl3:=s3 _ _ hl2
     refine jt _ _ (hidF λ _ jb=>?_)
     refine ⟨_,rfl,l2,rfl,⟨_,SqL.of hl3⟩,?_⟩
     refine for_list (K:=K) (a:=l2) (xs:=(pagesL pg m).map V.int) (λ i σ H4 => ∃ (v6:Option V) (N:Room),σ=[some (.ref p),some (.int t),some (.int pg),some (.int m),some (.ref x.1),some (.ref l2),v6]∧RoomAt H4 x.1 (x.2 ++ N)∧N.map (·.1)=(pagesL pg m).take i∧(∀ y∈N,y.2.2=z8∧H y.2.1=none)∧Off (· = x.1) H3 H4)
       ⟨_,[],rfl,by rw [List.append_nil]; exact rm3,rfl,(λ _ h=>nomatch h),λ b o e _=>e⟩ (λ i σ H4 _ z0=>by obtain ⟨_,_,_,_,_,_,o4⟩:=z0; exact SqL.of (o4 _ _ hl3 (Ne.symm (dk_ne_lst rm3.hd hl3)))) ?_ ?_
     · rintro i y σ H4 hy ⟨v6,N,rfl,r4,hN,hz,o4⟩
       rw [List.getElem?_map] at hy
       obtain ⟨q,hq,rfl⟩:=Option.map_eq_some_iff.mp hy
       have hqm:=List.mem_of_getElem? hq
       obtain ⟨q0,q1,_⟩:=pages_log h q hqm
       have hi:=(List.getElem?_eq_some_iff.mp hq).1
       have hlN:N.length=i:=by
         have:=congrArg List.length hN
         rw [List.length_map,List.length_take] at this
         lia
       have hqn:look (x.2 ++ N) q=none:=look_not λ z=>by
         rw [List.map_append] at z
         rcases List.mem_append.mp z with z | z
         · exact hin q hqm z
         · rw [hN] at z
           obtain ⟨j,hj,ej⟩:=List.mem_iff_getElem.mp z
           rw [List.length_take] at hj
           rw [List.getElem_take] at ej
           have:=(List.getElem_inj (pages_nodup pg m)).mp (ej.trans (List.getElem?_eq_some_iff.mp hq).2.symm)
           lia
       refine jb _ _ _ ?_
       refine ⟨by decide,λ z1 hz1=>⟨z1,8,_,rfl,rfl,upd_same,by lia,by lia,by rw [List.length_singleton]; lia,λ z2 hz2=>?_⟩⟩
       rw [rep1 (V.int 0)]
       have sz:=(same_new (X:=.lst [V.int 0]) hz1).trans (same_new (X:=.lst (List.replicate ((8:Int)).toNat (V.int 0))) hz2)
       have ez:(upd (upd H4 z1 (.lst [V.int 0])) z2 (.lst (List.replicate ((8:Int)).toNat (V.int 0)))) z2=some (.lst (z8.map V.int)):=by rw [upd_same]; unfold z8; rw [List.map_replicate]; rfl
       have n2:H z2=none:=by
         cases e:H z2 with
         | none=>rfl
         | some u =>
           have hz2':=(same_new (X:=.lst [V.int 0]) hz1).free hz2
           by_cases e2:z2=x.1
           · rw [e2,r4.hd] at hz2'; cases hz2'
           · rw [o4 _ _ (S3 _ _ e) e2] at hz2'; cases hz2'
       generalize upd (upd H4 z1 (.lst [V.int 0])) z2 (.lst (List.replicate ((8:Int)).toNat (V.int 0)))=H5 at *
       have r5:=r4.same sz
       have hlx:x.2.length≤64:=hlr _ hm
       refine ⟨_,rfl,_,rfl,x.1,_,rfl,DPut.k (k:=Sum.inl q) r5.hd (by rw [dk_len,List.length_append]; lia),?_⟩
       rw [show (V.ref z2)=fP (z2,z8) from rfl,putK_new' hqn]
       refine ⟨_,N ++ [(q,z2,z8)],rfl,by rw [← List.append_assoc]; exact r5.add ez rfl hqn q0 q1,?_,λ y hy=>?_,λ b o e nb=>by rw [upd_ne nb]; exact sz _ _ (o4 _ _ e nb)⟩
       · rw [List.map_append,hN,List.take_add_one,hq]
         rfl
       · rcases List.mem_append.mp hy with hy | hy
         · exact hz y hy
         · rw [List.mem_singleton.mp hy]; exact ⟨rfl,n2⟩
     · rintro σ H4 ⟨v6,N,rfl,r4,hN,hz,o4⟩
       rw [List.length_map,List.take_length] at hN
       have O4:Off (· = x.1) H H4:=λ b o e nb=>o4 _ _ (S3 _ _ e) nb
       exact kQ x hx h hin z H4 N hN hz (D.setRoom hx O4 r4) O4
end
end Rm
namespace Rm
open PySem L2
def con (R:Room):List (Int×List Int):=R.map λ x=>(x.1,x.2.2)
def setAll (c:List (Int×List Int)) (ps:List Int) (rows:List (List Int)):List (Int×List Int):=(ps.zip rows).foldl (λ c x=>setA c x.1 x.2) c
def pokeC (R:Room) (ad:Int) (cs:List Int):List (Int×List Int):=setAll (con R) (cellPages ad cs.length) (chunks (cellPages ad cs.length).length (splice (cellsOf R (cellPages ad cs.length)) (ad % 8).toNat cs))
def spPoke (K:PySem.W.Frag) (C CN CP:Addr):Sp:=λ vs H Q E => ∃ (p a c:Addr) (tot t ad:Int) (cs:List Int) (W:Rms),vs=[.ref p,.int t,.int ad,.ref c]∧PRAt C H p a tot W∧SqL K H c (cs.map V.int)∧cs.length≤500∧t.natAbs.log2 < 1920∧(cFst ad).natAbs.log2 < 1920∧(cCnt ad cs.length).natAbs.log2 < 1920∧(∀ x∈W,x.2.2.length≤1000) ∧
 (look W t=none→E (.ref CN) none H)∧(∀ x,look W t=some x→badCells ad cs.length (keysR x.2)→∀ H',Same H H'→E (.ref CP) none H') ∧
 (∀ x,look W t=some x→¬ badCells ad cs.length (keysR x.2)→∀ (H':Hp) (R':Room),con R'=pokeC x.2 ad cs→(∀ y∈R',y∈x.2∨H y.2.1=none)→PRAt C H' p a tot (setA W t (x.1,R'))→Off (· = x.1) H H'→Q .non H')
theorem cells_len {H:Hp}{a:Addr}{R:Room}(rm:RoomAt H a R):∀ {ps:List Int},(∀ q∈ps,∃ x,look R q=some x)→(cellsOf R ps).length=8 * ps.length
 | [],_=>rfl
 | q :: ps,h=>by
   obtain ⟨x,hx⟩:=h q (List.mem_cons_self ..)
   have ih:=cells_len rm (ps:=ps) λ y hy=>h y (List.mem_cons_of_mem _ hy)
   unfold cellsOf at ih ⊢
   rw [List.map_cons,List.flatten_cons,List.length_append,ih,hx,List.length_cons]
   have:x.2.length=8:=(rm.hr (q,x) (look_mem hx)).2
   simp only [Option.map_some,Option.getD_some]
   lia
theorem splice_len {ad:Int}{cs ws:List Int}{ms:List Int}(h:¬ badCells ad cs.length ms) (hw:ws.length=8 * (cellPages ad cs.length).length):(splice ws (ad % 8).toNat cs).length=8 * (cellPages ad cs.length).length:=by
 unfold splice
 rw [List.length_append,List.length_append,List.length_take,List.length_drop]
 by_cases e:((cs.length:Nat):Int)=0
 · have:cellPages ad cs.length=[]:=by unfold cellPages; rw [if_pos e]
   rw [this] at hw ⊢
   have h0:ws.length=0:=hw
   have c0:cs.length=0:=by lia
   rw [h0,c0]
   simp
 · have hp:(cellPages ad cs.length).length=(cCnt ad cs.length).toNat:=by
     unfold cellPages
     rw [if_neg e]
     unfold pagesL
     rw [List.length_map,List.length_range]
   have hn:0 < ((cs.length:Nat):Int):=by lia
   have h1:¬ noPages (cFst ad) (cCnt ad cs.length):=λ z=>h (.inr ⟨hn,.inl z⟩)
   have h2:¬ cCnt ad cs.length < 1:=λ z=>h1 (.inl z)
   rw [hp] at hw ⊢
   unfold cCnt at *
   lia
theorem con_set {R:Room}{q:Int}{c:Addr}{row:List Int}:con (setA R q (c,row))=setA (con R) q row:=by
 unfold con setA
 rw [List.map_map,List.map_map]
 apply List.map_congr_left
 intro x _
 show ((if x.1=q then (q,(c,row)) else x).1,(if x.1=q then (q,(c,row)) else x).2.2)=if x.1=q then (q,row) else (x.1,x.2.2)
 by_cases e:x.1=q
 · rw [if_pos e,if_pos e]
 · rw [if_neg e,if_neg e]
theorem RoomAt.put {H:Hp}{r c:Addr}{R:Room}{q:Int}{row:List Int}(rm:RoomAt H r R) (hc:H c=some (.lst (row.map V.int))) (h8:row.length=8) (hq:∃ x,look R q=some x):RoomAt (L2.upd H r (.dK (kvP (setA R q (c,row))))) r (setA R q (c,row)):=by
 obtain ⟨x,hx⟩:=hq
 refine ⟨upd_same,λ y hy=>?_,by rw [setA_keys]; exact rm.nd,λ y hy=>?_⟩
 · rcases setA_mem hy with e | ⟨hy',_⟩
   · rw [e]
     exact ⟨by rw [upd_ne (Ne.symm (dk_ne_lst rm.hd hc))]; exact hc,h8⟩
   · exact ⟨by rw [upd_ne (Ne.symm (dk_ne_lst rm.hd (rm.hr y hy').1))]; exact (rm.hr y hy').1,(rm.hr y hy').2⟩
 · rcases setA_mem hy with e | ⟨hy',_⟩
   · rw [e]; exact rm.rg (q,x) (look_mem hx)
   · exact rm.rg y hy'
theorem chunk8 {k:Nat}{ws:List Int}(h:ws.length=8 * k):∀ row∈chunks k ws,row.length=8:=by
 intro row hr
 unfold chunks at hr
 obtain ⟨i,hi,rfl⟩:=List.mem_map.mp hr
 have:=List.mem_range.mp hi
 rw [List.length_take,List.length_drop,h]
 lia
theorem setAll_keys {c:List (Int×List Int)}:∀ {ps:List Int}{rows:List (List Int)},(setAll c ps rows).map (·.1)=c.map (·.1):=by
 intro ps rows
 unfold setAll
 generalize ps.zip rows=l
 induction l generalizing c with
 | nil=>rfl
 | cons x l ih=>rw [List.foldl_cons,ih,setA_keys]
theorem paired_get {α β:Type}{F:α→β→Prop}{as:List α}{bs:List β}(h:Paired F as bs):∀ {i:Nat}{a:α},as[i]? = some a→∃ b,bs[i]? = some b∧F a b:=by
 induction h with
 | nil=>intro i a e; simp at e
 | cons h1 h2 ih =>
   intro i a e
   cases i with
   | zero=>simp at e; subst e; exact ⟨_,rfl,h1⟩
   | succ i=>simp at e; obtain ⟨b,q1,q2⟩:=ih e; exact ⟨b,by simpa using q1,q2⟩
theorem look_keys {R:Room}{q:Int}:(∃ x,look R q=some x)↔q∈keysR R:=⟨λ ⟨x,h⟩=>List.mem_map.mpr ⟨_,look_mem h,rfl⟩,keys_look⟩
section
variable {P:Program}{w:World}{K:PySem.W.Frag}{mg:Str→Option Value}{base:Heap}
theorem scPk:FnScope ["self","task","address","cells","room","pages","whole","page","changed"] ["self","task","address","cells"] (defScope sPoke):=⟨rfl,rfl,rfl,by decide +kernel,rfl,by decide +kernel,by decide +kernel⟩
set_option maxHeartbeats 4000000 in
theorem ok_poke {f C CN CP fR' fO fC' fWw:Addr}{fd dR dO dC dWw:FuncData}(F:Fun K "poke" "PlainRooms.poke" sPoke f fd) (T:Txt K mg C)
   (GR:FnOk P w K mg base (CXO P w) 1 fR' dR ["rooms","task"] (spRoomOf CN)) (DR:Def K mg "room_of" fR' dR ["rooms","task"])
   (GO:FnOk P w K mg base (CXO P w) 2 fO dO ["mapped","address","many"] (spOfCells CP)) (DO:Def K mg "pages_of_cells" fO dO ["mapped","address","many"])
   (GC:FnOk P w K mg base CX0 1 fC' dC ["room","pages"] spCells) (DC:Def K mg "cells_of_pages" fC' dC ["room","pages"])
   (GWw:FnOk P w K mg base CX0 1 fWw dWw ["whole","address","cells"] (spWith K)) (DWw:Def K mg "pages_with" fWw dWw ["whole","address","cells"]):FnOk P w K mg base (CXO P w) 3 f fd ["self","task","address","cells"] (spPoke K C CN CP):=by
 refine F.okx scPk (λ vs H Q E h=>?_) (λ cdv A outer s H vs Q E hr h=>?_)
 · obtain ⟨p,a,c,tot,t,ad,cs,W,rfl,_⟩:=h
   rfl
 · obtain ⟨p,a,c,tot,t,ad,cs,W,rfl,D,hc,lc,ht,hf,hcc,hlr,kN,kP,kQ⟩:=h
   have hs:sizeLine=16777216:=sizeLine_eq
   obtain ⟨dx,h1⟩:=id D.ob
   refine ⟨_,(pssx_cons (psx_set (i:=4) scPk.nd rfl (Or.inl rfl) (pex_call GR (hr.mono (by decide)) rfl (by rfl) DR.mg DR.kp DR.b .nil (pa_cons (pe_fld (pv 0) rfl) (pa_cons (pv 1) pa_nil))))
     (pssx_cons (psx_set (i:=5) scPk.nd rfl (Or.inl rfl) (pex_call GO (hr.mono (by decide)) rfl (by rfl) DO.mg DO.kp DO.b .nil (pa_cons (pe_callTy (call_listD rfl) (by rfl) T.list bt_list (pa_cons (pv 4) pa_nil)) (pa_cons (pv 2) (pa_cons (pe_callB call_len_seq (by rfl) T.len PySem.boot_len (pa_cons (pv 3) pa_nil)) pa_nil)))))
     (pssx_of (pss_cons (ps_set (i:=6) scPk.nd rfl (Or.inl rfl) (pe_call GC (hr.mono (by decide)) (by rfl) DC.mg DC.kp DC.b .nil pass0 (pa_cons (pv 4) (pa_cons (pv 5) pa_nil))))
     (pss_one (ps_for PassesOwn.never rfl (pi_zip (by rfl) T.zip (pa_cons (pv 5) (pa_cons (pe_call GWw (hr.mono (by decide)) (by rfl) DWw.mg DWw.kp DWw.b .nil pass0 (pa_cons (pv 6) (pa_cons (pv 2) (pa_cons (pv 3) pa_nil)))) pa_nil))) (pg_tup rfl (pgs_cons (pg_name (i:=7) scPk.nd rfl (Or.inl rfl)) (pgs_cons (pg_name (i:=8) scPk.nd rfl (Or.inl rfl)) pgs_nil))) (pss_one (ps_dput (hu_of hr) (pv 4) (pv 7) (pv 8) rfl)))))))),?_⟩
   refine hidXN λ _ jt=>?_
   refine ⟨_,rfl,p,C,dx,_,_,rfl,h1,T.cl,T.nR,flds_r _ _,_,rfl,a,W,t,rfl,D.R.hd,ht,kN,λ x hx=>?_⟩
   have hm:=look_mem hx
   have rm:=D.R.rm _ hm
   refine jt _ _ (hidXN λ _ jt=>?_)
   refine ⟨_,rfl,x.1,_,rfl,rm.hd,by rw [dk_len]; exact hlr _ hm,λ l1 hl1=>?_⟩
   rw [keys_is]
   have s1:=same_new (X:=.lst ((keysR x.2).map V.int)) hl1
   refine ⟨_,rfl,_,rfl,c,_,rfl,.inl (seq_keep hc (s1 _)),l1,keysR x.2,ad,cs.length,by rw [List.length_map]; rfl,upd_same,small_log (by lia) (by lia),hf,hcc,λ h H2 s2=>kP x hx h H2 (s1.trans s2),λ h H2 l2 s2 nl2 hl2=>?_⟩
   obtain ⟨c1,c2⟩:=cellPages_ok h
   have S2:=s1.trans s2
   have fnd:∀ q∈cellPages ad cs.length,∃ y,look x.2 q=some y:=λ q hq=>keys_look (c2 q hq)
   refine jt _ _ (hidN λ _ jt=>?_)
   refine ⟨_,rfl,_,rfl,x.1,l2,x.2,cellPages ad cs.length,rfl,rm.same S2,hl2,c1,fnd,λ H3 l3 s3 nl3 hl3=>?_⟩
   have S3:=S2.trans s3
   have lw:=cells_len rm fnd
   refine jt _ _ (hidF λ _ jb=>?_)
   refine ⟨_,rfl,_,rfl,_,rfl,_,rfl,l3,c,cellsOf x.2 (cellPages ad cs.length),cs,ad,(cellPages ad cs.length).length,rfl,hl3,seq_keep hc (S3 _),by rw [lw]; lia,by lia,c1,splice_len h lw,λ H4 l4 rs s4 nl4 hl4 hp4 hr4 nd4=>?_⟩
   have S4:=S3.trans s4
   have rm4:=rm.same S4
   have hl2':=(s3.trans s4) _ _ hl2
   have lrs:rs.length=(cellPages ad cs.length).length:=by
     rw [hp4.length]
     unfold chunks
     rw [List.length_map,List.length_range]
   generalize eC:chunks (cellPages ad cs.length).length (splice (cellsOf x.2 (cellPages ad cs.length)) (ad % 8).toNat cs)=ch at hp4
   have h8:∀ row∈ch,row.length=8:=by
     rw [← eC]
     exact chunk8 (splice_len h lw)
   refine ⟨l2,l4,rfl,⟨_,SqL.of hl2'⟩,⟨_,SqL.of hl4⟩,?_⟩
   refine for_zip (K:=K) (a:=l2) (b:=l4) (xs:=(cellPages ad cs.length).map V.int) (ys:=rs.map V.ref) (λ i σ H5 => ∃ (v7 v8:Option V) (R':Room),σ=[some (.ref p),some (.int t),some (.int ad),some (.ref c),some (.ref x.1),some (.ref l2),some (.ref l3),v7,v8]∧RoomAt H5 x.1 R'∧con R'=setAll (con x.2) ((cellPages ad cs.length).take i) (ch.take i)∧(∀ y∈R',y∈x.2∨H y.2.1=none)∧Off (· = x.1) H4 H5)
     ⟨_,_,x.2,rfl,rm4,rfl,λ y hy=>.inl hy,λ b o e _=>e⟩ (by rw [List.length_map,List.length_map,lrs]) (λ i σ H5 _ z0=>by obtain ⟨_,_,_,_,_,_,_,o5⟩:=z0; exact ⟨SqL.of (o5 _ _ hl2' (Ne.symm (dk_ne_lst rm4.hd hl2'))),SqL.of (o5 _ _ hl4 (Ne.symm (dk_ne_lst rm4.hd hl4)))⟩) ?_ ?_
   · rintro i u v σ H5 z hu hv hz ⟨v7,v8,R',rfl,r5,hc5,hf5,o5⟩
     rw [List.getElem?_map] at hu hv
     obtain ⟨q,hq,rfl⟩:=Option.map_eq_some_iff.mp hu
     obtain ⟨r,hr',rfl⟩:=Option.map_eq_some_iff.mp hv
     have hrl:r∈rs:=List.mem_of_getElem? hr'
     have hqm:=List.mem_of_getElem? hq
     obtain ⟨row,hrow,hra⟩:=paired_get hp4 hr'
     have hr8:=h8 row (List.mem_of_getElem? hrow)
     have sT:=same_new (X:=.tup [.int q,.ref r]) hz
     have r6:=r5.same sT
     have hra5:H5 r=some (.lst (row.map V.int)):=o5 _ _ hra (Ne.symm (dk_ne_lst rm4.hd hra))
     have hra6:=sT _ _ hra5
     have hke:(keysR R')=keysR x.2:=by
       have e1:(con R').map (·.1)=(con x.2).map (·.1):=by rw [hc5,setAll_keys]
       unfold con at e1
       rw [List.map_map,List.map_map] at e1
       exact e1
     have hq6:∃ y,look R' q=some y:=look_keys.mpr (by rw [hke]; exact c2 q hqm)
     obtain ⟨y,hy⟩:=hq6
     refine ⟨z,[.int q,.ref r],rfl,SqT.of upd_same,rfl,.int q,[.ref r],rfl,.ref r,[],rfl,rfl,?_⟩
     generalize upd H5 z (.tup [.int q,.ref r])=H6 at *
     refine jb _ _ _ ?_
     refine ⟨_,rfl,_,rfl,_,rfl,x.1,_,rfl,DPut.k (k:=Sum.inl q) r6.hd (by rw [dk_len]; have:=congrArg List.length hke; unfold keysR at this; rw [List.length_map,List.length_map] at this; rw [this]; have:=hlr _ hm; have e:x.2.length≤1000:=this; lia),?_⟩
     rw [show (V.ref r)=fP (r,row) from rfl,putK_old hy]
     refine ⟨_,_,_,rfl,r6.put hra6 hr8 ⟨y,hy⟩,?_,λ y hy=>?_,λ b o e nb=>by rw [upd_ne nb]; exact sT _ _ (o5 _ _ e nb)⟩
     · rw [con_set,hc5]
       unfold setAll
       rw [List.take_add_one,List.take_add_one,hq,hrow,List.zip_append (by rw [List.length_take,List.length_take, ← hp4.length,lrs]),List.foldl_append]
       rfl
     · rcases setA_mem hy with e | ⟨hy',_⟩
       · rw [e]; exact .inr (S3.free (hr4 r hrl))
       · exact hf5 y hy'
   · rintro σ H5 ⟨v7,v8,R',rfl,r5,hc5,hf5,o5⟩
     rw [List.length_map,List.take_length] at hc5
     have lch:ch.length=(cellPages ad cs.length).length:=by rw [← hp4.length,lrs]
     rw [← lch,List.take_length, ← eC] at hc5
     have O5:Off (· = x.1) H H5:=λ b o e nb=>o5 _ _ (S4 _ _ e) nb
     exact kQ x hx h H5 R' hc5 hf5 (D.setRoom hx O5 r5) O5
end
end Rm
namespace Rm
open PySem L2
def spCopy (C CN CT CR:Addr):Sp:=λ vs H Q E => ∃ (p a:Addr) (tot t o:Int) (W:Rms),vs=[.ref p,.int t,.int o]∧PRAt C H p a tot W∧t.natAbs.log2 < 1920∧o.natAbs.log2 < 1920∧W.length≤1000∧(∀ x∈W,x.2.2.length≤64)∧tot.natAbs.log2 < 1920 ∧
 (look W t=none→E (.ref CN) none H)∧(∀ x,look W t=some x→(∃ y,look W o=some y)→E (.ref CT) none H) ∧
 (∀ x,look W t=some x→look W o=none→tot < heldW W + x.2.length→∀ H',Same H H'→E (.ref CR) none H') ∧
 (∀ x,look W t=some x→look W o=none→¬ tot < heldW W + x.2.length→∀ (H':Hp) (r:Addr) (N:Room),H r=none→con N=con x.2→(∀ y∈N,H y.2.1=none)→PRAt C H' p a tot (W ++ [(o,r,N)])→Off (· = a) H H'→Q .non H')
theorem PRAt.addRoom {C:Addr}{H H1:Hp}{p a r:Addr}{tot o:Int}{W:Rms}{N:Room}(D:PRAt C H p a tot W) (hn:look W o=none) (s:Same H H1) (hr0:H r=none) (rm:RoomAt H1 r N):PRAt C (L2.upd H1 a (.dK (kvR (W ++ [(o,r,N)])))) p a tot (W ++ [(o,r,N)]):=by
 obtain ⟨dx,h1⟩:=id D.ob
 have D1:=D.same s
 have h1':=s _ _ h1
 have nra:r≠a:=Ne.symm (ne_of_none D.R.hd hr0)
 refine ⟨⟨dx,by rw [upd_ne (Ne.symm (dk_ne_ins D1.R.hd h1'))]; exact h1'⟩,upd_same,λ x hx=>?_,?_,?_,λ x hx=>?_⟩
 · rcases List.mem_append.mp hx with hx | hx
   · exact (D1.R.rm x hx).upd (D.R.ne x hx) ⟨_,D1.R.hd⟩
   · rw [List.mem_singleton.mp hx]
     exact rm.upd nra ⟨_,D1.R.hd⟩
 · rw [List.map_append]
   exact List.nodup_append.mpr ⟨D.R.nd,List.nodup_cons.mpr ⟨by simp,List.nodup_nil⟩,λ x hx y hy=>by
     have:y=o:=by simpa using hy
     rw [this]
     rintro rfl
     exact look_none hn hx⟩
 · rw [List.map_append]
   exact List.nodup_append.mpr ⟨D.R.sp,List.nodup_cons.mpr ⟨by simp,List.nodup_nil⟩,λ x hx y hy=>by
     have:y=r:=by simpa using hy
     rw [this]
     rintro rfl
     obtain ⟨z,hz,e⟩:=List.mem_map.mp hx
     have:=(D.R.rm z hz).hd
     rw [e,hr0] at this
     cases this⟩
 · rcases List.mem_append.mp hx with hx | hx
   · exact D.R.ne x hx
   · rw [List.mem_singleton.mp hx]; exact nra
section
variable {P:Program}{w:World}{K:PySem.W.Frag}{mg:Str→Option Value}{base:Heap}
theorem scIn:FnScope ["self","total"] ["self","total"] (defScope sInit):=⟨rfl,rfl,rfl,by decide +kernel,rfl,by decide +kernel,by decide +kernel⟩
theorem ok_init {f C:Addr}{fd:FuncData}(F:Fun K "__init__" "PlainRooms.__init__" sInit f fd) (T:Txt K mg C):FnOk P w K mg base CX0 1 f fd ["self","total"] (spInit C):=by
 refine F.ok scIn (λ vs H Q E h=>?_) (λ cdv A outer s H vs Q E hr h=>?_)
 · obtain ⟨p,dx,t,rfl,_⟩:=h
   rfl
 · obtain ⟨p,dx,t,rfl,hp,k⟩:=h
   refine ⟨_,(pss_cons (ps_fld (pv 0) (pv 1) rfl)
     (pss_one (ps_fld (pv 0) pe_dnewK rfl))),?_⟩
   refine ⟨_,rfl,_,rfl,p,C,dx,[],rfl,hp,T.cl,T.nT,by decide,?_⟩
   intro a ha
   have npa:p≠a:=λ z=>by rw [← z,upd_same] at ha; cases ha
   have ha0:H a=none:=by rw [upd_ne (Ne.symm npa)] at ha; exact ha
   refine ⟨_,rfl,p,C,dx,_,rfl,by rw [upd_ne npa,upd_same],T.cl,T.nR,by show 1 < 1000; decide,?_⟩
   refine k _ a ha0 ⟨⟨dx,upd_same⟩,⟨?_,(λ _ h=>nomatch h),List.nodup_nil,List.nodup_nil,(λ _ h=>nomatch h)⟩⟩ λ b o e nb=>?_
   · rw [upd_ne (Ne.symm npa),upd_same]; rfl
   · rw [upd_ne nb,upd_ne (ne_of_none e ha0),upd_ne nb]; exact e
theorem scCo:FnScope ["self","task","other","room","copied","page"] ["self","task","other"] (defScope sCopy):=⟨rfl,rfl,rfl,by decide +kernel,rfl,by decide +kernel,by decide +kernel⟩
set_option maxHeartbeats 4000000 in
theorem ok_copy {f C CN CT CR fR' fS fA fH:Addr}{fd dR dS dA dH:FuncData}(F:Fun K "copy" "PlainRooms.copy" sCopy f fd) (T:Txt K mg C)
   (GR:FnOk P w K mg base (CXO P w) 1 fR' dR ["rooms","task"] (spRoomOf CN)) (DR:Def K mg "room_of" fR' dR ["rooms","task"])
   (GS:FnOk P w K mg base (CXO P w) 1 fS dS ["rooms","task"] (spSecond CT)) (DS:Def K mg "refuse_second_room" fS dS ["rooms","task"])
   (GA:FnOk P w K mg base (CXO P w) 1 fA dA ["held","total"] (spAbove CR)) (DA:Def K mg "refuse_above" fA dA ["held","total"])
   (GH:FnOk P w K mg base CX0 1 fH dH ["self"] (spHeld C)) (bH:Binds K dH ["self"] []) (mH:Meth K C "held" fH):FnOk P w K mg base (CXO P w) 2 f fd ["self","task","other"] (spCopy C CN CT CR):=by
 refine F.okx scCo (λ vs H Q E h=>?_) (λ cdv A outer s H vs Q E hr h=>?_)
 · obtain ⟨p,a,tot,t,o,W,rfl,_⟩:=h
   rfl
 · obtain ⟨p,a,tot,t,o,W,rfl,D,ht,ho,lw,hlr,htot,kN,kT,kR,kQ⟩:=h
   have hs:sizeLine=16777216:=sizeLine_eq
   obtain ⟨dx,h1⟩:=id D.ob
   have nHeld:(flds tot a).lookup ("held" : Str)=none:=flds_no _ _ (by decide +kernel) (by decide +kernel)
   refine ⟨_,(pssx_cons (psx_set (i:=3) scCo.nd rfl (Or.inl rfl) (pex_call GR (hr.mono (by decide)) rfl (by rfl) DR.mg DR.kp DR.b .nil (pa_cons (pe_fld (pv 0) rfl) (pa_cons (pv 1) pa_nil))))
     (pssx_cons (psx_expr (pex_call GS (hr.mono (by decide)) rfl (by rfl) DS.mg DS.kp DS.b .nil (pa_cons (pe_fld (pv 0) rfl) (pa_cons (pv 2) pa_nil))))
     (pssx_cons (psx_expr (pex_call GA (hr.mono (by decide)) rfl (by rfl) DA.mg DA.kp DA.b .nil (pa_cons (pe_op op_add (pe_meth0 (pv 0) T.cl mH GH (hr.mono (by decide)) bH .nil pass0) (pe_callB call_lenD (by rfl) T.len PySem.boot_len (pa_cons (pv 3) pa_nil))) (pa_cons (pe_fld (pv 0) rfl) pa_nil))))
     (pssx_of (pss_cons (ps_set (i:=4) scCo.nd rfl (Or.inl rfl) pe_dnewK)
     (pss_cons (ps_thaw (ps_for PassesOwn.never rfl (pi_dict (pv 3)) (pg_name (i:=5) scCo.nd rfl (Or.inl rfl)) (pss_one (ps_dput (hu_of hr) (pv 4) (pv 5) (pe_callTy call_list_of (by rfl) T.list bt_list (pa_cons (pe_dget (hu_of hr) (pv 3) (pv 5) (λ _ _=>rfl)) pa_nil)) rfl))))
     (pss_one (ps_dput (hu_of hr) (pe_fld (pv 0) rfl) (pv 2) (pv 4) rfl)))))))),?_⟩
   refine hidXN λ _ jt=>?_
   refine ⟨_,rfl,p,C,dx,_,_,rfl,h1,T.cl,T.nR,flds_r _ _,_,rfl,a,W,t,rfl,D.R.hd,ht,kN,λ x hx=>?_⟩
   have hm:=look_mem hx
   have rm:=D.R.rm _ hm
   have hlx:x.2.length≤64:=hlr _ hm
   obtain ⟨hw0,hw1⟩:=held_le hlr
   refine jt _ _ (hidXD λ _ jt=>?_)
   refine ⟨_,rfl,p,C,dx,_,_,rfl,h1,T.cl,T.nR,flds_r _ _,_,rfl,a,W,o,rfl,D.R.hd,ho,kT x hx,λ hn=>?_⟩
   refine jt _ _ (hidXD λ _ jt=>?_)
   refine ⟨_,rfl,p,dx,_,rfl,h1,nHeld,p,a,tot,W,rfl,D,lw,λ H3 s3=>?_⟩
   have S3:=s3
   have e3:=s3 _ _ rm.hd
   refine ⟨_,rfl,x.1,_,rfl,e3,_,_,rfl,rfl,_,rfl,p,C,dx,_,_,rfl,S3 _ _ h1,T.cl,T.nT,flds_t _ _,heldW W + x.2.length,tot,?_,small_log (by lia) (by lia),htot,λ z=>kR x hx hn z H3 S3,λ z=>?_⟩
   · show [V.int (heldW W + ((kvP x.2).length:Nat)),V.int tot]=_
     rw [dk_len]
   refine jt _ _ (hidN λ _ jt=>?_)
   intro r hr0
   have sr:=same_new (X:=.dK []) hr0
   have S4:=S3.trans sr
   have rm4:=rm.same S4
   have er:(upd H3 r (.dK [])) r=some (.dK []):=upd_same
   generalize upd H3 r (.dK [])=H4 at *
   have nfz:∀ (o:Obj) u',H x.1≠some (.frz o u'):=λ o u' z=>by rw [rm.hd] at z; cases z
   have nrx:r≠x.1:=Ne.symm (ne_of_none e3 hr0)
   refine jt _ _ (hid λ _ jt=>?_)
   refine ⟨_,rfl,x.1,_,rfl,rm4.hd,nfz,λ ob=>?_⟩
   refine for_dict (kvs:=kvP x.2) (λ i σ H5 => ∃ (v5:Option V) (N:Room),σ=[some (.ref p),some (.int t),some (.int o),some (.ref x.1),some (.ref r),v5]∧RoomAt H5 r N∧con N=(con x.2).take i∧(∀ y∈N,H y.2.1=none)∧H5 x.1=some (.frz ob (.dK (kvP x.2)))∧Off (λ b=>b=r∨b=x.1) H4 H5)
     ⟨_,[],rfl,⟨by rw [upd_ne nrx]; exact er,(λ _ h=>nomatch h),List.nodup_nil,(λ _ h=>nomatch h)⟩,rfl,(λ _ h=>nomatch h),upd_same,λ b o e nb=>by rw [upd_ne (λ z=>nb (.inr z))]; exact e⟩ (λ i σ H5 _ z0=>by obtain ⟨_,_,_,_,_,_,h5,_⟩:=z0; exact h5) ?_ ?_
   · rintro i kk v σ H5 hk ⟨v5,N,rfl,r5,c5,f5,h5,o5⟩
     have hk':(x.2.map λ y:Int×Addr×List Int=>((Sum.inl y.1:Key),fP y.2))[i]? = some (kk,v):=hk
     rw [List.getElem?_map] at hk'
     obtain ⟨y,hy,e⟩:=Option.map_eq_some_iff.mp hk'
     cases e
     have hym:=List.mem_of_getElem? hy
     have hi:i < x.2.length:=(List.getElem?_eq_some_iff.mp hy).1
     have hlk:look x.2 y.1=some y.2:=look_some rm.nd hym
     have hg:DGet H5 x.1 (.int y.1) (some (fP y.2)):=.inl ⟨kvP x.2,Sum.inl y.1,.inr ⟨ob,h5⟩,rfl,by rw [valV_dk,hlk]; rfl⟩
     obtain ⟨hyr,hy8⟩:=rm4.hr y hym
     have hyr5:H5 y.2.1=some (.lst (y.2.2.map V.int)):=o5 _ _ hyr (λ q=>q.elim (λ q=>by rw [q,er] at hyr; cases hyr) (λ q=>by rw [q,rm4.hd] at hyr; cases hyr))
     have hN:look N y.1=none:=look_not λ q=>by
       have e1:N.map (·.1)=(x.2.map (·.1)).take i:=by
         have:=congrArg (List.map (·.1)) c5
         unfold con at this
         rw [List.map_map,List.map_take,List.map_map] at this
         exact this
       rw [e1] at q
       obtain ⟨j,hj,ej⟩:=List.mem_iff_getElem.mp q
       rw [List.length_take,List.length_map] at hj
       rw [List.getElem_take] at ej
       have ei:(x.2.map (·.1))[i]'(by rw [List.length_map]; exact hi)=y.1:=by
         rw [List.getElem_map,(List.getElem?_eq_some_iff.mp hy).2]
       have:=(List.getElem_inj rm.nd).mp (ej.trans ei.symm)
       lia
     have lN:N.length=i:=by
       have:=congrArg List.length c5
       unfold con at this
       rw [List.length_map,List.length_take,List.length_map] at this
       lia
     refine ⟨_,rfl,_,rfl,x.1,_,rfl,hg,y.2.1,_,rfl,.inl (SqL.of hyr5),λ l hl=>?_⟩
     have sl:=same_new (X:=.lst (y.2.2.map V.int)) hl
     have el:(upd H5 l (.lst (y.2.2.map V.int))) l=some (.lst (y.2.2.map V.int)):=upd_same
     have nlx:l≠x.1:=Ne.symm (ne_of_none h5 hl)
     have r6:=r5.same sl
     have h6:=sl _ _ h5
     have nl:H l=none:=by
       cases e:H l with
       | none=>rfl
       | some u =>
         have e4:=S4 _ _ e
         by_cases q:l=r
         · rw [q] at e; rw [S3.free hr0] at e; cases e
         · rw [o5 _ _ e4 (λ z=>z.elim q nlx)] at hl; cases hl
     generalize upd H5 l (.lst (y.2.2.map V.int))=H6 at *
     refine ⟨_,rfl,_,rfl,r,_,rfl,DPut.k (k:=Sum.inl y.1) r6.hd (by rw [dk_len]; lia),?_⟩
     rw [show (V.ref l)=fP (l,y.2.2) from rfl,putK_new' hN]
     refine ⟨_,N ++ [(y.1,l,y.2.2)],rfl,r6.add el hy8 hN (rm.rg y hym).1 (rm.rg y hym).2,?_,λ z hz=>?_,by rw [upd_ne (Ne.symm nrx)]; exact h6,λ b o e nb=>by rw [upd_ne (λ z=>nb (.inl z))]; exact sl _ _ (o5 _ _ e nb)⟩
     · rw [List.take_add_one, ← c5]
       unfold con
       rw [List.getElem?_map,hy,List.map_append]
       rfl
     · rcases List.mem_append.mp hz with hz | hz
       · exact f5 z hz
       · rw [List.mem_singleton.mp hz]; exact nl
   · rintro σ H5 ⟨v5,N,rfl,r5,c5,f5,h5,o5⟩
     refine ⟨x.1,ob,_,h5,nfz,?_⟩
     rw [dk_len,List.take_of_length_le (show (con x.2).length≤x.2.length by unfold con; rw [List.length_map]; exact Nat.le_refl _)] at c5
     have sZ:Same H (upd H5 x.1 (.dK (kvP x.2))):=λ b u e=>by
       by_cases q:b=x.1
       · rw [q,upd_same, ← e,q,rm.hd]
       · rw [upd_ne q]
         exact o5 _ _ (S4 _ _ e) (λ z=>z.elim (λ z=>by rw [z,S3.free hr0] at e; cases e) q)
     have r6:RoomAt (upd H5 x.1 (.dK (kvP x.2))) r N:=⟨by rw [upd_ne nrx]; exact r5.hd,λ y hy=>⟨by rw [upd_ne (λ z=>by have q:=(r5.hr y hy).1; rw [z,h5] at q; cases q)]; exact (r5.hr y hy).1,(r5.hr y hy).2⟩,r5.nd,r5.rg⟩
     generalize upd H5 x.1 (.dK (kvP x.2))=H6 at *
     refine jt _ _ _ ?_
     refine ⟨_,rfl,_,rfl,p,C,dx,_,_,rfl,sZ _ _ h1,T.cl,T.nR,flds_r _ _,_,rfl,a,_,rfl,DPut.k (k:=Sum.inl o) (sZ _ _ D.R.hd) (by rw [dk_len]; lia),?_⟩
     rw [show (V.ref r)=fR (r,N) from rfl,putK_new' hn]
     exact kQ x hx hn z _ r N (S3.free hr0) c5 f5 (D.addRoom hn sZ (S3.free hr0) r6) λ b o e nb=>by rw [upd_ne nb]; exact sZ _ _ e
end
end Rm
namespace Rm
open PySem L2
def conW (W:Rms):List (Int×List (Int×List Int)):=W.map λ x=>(x.1,con x.2.2)
def Adr (W:Rms) (c:Addr):Prop := ∃ x∈W,∃ y∈x.2.2,y.2.1=c
theorem look_map {α β:Type}(g:α→β) (k:Int):∀ l:List (Int×α),look (l.map λ x=>(x.1,g x.2)) k=(look l k).map g
 | []=>rfl
 | x :: l=>by
   rw [List.map_cons,look_cons,look_cons,look_map g k l]
   by_cases e:x.1=k
   · rw [if_pos e,if_pos e]; rfl
   · rw [if_neg e,if_neg e]
theorem look_con {R:Room}{q:Int}:look (con R) q=(look R q).map (·.2):=look_map _ _ _
theorem look_conW {W:Rms}{t:Int}:look (conW W) t=(look W t).map λ x=>con x.2:=look_map (λ x:Addr×Room=>con x.2) _ _
theorem setA_map {α β:Type}(g:α→β) (k:Int) (a:α) (l:List (Int×α)):(setA l k a).map (λ x=>(x.1,g x.2))=setA (l.map λ x=>(x.1,g x.2)) k (g a):=by
 unfold setA
 rw [List.map_map,List.map_map]
 apply List.map_congr_left
 intro x _
 show ((if x.1=k then (k,a) else x).1,g (if x.1=k then (k,a) else x).2)=if x.1=k then (k,g a) else (x.1,g x.2)
 by_cases e:x.1=k
 · rw [if_pos e,if_pos e]
 · rw [if_neg e,if_neg e]
theorem conW_set {W:Rms}{t:Int}{r:Addr}{R:Room}:conW (setA W t (r,R))=setA (conW W) t (con R):=setA_map (λ x:Addr×Room=>con x.2) _ _ _
theorem delA_map {α β:Type}(g:α→β) (k:Int) (l:List (Int×α)):(delA l k).map (λ x=>(x.1,g x.2))=delA (l.map λ x=>(x.1,g x.2)) k:=by
 unfold delA
 rw [List.filter_map]
 rfl
theorem conW_del {W:Rms}{t:Int}:conW (delA W t)=delA (conW W) t:=delA_map (λ x:Addr×Room=>con x.2) _ _
theorem con_del {R:Room}{t:Int}:con (delA R t)=delA (con R) t:=delA_map (λ x:Addr×List Int=>x.2) _ _
theorem conW_len {W:Rms}:(conW W).length=W.length:=List.length_map ..
theorem con_len {R:Room}:(con R).length=R.length:=List.length_map ..
theorem con_keys {R:Room}:(con R).map (·.1)=keysR R:=by unfold con; rw [List.map_map]; rfl
theorem held_con {W:Rms}:heldW W=((conW W).map λ x=>(x.2.length:Int)).sum:=by
 unfold heldW conW
 rw [List.map_map]
 congr 1
 apply List.map_congr_left
 intro x _
 show ((x.2.2.length:Nat):Int)=(((con x.2.2).length:Nat):Int)
 rw [con_len]
theorem twin {W Z:Rms}(e:conW W=conW Z) {t:Int}{z:Addr×Room}(h:look Z t=some z):∃ x,look W t=some x∧con x.2=con z.2:=by
 have h1:look (conW W) t=some (con z.2):=by rw [e,look_conW,h]; rfl
 rw [look_conW] at h1
 obtain ⟨x,hx,e1⟩:=Option.map_eq_some_iff.mp h1
 exact ⟨x,hx,e1⟩
theorem twin_len {W Z:Rms}(e:conW W=conW Z) {M:Nat}(h:∀ x∈Z,x.2.2.length≤M):∀ x∈W,x.2.2.length≤M:=by
 intro x hx
 have h1:(x.1,con x.2.2)∈conW W:=List.mem_map.mpr ⟨x,hx,rfl⟩
 rw [e] at h1
 obtain ⟨z,hz,e1⟩:=List.mem_map.mp h1
 have e2:con z.2.2=con x.2.2:=(Prod.mk.inj e1).2
 rw [← con_len, ← e2,con_len]
 exact h z hz
theorem twin_keys {R S:Room}(e:con R=con S):keysR R=keysR S:=by rw [← con_keys,e,con_keys]
structure Sep (C:Addr) (H:Hp) (p a b:Addr) (tot:Int) (W Z:Rms):Prop where
 D:PRAt C H p a tot W
 L:RmsAt H b Z
 inj:∀ x∈Z,∀ y∈x.2.2,∀ x'∈Z,∀ y'∈x'.2.2,y.2.1=y'.2.1→x.1=x'.1∧y.1=y'.1
 al:∀ c,Adr W c→¬ Adr Z c
 ar:∀ x∈W,∀ y∈Z,x.2.1≠y.2.1
 ab:a≠b
 a1:∀ y∈Z,y.2.1≠a
 b1:∀ x∈W,x.2.1≠b
theorem RmsAt.offG {B:Addr→Prop}{H H':Hp}{a:Addr}{W:Rms}(R:RmsAt H a W) (o:Off B H H') (na:¬ B a) (hr:∀ x∈W,¬ B x.2.1) (hl:∀ x∈W,∀ y∈x.2.2,¬ B y.2.1):RmsAt H' a W :=
 ⟨o _ _ R.hd na,λ x hx=>⟨o _ _ (R.rm x hx).hd (hr x hx),λ y hy=>⟨o _ _ ((R.rm x hx).hr y hy).1 (hl x hx y hy),((R.rm x hx).hr y hy).2⟩,(R.rm x hx).nd,(R.rm x hx).rg⟩,R.nd,R.sp,R.ne⟩
theorem PRAt.offG {B:Addr→Prop}{C:Addr}{H H':Hp}{p a:Addr}{tot:Int}{W:Rms}(D:PRAt C H p a tot W) (o:Off B H H') (np:¬ B p) (na:¬ B a) (hr:∀ x∈W,¬ B x.2.1) (hl:∀ x∈W,∀ y∈x.2.2,¬ B y.2.1):PRAt C H' p a tot W :=
 let ⟨dx,h⟩:=D.ob; ⟨⟨dx,o _ _ h np⟩,D.R.offG o na hr hl⟩
theorem RmsAt.setG {B:Addr→Prop}{H H':Hp}{a r:Addr}{W:Rms}{t:Int}{R R':Room}(D:RmsAt H a W) (h:look W t=some (r,R)) (o:Off B H H') (na:¬ B a) (oth:∀ x∈W,x.1≠t→¬ B x.2.1∧∀ y∈x.2.2,¬ B y.2.1) (rm:RoomAt H' r R'):RmsAt H' a (setA W t (r,R')):=by
 have hm:=look_mem h
 refine ⟨?_,λ y hy=>?_,by rw [setA_keys]; exact D.nd,by rw [setA_addr D.nd h]; exact D.sp,λ y hy=>?_⟩
 · rw [o _ _ D.hd na]
   congr 2
   unfold kvR dk setA
   rw [List.map_map]
   apply List.map_congr_left
   intro x hx
   show ((Sum.inl x.1:Key),fR x.2)=((Sum.inl (if x.1=t then (t,(r,R')) else x).1:Key),fR (if x.1=t then (t,(r,R')) else x).2)
   by_cases e:x.1=t
   · have:look W x.1=some x.2:=look_some D.nd hx
     rw [e,h] at this
     have e2:x.2=(r,R):=(Option.some.inj this).symm
     rw [if_pos e,e,e2]
     rfl
   · rw [if_neg e]
 · rcases setA_mem hy with e | ⟨hy',ny⟩
   · rw [e]; exact rm
   · obtain ⟨q1,q2⟩:=oth y hy' ny
     exact ⟨o _ _ (D.rm y hy').hd q1,λ z hz=>⟨o _ _ ((D.rm y hy').hr z hz).1 (q2 z hz),((D.rm y hy').hr z hz).2⟩,(D.rm y hy').nd,(D.rm y hy').rg⟩
 · rcases setA_mem hy with e | ⟨hy',_⟩
   · rw [e]
     show r≠a
     exact D.ne _ hm
   · exact D.ne y hy'
theorem RmsAt.add {H H1:Hp}{a r:Addr}{o:Int}{W:Rms}{N:Room}(D:RmsAt H a W) (hn:look W o=none) (s:Same H H1) (hr0:H r=none) (rm:RoomAt H1 r N):RmsAt (L2.upd H1 a (.dK (kvR (W ++ [(o,r,N)])))) a (W ++ [(o,r,N)]):=by
 have D1:=D.same s
 have nra:r≠a:=Ne.symm (ne_of_none D.hd hr0)
 refine ⟨upd_same,λ x hx=>?_,?_,?_,λ x hx=>?_⟩
 · rcases List.mem_append.mp hx with hx | hx
   · exact (D1.rm x hx).upd (D.ne x hx) ⟨_,D1.hd⟩
   · rw [List.mem_singleton.mp hx]
     exact rm.upd nra ⟨_,D1.hd⟩
 · rw [List.map_append]
   exact List.nodup_append.mpr ⟨D.nd,List.nodup_cons.mpr ⟨by simp,List.nodup_nil⟩,λ x hx y hy=>by
     have:y=o:=by simpa using hy
     rw [this]
     rintro rfl
     exact look_none hn hx⟩
 · rw [List.map_append]
   exact List.nodup_append.mpr ⟨D.sp,List.nodup_cons.mpr ⟨by simp,List.nodup_nil⟩,λ x hx y hy=>by
     have:y=r:=by simpa using hy
     rw [this]
     rintro rfl
     obtain ⟨z,hz,e⟩:=List.mem_map.mp hx
     have:=(D.rm z hz).hd
     rw [e,hr0] at this
     cases this⟩
 · rcases List.mem_append.mp hx with hx | hx
   · exact D.ne x hx
   · rw [List.mem_singleton.mp hx]; exact nra
theorem RmsAt.del {H:Hp}{a:Addr}{W:Rms}{t:Int}(D:RmsAt H a W):RmsAt (L2.upd H a (.dK (kvR (delA W t)))) a (delA W t):=by
 have sub:∀ y∈delA W t,y∈W:=λ y hy=>(List.mem_filter.mp hy).1
 exact ⟨upd_same,λ y hy=>(D.rm y (sub y hy)).upd (D.ne y (sub y hy)) ⟨_,D.hd⟩,D.nd.sublist (List.Sublist.map _ List.filter_sublist),D.sp.sublist (List.Sublist.map _ List.filter_sublist),λ y hy=>D.ne y (sub y hy)⟩
theorem RmsAt.lst {H:Hp}{a:Addr}{W:Rms}(D:RmsAt H a W) {c:Addr}(h:Adr W c):∃ xs,H c=some (.lst xs):=by
 obtain ⟨x,hx,y,hy,rfl⟩:=h
 exact ⟨_,((D.rm x hx).hr y hy).1⟩
variable {C:Addr}{H H':Hp}{p a b:Addr}{tot:Int}{W Z:Rms}{t:Int}
theorem Sep.same (S:Sep C H p a b tot W Z) (s:Same H H'):Sep C H' p a b tot W Z:=⟨S.D.same s,S.L.same s,S.inj,S.al,S.ar,S.ab,S.a1,S.b1⟩
theorem Sep.addW (S:Sep C H p a b tot W Z) {o:Int}{r:Addr}{N:Room}(hr:H r=none) (hf:∀ y∈N,H y.2.1=none) (D':PRAt C H' p a tot (W ++ [(o,r,N)])) (of:Off (· = a) H H'):Sep C H' p a b tot (W ++ [(o,r,N)]) Z:=by
 refine ⟨D',S.L.offG of (Ne.symm S.ab) S.a1 (λ z hz y hy q=>?_),S.inj,λ c hc hc'=>?_,λ z hz y hy=>?_,S.ab,S.a1,λ z hz=>?_⟩
 · have:=((S.L.rm z hz).hr y hy).1
   rw [q,S.D.R.hd] at this
   cases this
 · obtain ⟨z,hz,y,hy,rfl⟩:=hc
   rcases List.mem_append.mp hz with hz | hz
   · exact S.al _ ⟨z,hz,y,hy,rfl⟩ hc'
   · rw [List.mem_singleton.mp hz] at hy
     obtain ⟨xs,e2⟩:=S.L.lst hc'
     rw [hf y hy] at e2
     cases e2
 · rcases List.mem_append.mp hz with hz | hz
   · exact S.ar z hz y hy
   · rw [List.mem_singleton.mp hz]
     exact Ne.symm (ne_of_none (S.L.rm y hy).hd hr)
 · rcases List.mem_append.mp hz with hz | hz
   · exact S.b1 z hz
   · rw [List.mem_singleton.mp hz]
     exact Ne.symm (ne_of_none S.L.hd hr)
theorem Sep.stay (S:Sep C H p a b tot W Z) {B:Addr→Prop}(o:Off B H H') (hB:∀ c,B c→c=b∨(∃ y∈Z,y.2.1=c)∨Adr Z c):PRAt C H' p a tot W:=by
 obtain ⟨dx,h1⟩:=id S.D.ob
 refine S.D.offG o (λ q=>?_) (λ q=>?_) (λ x hx q=>?_) (λ x hx y hy q=>?_)
 · rcases hB _ q with e | ⟨y,hy,e⟩ | e
   · exact dk_ne_ins S.L.hd h1 e.symm
   · exact dk_ne_ins (S.L.rm y hy).hd h1 e
   · obtain ⟨xs,e2⟩:=S.L.lst e
     rw [h1] at e2; cases e2
 · rcases hB _ q with e | ⟨y,hy,e⟩ | e
   · exact S.ab e
   · exact S.a1 y hy e
   · obtain ⟨xs,e2⟩:=S.L.lst e
     rw [S.D.R.hd] at e2; cases e2
 · rcases hB _ q with e | ⟨y,hy,e⟩ | e
   · exact S.b1 x hx e
   · exact S.ar x hx y hy e.symm
   · obtain ⟨xs,e2⟩:=S.L.lst e
     rw [(S.D.R.rm x hx).hd] at e2; cases e2
 · have hl:=((S.D.R.rm x hx).hr y hy).1
   rcases hB _ q with e | ⟨z,hz,e⟩ | e
   · rw [e,S.L.hd] at hl; cases hl
   · rw [← e,(S.L.rm z hz).hd] at hl; cases hl
   · exact S.al _ ⟨x,hx,y,hy,rfl⟩ e
theorem Sep.roomZ (S:Sep C H p a b tot W Z) {z:Addr×Room}{R':Room}(hz:look Z t=some z) {B:Addr→Prop}(o:Off B H H') (hB:∀ c,B c→c=z.1∨∃ y∈z.2,y.2.1=c) (rm:RoomAt H' z.1 R')
   (hf:∀ y∈R',(∃ y'∈z.2,y'.1=y.1∧y'.2.1=y.2.1)∨(¬ Adr W y.2.1∧¬ Adr Z y.2.1)) (hi:∀ y∈R',∀ y'∈R',y.2.1=y'.2.1→y.1=y'.1):Sep C H' p a b tot W (setA Z t (z.1,R')):=by
 have hm:=look_mem hz
 have nb:¬ B b:=λ q=>by
   rcases hB _ q with e | ⟨y,hy,e⟩
   · exact S.L.ne _ hm e.symm
   · have:=((S.L.rm _ hm).hr y hy).1
     rw [e,S.L.hd] at this; cases this
 have old:∀ {x:Int×Addr×Room},x∈Z→x.1=t→x=(t,z):=λ {x} hx e=>by
   have:look Z x.1=some x.2:=look_some S.L.nd hx
   rw [e,hz] at this
   have e2:=Option.some.inj this
   rw [← e,e2]
 have par:∀ {x:Int×Addr×Room}{y:Int×Addr×List Int},x∈setA Z t (z.1,R')→y∈x.2.2→Adr Z y.2.1→∃ x'∈Z,∃ y'∈x'.2.2,x'.1=x.1∧y'.1=y.1∧y'.2.1=y.2.1:=λ {x y} hx hy q=>by
   rcases setA_mem hx with e | ⟨hx',_⟩
   · rw [e] at hy ⊢
     rcases hf y hy with ⟨y',hy',e1,e2⟩ | h
     · exact ⟨_,hm,y',hy',rfl,e1,e2⟩
     · exact absurd q h.2
   · exact ⟨x,hx',y,hy,rfl,rfl,rfl⟩
 refine ⟨S.stay o λ c q=>?_,S.L.setG hz o nb (λ x hx nx=>⟨λ q=>?_,λ y hy q=>?_⟩) rm,λ x hx y hy x' hx' y' hy' e=>?_,λ c hc ⟨x,hx,y,hy,e⟩=>?_,λ x hx y hy=>?_,S.ab,λ y hy=>?_,S.b1⟩
 · rcases hB c q with e | ⟨y,hy,e⟩
   · exact .inr (.inl ⟨_,hm,e.symm⟩)
   · exact .inr (.inr ⟨_,hm,y,hy,e⟩)
 · rcases hB _ q with e | ⟨y,hy,e⟩
   · apply nx
     have n1:=S.L.sp
     obtain ⟨i,hi,ei⟩:=List.mem_iff_getElem.mp hx
     obtain ⟨j,hj,ej⟩:=List.mem_iff_getElem.mp hm
     have:i=j:=by
       have q1:(Z.map (·.2.1))[i]'(by rw [List.length_map]; exact hi)=(Z.map (·.2.1))[j]'(by rw [List.length_map]; exact hj):=by
         rw [List.getElem_map,List.getElem_map,ei,ej]; exact e
       exact (List.getElem_inj n1).mp q1
     subst this
     rw [← ei,ej]
   · have h1:=((S.L.rm _ hm).hr y hy).1
     rw [e,(S.L.rm x hx).hd] at h1; cases h1
 · rcases hB _ q with e | ⟨y',hy',e⟩
   · have h1:=((S.L.rm x hx).hr y hy).1
     rw [e,(S.L.rm _ hm).hd] at h1; cases h1
   · exact nx (S.inj x hx y hy _ hm y' hy' e.symm).1
 · by_cases q:Adr Z y.2.1
   · obtain ⟨x1,hx1,y1,hy1,f1,f2,f3⟩:=par hx hy q
     obtain ⟨x2,hx2,y2,hy2,g1,g2,g3⟩:=par hx' hy' (e ▸ q)
     have:=S.inj x1 hx1 y1 hy1 x2 hx2 y2 hy2 (by rw [f3,g3,e])
     rw [← f1, ← f2, ← g1, ← g2]
     exact this
   · rcases setA_mem hx with e1 | ⟨h1,_⟩
     · rcases setA_mem hx' with e2 | ⟨h2,_⟩
       · rw [e1] at hy ⊢
         rw [e2] at hy' ⊢
         exact ⟨rfl,hi y hy y' hy' e⟩
       · exact absurd ⟨x',h2,y',hy',e.symm⟩ q
     · exact absurd ⟨x,h1,y,hy,rfl⟩ q
 · rcases setA_mem hx with e1 | ⟨h1,_⟩
   · rw [e1] at hy
     rcases hf y hy with ⟨y',hy',_,e3⟩ | h
     · exact S.al c hc ⟨_,hm,y',hy',e3.trans e⟩
     · exact h.1 (e ▸ hc)
   · exact S.al c hc ⟨x,h1,y,hy,e⟩
 · rcases setA_mem hy with e1 | ⟨h1,_⟩
   · rw [e1]; exact S.ar x hx (t,z) hm
   · exact S.ar x hx y h1
 · rcases setA_mem hy with e1 | ⟨h1,_⟩
   · rw [e1]; exact S.a1 (t,z) hm
   · exact S.a1 y h1
theorem Sep.addZ (S:Sep C H p a b tot W Z) {H1:Hp}{o:Int}{r:Addr}{N:Room}(hn:look Z o=none) (s:Same H H1) (hr:H r=none) (rm:RoomAt H1 r N) (hf:∀ y∈N,H y.2.1=none) (hi:∀ y∈N,∀ y'∈N,y.2.1=y'.2.1→y.1=y'.1):Sep C (L2.upd H1 b (.dK (kvR (Z ++ [(o,r,N)])))) p a b tot W (Z ++ [(o,r,N)]):=by
 have S1:=S.same s
 have nA:∀ y∈N,¬ Adr Z y.2.1:=λ y hy q=>by
   obtain ⟨xs,e⟩:=S.L.lst q
   rw [hf y hy] at e; cases e
 refine ⟨S1.stay (B:=(· = b)) (λ c u e nb=>by rw [upd_ne nb]; exact e) (λ c e=>.inl e),S.L.add hn s hr rm,λ x hx y hy x' hx' y' hy' e=>?_,λ c hc ⟨x,hx,y,hy,e⟩=>?_,λ x hx y hy=>?_,S.ab,λ y hy=>?_,S.b1⟩
 · rcases List.mem_append.mp hx with hx | hx
   · rcases List.mem_append.mp hx' with hx' | hx'
     · exact S.inj x hx y hy x' hx' y' hy' e
     · rw [List.mem_singleton.mp hx'] at hy'
       exact absurd ⟨x,hx,y,hy,e⟩ (nA y' hy')
   · rw [List.mem_singleton.mp hx] at hy ⊢
     rcases List.mem_append.mp hx' with hx' | hx'
     · exact absurd ⟨x',hx',y',hy',e.symm⟩ (nA y hy)
     · rw [List.mem_singleton.mp hx'] at hy' ⊢
       exact ⟨rfl,hi y hy y' hy' e⟩
 · rcases List.mem_append.mp hx with hx | hx
   · exact S.al c hc ⟨x,hx,y,hy,e⟩
   · rw [List.mem_singleton.mp hx] at hy
     obtain ⟨xs,e2⟩:=S.D.R.lst hc
     rw [← e,hf y hy] at e2; cases e2
 · rcases List.mem_append.mp hy with hy | hy
   · exact S.ar x hx y hy
   · rw [List.mem_singleton.mp hy]
     exact ne_of_none (S.D.R.rm x hx).hd hr
 · rcases List.mem_append.mp hy with hy | hy
   · exact S.a1 y hy
   · rw [List.mem_singleton.mp hy]
     exact Ne.symm (ne_of_none S.D.R.hd hr)
theorem Sep.delZ (S:Sep C H p a b tot W Z):Sep C (L2.upd H b (.dK (kvR (delA Z t)))) p a b tot W (delA Z t):=by
 have sub:∀ y∈delA Z t,y∈Z:=λ y hy=>(List.mem_filter.mp hy).1
 exact ⟨S.stay (B:=(· = b)) (λ c u e nb=>by rw [upd_ne nb]; exact e) (λ c e=>.inl e),S.L.del,λ x hx y hy x' hx' y' hy' e=>S.inj x (sub x hx) y hy x' (sub x' hx') y' hy' e,λ c hc ⟨x,hx,y,hy,e⟩=>S.al c hc ⟨x,sub x hx,y,hy,e⟩,λ x hx y hy=>S.ar x hx y (sub y hy),S.ab,λ y hy=>S.a1 y (sub y hy),S.b1⟩
end Rm
namespace Rm
open PySem L2
abbrev sNumber:Stmt:=top 23
abbrev sTasks:Stmt:=top 24
abbrev sPage:Stmt:=top 25
abbrev sMany:Stmt:=top 26
abbrev sAddress:Stmt:=top 27
abbrev sCellsBy:Stmt:=top 28
abbrev sDeed:Stmt:=top 29
abbrev sDo:Stmt:=top 30
abbrev sWord:Stmt:=top 31
abbrev sTold:Stmt:=top 32
abbrev sHeldL:Stmt:=top 33
abbrev sWanted:Stmt:=top 34
abbrev sRefPages:Stmt:=top 35
abbrev sRefCells:Stmt:=top 36
abbrev sRefused:Stmt:=top 37
abbrev sChange:Stmt:=top 38
abbrev sDue:Stmt:=top 39
abbrev sSame:Stmt:=top 40
abbrev sAll:Stmt:=top 41
abbrev sLaw:Stmt:=top 42
structure MTxt (mg:Str→Option Value):Prop where
 range:mg "range" = none
 enumerate:mg "enumerate" = none
 sum:mg "sum" = none
 int:mg "int" = none
 isi:mg "isinstance" = none
 min:mg "min" = none
 list:mg "list" = none
 len:mg "len" = none
 dict:mg "dict" = none
 bool:mg "bool" = none
 sorted:mg "sorted" = none
inductive Ref4 where
 | noTask | noPage | noRoom | taken
 deriving DecidableEq
def wordOf:Ref4→Str
 | .noTask => "NoTask" | .noPage => "NoPage" | .noRoom => "NoRoom" | .taken => "Taken"
def cl4of (a b c d:Addr):Ref4→Addr
 | .noTask=>a | .noPage=>b | .noRoom=>c | .taken=>d
abbrev Wc:=List (Int×List (Int×List Int))
inductive Deed where
 | begin (t:Int)
 | close (t:Int)
 | map (t pg m:Int)
 | drop (t pg m:Int)
 | peek (t ad n:Int)
 | poke (t ad:Int) (cs:List Int)
 | copy (t o:Int)
def DeedAt (H:Hp) (d:Addr):Deed→Prop
 | .begin t=>H d=some (.tup [.str "begin",.int t])
 | .close t=>H d=some (.tup [.str "close",.int t])
 | .map t pg m=>H d=some (.tup [.str "map",.int t,.int pg,.int m])
 | .drop t pg m=>H d=some (.tup [.str "drop",.int t,.int pg,.int m])
 | .peek t ad n=>H d=some (.tup [.str "peek",.int t,.int ad,.int n])
 | .poke t ad cs => ∃ c,H d=some (.tup [.str "poke",.int t,.int ad,.ref c])∧H c=some (.lst (cs.map V.int))
 | .copy t o=>H d=some (.tup [.str "copy",.int t,.int o])
def kindOf:Deed→Str
 | .begin _ => "begin" | .close _ => "close" | .map .. => "map" | .drop .. => "drop" | .peek .. => "peek" | .poke .. => "poke" | .copy .. => "copy"
theorem DeedAt.kind {H:Hp}{d:Addr}{D:Deed}(h:DeedAt H d D):∃ (r:List V),H d=some (.tup (.str (kindOf D) :: r)):=by
 cases D with
 | poke t ad cs=>obtain ⟨c,h1,h2⟩:=h; exact ⟨_,h1⟩
 | _=>exact ⟨_,h⟩
def keysC (r:List (Int×List Int)):List Int:=r.map (·.1)
def heldC (c:Wc):Int:=(c.map λ x=>(x.2.length:Int)).sum
def cellsC (r:List (Int×List Int)) (ps:List Int):List Int:=(ps.map λ q=>(look r q).getD []).flatten
def peekK (r:List (Int×List Int)) (ad n:Int):List Int:=((cellsC r (cellPages ad n)).drop (ad % 8).toNat).take n.toNat
def pokeK (r:List (Int×List Int)) (ad:Int) (cs:List Int):List (Int×List Int):=setAll r (cellPages ad cs.length) (chunks (cellPages ad cs.length).length (splice (cellsC r (cellPages ad cs.length)) (ad % 8).toNat cs))
def dropC (r:List (Int×List Int)) (ps:List Int):List (Int×List Int):=ps.foldl delA r
theorem cells_con (R:Room) (ps:List Int):cellsOf R ps=cellsC (con R) ps:=by
 unfold cellsOf cellsC
 congr 1
 apply List.map_congr_left
 intro q _
 rw [look_con]
theorem peek_con (R:Room) (ad n:Int):peekC R ad n=peekK (con R) ad n:=by unfold peekC peekK; rw [cells_con]
theorem poke_con (R:Room) (ad:Int) (cs:List Int):pokeC R ad cs=pokeK (con R) ad cs:=by unfold pokeC pokeK; rw [cells_con]
theorem drop_con (ps:List Int):∀ R:Room,con (dropAll R ps)=dropC (con R) ps:=by
 induction ps with
 | nil=>intro R; rfl
 | cons q ps ih=>intro R; show con (dropAll (delA R q) ps)=dropC (delA (con R) q) ps; rw [ih,con_del]
abbrev Lo (n:Int):Prop:=n.natAbs.log2 < 1920
def Due (tot:Int) (c:Wc):Deed→Ref4→Prop
 | .begin t,X=>(∃ r,look c t=some r)∧X=.taken
 | .map t pg m,X=>(look c t=none∧X=.noTask)∨∃ r,look c t=some r∧((noPages pg m∧X=.noPage)∨(¬ noPages pg m∧(∃ q∈pagesL pg m,q∈keysC r)∧X=.taken)∨(¬ noPages pg m∧(∀ q∈pagesL pg m,¬ q∈keysC r)∧tot < heldC c + m∧X=.noRoom))
 | .drop t pg m,X=>(look c t=none∧X=.noTask)∨∃ r,look c t=some r∧(noPages pg m∨¬ ∀ q∈pagesL pg m,q∈keysC r)∧X=.noPage
 | .peek t ad n,X=>(look c t=none∧X=.noTask)∨∃ r,look c t=some r∧badCells ad n (keysC r)∧X=.noPage
 | .poke t ad cs,X=>(look c t=none∧X=.noTask)∨∃ r,look c t=some r∧badCells ad cs.length (keysC r)∧X=.noPage
 | .close t,X=>look c t=none∧X=.noTask
 | .copy t o,X=>(look c t=none∧X=.noTask)∨∃ r,look c t=some r∧(((∃ y,look c o=some y)∧X=.taken)∨(look c o=none∧tot < heldC c + r.length∧X=.noRoom))
def Good (tot:Int) (c:Wc):Deed→Wc→Prop
 | .begin t,c'=>look c t=none∧c'=c ++ [(t,[])]
 | .close t,c'=>(∃ r,look c t=some r)∧c'=delA c t
 | .map t pg m,c' => ∃ r,look c t=some r∧¬ noPages pg m∧(∀ q∈pagesL pg m,¬ q∈keysC r)∧¬ tot < heldC c + m∧c'=setA c t (r ++ (pagesL pg m).map λ q=>(q,z8))
 | .drop t pg m,c' => ∃ r,look c t=some r∧¬ noPages pg m∧(∀ q∈pagesL pg m,q∈keysC r)∧c'=setA c t (dropC r (pagesL pg m))
 | .peek t ad n,c' => ∃ r,look c t=some r∧¬ badCells ad n (keysC r)∧c'=c
 | .poke t ad cs,c' => ∃ r,look c t=some r∧¬ badCells ad cs.length (keysC r)∧c'=setA c t (pokeK r ad cs)
 | .copy t o,c' => ∃ r,look c t=some r∧look c o=none∧¬ tot < heldC c + r.length∧c'=c ++ [(o,r)]
def Tells (c:Wc) (D:Deed) (v:V) (H H':Hp):Prop:=match D with
 | .peek t ad n => ∃ (l:Addr) (r:List (Int×List Int)),v=.ref l∧look c t=some r∧H l=none∧H' l=some (.lst ((peekK r ad n).map V.int))
 | _=>v=.non
def Lg:Deed→Prop
 | .begin t=>Lo t
 | .close t=>Lo t
 | .map t pg m=>Lo t∧Lo pg∧Lo m
 | .drop t pg m=>Lo t∧Lo pg∧Lo m
 | .peek t ad n=>Lo t∧Lo n∧Lo (cFst ad)∧Lo (cCnt ad n)
 | .poke t ad cs=>Lo t∧cs.length≤500∧Lo (cFst ad)∧Lo (cCnt ad cs.length)
 | .copy t o=>Lo t∧Lo o
structure Sz (c:Wc) (tot:Int):Prop where
 ln:c.length≤1000
 lm:∀ x∈c,x.2.length≤64
 lt:Lo tot
theorem Sz.w {W:Rms}{tot:Int}(s:Sz (conW W) tot):W.length≤1000∧∀ x∈W,x.2.2.length≤64:=by
 refine ⟨by rw [← conW_len]; exact s.ln,λ x hx=>?_⟩
 have:=s.lm (x.1,con x.2.2) (List.mem_map.mpr ⟨x,hx,rfl⟩)
 rw [← con_len]
 exact this
theorem held_c (W:Rms):heldW W=heldC (conW W):=held_con
def Kt (H H':Hp):Prop := ∀ b o,H b=some o→(∀ kvs,o≠.dK kvs)→H' b=some o
theorem Kt.lst {H H':Hp}(k:Kt H H') {l:Addr}{xs:List V}(h:H l=some (.lst xs)):H' l=some (.lst xs):=k _ _ h (by intro _ z; cases z)
theorem Kt.tup {H H':Hp}(k:Kt H H') {l:Addr}{xs:List V}(h:H l=some (.tup xs)):H' l=some (.tup xs):=k _ _ h (by intro _ z; cases z)
structure StepW (a:Addr) (H:Hp) (W:Rms) (H':Hp) (W':Rms):Prop where
 off:Off (λ b=>b=a∨∃ x∈W,x.2.1=b) H H'
 rows:∀ c,Adr W' c→Adr W c∨H c=none
 dicts:∀ x∈W',(∃ y∈W,y.2.1=x.2.1)∨H x.2.1=none
theorem StepW.same {a:Addr}{H H':Hp}{W:Rms}(s:Same H H'):StepW a H W H' W:=⟨λ b u e _=>s _ _ e,λ c h=>.inl h,λ x hx=>.inl ⟨x,hx,rfl⟩⟩
theorem StepW.post {a:Addr}{H H' H'':Hp}{W W':Rms}(S:StepW a H W H' W') (s:Same H' H''):StepW a H W H'' W':=⟨λ b u e n=>s _ _ (S.off _ _ e n),S.rows,S.dicts⟩
theorem StepW.kt {C p a:Addr}{tot:Int}{H H':Hp}{W W':Rms}(S:StepW a H W H' W') (D:PRAt C H p a tot W):Kt H H':=λ b u e n=>S.off _ _ e λ q=>by
 rcases q with q | ⟨x,hx,q⟩
 · rw [q,D.R.hd] at e
   exact n _ (Option.some.inj e).symm
 · rw [← q,(D.R.rm x hx).hd] at e
   exact n _ (Option.some.inj e).symm
theorem Sep.step {C:Addr}{H H':Hp}{p a b:Addr}{tot:Int}{W W' Z:Rms}(S:Sep C H p a b tot W Z) (D':PRAt C H' p a tot W') (st:StepW a H W H' W'):Sep C H' p a b tot W' Z:=by
 refine ⟨D',S.L.offG st.off (λ q=>?_) (λ z hz q=>?_) (λ z hz y hy q=>?_),S.inj,λ c hc hc'=>?_,λ x hx y hy=>?_,S.ab,S.a1,λ x hx=>?_⟩
 · rcases q with q | ⟨x,hx,q⟩
   · exact S.ab q.symm
   · exact S.b1 x hx q
 · rcases q with q | ⟨x,hx,q⟩
   · exact S.a1 z hz q
   · exact S.ar x hx z hz q
 · have h:=((S.L.rm z hz).hr y hy).1
   rcases q with q | ⟨x,hx,q⟩
   · rw [q,S.D.R.hd] at h; cases h
   · rw [← q,(S.D.R.rm x hx).hd] at h; cases h
 · rcases st.rows c hc with h | h
   · exact S.al c h hc'
   · obtain ⟨xs,e⟩:=S.L.lst hc'
     rw [h] at e; cases e
 · rcases st.dicts x hx with ⟨x',hx',e⟩ | h
   · rw [← e]; exact S.ar x' hx' y hy
   · exact Ne.symm (ne_of_none (S.L.rm y hy).hd h)
 · rcases st.dicts x hx with ⟨x',hx',e⟩ | h
   · rw [← e]; exact S.b1 x' hx'
   · exact Ne.symm (ne_of_none S.L.hd h)
theorem lookW {W:Rms}{t:Int}{r:List (Int×List Int)}(h:look (conW W) t=some r):∃ x,look W t=some x∧con x.2=r:=by
 rw [look_conW] at h
 exact Option.map_eq_some_iff.mp h
theorem lookW0 {W:Rms}{t:Int}(h:look (conW W) t=none):look W t=none:=by
 rw [look_conW] at h
 exact Option.map_eq_none_iff.mp h
theorem lookWn {W:Rms}{t:Int}(h:look W t=none):look (conW W) t=none:=by rw [look_conW,h]; rfl
theorem keysC_con {R:Room}:keysC (con R)=keysR R:=con_keys
theorem mul_small (x:Int):CMul (x % 2147483647) (x % 2147483647):=by
 have m0:=Int.emod_nonneg x (show (2147483647:Int)≠0 by decide)
 have m1:=Int.emod_lt_of_pos x (show (0:Int) < 2147483647 by decide)
 exact .inl ⟨by lia,by lia⟩
theorem big_log {n:Int}(h0 : -(10 ^ 60) < n) (h1:n < 10 ^ 60):n.natAbs.log2 < 1920:=by
 by_cases z:n.natAbs=0
 · rw [z]; decide
 · rw [Nat.log2_lt z]
   have h3:n.natAbs < 10 ^ 60:=by lia
   have h4:(10:Nat) ^ 60 < 2 ^ 1920:=by decide +kernel
   lia
theorem pagesL_one (q:Int):pagesL q 1=[q]:=by
 show [q + ((0:Nat):Int)]=[q]
 simp
theorem at_nat {xs:List Int}{j:Int}{i:Nat}(hj:j=i) (h:i < xs.length):atI (xs.map V.int) j=some (.int xs[i]):=by
 subst hj
 unfold atI ixN
 rw [List.length_map,if_pos (by lia),if_pos (by lia)]
 show (xs.map V.int)[((i:Nat):Int).toNat]? = _
 rw [Int.toNat_natCast,List.getElem?_map,List.getElem?_eq_getElem h]
 rfl
theorem atI_of {xs:List Int}{i:Int}(h0:0≤i) (h1:i < xs.length):∃ q∈xs,atI (xs.map V.int) i=some (.int q):=by
 have hn:i.toNat < xs.length:=by lia
 refine ⟨xs[i.toNat],List.getElem_mem hn,?_⟩
 unfold atI ixN
 rw [List.length_map,if_pos h0,if_pos h1]
 show (xs.map V.int)[i.toNat]? = _
 rw [List.getElem?_map,List.getElem?_eq_getElem hn]
 rfl
theorem one_pageI {q at' n:Int}(h0:0≤at') (h1:1≤n) (h2:at' + n≤8):cFst (8 * q + at')=q∧cCnt (8 * q + at') n=1:=by
 unfold cFst cCnt
 lia
theorem one_goodI {q ad n:Int}{ms:List Int}(h1:cFst ad=q) (h2:cCnt ad n=1) (q0:0≤q) (q1:q < 64) (hn:1≤n) (hq:q∈ms):¬ badCells ad n ms:=by
 rintro (h | ⟨_,h | h⟩)
 · lia
 · rw [h1,h2] at h
   rcases h with h | h | h <;> lia
 · rw [h1,h2,pagesL_one] at h
   exact h λ x hx=>by rw [List.mem_singleton.mp hx]; exact hq
theorem peek_one {R:Room}{q:Int}{y:Addr×List Int}(h1:cFst (8 * q)=q) (h2:cCnt (8 * q) 8=1) (hy:look R q=some y) (h8:y.2.length=8):peekC R (8 * q) 8=y.2:=by
 unfold peekC cellPages
 rw [if_neg (by decide),h1,h2,pagesL_one]
 have e1:cellsOf R [q]=y.2:=by
   unfold cellsOf
   rw [List.map_singleton,hy]
   show [y.2].flatten=y.2
   simp
 rw [e1,show ((8 * q) % 8).toNat=0 by lia,List.drop_zero]
 exact List.take_of_length_le (by rw [h8]; decide)
def spNumber:Sp:=λ vs H Q _ => ∃ (c j:Int) (d:Bool),vs=[.int c,.int j,.bl d]∧∀ n:Int,Q (.int n) H
def spTasks:Sp:=λ vs H Q _ => ∃ c:Int,vs=[.int c]∧∀ (k3 k4:Int) (H':Hp) (l:Addr),3≤k3→k3≤11→12≤k4→k4 < 10 ^ 60→Same H H'→H l=none→H' l=some (.lst ([1,2,k3,k4].map V.int))→Q (.ref l) H'
section
variable {P:Program}{w:World}{K:PySem.W.Frag}{mg:Str→Option Value}{base:Heap}
theorem scNu:FnScope ["_law_cell","_law_k","_law_digits","_law_once"] ["_law_cell","_law_k","_law_digits"] (defScope sNumber):=⟨rfl,rfl,rfl,by decide +kernel,rfl,by decide +kernel,by decide +kernel⟩
theorem ok_number {f:Addr}{fd:FuncData}(F:Fun K "_law_number" "_law_number" sNumber f fd):FnOk P w K mg base CX0 1 f fd ["_law_cell","_law_k","_law_digits"] spNumber:=by
 refine F.ok scNu (λ vs H Q E h=>?_) (λ cdv A outer s H vs Q E hr h=>?_)
 · obtain ⟨c,j,d,rfl,_⟩:=h
   rfl
 · obtain ⟨c,j,d,rfl,k⟩:=h
   refine ⟨_,(pss_cons (ps_if (pt_val (pv 2)) (pss_one (ps_ret (pe_op op_mod (pv 0) (pe_op op_pow pe_int pe_int)))) pss_nil)
     (pss_cons (ps_set (i:=3) scNu.nd rfl (Or.inl rfl) (pe_op op_mod (pe_op op_mul (pe_op op_add (pe_op op_add (pe_op op_mod (pv 0) (pe_op op_pow pe_int pe_int)) (pe_op op_mul pe_int (pv 1))) pe_int) pe_int) pe_int))
     (pss_one (ps_ret (pe_op op_add (pe_op op_mul (pv 3) pe_int) (pe_op op_mod (pe_op op_mul (pv 3) (pv 3)) pe_int)))))),?_⟩
   refine ⟨_,rfl,d,rfl,?_⟩
   refine ite2 (λ e=>?_) (λ e=>?_)
   · refine ⟨_,rfl,_,_,rfl,rfl,⟨by decide,by decide,by decide⟩,_,_,rfl,rfl,(by show (0:Int) < 10 ^ 60; decide),k _⟩
   · refine ⟨_,rfl,_,_,rfl,rfl,⟨by decide,by decide,by decide⟩,_,_,rfl,rfl,(by show (0:Int) < 10 ^ 40; decide),_,rfl,_,_,rfl,rfl,.inl ⟨by decide,by decide⟩,_,_,rfl,rfl,_,_,rfl,rfl,_,_,rfl,rfl,.inr ⟨by decide,by decide⟩,_,_,rfl,rfl,(by show (0:Int) < 2147483647; decide),?_⟩
     refine ⟨_,rfl,_,_,rfl,rfl,.inr ⟨by decide,by decide⟩,_,rfl,_,rfl,_,_,rfl,rfl,mul_small _,_,_,rfl,rfl,(by show (0:Int) < 2147483629; decide),_,_,rfl,rfl,k _⟩
theorem p59:(10:Int) ^ Int.toNat 59=100000000000000000000000000000000000000000000000000000000000:=by decide
theorem p40:(10:Int) ^ Int.toNat 40=10000000000000000000000000000000000000000:=by decide
theorem p55:(10:Int) ^ Int.toNat 55=10000000000000000000000000000000000000000000000000000000:=by decide
theorem p50:(10:Int) ^ Int.toNat 50=100000000000000000000000000000000000000000000000000:=by decide
theorem p60:(10:Int) ^ 60=1000000000000000000000000000000000000000000000000000000000000:=by decide
theorem scTs:FnScope ["_law_cell"] ["_law_cell"] (defScope sTasks):=⟨rfl,rfl,rfl,by decide +kernel,rfl,by decide +kernel,by decide +kernel⟩
theorem ok_tasks {f:Addr}{fd:FuncData}(F:Fun K "_law_tasks" "_law_tasks" sTasks f fd):FnOk P w K mg base CX0 1 f fd ["_law_cell"] spTasks:=by
 refine F.ok scTs (λ vs H Q E h=>?_) (λ cdv A outer s H vs Q E hr h=>?_)
 · obtain ⟨c,rfl,_⟩:=h
   rfl
 · obtain ⟨c,rfl,k⟩:=h
   refine ⟨_,(pss_one (ps_ret (pe_lst (pa_cons pe_int (pa_cons pe_int (pa_cons (pe_op op_add pe_int (pe_op op_mod (pv 0) pe_int)) (pa_cons (pe_op op_add (pe_op op_pow pe_int pe_int) (pe_op op_mod (pv 0) (pe_op op_pow pe_int pe_int))) pa_nil))))))),?_⟩
   have a0:=Int.emod_nonneg c (show (9:Int)≠0 by decide)
   have a1:=Int.emod_lt_of_pos c (show (0:Int) < 9 by decide)
   have b0:=Int.emod_nonneg c (show (10:Int) ^ Int.toNat 40≠0 by decide)
   have b1:=Int.emod_lt_of_pos c (show (0:Int) < (10:Int) ^ Int.toNat 40 by decide)
   refine ⟨_,rfl,_,_,rfl,rfl,(by show (0:Int) < 9; decide),_,_,rfl,rfl,_,_,rfl,rfl,⟨by decide,by decide,by decide⟩,_,rfl,_,_,rfl,rfl,⟨by decide,by decide,by decide⟩,_,_,rfl,rfl,(by show (0:Int) < 10 ^ Int.toNat 40; decide),_,_,rfl,rfl,(by show 4≤sizeLine; decide),λ l hl=>k (3 + c % 9) ((10:Int) ^ Int.toNat 59 + c % (10:Int) ^ Int.toNat 40) _ l (by lia) (by lia) ?_ ?_ (same_new hl) hl upd_same⟩
   · rw [p59,p40]; rw [p40] at b0 b1; lia
   · rw [p59,p60,p40]; rw [p40] at b0 b1; lia
end
end Rm
namespace Rm
open PySem L2
structure Kit (P:Program) (w:World) (K:PySem.W.Frag) (mg:Str→Option Value) (base:Heap) (C:Addr) (cl4:Ref4→Addr) where
 (fBe fCl fMp fDr fPe fPk fCo fH:Addr)
 (dBe dCl dMp dDr dPe dPk dCo dH:FuncData)
 cl:Cls K C
 GBe:FnOk P w K mg base (CXO P w) 2 fBe dBe ["self","task"] (spBegin C (cl4 .taken))
 bBe:Binds K dBe ["self","task"] []
 mBe:Meth K C "begin" fBe
 GCl:FnOk P w K mg base (CXO P w) 2 fCl dCl ["self","task"] (spClose C (cl4 .noTask))
 bCl:Binds K dCl ["self","task"] []
 mCl:Meth K C "close" fCl
 GMp:FnOk P w K mg base (CXO P w) 3 fMp dMp ["self","task","page","many"] (spMap C (cl4 .noTask) (cl4 .noPage) (cl4 .taken) (cl4 .noRoom))
 bMp:Binds K dMp ["self","task","page","many"] []
 mMp:Meth K C "map" fMp
 GDr:FnOk P w K mg base (CXO P w) 3 fDr dDr ["self","task","page","many"] (spDrop C (cl4 .noTask) (cl4 .noPage))
 bDr:Binds K dDr ["self","task","page","many"] []
 mDr:Meth K C "drop" fDr
 GPe:FnOk P w K mg base (CXO P w) 3 fPe dPe ["self","task","address","many"] (spPeek C (cl4 .noTask) (cl4 .noPage))
 bPe:Binds K dPe ["self","task","address","many"] []
 mPe:Meth K C "peek" fPe
 GPk:FnOk P w K mg base (CXO P w) 3 fPk dPk ["self","task","address","cells"] (spPoke K C (cl4 .noTask) (cl4 .noPage))
 bPk:Binds K dPk ["self","task","address","cells"] []
 mPk:Meth K C "poke" fPk
 GCo:FnOk P w K mg base (CXO P w) 2 fCo dCo ["self","task","other"] (spCopy C (cl4 .noTask) (cl4 .taken) (cl4 .noRoom))
 bCo:Binds K dCo ["self","task","other"] []
 mCo:Meth K C "copy" fCo
 GH:FnOk P w K mg base CX0 1 fH dH ["self"] (spHeld C)
 bH:Binds K dH ["self"] []
 mH:Meth K C "held" fH
theorem ks_ne {a b:Str}(h:¬ a=b):¬ V.str a=V.str b:=λ z=>h (V.str.inj z)
section
variable {tot t o pg m ad n:Int}{cs:List Int}{W:Rms}{X:Ref4}{a:Addr}{H H':Hp}
theorem lkc {x:Addr×Room}(h:look W t=some x):look (conW W) t=some (con x.2):=by rw [look_conW,h]; rfl
theorem StepW.set {x:Addr×Room}{R':Room}(h:look W t=some x) (o:Off (· = x.1) H H') (hf:∀ y∈R',y∈x.2∨H y.2.1=none):StepW a H W H' (setA W t (x.1,R')):=by
 refine ⟨λ b u e n=>o _ _ e λ q=>n (.inr ⟨_,look_mem h,q.symm⟩),λ c hc=>?_,λ z hz=>?_⟩
 · obtain ⟨z,hz,y,hy,rfl⟩:=hc
   rcases setA_mem hz with e | ⟨hz',_⟩
   · rw [e] at hy
     rcases hf y hy with q | q
     · exact .inl ⟨_,look_mem h,y,q,rfl⟩
     · exact .inr q
   · exact .inl ⟨z,hz',y,hy,rfl⟩
 · rcases setA_mem hz with e | ⟨hz',_⟩
   · rw [e]; exact .inl ⟨_,look_mem h,rfl⟩
   · exact .inl ⟨z,hz',rfl⟩
theorem StepW.add {r:Addr}{N:Room}(hr:H r=none) (hf:∀ y∈N,H y.2.1=none) (of:Off (· = a) H H'):StepW a H W H' (W ++ [(o,r,N)]):=by
 refine ⟨λ b u e n=>of _ _ e λ q=>n (.inl q),λ c hc=>?_,λ z hz=>?_⟩
 · obtain ⟨z,hz,y,hy,rfl⟩:=hc
   rcases List.mem_append.mp hz with h | h
   · exact .inl ⟨z,h,y,hy,rfl⟩
   · rw [List.mem_singleton.mp h] at hy
     exact .inr (hf y hy)
 · rcases List.mem_append.mp hz with h | h
   · exact .inl ⟨z,h,rfl⟩
   · rw [List.mem_singleton.mp h]; exact .inr hr
theorem StepW.del (of:Off (· = a) H H'):StepW a H W H' (delA W t):=by
 have sub:∀ y∈delA W t,y∈W:=λ y hy=>(List.mem_filter.mp hy).1
 exact ⟨λ b u e n=>of _ _ e λ q=>n (.inl q),λ c ⟨z,hz,y,hy,e⟩=>.inl ⟨z,sub z hz,y,hy,e⟩,λ z hz=>.inl ⟨z,sub z hz,rfl⟩⟩
theorem dropAll_sub:∀ {ps:List Int}{R:Room}{y:Int×Addr×List Int},y∈dropAll R ps→y∈R
 | [],_,_,h=>h
 | q :: ps,R,y,h=>(List.mem_filter.mp (dropAll_sub (ps:=ps) (R:=delA R q) h)).1
theorem conN {N:Room}(hN:N.map (·.1)=pagesL pg m) (hz:∀ y∈N,y.2.2=z8):con N=(pagesL pg m).map λ q=>(q,z8):=by
 unfold con
 rw [show N.map (λ y=>(y.1,y.2.2))=N.map (λ y=>(y.1,z8)) from List.map_congr_left λ y hy=>by rw [hz y hy], ← hN,List.map_map]
 rfl
theorem con_app {R N:Room}:con (R ++ N)=con R ++ con N:=by unfold con; rw [List.map_append]
theorem conW_app {W:Rms}{t:Int}{r:Addr}{R:Room}:conW (W ++ [(t,r,R)])=conW W ++ [(t,con R)]:=by unfold conW; rw [List.map_append]; rfl
end
def spDo (C:Addr) (cl4:Ref4→Addr):Sp:=λ vs H Q E => ∃ (p a d:Addr) (tot:Int) (W:Rms) (D:Deed),vs=[.ref p,.ref d]∧PRAt C H p a tot W∧DeedAt H d D∧Lg D∧Sz (conW W) tot ∧
 (∀ X,Due tot (conW W) D X→∀ H',Same H H'→E (.ref (cl4 X)) none H')∧(∀ (H':Hp) (W':Rms) (v:V),Good tot (conW W) D (conW W')→PRAt C H' p a tot W'→StepW a H W H' W'→Tells (conW W) D v H H'→(∀ l,v=.ref l→¬ Adr W' l)→Q v H')
section
variable {P:Program}{w:World}{K:PySem.W.Frag}{mg:Str→Option Value}{base:Heap}
theorem scDo:FnScope ["_law_rooms","_law_deed_here"] ["_law_rooms","_law_deed_here"] (defScope sDo):=⟨rfl,rfl,rfl,by decide +kernel,rfl,by decide +kernel,by decide +kernel⟩
set_option maxHeartbeats 4000000 in
theorem ok_do {f C:Addr}{cl4:Ref4→Addr}{fd:FuncData}(F:Fun K "_law_do" "_law_do" sDo f fd) (M:Kit P w K mg base C cl4) :
   FnOk P w K mg base (CXO P w) 4 f fd ["_law_rooms","_law_deed_here"] (spDo C cl4):=by
 refine F.okx scDo (λ vs H Q E h=>?_) (λ cdv A outer s H vs Q E hr h=>?_)
 · obtain ⟨p,a,d,tot,W,D,rfl,_⟩:=h
   rfl
 · obtain ⟨p,a,d,tot,W,D,rfl,D0,hd,lg,sz,kE,kQ⟩:=h
   refine ⟨_,(pssx_cons (psx_if (pt_cmpR op_eq (pe_ix ix_tup (pv 1) pe_int (λ _ _=>rfl)) pe_str (nomark _)) (pssx_one (psx_ret (pex_meth (pv 0) M.cl M.mBe M.GBe (hr.mono (by decide)) rfl M.bBe .nil (pa_cons (pe_ix ix_tup (pv 1) pe_int (λ _ _=>rfl)) pa_nil)))) pssx_nil)
     (pssx_cons (psx_if (pt_cmpR op_eq (pe_ix ix_tup (pv 1) pe_int (λ _ _=>rfl)) pe_str (nomark _)) (pssx_one (psx_ret (pex_meth (pv 0) M.cl M.mCl M.GCl (hr.mono (by decide)) rfl M.bCl .nil (pa_cons (pe_ix ix_tup (pv 1) pe_int (λ _ _=>rfl)) pa_nil)))) pssx_nil)
     (pssx_cons (psx_if (pt_cmpR op_eq (pe_ix ix_tup (pv 1) pe_int (λ _ _=>rfl)) pe_str (nomark _)) (pssx_one (psx_ret (pex_meth (pv 0) M.cl M.mMp M.GMp (hr.mono (by decide)) rfl M.bMp .nil (pa_cons (pe_ix ix_tup (pv 1) pe_int (λ _ _=>rfl)) (pa_cons (pe_ix ix_tup (pv 1) pe_int (λ _ _=>rfl)) (pa_cons (pe_ix ix_tup (pv 1) pe_int (λ _ _=>rfl)) pa_nil)))))) pssx_nil)
     (pssx_cons (psx_if (pt_cmpR op_eq (pe_ix ix_tup (pv 1) pe_int (λ _ _=>rfl)) pe_str (nomark _)) (pssx_one (psx_ret (pex_meth (pv 0) M.cl M.mDr M.GDr (hr.mono (by decide)) rfl M.bDr .nil (pa_cons (pe_ix ix_tup (pv 1) pe_int (λ _ _=>rfl)) (pa_cons (pe_ix ix_tup (pv 1) pe_int (λ _ _=>rfl)) (pa_cons (pe_ix ix_tup (pv 1) pe_int (λ _ _=>rfl)) pa_nil)))))) pssx_nil)
     (pssx_cons (psx_if (pt_cmpR op_eq (pe_ix ix_tup (pv 1) pe_int (λ _ _=>rfl)) pe_str (nomark _)) (pssx_one (psx_ret (pex_meth (pv 0) M.cl M.mPe M.GPe (hr.mono (by decide)) rfl M.bPe .nil (pa_cons (pe_ix ix_tup (pv 1) pe_int (λ _ _=>rfl)) (pa_cons (pe_ix ix_tup (pv 1) pe_int (λ _ _=>rfl)) (pa_cons (pe_ix ix_tup (pv 1) pe_int (λ _ _=>rfl)) pa_nil)))))) pssx_nil)
     (pssx_cons (psx_if (pt_cmpR op_eq (pe_ix ix_tup (pv 1) pe_int (λ _ _=>rfl)) pe_str (nomark _)) (pssx_one (psx_ret (pex_meth (pv 0) M.cl M.mPk M.GPk (hr.mono (by decide)) rfl M.bPk .nil (pa_cons (pe_ix ix_tup (pv 1) pe_int (λ _ _=>rfl)) (pa_cons (pe_ix ix_tup (pv 1) pe_int (λ _ _=>rfl)) (pa_cons (pe_ix ix_tup (pv 1) pe_int (λ _ _=>rfl)) pa_nil)))))) pssx_nil)
     (pssx_one (psx_ret (pex_meth (pv 0) M.cl M.mCo M.GCo (hr.mono (by decide)) rfl M.bCo .nil (pa_cons (pe_ix ix_tup (pv 1) pe_int (λ _ _=>rfl)) (pa_cons (pe_ix ix_tup (pv 1) pe_int (λ _ _=>rfl)) pa_nil))))))))))),?_⟩
   obtain ⟨dx,h1⟩:=id D0.ob
   have no:∀ m:Str,¬ m = "rooms" → ¬ m = "total" → (flds tot a).lookup m=none:=λ m=>flds_no _ _
   have hk:∀ x∈W,x.2.2.length≤1000:=λ x hx=>Nat.le_trans (sz.w.2 x hx) (by decide)
   cases D with
   | begin t =>
     have hd:H d=some (.tup [.str "begin",.int t]):=hd
     refine ⟨_,rfl,d,_,_,.str "begin",rfl,rfl,SqT.of hd,rfl,rfl,_,rfl,?_⟩
     rw [decide_eq_true rfl]
     refine iteT ?_
     refine ⟨_,rfl,p,dx,_,rfl,h1,no "begin" (by decide +kernel) (by decide +kernel),_,rfl,d,_,_,.int t,rfl,rfl,SqT.of hd,rfl,p,a,tot,t,W,rfl,D0,lg,sz.w.1,λ ⟨x,hx⟩=>kE .taken ⟨⟨_,lkc hx⟩,rfl⟩ _ (Same.refl _),λ hn H1 r hr1 D1 o1=>kQ H1 _ _ ⟨lookWn hn,conW_app⟩ D1 (StepW.add hr1 (λ _ h=>nomatch h) o1) rfl (λ _ h=>by cases h)⟩
   | close t =>
     have hd:H d=some (.tup [.str "close",.int t]):=hd
     refine ⟨_,rfl,d,_,_,.str "close",rfl,rfl,SqT.of hd,rfl,rfl,_,rfl,?_⟩
     rw [decide_eq_false (show ¬ V.str "close" = V.str "begin" from ks_ne (by decide +kernel))]
     refine iteF ?_
     refine ⟨_,rfl,d,_,_,.str "close",rfl,rfl,SqT.of hd,rfl,rfl,_,rfl,?_⟩
     rw [decide_eq_true rfl]
     refine iteT ?_
     refine ⟨_,rfl,p,dx,_,rfl,h1,no "close" (by decide +kernel) (by decide +kernel),_,rfl,d,_,_,.int t,rfl,rfl,SqT.of hd,rfl,p,a,tot,t,W,rfl,D0,lg,λ e=>kE .noTask ⟨lookWn e,rfl⟩ _ (Same.refl _),λ ⟨x,hx⟩ H1 D1 o1=>kQ H1 _ _ ⟨⟨_,lkc hx⟩,conW_del⟩ D1 (StepW.del o1) rfl (λ _ h=>by cases h)⟩
   | map t pg m =>
     have hd:H d=some (.tup [.str "map",.int t,.int pg,.int m]):=hd
     obtain ⟨g1,g2,g3⟩:=lg
     refine ⟨_,rfl,d,_,_,.str "map",rfl,rfl,SqT.of hd,rfl,rfl,_,rfl,?_⟩
     rw [decide_eq_false (show ¬ V.str "map" = V.str "begin" from ks_ne (by decide +kernel))]
     refine iteF ?_
     refine ⟨_,rfl,d,_,_,.str "map",rfl,rfl,SqT.of hd,rfl,rfl,_,rfl,?_⟩
     rw [decide_eq_false (show ¬ V.str "map" = V.str "close" from ks_ne (by decide +kernel))]
     refine iteF ?_
     refine ⟨_,rfl,d,_,_,.str "map",rfl,rfl,SqT.of hd,rfl,rfl,_,rfl,?_⟩
     rw [decide_eq_true rfl]
     refine iteT ?_
     refine ⟨_,rfl,p,dx,_,rfl,h1,no "map" (by decide +kernel) (by decide +kernel),_,rfl,d,_,_,.int t,rfl,rfl,SqT.of hd,rfl,_,rfl,d,_,_,.int pg,rfl,rfl,SqT.of hd,rfl,_,rfl,d,_,_,.int m,rfl,rfl,SqT.of hd,rfl,p,a,tot,t,pg,m,W,rfl,D0,g1,g2,g3,sz.w.1,sz.w.2,sz.lt,λ e=>kE .noTask (.inl ⟨lookWn e,rfl⟩) _ (Same.refl _),λ x hx hb H1 s1=>kE .noPage (.inr ⟨_,lkc hx,.inl ⟨hb,rfl⟩⟩) _ s1,λ x hx hb hc H1 s1=>kE .taken (.inr ⟨_,lkc hx,.inr (.inl ⟨hb,by rw [keysC_con]; exact hc,rfl⟩)⟩) _ s1,λ x hx hb hc ht H1 s1=>kE .noRoom (.inr ⟨_,lkc hx,.inr (.inr ⟨hb,by rw [keysC_con]; exact hc,by rw [← held_c]; exact ht,rfl⟩)⟩) _ s1,λ x hx hb hc ht H1 N hN hz D1 o1=>kQ H1 _ _ ⟨_,lkc hx,hb,by rw [keysC_con]; exact hc,by rw [← held_c]; exact ht,by rw [conW_set,con_app,conN hN λ y hy=>(hz y hy).1]⟩ D1 (StepW.set hx o1 λ y hy=>(List.mem_append.mp hy).elim .inl λ h=>.inr (hz y h).2) rfl (λ _ h=>by cases h)⟩
   | drop t pg m =>
     have hd:H d=some (.tup [.str "drop",.int t,.int pg,.int m]):=hd
     obtain ⟨g1,g2,g3⟩:=lg
     refine ⟨_,rfl,d,_,_,.str "drop",rfl,rfl,SqT.of hd,rfl,rfl,_,rfl,?_⟩
     rw [decide_eq_false (show ¬ V.str "drop" = V.str "begin" from ks_ne (by decide +kernel))]
     refine iteF ?_
     refine ⟨_,rfl,d,_,_,.str "drop",rfl,rfl,SqT.of hd,rfl,rfl,_,rfl,?_⟩
     rw [decide_eq_false (show ¬ V.str "drop" = V.str "close" from ks_ne (by decide +kernel))]
     refine iteF ?_
     refine ⟨_,rfl,d,_,_,.str "drop",rfl,rfl,SqT.of hd,rfl,rfl,_,rfl,?_⟩
     rw [decide_eq_false (show ¬ V.str "drop" = V.str "map" from ks_ne (by decide +kernel))]
     refine iteF ?_
     refine ⟨_,rfl,d,_,_,.str "drop",rfl,rfl,SqT.of hd,rfl,rfl,_,rfl,?_⟩
     rw [decide_eq_true rfl]
     refine iteT ?_
     refine ⟨_,rfl,p,dx,_,rfl,h1,no "drop" (by decide +kernel) (by decide +kernel),_,rfl,d,_,_,.int t,rfl,rfl,SqT.of hd,rfl,_,rfl,d,_,_,.int pg,rfl,rfl,SqT.of hd,rfl,_,rfl,d,_,_,.int m,rfl,rfl,SqT.of hd,rfl,p,a,tot,t,pg,m,W,rfl,D0,g1,g2,g3,hk,λ e=>kE .noTask (.inl ⟨lookWn e,rfl⟩) _ (Same.refl _),λ x hx hb H1 s1=>kE .noPage (.inr ⟨_,lkc hx,by rw [keysC_con]; exact hb,rfl⟩) _ s1,λ x hx hb hc H1 D1 o1=>kQ H1 _ _ ⟨_,lkc hx,hb,by rw [keysC_con]; exact hc,by rw [conW_set,drop_con]⟩ D1 (StepW.set hx o1 λ y hy=>.inl (dropAll_sub hy)) rfl (λ _ h=>by cases h)⟩
   | peek t ad n =>
     have hd:H d=some (.tup [.str "peek",.int t,.int ad,.int n]):=hd
     obtain ⟨g1,g2,g3,g4⟩:=lg
     refine ⟨_,rfl,d,_,_,.str "peek",rfl,rfl,SqT.of hd,rfl,rfl,_,rfl,?_⟩
     rw [decide_eq_false (show ¬ V.str "peek" = V.str "begin" from ks_ne (by decide +kernel))]
     refine iteF ?_
     refine ⟨_,rfl,d,_,_,.str "peek",rfl,rfl,SqT.of hd,rfl,rfl,_,rfl,?_⟩
     rw [decide_eq_false (show ¬ V.str "peek" = V.str "close" from ks_ne (by decide +kernel))]
     refine iteF ?_
     refine ⟨_,rfl,d,_,_,.str "peek",rfl,rfl,SqT.of hd,rfl,rfl,_,rfl,?_⟩
     rw [decide_eq_false (show ¬ V.str "peek" = V.str "map" from ks_ne (by decide +kernel))]
     refine iteF ?_
     refine ⟨_,rfl,d,_,_,.str "peek",rfl,rfl,SqT.of hd,rfl,rfl,_,rfl,?_⟩
     rw [decide_eq_false (show ¬ V.str "peek" = V.str "drop" from ks_ne (by decide +kernel))]
     refine iteF ?_
     refine ⟨_,rfl,d,_,_,.str "peek",rfl,rfl,SqT.of hd,rfl,rfl,_,rfl,?_⟩
     rw [decide_eq_true rfl]
     refine iteT ?_
     refine ⟨_,rfl,p,dx,_,rfl,h1,no "peek" (by decide +kernel) (by decide +kernel),_,rfl,d,_,_,.int t,rfl,rfl,SqT.of hd,rfl,_,rfl,d,_,_,.int ad,rfl,rfl,SqT.of hd,rfl,_,rfl,d,_,_,.int n,rfl,rfl,SqT.of hd,rfl,p,a,tot,t,ad,n,W,rfl,D0,g1,g2,g3,g4,hk,λ e=>kE .noTask (.inl ⟨lookWn e,rfl⟩) _ (Same.refl _),λ x hx hb H1 s1=>kE .noPage (.inr ⟨_,lkc hx,by rw [keysC_con]; exact hb,rfl⟩) _ s1,λ x hx hb H1 l1 s1 nl1 hl1=>kQ H1 W _ ⟨_,lkc hx,by rw [keysC_con]; exact hb,rfl⟩ (D0.same s1) (StepW.same s1) ⟨l1,_,rfl,lkc hx,nl1,by rw [← peek_con]; exact hl1⟩ (λ l e ha=>by obtain ⟨xs,e2⟩:=D0.R.lst ha; cases e; rw [nl1] at e2; cases e2)⟩
   | poke t ad cs =>
     obtain ⟨c,hd,hc⟩:=hd
     obtain ⟨g1,g2,g3,g4⟩:=lg
     refine ⟨_,rfl,d,_,_,.str "poke",rfl,rfl,SqT.of hd,rfl,rfl,_,rfl,?_⟩
     rw [decide_eq_false (show ¬ V.str "poke" = V.str "begin" from ks_ne (by decide +kernel))]
     refine iteF ?_
     refine ⟨_,rfl,d,_,_,.str "poke",rfl,rfl,SqT.of hd,rfl,rfl,_,rfl,?_⟩
     rw [decide_eq_false (show ¬ V.str "poke" = V.str "close" from ks_ne (by decide +kernel))]
     refine iteF ?_
     refine ⟨_,rfl,d,_,_,.str "poke",rfl,rfl,SqT.of hd,rfl,rfl,_,rfl,?_⟩
     rw [decide_eq_false (show ¬ V.str "poke" = V.str "map" from ks_ne (by decide +kernel))]
     refine iteF ?_
     refine ⟨_,rfl,d,_,_,.str "poke",rfl,rfl,SqT.of hd,rfl,rfl,_,rfl,?_⟩
     rw [decide_eq_false (show ¬ V.str "poke" = V.str "drop" from ks_ne (by decide +kernel))]
     refine iteF ?_
     refine ⟨_,rfl,d,_,_,.str "poke",rfl,rfl,SqT.of hd,rfl,rfl,_,rfl,?_⟩
     rw [decide_eq_false (show ¬ V.str "poke" = V.str "peek" from ks_ne (by decide +kernel))]
     refine iteF ?_
     refine ⟨_,rfl,d,_,_,.str "poke",rfl,rfl,SqT.of hd,rfl,rfl,_,rfl,?_⟩
     rw [decide_eq_true rfl]
     refine iteT ?_
     refine ⟨_,rfl,p,dx,_,rfl,h1,no "poke" (by decide +kernel) (by decide +kernel),_,rfl,d,_,_,.int t,rfl,rfl,SqT.of hd,rfl,_,rfl,d,_,_,.int ad,rfl,rfl,SqT.of hd,rfl,_,rfl,d,_,_,.ref c,rfl,rfl,SqT.of hd,rfl,p,a,c,tot,t,ad,cs,W,rfl,D0,SqL.of hc,g2,g1,g3,g4,hk,λ e=>kE .noTask (.inl ⟨lookWn e,rfl⟩) _ (Same.refl _),λ x hx hb H1 s1=>kE .noPage (.inr ⟨_,lkc hx,by rw [keysC_con]; exact hb,rfl⟩) _ s1,λ x hx hb H1 R' hR hf D1 o1=>kQ H1 _ _ ⟨_,lkc hx,by rw [keysC_con]; exact hb,by rw [conW_set,hR,poke_con]⟩ D1 (StepW.set hx o1 hf) rfl (λ _ h=>by cases h)⟩
   | copy t o =>
     have hd:H d=some (.tup [.str "copy",.int t,.int o]):=hd
     obtain ⟨g1,g2⟩:=lg
     refine ⟨_,rfl,d,_,_,.str "copy",rfl,rfl,SqT.of hd,rfl,rfl,_,rfl,?_⟩
     rw [decide_eq_false (show ¬ V.str "copy" = V.str "begin" from ks_ne (by decide +kernel))]
     refine iteF ?_
     refine ⟨_,rfl,d,_,_,.str "copy",rfl,rfl,SqT.of hd,rfl,rfl,_,rfl,?_⟩
     rw [decide_eq_false (show ¬ V.str "copy" = V.str "close" from ks_ne (by decide +kernel))]
     refine iteF ?_
     refine ⟨_,rfl,d,_,_,.str "copy",rfl,rfl,SqT.of hd,rfl,rfl,_,rfl,?_⟩
     rw [decide_eq_false (show ¬ V.str "copy" = V.str "map" from ks_ne (by decide +kernel))]
     refine iteF ?_
     refine ⟨_,rfl,d,_,_,.str "copy",rfl,rfl,SqT.of hd,rfl,rfl,_,rfl,?_⟩
     rw [decide_eq_false (show ¬ V.str "copy" = V.str "drop" from ks_ne (by decide +kernel))]
     refine iteF ?_
     refine ⟨_,rfl,d,_,_,.str "copy",rfl,rfl,SqT.of hd,rfl,rfl,_,rfl,?_⟩
     rw [decide_eq_false (show ¬ V.str "copy" = V.str "peek" from ks_ne (by decide +kernel))]
     refine iteF ?_
     refine ⟨_,rfl,d,_,_,.str "copy",rfl,rfl,SqT.of hd,rfl,rfl,_,rfl,?_⟩
     rw [decide_eq_false (show ¬ V.str "copy" = V.str "poke" from ks_ne (by decide +kernel))]
     refine iteF ?_
     refine ⟨_,rfl,p,dx,_,rfl,h1,no "copy" (by decide +kernel) (by decide +kernel),_,rfl,d,_,_,.int t,rfl,rfl,SqT.of hd,rfl,_,rfl,d,_,_,.int o,rfl,rfl,SqT.of hd,rfl,p,a,tot,t,o,W,rfl,D0,g1,g2,sz.w.1,sz.w.2,sz.lt,λ e=>kE .noTask (.inl ⟨lookWn e,rfl⟩) _ (Same.refl _),λ x hx ⟨y,hy⟩=>kE .taken (.inr ⟨_,lkc hx,.inl ⟨⟨_,lkc hy⟩,rfl⟩⟩) _ (Same.refl _),λ x hx hb ht H1 s1=>kE .noRoom (.inr ⟨_,lkc hx,.inr ⟨lookWn hb,by rw [con_len, ← held_c]; exact ht,rfl⟩⟩) _ s1,λ x hx hb ht H1 r N hr1 hN hf D1 o1=>kQ H1 _ _ ⟨_,lkc hx,lookWn hb,by rw [con_len, ← held_c]; exact ht,by rw [conW_app,hN]⟩ D1 (StepW.add hr1 hf o1) rfl (λ _ h=>by cases h)⟩
end
end Rm
namespace Rm
open PySem L2
theorem bt_VE:bootBuiltins "ValueError" = some (.type "ValueError"):=by decide +kernel
structure OTx (K:PySem.W.Frag) (mg:Str→Option Value) (cl4:Ref4→Addr):Prop where
 xc:∀ X,PySem.W.XCls K (cl4 X)
 ve:mg "ValueError" = none
 vVE:∀ X,PySem.W.kitOne K (.ref (cl4 X)) (.type "ValueError")=some true
 mgc:∀ X,mg (wordOf X)=some (.ref (cl4 X))
 kit:∀ X Y,PySem.W.kitOne K (.ref (cl4 X)) (.ref (cl4 Y))=some (decide (X=Y))
def kb (X:Ref4):List Bool:=[decide (X=.noTask),decide (X=.noPage),decide (X=.noRoom),decide (X=.taken)]
def ix4:Ref4→Nat
 | .noTask=>0 | .noPage=>1 | .noRoom=>2 | .taken=>3
def words4:List V:=[.str "NoTask",.str "NoPage",.str "NoRoom",.str "Taken"]
theorem kb_sum (X:Ref4):((kb X).map λ b=>if b=true then (1:Int) else 0).sum=1:=by cases X <;> rfl
theorem kb_at (X:Ref4):∀ i:Nat,i < 4→atI ((kb X).map V.bl) (0 + (i:Int))=some (.bl (decide (i=ix4 X))):=by
 intro i hi
 match i,hi with
 | 0,_=>cases X <;> rfl
 | 1,_=>cases X <;> rfl
 | 2,_=>cases X <;> rfl
 | 3,_=>cases X <;> rfl
theorem yes_in {σ:St}{H:Hp}{Q:Bool→Hp→Prop}(h:Q true H):tYes σ H Q:=h
theorem at0 {k:Str}{r:List V}:atI (V.str k :: r) 0=some (.str k):=by
 unfold atI ixN
 rw [if_pos (by decide),if_pos (by rw [List.length_cons]; lia)]
 rfl
theorem words_at (X:Ref4):atI words4 (0 + ((ix4 X:Nat):Int))=some (.str (wordOf X)):=by cases X <;> rfl
def spWord (cl4:Ref4→Addr) (hx:Addr):Sp:=λ vs H Q _ => ∃ X:Ref4,vs=[.ref hx]∧H hx=some (xq hx (.ref (cl4 X)))∧∀ H',Same H H'→Q (.str (wordOf X)) H'
def spTold (C:Addr):Sp:=λ vs H Q _ => ∃ (p a d:Addr) (tot:Int) (W:Rms) (D:Deed),vs=[.ref p,.ref d]∧PRAt C H p a tot W∧DeedAt H d D∧Lg D∧Sz (conW W) tot ∧
 (∀ X,Due tot (conW W) D X→∀ (H':Hp) (T:Addr),Same H H'→H' T=some (.tup [.non,.str (wordOf X)])→Q (.ref T) H') ∧
 (∀ (H':Hp) (W':Rms) (T:Addr) (v:V),Good tot (conW W) D (conW W')→PRAt C H' p a tot W'→StepW a H W H' W'→Tells (conW W) D v H H'→(∀ l,v=.ref l→¬ Adr W' l)→H' T=some (.tup [v,.str ""])→Q (.ref T) H')
theorem Tells.non {c:Wc}{D:Deed}{v:V}{H H':Hp}(h:Tells c D v H H') (n:¬ V.str (kindOf D)=V.str "peek"):v=.non:=by
 cases D with
 | peek t ad n'=>exact absurd rfl n
 | _=>exact h
theorem Tells.same {c:Wc}{D:Deed}{v:V}{H H' H'':Hp}(h:Tells c D v H H') (s:Same H' H''):Tells c D v H H'':=by
 cases D with
 | peek t ad n'=>obtain ⟨l,r,e,h1,h2,h3⟩:=h; exact ⟨l,r,e,h1,h2,s _ _ h3⟩
 | _=>exact h
section
variable {P:Program}{w:World}{K:PySem.W.Frag}{mg:Str→Option Value}{base:Heap}
theorem scWo:FnScope ["_law_caught","_law_kinds","_law_words"] ["_law_caught"] (defScope sWord):=⟨rfl,rfl,rfl,by decide +kernel,rfl,by decide +kernel,by decide +kernel⟩
set_option maxHeartbeats 4000000 in
theorem ok_word {f e:Addr}{cl4:Ref4→Addr}{fd:FuncData}(F:Fun K "_law_word" "_law_word" sWord f fd) (T:MTxt mg) (OT:OTx K mg cl4):FnOkH e P w K mg base 1 f fd ["_law_caught"] (spWord cl4 e):=by
 refine F.okH scWo (λ vs H Q E h=>?_) (λ cdv A outer s H vs Q hr h=>?_)
 · obtain ⟨X,rfl,_⟩:=h
   rfl
 · obtain ⟨X,rfl,he,k⟩:=h
   have hs:sizeLine=16777216:=sizeLine_eq
   have g_isinstance:(defScope sWord).names.lookup ("isinstance" : Str)=some NameKind.globalImplicit:=by decide +kernel
   have g_NoPage:(defScope sWord).names.lookup ("NoPage" : Str)=some NameKind.globalImplicit:=by decide +kernel
   have g_NoTask:(defScope sWord).names.lookup ("NoTask" : Str)=some NameKind.globalImplicit:=by decide +kernel
   have g_Taken:(defScope sWord).names.lookup ("Taken" : Str)=some NameKind.globalImplicit:=by decide +kernel
   have g_NoRoom:(defScope sWord).names.lookup ("NoRoom" : Str)=some NameKind.globalImplicit:=by decide +kernel
   have g_sum:(defScope sWord).names.lookup ("sum" : Str)=some NameKind.globalImplicit:=by decide +kernel
   have g_ValueError:(defScope sWord).names.lookup ("ValueError" : Str)=some NameKind.globalImplicit:=by decide +kernel
   have g_range:(defScope sWord).names.lookup ("range" : Str)=some NameKind.globalImplicit:=by decide +kernel
   refine ⟨_,(pss_cons (ps_set (i:=1) scWo.nd rfl (Or.inr rfl) (pe_lst (pa_cons (pe_callB call_isq g_isinstance T.isi bt_isinstance (pa_cons (pv 0) (pa_cons (pe_glob (v:=.ref (cl4 .noTask)) g_NoTask (OT.mgc .noTask) rfl) pa_nil))) (pa_cons (pe_callB call_isq g_isinstance T.isi bt_isinstance (pa_cons (pv 0) (pa_cons (pe_glob (v:=.ref (cl4 .noPage)) g_NoPage (OT.mgc .noPage) rfl) pa_nil))) pa_nil))))
     (pss_cons (ps_set (i:=1) scWo.nd rfl (Or.inr rfl) (pe_op op_cat (pv 1) (pe_lst (pa_cons (pe_callB call_isq g_isinstance T.isi bt_isinstance (pa_cons (pv 0) (pa_cons (pe_glob (v:=.ref (cl4 .noRoom)) g_NoRoom (OT.mgc .noRoom) rfl) pa_nil))) (pa_cons (pe_callB call_isq g_isinstance T.isi bt_isinstance (pa_cons (pv 0) (pa_cons (pe_glob (v:=.ref (cl4 .taken)) g_Taken (OT.mgc .taken) rfl) pa_nil))) pa_nil)))))
     (pss_cons (ps_set (i:=2) scWo.nd rfl (Or.inr rfl) (pe_lst (pa_cons pe_str (pa_cons pe_str (pa_cons pe_str (pa_cons pe_str pa_nil))))))
     (pss_cons (ps_if (PW.pt (pw_or (pt_cmpR op_ne (pe_callB (call_sumH (xc:=.ref (cl4 X)) hr.hd) g_sum T.sum bt_sum (pa_cons (pe_compH (hx:=e) (xc:=.ref (cl4 X)) (cl:=[]) (caps:=[]) ⟨rfl,by decide +kernel,by decide +kernel,rfl,by kernel_rfl,by intro p hp; simp at hp,by kernel_rfl,by intro p hp; simp at hp,by decide +kernel⟩ hr.hd (pi_listH (pv 1)) (λ _ _ _ _=>pts_nil) (λ _ _ _ _=>(pe_callTy call_int1 (by rfl) T.int bt_int (pa_cons (pv 0) pa_nil)))) pa_nil)) pe_int (nomark _)) (pw_or1 (pt_not (pt_val (pe_callB call_isq g_isinstance T.isi bt_isinstance (pa_cons (pv 0) (pa_cons (pe_bltn (v:=.ty "ValueError") g_ValueError OT.ve bt_VE rfl) pa_nil)))))))) (pss_one (ps_ret pe_str)) pss_nil)
     (pss_one (ps_ret (pe_ix ix_list (pe_compH (hx:=e) (xc:=.ref (cl4 X)) (cl:=[("_law_words",s.heap.objs.size + 2),("_law_kinds",s.heap.objs.size + 1)]) (caps:=[("_law_kinds",1),("_law_words",2)]) ⟨rfl,by decide +kernel,by decide +kernel,rfl,by kernel_rfl,by intro p hp; simp only [List.mem_cons,List.not_mem_nil,or_false] at hp; rcases hp with rfl | rfl <;> first | rfl | exact ⟨rfl,.inl rfl,.inl rfl⟩ | exact ⟨rfl,.inl rfl,.inr rfl⟩,by kernel_rfl,by intro p hp; simp only [List.mem_cons,List.not_mem_nil,or_false] at hp; rcases hp with rfl | rfl <;> first | rfl | exact ⟨rfl,.inl rfl,.inl rfl⟩ | exact ⟨rfl,.inl rfl,.inr rfl⟩,by decide +kernel⟩ hr.hd (pi_range1H g_range T.range (pa_cons pe_int pa_nil)) (λ _ _ _ _=>pts_one (pt_val (pe_ix (show IxR _ (rIxL K) from ix_list) (pv 1) (pv 0) (λ _ _=>rfl)))) (λ _ _ _ _=>(pe_ix (show IxR _ (rIxL K) from ix_list) (pv 2) (pv 0) (λ _ _=>rfl)))) pe_int (λ _ _=>rfl)))))))),?_⟩
   refine hid λ _ jt=>?_
   refine ⟨_,rfl,e,_,_,_,_,rfl,.inl ⟨_,rfl,rfl⟩,OT.xc X,he,OT.kit X .noTask,_,rfl,e,_,_,_,_,rfl,.inl ⟨_,rfl,rfl⟩,OT.xc X,he,OT.kit X .noPage,(by show 2≤sizeLine; decide),λ l0 hl0=>?_⟩
   have s0:=same_new (X:=.lst [.bl (decide (X=.noTask)),.bl (decide (X=.noPage))]) hl0
   have e0:(upd H l0 (.lst [.bl (decide (X=.noTask)),.bl (decide (X=.noPage))])) l0=some (.lst [.bl (decide (X=.noTask)),.bl (decide (X=.noPage))]):=upd_same
   refine jt _ _ _ ?_
   show tSeq _ _ _ [some (V.ref e),some (.ref l0),none] (upd H l0 (.lst [.bl (decide (X=.noTask)),.bl (decide (X=.noPage))]))
   generalize upd H l0 (.lst [.bl (decide (X=.noTask)),.bl (decide (X=.noPage))])=H0 at *
   refine hid λ _ jt=>?_
   refine ⟨_,rfl,_,rfl,e,_,_,_,_,rfl,.inl ⟨_,rfl,rfl⟩,OT.xc X,s0 _ _ he,OT.kit X .noRoom,_,rfl,e,_,_,_,_,rfl,.inl ⟨_,rfl,rfl⟩,OT.xc X,s0 _ _ he,OT.kit X .taken,(by show 2≤sizeLine; decide),λ a1 ha1=>?_⟩
   have u1:=same_new (X:=.lst [.bl (decide (X=.noRoom)),.bl (decide (X=.taken))]) ha1
   refine ⟨l0,a1,_,_,rfl,rfl,u1 _ _ e0,upd_same,(by show 4≤sizeLine; decide),λ l1 hl1=>?_⟩
   have v1:=same_new (X:=.lst ((kb X).map V.bl)) hl1
   have e1:(upd (upd H0 a1 (.lst [.bl (decide (X=.noRoom)),.bl (decide (X=.taken))])) l1 (.lst ((kb X).map V.bl))) l1=some (.lst ((kb X).map V.bl)):=upd_same
   have s1:=s0.trans (u1.trans v1)
   refine jt _ _ _ ?_
   show tSeq _ _ _ [some (V.ref e),some (.ref l1),none] (upd (upd H0 a1 (.lst [.bl (decide (X=.noRoom)),.bl (decide (X=.taken))])) l1 (.lst ((kb X).map V.bl)))
   generalize upd (upd H0 a1 (.lst [.bl (decide (X=.noRoom)),.bl (decide (X=.taken))])) l1 (.lst ((kb X).map V.bl))=H1 at *
   clear u1 v1 ha1 hl1
   refine hid λ _ jt=>?_
   refine ⟨(by show 4≤sizeLine; decide),λ w0 hw0=>?_⟩
   have t0:=same_new (X:=.lst words4) hw0
   have f0:(upd H1 w0 (.lst words4)) w0=some (.lst words4):=upd_same
   refine jt _ _ _ ?_
   show tSeq _ _ _ [some (V.ref e),some (.ref l1),some (.ref w0)] (upd H1 w0 (.lst words4))
   have e2:=t0 _ _ e1
   have s2:=s1.trans t0
   generalize upd H1 w0 (.lst words4)=H2 at *
   refine hidSI λ _ _ _ _ je jt=>?_
   refine ⟨_,rfl,l1,rfl,⟨_,SqL.of e2⟩,?_⟩
   refine comp_listH (K:=K) (a:=l1) (xs:=(kb X).map V.bl) (λ i ys H7=>ys=(((kb X).take i).map λ b=>if b=true then (1:Int) else 0).map V.int∧H7=H2) ⟨rfl,rfl⟩ (λ i ys H7 ⟨_,q⟩=>by rw [q]; exact s2 _ _ he) (λ i ys H7 _ ⟨_,q⟩=>by rw [q]; exact SqL.of e2) ?_ ?_
   · rintro i x ys H7 hx ⟨rfl,rfl⟩
     rw [List.getElem?_map] at hx
     obtain ⟨b,hb,rfl⟩:=Option.map_eq_some_iff.mp hx
     refine yes_in ?_
     refine iteT ?_
     refine ⟨_,rfl,.inr ⟨b,rfl,?_,?_,rfl⟩⟩
     · rw [List.length_map,List.length_map,List.length_take]
       have:(kb X).length=4:=rfl
       lia
     · rw [List.take_add_one,hb,List.map_append,List.map_append]
       rfl
   · rintro ys H7 ⟨rfl,rfl⟩ l7 hl7
     have ek:(kb X).take ((kb X).map V.bl).length=kb X:=rfl
     rw [ek]
     have s7:=same_new (X:=.lst (((kb X).map λ b=>if b=true then (1:Int) else 0).map V.int)) hl7
     refine ⟨l7,((kb X).map λ b=>if b=true then (1:Int) else 0),rfl,SqL.of upd_same,(s2.trans s7) _ _ he,rfl,_,rfl,?_⟩
     rw [kb_sum,decide_eq_true rfl]
     have he7:=(s2.trans s7) _ _ he
     have e7:=s7 _ _ e2
     have f7:=s7 _ _ f0
     have S7:=s2.trans s7
     generalize upd H7 l7 (.lst (((kb X).map λ b=>if b=true then (1:Int) else 0).map V.int))=H8 at *
     refine iteF ?_
     refine ⟨_,rfl,e,_,_,_,true,rfl,.inr ⟨_,rfl,rfl⟩,OT.xc X,he7,OT.vVE X,true,rfl,iteF (je _ _ _ (jt _ _ _ ?_))⟩
     refine ⟨_,rfl,(by decide),(by decide),?_⟩
     refine comp_rangeH (lo:=0) (n:=4) (λ i ys H9=>ys=(if ix4 X < i then [.str (wordOf X)] else [])∧H9=H8) ⟨rfl,rfl⟩ (λ i ys H9 ⟨_,q⟩=>by rw [q]; exact he7) ?_ ?_
     · rintro i ys H9 hi ⟨rfl,rfl⟩
       refine ⟨_,rfl,_,rfl,l1,_,_,_,rfl,rfl,SqL.of e7,kb_at X i hi,_,rfl,?_⟩
       refine ite2 (λ c=>?_) (λ c=>?_)
       · have ei:i=ix4 X:=of_decide_eq_true c
         refine ⟨_,rfl,_,rfl,w0,_,_,_,rfl,rfl,SqL.of f7,by rw [ei]; exact words_at X,?_,?_,rfl⟩
         · split <;> simp <;> lia
         · rw [if_neg (by lia),if_pos (by lia)]; rfl
       · have ei:¬ i=ix4 X:=λ z=>c (decide_eq_true z)
         refine ⟨?_,rfl⟩
         by_cases q:ix4 X < i
         · rw [if_pos q,if_pos (by lia)]
         · rw [if_neg q,if_neg (by lia)]
     · rintro ys H9 ⟨rfl,rfl⟩ l9 hl9
       have e9:(if ix4 X < 4 then [V.str (wordOf X)] else [])=[V.str (wordOf X)]:=by cases X <;> rfl
       rw [e9]
       exact ⟨l9,_,_,.str (wordOf X),rfl,rfl,SqL.of upd_same,rfl,k _ (S7.trans (same_new hl9))⟩
theorem scTo:FnScope ["_law_rooms","_law_deed_here","_law_told_here","_law_word_here","e"] ["_law_rooms","_law_deed_here"] (defScope sTold):=⟨rfl,rfl,rfl,by decide +kernel,rfl,by decide +kernel,by decide +kernel⟩
theorem ok_told {f C CK fDo fWo:Addr}{cl4:Ref4→Addr}{fd dDo dWo:FuncData}(F:Fun K "_law_told" "_law_told" sTold f fd) (hKE:mg "KernelError" = some (.ref CK)) (hx:∀ X,PySem.W.exmOne K (.ref (cl4 X)) (.ref CK)=some true)
   (GDo:FnOk P w K mg base (CXO P w) 4 fDo dDo ["_law_rooms","_law_deed_here"] (spDo C cl4)) (DDo:Def K mg "_law_do" fDo dDo ["_law_rooms","_law_deed_here"])
   (GWo:∀ hx:Addr,FnOkH hx P w K mg base 1 fWo dWo ["_law_caught"] (spWord cl4 hx)) (DWo:Def K mg "_law_word" fWo dWo ["_law_caught"]):FnOk P w K mg base CX0 5 f fd ["_law_rooms","_law_deed_here"] (spTold C):=by
 refine F.ok scTo (λ vs H Q E h=>?_) (λ cdv A outer s H vs Q E hr h=>?_)
 · obtain ⟨p,a,d,tot,W,D,rfl,_⟩:=h
   rfl
 · obtain ⟨p,a,d,tot,W,D,rfl,D0,hd,lg,sz,kE,kQ⟩:=h
   have hs:sizeLine=16777216:=sizeLine_eq
   refine ⟨_,(pss_cons (ps_set (i:=2) scTo.nd rfl (Or.inl rfl) pe_non)
     (pss_cons (ps_set (i:=3) scTo.nd rfl (Or.inl rfl) pe_str)
     (pss_cons (ps_tryQ rfl rfl rfl rfl hKE scTo.nd (i:=4) rfl rfl (pssx_one (psx_set (i:=2) scTo.nd rfl (Or.inl rfl) (pex_call GDo (hr.mono (by decide)) rfl (by rfl) DDo.mg DDo.kp DDo.b .nil (pa_cons (pv 0) (pa_cons (pv 1) pa_nil))))) (λ _=>(pss_one (ps_set (i:=3) scTo.nd rfl (Or.inl rfl) (pe_callH (GWo _) ((hr.mono (by decide)).hand _) (by rfl) DWo.mg DWo.kp DWo.b (pa_cons (pv 4) pa_nil))))))
     (pss_cons (ps_if (pt_cmpR op_ne (pe_ix ix_tup (pv 1) pe_int (λ _ _=>rfl)) pe_str (nomark _)) (pss_one (ps_set (i:=2) scTo.nd rfl (Or.inl rfl) pe_non)) pss_nil)
     (pss_one (ps_ret (pe_tup (pa_cons (pv 2) (pa_cons (pv 3) pa_nil))))))))),?_⟩
   obtain ⟨kr,hk⟩:=hd.kind
   refine ⟨_,rfl,_,rfl,p,a,d,tot,W,D,rfl,D0,hd,lg,sz,λ X due H1 s1=>⟨hx X,λ e he=>?_⟩,λ H1 W' v g D1 st tl nv=>?_⟩
   · refine ⟨_,rfl,X,rfl,upd_same,λ H2 s2=>?_⟩
     have S2:=(s1.trans (same_new he)).trans s2
     refine ⟨_,rfl,d,_,_,.str (kindOf D),rfl,rfl,SqT.of (S2 _ _ hk),at0,rfl,_,rfl,?_⟩
     refine ite2 (λ _=>?_) (λ _=>?_)
     · exact ⟨_,rfl,_,rfl,(by show 2≤sizeLine; decide),λ T hT=>kE X due _ T (S2.trans (same_new hT)) upd_same⟩
     · exact ⟨_,rfl,_,rfl,(by show 2≤sizeLine; decide),λ T hT=>kE X due _ T (S2.trans (same_new hT)) upd_same⟩
   · have k1:=st.kt D0
     refine ⟨_,rfl,d,_,_,.str (kindOf D),rfl,rfl,SqT.of (k1.tup hk),at0,rfl,_,rfl,?_⟩
     refine ite2 (λ c=>?_) (λ c=>?_)
     · have ev:v=.non:=tl.non (by simpa using c)
       subst ev
       exact ⟨_,rfl,_,rfl,(by show 2≤sizeLine; decide),λ T hT=>kQ _ W' T .non g (D1.same (same_new hT)) (st.post (same_new hT)) (tl.same (same_new hT)) (λ _ h=>by cases h) upd_same⟩
     · exact ⟨_,rfl,_,rfl,(by show 2≤sizeLine; decide),λ T hT=>kQ _ W' T v g (D1.same (same_new hT)) (st.post (same_new hT)) (tl.same (same_new hT)) nv upd_same⟩
end
end Rm
namespace Rm
open PySem L2
def spBig:Sp:=λ vs H Q _ => ∃ r:Int,vs=[.int r]∧∀ (n:Int) (H':Hp),Same H H' → -100000000000000000000000000000000000000000000000000000000000 < n→n < 100000000000000000000000000000000000000000000000000000000000→Q (.int n) H'
section
variable {P:Program}{w:World}{K:PySem.W.Frag}{mg:Str→Option Value}{base:Heap}
theorem scPa:FnScope ["_law_rest"] ["_law_rest"] (defScope sPage):=⟨rfl,rfl,rfl,by decide +kernel,rfl,by decide +kernel,by decide +kernel⟩
theorem ok_page {f:Addr}{fd:FuncData}(F:Fun K "_law_page" "_law_page" sPage f fd):FnOk P w K mg base CX0 1 f fd ["_law_rest"] spBig:=by
 refine F.ok scPa (λ vs H Q E h=>?_) (λ cdv A outer s H vs Q E hr h=>?_)
 · obtain ⟨c,rfl,_⟩:=h
   rfl
 · obtain ⟨c,rfl,k⟩:=h
   refine ⟨_,(pss_cons (ps_if (pt_cmpR op_eq (pe_op op_mod (pv 0) pe_int) pe_int (nomark _)) (pss_one (ps_ret (pe_ix ix_list (pe_lst (pa_cons (pe_un un_neg pe_int) (pa_cons pe_int (pa_cons (pe_un un_neg (pe_op op_pow pe_int pe_int)) (pa_cons (pe_op op_pow pe_int pe_int) pa_nil))))) (pe_op op_mod (pe_op op_fdiv (pv 0) pe_int) pe_int) (λ _ _=>rfl)))) pss_nil)
     (pss_one (ps_ret (pe_ix ix_list (pe_lst (pa_cons (pe_op op_mod (pe_op op_fdiv (pv 0) pe_int) pe_int) (pa_cons (pe_op op_mod (pe_op op_fdiv (pv 0) pe_int) pe_int) pa_nil))) (pe_op op_mod (pv 0) pe_int) (λ _ _=>rfl))))),?_⟩
   refine ⟨_,rfl,_,_,rfl,rfl,(by show (0:Int) < 16; decide),rfl,_,rfl,?_⟩
   refine ite2 (λ _=>?_) (λ _=>?_)
   · have d0:=Int.emod_nonneg (c / 16) (show (4:Int)≠0 by decide)
     have d1:=Int.emod_lt_of_pos (c / 16) (show (0:Int) < 4 by decide)
     obtain ⟨q,hq,eq⟩:=atI_of (xs:=[-1,64, -((10:Int) ^ Int.toNat 50),(10:Int) ^ Int.toNat 55]) d0 d1
     refine ⟨_,rfl,_,_,rfl,rfl,⟨by decide,by decide,by decide⟩,_,rfl,_,_,rfl,rfl,⟨by decide,by decide,by decide⟩,(by show 4≤sizeLine; decide),λ l hl=>⟨_,rfl,_,_,rfl,rfl,⟨by decide,by decide⟩,_,_,rfl,rfl,(by show (0:Int) < 4; decide),l,_,_,.int q,rfl,rfl,SqL.of upd_same,eq,?_⟩⟩
     have hb : -100000000000000000000000000000000000000000000000000000000000 < q∧q < 100000000000000000000000000000000000000000000000000000000000:=by
       try rw [p55] at hq
       try rw [p50] at hq
       try rw [p40] at hq
       rcases List.mem_cons.mp hq with e | hq
       · lia
       rcases List.mem_cons.mp hq with e | hq
       · lia
       rcases List.mem_cons.mp hq with e | hq
       · lia
       have:=List.mem_singleton.mp hq
       lia
     exact k q _ (same_new hl) hb.1 hb.2
   · have d0:=Int.emod_nonneg c (show (2:Int)≠0 by decide)
     have d1:=Int.emod_lt_of_pos c (show (0:Int) < 2 by decide)
     obtain ⟨q,hq,eq⟩:=atI_of (xs:=[c / 16 % 6,c / 16 % 64]) d0 d1
     refine ⟨_,rfl,_,_,rfl,rfl,⟨by decide,by decide⟩,_,_,rfl,rfl,(by show (0:Int) < 6; decide),_,rfl,_,_,rfl,rfl,⟨by decide,by decide⟩,_,_,rfl,rfl,(by show (0:Int) < 64; decide),(by show 2≤sizeLine; decide),λ l hl=>⟨_,rfl,_,_,rfl,rfl,(by show (0:Int) < 2; decide),l,_,_,.int q,rfl,rfl,SqL.of upd_same,eq,?_⟩⟩
     have hb : -100000000000000000000000000000000000000000000000000000000000 < q∧q < 100000000000000000000000000000000000000000000000000000000000:=by
       rcases List.mem_cons.mp hq with e | hq
       · lia
       have:=List.mem_singleton.mp hq
       lia
     exact k q _ (same_new hl) hb.1 hb.2
theorem scMa:FnScope ["_law_rest"] ["_law_rest"] (defScope sMany):=⟨rfl,rfl,rfl,by decide +kernel,rfl,by decide +kernel,by decide +kernel⟩
theorem ok_many {f:Addr}{fd:FuncData}(F:Fun K "_law_many" "_law_many" sMany f fd):FnOk P w K mg base CX0 1 f fd ["_law_rest"] spBig:=by
 refine F.ok scMa (λ vs H Q E h=>?_) (λ cdv A outer s H vs Q E hr h=>?_)
 · obtain ⟨c,rfl,_⟩:=h
   rfl
 · obtain ⟨c,rfl,k⟩:=h
   refine ⟨_,(pss_cons (ps_if (pt_cmpR op_eq (pe_op op_mod (pv 0) pe_int) pe_int (nomark _)) (pss_one (ps_ret (pe_ix ix_list (pe_lst (pa_cons pe_int (pa_cons (pe_un un_neg pe_int) (pa_cons pe_int (pa_cons pe_int (pa_cons (pe_op op_pow pe_int pe_int) (pa_cons (pe_un un_neg (pe_op op_pow pe_int pe_int)) pa_nil))))))) (pe_op op_mod (pe_op op_fdiv (pv 0) pe_int) pe_int) (λ _ _=>rfl)))) pss_nil)
     (pss_one (ps_ret (pe_ix ix_list (pe_lst (pa_cons pe_int (pa_cons (pe_op op_add pe_int (pe_op op_mod (pe_op op_fdiv (pv 0) pe_int) pe_int)) (pa_cons (pe_op op_add pe_int (pe_op op_mod (pe_op op_fdiv (pv 0) pe_int) pe_int)) pa_nil)))) (pe_op op_mod (pv 0) pe_int) (λ _ _=>rfl))))),?_⟩
   refine ⟨_,rfl,_,_,rfl,rfl,(by show (0:Int) < 16; decide),rfl,_,rfl,?_⟩
   refine ite2 (λ _=>?_) (λ _=>?_)
   · have d0:=Int.emod_nonneg (c / 16) (show (6:Int)≠0 by decide)
     have d1:=Int.emod_lt_of_pos (c / 16) (show (0:Int) < 6 by decide)
     obtain ⟨q,hq,eq⟩:=atI_of (xs:=[0, -1,64,65,(10:Int) ^ Int.toNat 55, -((10:Int) ^ Int.toNat 40)]) d0 d1
     refine ⟨_,rfl,_,_,rfl,rfl,⟨by decide,by decide,by decide⟩,_,_,rfl,rfl,⟨by decide,by decide,by decide⟩,_,rfl,(by show 6≤sizeLine; decide),λ l hl=>⟨_,rfl,_,_,rfl,rfl,⟨by decide,by decide⟩,_,_,rfl,rfl,(by show (0:Int) < 6; decide),l,_,_,.int q,rfl,rfl,SqL.of upd_same,eq,?_⟩⟩
     have hb : -100000000000000000000000000000000000000000000000000000000000 < q∧q < 100000000000000000000000000000000000000000000000000000000000:=by
       try rw [p55] at hq
       try rw [p50] at hq
       try rw [p40] at hq
       rcases List.mem_cons.mp hq with e | hq
       · lia
       rcases List.mem_cons.mp hq with e | hq
       · lia
       rcases List.mem_cons.mp hq with e | hq
       · lia
       rcases List.mem_cons.mp hq with e | hq
       · lia
       rcases List.mem_cons.mp hq with e | hq
       · lia
       have:=List.mem_singleton.mp hq
       lia
     exact k q _ (same_new hl) hb.1 hb.2
   · have d0:=Int.emod_nonneg c (show (3:Int)≠0 by decide)
     have d1:=Int.emod_lt_of_pos c (show (0:Int) < 3 by decide)
     obtain ⟨q,hq,eq⟩:=atI_of (xs:=[1,1 + c / 16 % 3,1 + c / 16 % 12]) d0 d1
     refine ⟨_,rfl,_,_,rfl,rfl,⟨by decide,by decide⟩,_,_,rfl,rfl,(by show (0:Int) < 3; decide),_,_,rfl,rfl,_,rfl,_,_,rfl,rfl,⟨by decide,by decide⟩,_,_,rfl,rfl,(by show (0:Int) < 12; decide),_,_,rfl,rfl,(by show 3≤sizeLine; decide),λ l hl=>⟨_,rfl,_,_,rfl,rfl,(by show (0:Int) < 3; decide),l,_,_,.int q,rfl,rfl,SqL.of upd_same,eq,?_⟩⟩
     have hb : -100000000000000000000000000000000000000000000000000000000000 < q∧q < 100000000000000000000000000000000000000000000000000000000000:=by
       rcases List.mem_cons.mp hq with e | hq
       · lia
       rcases List.mem_cons.mp hq with e | hq
       · lia
       have:=List.mem_singleton.mp hq
       lia
     exact k q _ (same_new hl) hb.1 hb.2
theorem scAd:FnScope ["_law_rest"] ["_law_rest"] (defScope sAddress):=⟨rfl,rfl,rfl,by decide +kernel,rfl,by decide +kernel,by decide +kernel⟩
theorem ok_address {f:Addr}{fd:FuncData}(F:Fun K "_law_address" "_law_address" sAddress f fd):FnOk P w K mg base CX0 1 f fd ["_law_rest"] spBig:=by
 refine F.ok scAd (λ vs H Q E h=>?_) (λ cdv A outer s H vs Q E hr h=>?_)
 · obtain ⟨c,rfl,_⟩:=h
   rfl
 · obtain ⟨c,rfl,k⟩:=h
   refine ⟨_,(pss_cons (ps_if (pt_cmpR op_eq (pe_op op_mod (pv 0) pe_int) pe_int (nomark _)) (pss_one (ps_ret (pe_ix ix_list (pe_lst (pa_cons (pe_un un_neg pe_int) (pa_cons pe_int (pa_cons pe_int (pa_cons (pe_un un_neg (pe_op op_pow pe_int pe_int)) (pa_cons (pe_op op_pow pe_int pe_int) pa_nil)))))) (pe_op op_mod (pe_op op_fdiv (pv 0) pe_int) pe_int) (λ _ _=>rfl)))) pss_nil)
     (pss_one (ps_ret (pe_ix ix_list (pe_lst (pa_cons (pe_op op_mod (pe_op op_fdiv (pv 0) pe_int) pe_int) (pa_cons (pe_op op_mod (pe_op op_fdiv (pv 0) pe_int) pe_int) pa_nil))) (pe_op op_mod (pv 0) pe_int) (λ _ _=>rfl))))),?_⟩
   refine ⟨_,rfl,_,_,rfl,rfl,(by show (0:Int) < 16; decide),rfl,_,rfl,?_⟩
   refine ite2 (λ _=>?_) (λ _=>?_)
   · have d0:=Int.emod_nonneg (c / 16) (show (5:Int)≠0 by decide)
     have d1:=Int.emod_lt_of_pos (c / 16) (show (0:Int) < 5 by decide)
     obtain ⟨q,hq,eq⟩:=atI_of (xs:=[-1,512,511, -((10:Int) ^ Int.toNat 50),(10:Int) ^ Int.toNat 55]) d0 d1
     refine ⟨_,rfl,_,_,rfl,rfl,⟨by decide,by decide,by decide⟩,_,rfl,_,_,rfl,rfl,⟨by decide,by decide,by decide⟩,(by show 5≤sizeLine; decide),λ l hl=>⟨_,rfl,_,_,rfl,rfl,⟨by decide,by decide⟩,_,_,rfl,rfl,(by show (0:Int) < 5; decide),l,_,_,.int q,rfl,rfl,SqL.of upd_same,eq,?_⟩⟩
     have hb : -100000000000000000000000000000000000000000000000000000000000 < q∧q < 100000000000000000000000000000000000000000000000000000000000:=by
       try rw [p55] at hq
       try rw [p50] at hq
       try rw [p40] at hq
       rcases List.mem_cons.mp hq with e | hq
       · lia
       rcases List.mem_cons.mp hq with e | hq
       · lia
       rcases List.mem_cons.mp hq with e | hq
       · lia
       rcases List.mem_cons.mp hq with e | hq
       · lia
       have:=List.mem_singleton.mp hq
       lia
     exact k q _ (same_new hl) hb.1 hb.2
   · have d0:=Int.emod_nonneg c (show (2:Int)≠0 by decide)
     have d1:=Int.emod_lt_of_pos c (show (0:Int) < 2 by decide)
     obtain ⟨q,hq,eq⟩:=atI_of (xs:=[c / 16 % 48,c / 16 % 512]) d0 d1
     refine ⟨_,rfl,_,_,rfl,rfl,⟨by decide,by decide⟩,_,_,rfl,rfl,(by show (0:Int) < 48; decide),_,rfl,_,_,rfl,rfl,⟨by decide,by decide⟩,_,_,rfl,rfl,(by show (0:Int) < 512; decide),(by show 2≤sizeLine; decide),λ l hl=>⟨_,rfl,_,_,rfl,rfl,(by show (0:Int) < 2; decide),l,_,_,.int q,rfl,rfl,SqL.of upd_same,eq,?_⟩⟩
     have hb : -100000000000000000000000000000000000000000000000000000000000 < q∧q < 100000000000000000000000000000000000000000000000000000000000:=by
       rcases List.mem_cons.mp hq with e | hq
       · lia
       have:=List.mem_singleton.mp hq
       lia
     exact k q _ (same_new hl) hb.1 hb.2
end
end Rm
namespace Rm
open PySem L2
def spCellsBy:Sp:=λ vs H Q _ => ∃ r:Int,vs=[.int r]∧∀ (cs:List Int) (H':Hp) (l:Addr),cs.length≤64→Same H H'→H l=none→H' l=some (.lst (cs.map V.int))→Q (.ref l) H'
def DeedNew (H H':Hp) (d:Addr):Deed→Prop
 | .poke t ad cs => ∃ c,H' d=some (.tup [.str "poke",.int t,.int ad,.ref c])∧H' c=some (.lst (cs.map V.int))∧H c=none
 | D=>DeedAt H' d D
theorem DeedNew.at {H H':Hp}{d:Addr}{D:Deed}(h:DeedNew H H' d D):DeedAt H' d D:=by
 cases D with
 | poke t ad cs=>obtain ⟨c,h1,h2,_⟩:=h; exact ⟨c,h1,h2⟩
 | _=>exact h
def few:Deed→Prop
 | .poke _ _ cs=>cs.length≤64
 | _=>True
def spDeed:Sp:=λ vs H Q _ => ∃ (n:Int) (l:Addr) (ts:List Int),vs=[.int n,.ref l]∧H l=some (.lst (ts.map V.int))∧ts.length=4∧(∀ t∈ts,Lo t) ∧
 ∀ (D:Deed) (H':Hp) (d:Addr),Same H H'→H d=none→DeedNew H H' d D→Lg D→few D→Q (.ref d) H'
theorem big_lo {n:Int}(h0 : -100000000000000000000000000000000000000000000000000000000000 < n) (h1:n < 100000000000000000000000000000000000000000000000000000000000):Lo n:=big_log (by rw [p60]; lia) (by rw [p60]; lia)
theorem lo_cells {ad n:Int}(a0 : -100000000000000000000000000000000000000000000000000000000000 < ad) (a1:ad < 100000000000000000000000000000000000000000000000000000000000) (n0 : -100000000000000000000000000000000000000000000000000000000000 < n) (n1:n < 100000000000000000000000000000000000000000000000000000000000):Lo (cFst ad)∧Lo (cCnt ad n):=by
 unfold cFst cCnt
 exact ⟨big_log (by rw [p60]; lia) (by rw [p60]; lia),big_log (by rw [p60]; lia) (by rw [p60]; lia)⟩
theorem first_ {A B G:Prop}(f:A→B) (a:A) (k:B→G):G:=k (f a)
section
variable {P:Program}{w:World}{K:PySem.W.Frag}{mg:Str→Option Value}{base:Heap}
theorem scCb:FnScope ["_law_rest","_law_many_here"] ["_law_rest"] (defScope sCellsBy):=⟨rfl,rfl,rfl,by decide +kernel,rfl,by decide +kernel,by decide +kernel⟩
theorem ok_cellsBy {f:Addr}{fd:FuncData}(F:Fun K "_law_cells" "_law_cells" sCellsBy f fd) (T:MTxt mg):FnOk P w K mg base CX0 1 f fd ["_law_rest"] spCellsBy:=by
 refine F.ok scCb (λ vs H Q E h=>?_) (λ cdv A outer s H vs Q E hr h=>?_)
 · obtain ⟨r,rfl,_⟩:=h
   rfl
 · obtain ⟨r,rfl,k⟩:=h
   have hs:sizeLine=16777216:=sizeLine_eq
   refine ⟨_,(pss_cons (ps_set (i:=1) scCb.nd rfl (Or.inl rfl) (pe_ix ix_list (pe_lst (pa_cons pe_int (pa_cons (pe_op op_add pe_int (pe_op op_mod (pe_op op_fdiv (pv 0) pe_int) pe_int)) (pa_cons pe_int (pa_cons (pe_op op_add pe_int (pe_op op_mod (pe_op op_fdiv (pv 0) pe_int) pe_int)) (pa_cons (pe_ix ix_list (pe_lst (pa_cons pe_int (pa_cons pe_int pa_nil))) (pe_op op_mod (pe_op op_fdiv (pv 0) pe_int) pe_int) (λ _ _=>rfl)) pa_nil)))))) (pe_op op_mod (pv 0) pe_int) (λ _ _=>rfl)))
     (pss_one (ps_ret (pe_comp (cl:=[("_law_rest",s.heap.objs.size + 1)]) (caps:=[("_law_rest",0)]) ⟨rfl,by decide +kernel,by decide +kernel,rfl,by kernel_rfl,by intro p hp; simp only [List.mem_cons,List.not_mem_nil,or_false] at hp; rcases hp with rfl <;> first | rfl | exact ⟨rfl,.inl rfl,.inl rfl⟩ | exact ⟨rfl,.inl rfl,.inr rfl⟩,by kernel_rfl,by intro p hp; simp only [List.mem_cons,List.not_mem_nil,or_false] at hp; rcases hp with rfl <;> first | rfl | exact ⟨rfl,.inl rfl,.inl rfl⟩ | exact ⟨rfl,.inl rfl,.inr rfl⟩,by decide +kernel⟩ rfl (pi_range1 (by rfl) T.range (pa_cons (pv 1) pa_nil)) (λ _ _ _ _=>pts_nil) (λ _ _ _ _=>(pe_op op_mod (pe_op op_add (pe_op op_fdiv (pv 1) pe_int) (pe_op op_mul (pv 0) (pe_op op_fdiv (pv 1) pe_int))) pe_int)))))),?_⟩
   have d0:=Int.emod_nonneg (r / 5) (show (2:Int)≠0 by decide)
   have d1:=Int.emod_lt_of_pos (r / 5) (show (0:Int) < 2 by decide)
   obtain ⟨q,hq,eq⟩:=atI_of (xs:=[0,64]) d0 d1
   have hq':0≤q∧q≤64:=by
     rcases List.mem_cons.mp hq with e | hq
     · lia
     have:=List.mem_singleton.mp hq
     lia
   have e0:=Int.emod_nonneg r (show (5:Int)≠0 by decide)
   have e1:=Int.emod_lt_of_pos r (show (0:Int) < 5 by decide)
   obtain ⟨n,hn,en⟩:=atI_of (xs:=[1,1 + r / 5 % 8,8,1 + r / 5 % 24,q]) e0 e1
   have hn':0≤n∧n≤64:=by
     rcases List.mem_cons.mp hn with e | hn
     · lia
     rcases List.mem_cons.mp hn with e | hn
     · lia
     rcases List.mem_cons.mp hn with e | hn
     · lia
     rcases List.mem_cons.mp hn with e | hn
     · lia
     have:=List.mem_singleton.mp hn
     lia
   refine hidN λ _ jt=>?_
   refine ⟨_,rfl,_,_,rfl,rfl,⟨by decide,by decide⟩,_,_,rfl,rfl,(by show (0:Int) < 8; decide),_,_,rfl,rfl,_,rfl,_,_,rfl,rfl,⟨by decide,by decide⟩,_,_,rfl,rfl,(by show (0:Int) < 24; decide),_,_,rfl,rfl,(by show 2≤sizeLine; decide),λ l0 hl0=>⟨_,rfl,_,_,rfl,rfl,⟨by decide,by decide⟩,_,_,rfl,rfl,(by show (0:Int) < 2; decide),l0,_,_,.int q,rfl,rfl,SqL.of upd_same,eq,(by show 5≤sizeLine; decide),λ l1 hl1=>⟨_,rfl,_,_,rfl,rfl,(by show (0:Int) < 5; decide),l1,_,_,.int n,rfl,rfl,SqL.of upd_same,en,jt _ _ ?_⟩⟩⟩
   have s0:=(same_new (X:=.lst [.int 0,.int 64]) hl0).trans (same_new (X:=.lst ([1,1 + r / 5 % 8,8,1 + r / 5 % 24,q].map V.int)) hl1)
   show tRet _ _ _ (upd (upd H l0 (.lst [.int 0,.int 64])) l1 (.lst ([1,1 + r / 5 % 8,8,1 + r / 5 % 24,q].map V.int)))
   generalize upd (upd H l0 (.lst [.int 0,.int 64])) l1 (.lst ([1,1 + r / 5 % 8,8,1 + r / 5 % 24,q].map V.int))=H1 at *
   refine ⟨_,rfl,_,rfl,(by lia),(by lia),?_⟩
   refine comp_range0 (lo:=0) (n:=n.toNat) (λ i ys H2 => ∃ cs:List Int,ys=cs.map V.int∧cs.length=i∧H2=H1) ⟨[],rfl,rfl,rfl⟩ ?_ ?_
   · rintro i ys H2 hi ⟨cs,rfl,lc,rfl⟩
     refine ⟨_,rfl,_,_,rfl,rfl,⟨by decide,by decide⟩,_,rfl,_,rfl,_,_,rfl,rfl,⟨by decide,by decide⟩,_,_,rfl,rfl,.inl ⟨by lia,by lia⟩,_,_,rfl,rfl,_,_,rfl,rfl,(by show (0:Int) < 256; decide),(by rw [List.length_map]; lia),cs ++ [(r / 320 + (0 + (i:Int)) * (r / 81920)) % 256],?_,by rw [List.length_append,lc]; rfl,rfl⟩
     rw [List.map_append]
     rfl
   · rintro ys H2 ⟨cs,rfl,lc,rfl⟩ l2 hl2
     exact k cs _ l2 (by lia) (s0.trans (same_new hl2)) (s0.free hl2) upd_same
theorem scDe:FnScope ["_law_number_here","_law_tasks_here","_law_kind","_law_task","_law_rest","_law_many_here"] ["_law_number_here","_law_tasks_here"] (defScope sDeed):=⟨rfl,rfl,rfl,by decide +kernel,rfl,by decide +kernel,by decide +kernel⟩
set_option maxHeartbeats 4000000 in
theorem ok_deed {f fPg fMa fAd fCb:Addr}{fd dPg dMa dAd dCb:FuncData}(F:Fun K "_law_deed" "_law_deed" sDeed f fd) (T:MTxt mg)
   (GPg:FnOk P w K mg base CX0 1 fPg dPg ["_law_rest"] spBig) (DPg:Def K mg "_law_page" fPg dPg ["_law_rest"])
   (GMa:FnOk P w K mg base CX0 1 fMa dMa ["_law_rest"] spBig) (DMa:Def K mg "_law_many" fMa dMa ["_law_rest"])
   (GAd:FnOk P w K mg base CX0 1 fAd dAd ["_law_rest"] spBig) (DAd:Def K mg "_law_address" fAd dAd ["_law_rest"])
   (GCb:FnOk P w K mg base CX0 1 fCb dCb ["_law_rest"] spCellsBy) (DCb:Def K mg "_law_cells" fCb dCb ["_law_rest"]) :
   FnOk P w K mg base CX0 2 f fd ["_law_number_here","_law_tasks_here"] spDeed:=by
 refine F.ok scDe (λ vs H Q E h=>?_) (λ cdv A outer s H vs Q E hr h=>?_)
 · obtain ⟨n,l,ts,rfl,_⟩:=h
   rfl
 · obtain ⟨n,l,ts,rfl,hl,lt,lo,k⟩:=h
   refine ⟨_,(pss_cons (ps_set (i:=2) scDe.nd rfl (Or.inl rfl) (pe_op op_mod (pv 0) pe_int))
     (pss_cons (ps_set (i:=3) scDe.nd rfl (Or.inl rfl) (pe_ix ix_list (pv 1) (pe_op op_mod (pe_op op_fdiv (pv 0) pe_int) pe_int) (λ _ _=>rfl)))
     (pss_cons (ps_set (i:=4) scDe.nd rfl (Or.inl rfl) (pe_op op_fdiv (pv 0) pe_int))
     (pss_cons (ps_if (pt_cmpR op_eq (pv 2) pe_int (nomark _)) (pss_one (ps_ret (pe_tup (pa_cons pe_str (pa_cons (pv 3) pa_nil))))) pss_nil)
     (pss_cons (ps_if (PW.pt (pw_and (pt_cmpR op_eq (pv 2) pe_int (nomark _)) (pw_and1 (pt_cmpR op_eq (pe_op op_mod (pv 4) pe_int) pe_int (nomark _))))) (pss_one (ps_ret (pe_tup (pa_cons pe_str (pa_cons (pv 3) pa_nil))))) pss_nil)
     (pss_cons (ps_if (pt_cmpR op_lt (pv 2) pe_int (nomark _)) (pss_one (ps_ret (pe_tup (pa_cons pe_str (pa_cons (pv 3) (pa_cons (pe_call GPg (hr.mono (by decide)) (by rfl) DPg.mg DPg.kp DPg.b .nil pass0 (pa_cons (pv 4) pa_nil)) (pa_cons (pe_call GMa (hr.mono (by decide)) (by rfl) DMa.mg DMa.kp DMa.b .nil pass0 (pa_cons (pe_op op_fdiv (pv 4) pe_int) pa_nil)) pa_nil))))))) pss_nil)
     (pss_cons (ps_if (pt_cmpR op_eq (pv 2) pe_int (nomark _)) (pss_one (ps_ret (pe_tup (pa_cons pe_str (pa_cons (pv 3) (pa_cons (pe_call GPg (hr.mono (by decide)) (by rfl) DPg.mg DPg.kp DPg.b .nil pass0 (pa_cons (pv 4) pa_nil)) (pa_cons (pe_call GMa (hr.mono (by decide)) (by rfl) DMa.mg DMa.kp DMa.b .nil pass0 (pa_cons (pe_op op_fdiv (pv 4) pe_int) pa_nil)) pa_nil))))))) pss_nil)
     (pss_cons (ps_if (pt_cmpR op_lt (pv 2) pe_int (nomark _)) (pss_cons (ps_set (i:=5) scDe.nd rfl (Or.inl rfl) (pe_call GMa (hr.mono (by decide)) (by rfl) DMa.mg DMa.kp DMa.b .nil pass0 (pa_cons (pe_op op_fdiv (pv 4) pe_int) pa_nil)))
     (pss_one (ps_ret (pe_tup (pa_cons pe_str (pa_cons (pv 3) (pa_cons (pe_call GAd (hr.mono (by decide)) (by rfl) DAd.mg DAd.kp DAd.b .nil pass0 (pa_cons (pv 4) pa_nil)) (pa_cons (pe_ifExp (pt_chain op_lt op_lt pe_int (pv 5) pe_int) (pe_callB (call_min2 rfl) (by rfl) T.min bt_min (pa_cons pe_int (pa_cons (pv 5) pa_nil))) (pv 5)) pa_nil)))))))) pss_nil)
     (pss_cons (ps_if (pt_cmpR op_lt (pv 2) pe_int (nomark _)) (pss_one (ps_ret (pe_tup (pa_cons pe_str (pa_cons (pv 3) (pa_cons (pe_call GAd (hr.mono (by decide)) (by rfl) DAd.mg DAd.kp DAd.b .nil pass0 (pa_cons (pv 4) pa_nil)) (pa_cons (pe_call GCb (hr.mono (by decide)) (by rfl) DCb.mg DCb.kp DCb.b .nil pass0 (pa_cons (pe_op op_fdiv (pv 4) pe_int) pa_nil)) pa_nil))))))) pss_nil)
     (pss_one (ps_ret (pe_tup (pa_cons pe_str (pa_cons (pv 3) (pa_cons (pe_ix ix_list (pv 1) (pe_op op_mod (pv 4) pe_int) (λ _ _=>rfl)) pa_nil))))))))))))))),?_⟩
   have d0:=Int.emod_nonneg (n / 12) (show (4:Int)≠0 by decide)
   have d1:=Int.emod_lt_of_pos (n / 12) (show (0:Int) < 4 by decide)
   obtain ⟨t,ht,et⟩:=atI_of (xs:=ts) d0 (by rw [lt]; exact d1)
   have lt':=lo t ht
   have r0:=Int.emod_nonneg (n / 48) (show (4:Int)≠0 by decide)
   have r1:=Int.emod_lt_of_pos (n / 48) (show (0:Int) < 4 by decide)
   obtain ⟨o,ho,eo⟩:=atI_of (xs:=ts) r0 (by rw [lt]; exact r1)
   have lo':=lo o ho
   refine hidN λ _ jt=>?_
   refine ⟨_,rfl,_,_,rfl,rfl,(by show (0:Int) < 12; decide),jt _ _ ?_⟩
   refine hidN λ _ jt=>?_
   refine ⟨_,rfl,_,rfl,_,_,rfl,rfl,⟨by decide,by decide⟩,_,_,rfl,rfl,(by show (0:Int) < 4; decide),l,_,_,.int t,rfl,rfl,SqL.of hl,et,jt _ _ ?_⟩
   refine hidN λ _ jt=>?_
   refine ⟨_,rfl,_,_,rfl,rfl,⟨by decide,by decide⟩,jt _ _ ?_⟩
   refine hidC λ _ ji je=>?_
   refine ⟨_,rfl,rfl,_,rfl,iteB (λ _=>ji _ ?_) (λ _=>je _ ?_)⟩
   · exact ⟨_,rfl,(by show 2≤sizeLine; decide),λ d hd=>k (.begin t) _ d (same_new hd) hd upd_same lt' trivial⟩
   refine hidC λ _ ji je=>?_
   refine first_ (je H) ?_ λ jf=>?_
   rotate_left
   · refine ⟨_,rfl,rfl,_,rfl,ite2 (λ _=>?_) (λ _=>jf)⟩
     refine ⟨_,rfl,_,_,rfl,rfl,(by show (0:Int) < 3; decide),rfl,_,rfl,iteB (λ _=>ji _ ?_) (λ _=>jf)⟩
     exact ⟨_,rfl,(by show 2≤sizeLine; decide),λ d hd=>k (.close t) _ d (same_new hd) hd upd_same lt' trivial⟩
   refine hidC λ _ ji je=>?_
   refine ⟨_,rfl,_,_,rfl,rfl,_,rfl,iteB (λ _=>ji _ ?_) (λ _=>je _ ?_)⟩
   · refine ⟨_,rfl,_,rfl,_,rfl,λ pg H1 s1 p0 p1=>⟨_,rfl,_,_,rfl,rfl,⟨by decide,by decide⟩,_,rfl,λ m H2 s2 m0 m1=>⟨(by show 4≤sizeLine; decide),λ d hd=>?_⟩⟩⟩
     exact k (.map t pg m) _ d ((s1.trans s2).trans (same_new hd)) ((s1.trans s2).free hd) upd_same ⟨lt',big_lo p0 p1,big_lo m0 m1⟩ trivial
   refine hidC λ _ ji je=>?_
   refine ⟨_,rfl,rfl,_,rfl,iteB (λ _=>ji _ ?_) (λ _=>je _ ?_)⟩
   · refine ⟨_,rfl,_,rfl,_,rfl,λ pg H1 s1 p0 p1=>⟨_,rfl,_,_,rfl,rfl,⟨by decide,by decide⟩,_,rfl,λ m H2 s2 m0 m1=>⟨(by show 4≤sizeLine; decide),λ d hd=>?_⟩⟩⟩
     exact k (.drop t pg m) _ d ((s1.trans s2).trans (same_new hd)) ((s1.trans s2).free hd) upd_same ⟨lt',big_lo p0 p1,big_lo m0 m1⟩ trivial
   refine hidC λ _ ji je=>?_
   refine ⟨_,rfl,_,_,rfl,rfl,_,rfl,iteB (λ _=>ji _ ?_) (λ _=>je _ ?_)⟩
   · refine ⟨_,rfl,_,_,rfl,rfl,⟨by decide,by decide⟩,_,rfl,λ m H1 s1 m0 m1=>?_⟩
     refine ⟨_,rfl,_,rfl,_,rfl,λ ad H2 s2 a0 a1=>?_⟩
     have fin:∀ m':Int, -100000000000000000000000000000000000000000000000000000000000 < m'→m' < 100000000000000000000000000000000000000000000000000000000000→∀ d,H2 d=none→Q (.ref d) (upd H2 d (.tup [.str "peek",.int t,.int ad,.int m'])):=λ m' b0 b1 d hd =>
       k (.peek t ad m') _ d ((s1.trans s2).trans (same_new hd)) ((s1.trans s2).free hd) upd_same ⟨lt',big_lo b0 b1,(lo_cells a0 a1 b0 b1).1,(lo_cells a0 a1 b0 b1).2⟩ trivial
     refine ⟨_,rfl,_,_,rfl,rfl,_,rfl,ite2 (λ c1=>⟨_,_,rfl,rfl,_,rfl,ite2 (λ c2=>?_) (λ c2=>?_)⟩) (λ c1=>⟨_,rfl,iteF ?_⟩)⟩
     · refine ⟨_,rfl,_,_,rfl,(by show 4≤sizeLine; decide),fin _ ?_ ?_⟩ <;> split <;> lia
     · exact ⟨_,rfl,(by show 4≤sizeLine; decide),fin _ m0 m1⟩
     · exact ⟨_,rfl,(by show 4≤sizeLine; decide),fin _ m0 m1⟩
   refine hidC λ _ ji je=>?_
   refine ⟨_,rfl,_,_,rfl,rfl,_,rfl,iteB (λ _=>ji _ ?_) (λ _=>je _ ?_)⟩
   · refine ⟨_,rfl,_,rfl,_,rfl,λ ad H1 s1 a0 a1=>⟨_,rfl,_,_,rfl,rfl,⟨by decide,by decide⟩,_,rfl,λ cs H2 c hc s2 hn ec=>⟨(by show 4≤sizeLine; decide),λ d hd=>?_⟩⟩⟩
     have lc:=lo_cells (ad:=ad) (n:=(cs.length:Int)) a0 a1 (by lia) (by lia)
     exact k (.poke t ad cs) _ d ((s1.trans s2).trans (same_new hd)) ((s1.trans s2).free hd) ⟨c,upd_same,(same_new hd) _ _ ec,s1.free hn⟩ ⟨lt',by lia,lc.1,lc.2⟩ hc
   exact ⟨_,rfl,_,rfl,_,rfl,_,_,rfl,rfl,(by show (0:Int) < 4; decide),l,_,_,.int o,rfl,rfl,SqL.of hl,eo,(by show 3≤sizeLine; decide),λ d hd=>k (.copy t o) _ d (same_new hd) hd upd_same ⟨lt',lo'⟩ trivial⟩
end
end Rm
namespace Rm
open PySem L2
def spHeldL:Sp:=λ vs H Q _ => ∃ (b:Addr) (Z:Rms),vs=[.ref b]∧RmsAt H b Z∧Z.length≤1000∧∀ H',Same H H'→Q (.int (heldW Z)) H'
def spWanted:Sp:=λ vs H Q _ => ∃ p m:Int,vs=[.int p,.int m]∧(noPages p m→Q .non H)∧(¬ noPages p m→∀ (H':Hp) (l:Addr),Same H H'→H l=none→H' l=some (.lst ((pagesL p m).map V.int))→Q (.ref l) H')
def Says (tot:Int) (c:Wc) (D:Deed) (s:Str):Prop:=(∃ X,Due tot c D X∧s=wordOf X)∨((∃ c',Good tot c D c')∧s = "")
structure WZ (H:Hp) (b:Addr) (Z:Rms):Prop where
 L:RmsAt H b Z
 ln:Z.length≤1000
 lm:∀ x∈Z,x.2.2.length≤64
theorem WZ.same {H H':Hp}{b:Addr}{Z:Rms}(w:WZ H b Z) (s:Same H H'):WZ H' b Z:=⟨w.L.same s,w.ln,w.lm⟩
theorem WZ.get {H:Hp}{b:Addr}{Z:Rms}{t:Int}{z:Addr×Room}(w:WZ H b Z) (h:look Z t=some z):DGet H b (.int t) (some (fR z)):=by
 have:=get_dk (t:=t) w.L.hd
 rw [h] at this
 exact this
def spRefPages:Sp:=λ vs H Q _ => ∃ (b d:Addr) (tot t pg m:Int) (Z:Rms) (D:Deed) (z:Addr×Room),vs=[.ref b,.int tot,.ref d]∧WZ H b Z∧(D=.map t pg m∨D=.drop t pg m)∧DeedAt H d D∧look Z t=some z ∧
 ∀ (s:Str) (H':Hp),Says tot (conW Z) D s→Same H H'→Q (.str s) H'
theorem filt_all {L:List Int}{p:Int→Bool}:((L.filter p).length=L.length)↔∀ x∈L,p x=true:=by
 constructor
 · intro h
   have e:L.filter p=L:=List.filter_sublist.eq_of_length h
   rw [← e]
   exact λ x hx=>(List.mem_filter.mp hx).2
 · intro h
   rw [List.filter_eq_self.mpr h]
theorem filt_none {L:List Int}{p:Int→Bool}:(0 < (L.filter p).length)↔∃ x∈L,p x=true:=by
 constructor
 · intro h
   obtain ⟨x,hx⟩:=List.exists_mem_of_length_pos h
   exact ⟨x,(List.mem_filter.mp hx).1,(List.mem_filter.mp hx).2⟩
 · rintro ⟨x,hx,e⟩
   exact List.length_pos_of_mem (List.mem_filter.mpr ⟨hx,e⟩)
theorem pagesL_len {p m:Int}(h:¬ noPages p m):(((pagesL p m).length:Nat):Int)=m:=by
 unfold pagesL
 rw [List.length_map,List.length_range]
 have:¬ m < 1:=λ z=>h (.inl z)
 lia
section
variable {P:Program}{w:World}{K:PySem.W.Frag}{mg:Str→Option Value}{base:Heap}
theorem scHl:FnScope ["_law_world"] ["_law_world"] (defScope sHeldL):=⟨rfl,rfl,rfl,by decide +kernel,rfl,by decide +kernel,by decide +kernel⟩
theorem ok_heldL {f:Addr}{fd:FuncData}(F:Fun K "_law_held" "_law_held" sHeldL f fd) (T:MTxt mg):FnOk P w K mg base CX0 1 f fd ["_law_world"] spHeldL:=by
 refine F.ok scHl (λ vs H Q E h=>?_) (λ cdv A outer s H vs Q E hr h=>?_)
 · obtain ⟨b,Z,rfl,_⟩:=h
   rfl
 · obtain ⟨a,W,rfl,D,lw,k⟩:=h
   have hs:sizeLine=16777216:=sizeLine_eq
   refine ⟨_,(pss_one (ps_ret (pe_callB (call_sum rfl) (by rfl) T.sum bt_sum (pa_cons (pe_thaw (pe_comp (cl:=[("_law_world",s.heap.objs.size + 1)]) (caps:=[("_law_world",0)]) ⟨rfl,by decide +kernel,by decide +kernel,rfl,by kernel_rfl,by intro p hp; simp only [List.mem_cons,List.not_mem_nil,or_false] at hp; rcases hp with rfl <;> first | rfl | exact ⟨rfl,.inl rfl,.inl rfl⟩ | exact ⟨rfl,.inl rfl,.inr rfl⟩,by kernel_rfl,by intro p hp; simp only [List.mem_cons,List.not_mem_nil,or_false] at hp; rcases hp with rfl <;> first | rfl | exact ⟨rfl,.inl rfl,.inl rfl⟩ | exact ⟨rfl,.inl rfl,.inr rfl⟩,by decide +kernel⟩ rfl (pi_dict (pv 0)) (λ _ _ _ _=>pts_nil) (λ _ _ _ _=>(pe_callB call_lenD (by rfl) T.len PySem.boot_len (pa_cons (pe_dget (hu_of hr) (pv 1) (pv 0) (λ _ _=>rfl)) pa_nil))))) pa_nil)))),?_⟩
   have hn:∀ (o:Obj) u',H a≠some (.frz o u'):=λ o u' z=>by rw [D.hd] at z; cases z
   refine ⟨_,rfl,a,_,rfl,D.hd,hn,λ o=>?_⟩
   have hf:(upd H a (.frz o (.dK (kvR W)))) a=some (.frz o (.dK (kvR W))):=upd_same
   refine comp_dict0 (a:=a) (o:=o) (kvs:=kvR W) (λ i ys H2=>ys=((W.take i).map λ x=>(x.2.2.length:Int)).map V.int∧H2=upd H a (.frz o (.dK (kvR W)))) ⟨rfl,rfl⟩ (λ i zs H2 _ ⟨_,e⟩=>by rw [e]; exact hf) ?_ ?_
   · rintro i kk v zs H2 hk ⟨rfl,rfl⟩
     have hk':(W.map λ x:Int×Addr×Room=>((Sum.inl x.1:Key),fR x.2))[i]? = some (kk,v):=hk
     rw [List.getElem?_map] at hk'
     obtain ⟨x,hx,e⟩:=Option.map_eq_some_iff.mp hk'
     cases e
     have hm:=List.mem_of_getElem? hx
     have hi:i < W.length:=(List.getElem?_eq_some_iff.mp hx).1
     have hlk:look W x.1=some x.2:=look_some D.nd hm
     have hg:DGet (upd H a (.frz o (.dK (kvR W)))) a (.int x.1) (some (fR x.2)):=.inl ⟨kvR W,Sum.inl x.1,.inr ⟨o,hf⟩,rfl,by rw [valV_dk,hlk]; rfl⟩
     have hrm:(upd H a (.frz o (.dK (kvR W)))) x.2.1=some (.dK (kvP x.2.2)):=by rw [upd_ne (D.ne x hm)]; exact (D.rm x hm).hd
     refine ⟨_,rfl,_,rfl,a,fR x.2,rfl,hg,x.2.1,_,rfl,hrm,?_,?_,rfl⟩
     · rw [List.length_map,List.length_map,List.length_take]; lia
     · rw [List.take_add_one,hx,List.map_append,List.map_append,dk_len]
       rfl
   · rintro zs H2 ⟨rfl,rfl⟩ l hl
     have nla:l≠a:=λ z=>by rw [z,hf] at hl; cases hl
     refine ⟨a,o,kvR W,by rw [upd_ne (Ne.symm nla)]; exact hf,hn,l,(W.map λ x=>(x.2.2.length:Int)),rfl,SqL.of ?_,?_⟩
     · rw [upd_ne nla,upd_same,dk_len,List.take_length]
     · refine k _ λ b u e=>?_
       by_cases z:b=a
       · rw [z,upd_same, ← e,z,D.hd]
       · rw [upd_ne z,upd_ne (λ y=>by
           rw [y] at e
           rw [upd_ne nla] at hl
           rw [hl] at e
           cases e),upd_ne z]
         exact e
theorem scWa:FnScope ["_law_page_here","_law_many_here"] ["_law_page_here","_law_many_here"] (defScope sWanted):=⟨rfl,rfl,rfl,by decide +kernel,rfl,by decide +kernel,by decide +kernel⟩
theorem ok_wanted {f:Addr}{fd:FuncData}(F:Fun K "_law_wanted" "_law_wanted" sWanted f fd) (T:MTxt mg):FnOk P w K mg base CX0 1 f fd ["_law_page_here","_law_many_here"] spWanted:=by
 refine F.ok scWa (λ vs H Q E h=>?_) (λ cdv A outer s H vs Q E hr h=>?_)
 · obtain ⟨p,m,rfl,_⟩:=h
   rfl
 · obtain ⟨p,m,rfl,kN,kQ⟩:=h
   refine ⟨_,(pss_cons (ps_if (PW.pt (pw_or (pt_cmpR op_lt (pv 1) pe_int (nomark _)) (pw_or (pt_cmpR op_lt (pv 0) pe_int (nomark _)) (pw_or1 (pt_cmpR op_gt (pe_op op_add (pv 0) (pv 1)) pe_int (nomark _)))))) (pss_one (ps_ret pe_non)) pss_nil)
     (pss_one (ps_ret (pe_callTy (call_list_rng2 rfl) (by rfl) T.list bt_list (pa_cons (pe_callTy call_rng2 (by rfl) T.range bt_range (pa_cons (pv 0) (pa_cons (pe_op op_add (pv 0) (pv 1)) pa_nil))) pa_nil))))),?_⟩
   refine hidC λ _ ji je=>?_
   have jj:noPages p m→_:=λ hb=>ji H (kN hb)
   refine ⟨_,rfl,_,_,rfl,rfl,_,rfl,?_⟩
   refine ite2 (λ c=>jj (.inl (of_decide_eq_true c))) (λ c=>?_)
   refine ⟨_,rfl,_,_,rfl,rfl,_,rfl,?_⟩
   refine ite2 (λ c'=>jj (.inr (.inl (of_decide_eq_true c')))) (λ c'=>?_)
   refine ⟨_,rfl,_,rfl,_,_,rfl,rfl,_,_,rfl,rfl,_,rfl,?_⟩
   refine iteB (λ c''=>jj (.inr (.inr (of_decide_eq_true c'')))) (λ c''=>je _ ?_)
   have d1:¬ m < 1:=λ z=>c (decide_eq_true z)
   have d2:¬ p < 0:=λ z=>c' (decide_eq_true z)
   have d3:¬ 64 < p + m:=λ z=>c'' (decide_eq_true z)
   refine ⟨_,rfl,_,rfl,_,rfl,_,_,rfl,rfl,p,p + m,rfl,λ pr hpr=>?_⟩
   have s1:=same_new (X:=.rng p (p + m)) hpr
   refine ⟨pr,p,m.toNat,rfl,by rw [upd_same,Int.toNat_of_nonneg (by lia)],by lia,by lia,by lia,λ l hl=>?_⟩
   refine kQ (λ z=>z.elim d1 λ z=>z.elim d2 d3) _ l (s1.trans (same_new hl)) (s1.free hl) ?_
   rw [upd_same]
   unfold pagesL
   rw [List.map_map]
   rfl
end
end Rm
namespace Rm
open PySem L2
theorem keyIn {R:Room}{q:Int}:((look R q).map fP).isSome=decide (q∈keysR R):=by
 cases e:look R q with
 | none =>
   have:¬ q∈keysR R:=look_none e
   rw [decide_eq_false this]; rfl
 | some y =>
   have:q∈keysR R:=List.mem_map.mpr ⟨_,look_mem e,rfl⟩
   rw [decide_eq_true this]; rfl
section
variable {P:Program}{w:World}{K:PySem.W.Frag}{mg:Str→Option Value}{base:Heap}
theorem scRp:FnScope ["_law_world","_law_total","_law_deed_here","_law_wanted_here","_law_here"] ["_law_world","_law_total","_law_deed_here"] (defScope sRefPages):=⟨rfl,rfl,rfl,by decide +kernel,rfl,by decide +kernel,by decide +kernel⟩
set_option maxHeartbeats 4000000 in
theorem ok_refPages {f fWa fHl:Addr}{fd dWa dHl:FuncData}(F:Fun K "_law_refused_pages" "_law_refused_pages" sRefPages f fd) (T:MTxt mg)
   (GWa:FnOk P w K mg base CX0 1 fWa dWa ["_law_page_here","_law_many_here"] spWanted) (DWa:Def K mg "_law_wanted" fWa dWa ["_law_page_here","_law_many_here"])
   (GHl:FnOk P w K mg base CX0 1 fHl dHl ["_law_world"] spHeldL) (DHl:Def K mg "_law_held" fHl dHl ["_law_world"]) :
   FnOk P w K mg base CX0 2 f fd ["_law_world","_law_total","_law_deed_here"] spRefPages:=by
 refine F.ok scRp (λ vs H Q E h=>?_) (λ cdv A outer s H vs Q E hr h=>?_)
 · obtain ⟨b,d,tot,t,pg,m,Z,D,z,rfl,_⟩:=h
   rfl
 · obtain ⟨b,d,tot,t,pg,m,Z,D,z,rfl,wz,hD,hd,hz,k⟩:=h
   have hs:sizeLine=16777216:=sizeLine_eq
   refine ⟨_,(pss_cons (ps_set (i:=3) scRp.nd rfl (Or.inl rfl) (pe_call GWa (hr.mono (by decide)) (by rfl) DWa.mg DWa.kp DWa.b .nil pass0 (pa_cons (pe_ix ix_tup (pv 2) pe_int (λ _ _=>rfl)) (pa_cons (pe_ix ix_tup (pv 2) pe_int (λ _ _=>rfl)) pa_nil))))
     (pss_cons (ps_if (pt_cmpR op_isN (pv 3) pe_non (nomark _)) (pss_one (ps_ret pe_str)) pss_nil)
     (pss_cons (ps_comp (i:=4) (cl:=[("_law_world",s.heap.objs.size + 1),("_law_deed_here",s.heap.objs.size + 2)]) (caps:=[("_law_world",0),("_law_deed_here",2)]) scRp.nd rfl (Or.inl rfl) ⟨rfl,by decide +kernel,by decide +kernel,rfl,by kernel_rfl,by intro p hp; simp only [List.mem_cons,List.not_mem_nil,or_false] at hp; rcases hp with rfl | rfl <;> first | rfl | exact ⟨rfl,.inl rfl,.inl rfl⟩ | exact ⟨rfl,.inl rfl,.inr rfl⟩,by kernel_rfl,by intro p hp; simp only [List.mem_cons,List.not_mem_nil,or_false] at hp; rcases hp with rfl | rfl <;> first | rfl | exact ⟨rfl,.inl rfl,.inl rfl⟩ | exact ⟨rfl,.inl rfl,.inr rfl⟩,by decide +kernel⟩ rfl (pi_list (pv 3)) (λ _ _ _ _=>pts_one (pt_cmp (pc_din (hu_of hr) (pv 0) (pe_dget (hu_of hr) (pv 1) (pe_ix (show IxR _ (rIxT K) from ix_tup) (pv 2) pe_int (λ _ _=>rfl)) (λ _ _=>rfl))))) (λ _ _ _ _=>(pv 0)))
     (pss_cons (ps_if (pt_cmpR op_eq (pe_ix ix_tup (pv 2) pe_int (λ _ _=>rfl)) pe_str (nomark _)) (pss_one (ps_ret (pe_ifExp (pt_cmpR op_eq (pe_callB call_len_seq (by rfl) T.len PySem.boot_len (pa_cons (pv 4) pa_nil)) (pe_callB call_len_seq (by rfl) T.len PySem.boot_len (pa_cons (pv 3) pa_nil)) (nomark _)) pe_str pe_str))) pss_nil)
     (pss_cons (ps_if (pt_cmpR op_gt (pe_callB call_len_seq (by rfl) T.len PySem.boot_len (pa_cons (pv 4) pa_nil)) pe_int (nomark _)) (pss_one (ps_ret pe_str)) pss_nil)
     (pss_one (ps_ret (pe_ifExp (pt_cmpR op_gt (pe_op op_add (pe_call GHl (hr.mono (by decide)) (by rfl) DHl.mg DHl.kp DHl.b .nil pass0 (pa_cons (pv 0) pa_nil)) (pe_callB call_len_seq (by rfl) T.len PySem.boot_len (pa_cons (pv 3) pa_nil))) (pv 1) (nomark _)) pe_str pe_str)))))))),?_⟩
   have hd':H d=some (.tup [.str (kindOf D),.int t,.int pg,.int m]):=by rcases hD with rfl | rfl <;> exact hd
   have hzc:look (conW Z) t=some (con z.2):=lkc hz
   have hm:=look_mem hz
   have rz:=wz.L.rm _ hm
   have bad:noPages pg m→Says tot (conW Z) D "NoPage" := λ hb=>by
     rcases hD with rfl | rfl
     · exact .inl ⟨.noPage,.inr ⟨_,hzc,.inl ⟨hb,rfl⟩⟩,rfl⟩
     · exact .inl ⟨.noPage,.inr ⟨_,hzc,.inl hb,rfl⟩,rfl⟩
   refine hidN λ _ jt=>?_
   refine ⟨_,rfl,d,_,_,.int pg,rfl,rfl,SqT.of hd',rfl,_,rfl,d,_,_,.int m,rfl,rfl,SqT.of hd',rfl,pg,m,rfl,λ hb=>jt _ _ ?_,λ hb H1 l s1 hl e1=>jt _ _ ?_⟩
   · refine hidC λ _ ji je=>?_
     refine ⟨_,rfl,rfl,_,rfl,ji _ ?_⟩
     exact k _ _ (bad hb) (Same.refl H)
   refine hidC λ _ ji je=>?_
   refine ⟨_,rfl,rfl,_,rfl,je _ ?_⟩
   have wz1:=wz.same s1
   have hd1:=s1 _ _ hd'
   have hg1:=wz1.get hz
   have rz1:=rz.same s1
   refine hid λ _ jt=>?_
   refine ⟨_,rfl,l,rfl,⟨_,SqL.of e1⟩,?_⟩
   refine comp_list (K:=K) (a:=l) (xs:=(pagesL pg m).map V.int) (λ i ys H2=>ys=(((pagesL pg m).take i).filter λ q=>decide (q∈keysR z.2)).map V.int∧H2=H1) ⟨rfl,rfl⟩ (λ i ys H2 _ ⟨_,e⟩=>by rw [e]; exact SqL.of e1) ?_ ?_
   · rintro i x ys H2 hx ⟨rfl,rfl⟩
     rw [List.getElem?_map] at hx
     obtain ⟨q,hq,rfl⟩:=Option.map_eq_some_iff.mp hx
     refine ⟨_,rfl,_,rfl,_,rfl,d,_,_,.int t,rfl,rfl,SqT.of hd1,rfl,b,fR z,rfl,hg1,z.1,_,rfl,get_dk (t:=q) rz1.hd,_,rfl,?_⟩
     rw [keyIn]
     refine ite2 (λ c=>?_) (λ c=>?_)
     · refine ⟨_,rfl,?_,?_,rfl⟩
       · have l0:=List.length_filter_le (λ q=>decide (q∈keysR z.2)) ((pagesL pg m).take i)
         have l1:((pagesL pg m).take i).length≤64:=by
           have e:=pagesL_len hb
           have n1:¬ 64 < pg + m:=λ y=>hb (.inr (.inr y))
           have n2:¬ pg < 0:=λ y=>hb (.inr (.inl y))
           rw [List.length_take]
           lia
         rw [List.length_map]
         lia
       · rw [List.take_add_one,hq,List.filter_append,List.map_append]
         show _=_ ++ List.map V.int (List.filter _ [q])
         rw [List.filter_cons_of_pos (p:=λ q=>decide (q∈keysR z.2)) (a:=q) (l:=[]) c]
         rfl
     · refine ⟨?_,rfl⟩
       rw [List.take_add_one,hq,List.filter_append,List.map_append]
       show _=_ ++ List.map V.int (List.filter _ [q])
       rw [List.filter_cons_of_neg (p:=λ q=>decide (q∈keysR z.2)) (a:=q) (l:=[]) c]
       simp
   · rintro ys H2 ⟨rfl,rfl⟩ l2 hl2
     rw [List.length_map,List.take_length] at *
     have s2:=same_new (X:=.lst (((pagesL pg m).filter λ q=>decide (q∈keysR z.2)).map V.int)) hl2
     have e2:(upd H2 l2 (.lst (((pagesL pg m).filter λ q=>decide (q∈keysR z.2)).map V.int))) l2=some (.lst (((pagesL pg m).filter λ q=>decide (q∈keysR z.2)).map V.int)):=upd_same
     have S2:=s1.trans s2
     have el:=s2 _ _ e1
     have hd2:=s2 _ _ hd1
     have wz2:=wz1.same s2
     refine jt _ _ _ ?_
     generalize upd H2 l2 (.lst (((pagesL pg m).filter λ q=>decide (q∈keysR z.2)).map V.int))=H3 at *
     refine hidC λ _ ji je=>?_
     rcases hD with rfl | rfl
     · refine ⟨_,rfl,d,_,_,.str "map",rfl,rfl,SqT.of hd2,rfl,rfl,_,rfl,?_⟩
       rw [decide_eq_false (show ¬ V.str "map" = V.str "drop" from ks_ne (by decide +kernel))]
       refine je _ ?_
       refine hidC λ _ ji je=>?_
       refine ⟨_,rfl,l2,_,rfl,.inl (SqL.of e2),_,_,rfl,rfl,_,rfl,iteB (λ c=>ji _ ?_) (λ c=>je _ ?_)⟩
       · have c':=of_decide_eq_true c
         rw [List.length_map] at c'
         obtain ⟨q,hq,e⟩:=filt_none.mp (Int.ofNat_lt.mp c')
         exact k "Taken" _ (.inl ⟨.taken,.inr ⟨_,hzc,.inr (.inl ⟨hb,⟨q,hq,by rw [keysC_con]; exact of_decide_eq_true e⟩,rfl⟩)⟩,rfl⟩) S2
       · have n3:∀ q∈pagesL pg m,¬ q∈keysC (con z.2):=λ q hq hk=>c (decide_eq_true (by
           rw [List.length_map]
           exact Int.ofNat_lt.mpr (filt_none.mpr ⟨q,hq,decide_eq_true (by rw [keysC_con] at hk; exact hk)⟩)))
         refine ⟨_,rfl,b,Z,rfl,wz2.L,wz2.ln,λ H4 s4=>?_⟩
         refine ⟨_,rfl,l,_,rfl,.inl (SqL.of (s4 _ _ el)),_,_,rfl,rfl,_,rfl,_,_,rfl,rfl,_,rfl,?_⟩
         have ln:(((List.map V.int (pagesL pg m)).length:Nat):Int)=m:=by rw [List.length_map]; exact pagesL_len hb
         rw [ln]
         refine ite2 (λ c2=>?_) (λ c2=>?_)
         · exact k "NoRoom" _ (.inl ⟨.noRoom,.inr ⟨_,hzc,.inr (.inr ⟨hb,n3,by rw [← held_c]; exact of_decide_eq_true c2,rfl⟩)⟩,rfl⟩) (S2.trans s4)
         · exact k "" _ (.inr ⟨⟨_,_,hzc,hb,n3,by rw [← held_c]; exact λ y=>c2 (decide_eq_true y),rfl⟩,rfl⟩) (S2.trans s4)
     · refine ⟨_,rfl,d,_,_,.str "drop",rfl,rfl,SqT.of hd2,rfl,rfl,_,rfl,?_⟩
       rw [decide_eq_true rfl]
       refine ji _ ?_
       refine ⟨_,rfl,l2,_,rfl,.inl (SqL.of e2),_,rfl,l,_,rfl,.inl (SqL.of el),rfl,_,rfl,?_⟩
       refine ite2 (λ c=>?_) (λ c=>?_)
       · have c':=V.int.inj (of_decide_eq_true c)
         rw [List.length_map,List.length_map] at c'
         have hall:=filt_all.mp (Int.ofNat_inj.mp c')
         exact k "" _ (.inr ⟨⟨_,_,hzc,hb,λ q hq=>by rw [keysC_con]; exact of_decide_eq_true (hall q hq),rfl⟩,rfl⟩) S2
       · refine k "NoPage" _ (.inl ⟨.noPage,.inr ⟨_,hzc,.inr λ hall=>c (decide_eq_true ?_),rfl⟩,rfl⟩) S2
         rw [List.length_map,List.length_map]
         exact congrArg V.int (Int.ofNat_inj.mpr (filt_all.mpr λ q hq=>decide_eq_true (by
           have:=hall q hq
           rw [keysC_con] at this
           exact this)))
end
end Rm
namespace Rm
open PySem L2
theorem first2_ {A B C G:Prop}(f:A→B) (a:C→A) (k:(C→B)→G):G:=k λ c=>f (a c)
def spRefCells:Sp:=λ vs H Q _ => ∃ (b:Addr) (t ad n:Int) (Z:Rms) (z:Addr×Room),vs=[.ref b,.int t,.int ad,.int n]∧WZ H b Z∧look Z t=some z∧(badCells ad n (keysR z.2)→Q (.str "NoPage") H)∧(¬ badCells ad n (keysR z.2)→Q (.str "") H)
theorem bad_range {ad n:Int}{ms:List Int}(h:0 < n) (h2:ad < 0∨512 < ad + n):badCells ad n ms:=by
 refine .inr ⟨h,.inl ?_⟩
 unfold noPages cFst cCnt
 lia
theorem bad_cell {ad n:Int}{ms:List Int}{k:Nat}(h:(k:Int) < n) (h2:¬ (ad + k) / 8∈ms):badCells ad n ms:=by
 refine .inr ⟨by lia,.inr λ all=>h2 (all _ ?_)⟩
 unfold pagesL
 refine List.mem_map.mpr ⟨((ad + k) / 8 - ad / 8).toNat,List.mem_range.mpr ?_,?_⟩
 · unfold cCnt; lia
 · unfold cFst; lia
theorem good_cells {ad n:Int}{ms:List Int}(h0:¬ n < 0) (h1:n=0∨(0 < n∧0≤ad∧ad + n≤512)) (h2:∀ k:Nat,(k:Int) < n→(ad + k) / 8∈ms):¬ badCells ad n ms:=by
 rintro (h | ⟨hn,h | h⟩)
 · exact h0 h
 · unfold noPages cFst cCnt at h
   lia
 · apply h
   intro q hq
   unfold pagesL cFst cCnt at hq
   obtain ⟨k,hk,rfl⟩:=List.mem_map.mp hq
   have hk':=List.mem_range.mp hk
   by_cases c:ad≤8 * (ad / 8 + k)
   · have:=h2 (8 * (ad / 8 + (k:Int)) - ad).toNat (by lia)
     have e:(ad + (((8 * (ad / 8 + (k:Int)) - ad).toNat:Nat):Int)) / 8=ad / 8 + k:=by lia
     rw [e] at this
     exact this
   · have:=h2 0 (by lia)
     have e:(ad + ((0:Nat):Int)) / 8=ad / 8 + k:=by lia
     rw [e] at this
     exact this
section
variable {P:Program}{w:World}{K:PySem.W.Frag}{mg:Str→Option Value}{base:Heap}
theorem scRc:FnScope ["_law_world","_law_task","_law_address_here","_law_many_here","_law_at"] ["_law_world","_law_task","_law_address_here","_law_many_here"] (defScope sRefCells):=⟨rfl,rfl,rfl,by decide +kernel,rfl,by decide +kernel,by decide +kernel⟩
theorem ok_refCells {f:Addr}{fd:FuncData}(F:Fun K "_law_refused_cells" "_law_refused_cells" sRefCells f fd) (T:MTxt mg):FnOk P w K mg base CX0 1 f fd ["_law_world","_law_task","_law_address_here","_law_many_here"] spRefCells:=by
 refine F.ok scRc (λ vs H Q E h=>?_) (λ cdv A outer s H vs Q E hr h=>?_)
 · obtain ⟨b,t,ad,n,Z,z,rfl,_⟩:=h
   rfl
 · obtain ⟨b,t,ad,n,Z,z,rfl,wz,hz,kB,kG⟩:=h
   refine ⟨_,(pss_cons (ps_if (PW.pt (pw_or (pt_cmpR op_lt (pv 3) pe_int (nomark _)) (pw_or1 (PW.pt (pw_and (pt_cmpR op_gt (pv 3) pe_int (nomark _)) (pw_and1 (PW.pt (pw_or (pt_cmpR op_lt (pv 2) pe_int (nomark _)) (pw_or1 (pt_cmpR op_gt (pe_op op_add (pv 2) (pv 3)) pe_int (nomark _))))))))))) (pss_one (ps_ret pe_str)) pss_nil)
     (pss_cons (ps_for PassesOwn.never rfl (pi_rangeL (by rfl) T.range (pa_cons (pv 2) (pa_cons (pe_op op_add (pv 2) (pv 3)) pa_nil))) (pg_name (i:=4) scRc.nd rfl (Or.inl rfl)) (pss_one (ps_if (pt_cmp (pc_dnotin (hu_of hr) (pe_op op_fdiv (pv 4) pe_int) (pe_dget (hu_of hr) (pv 0) (pv 1) (λ _ _=>rfl)))) (pss_one (ps_ret pe_str)) pss_nil)))
     (pss_one (ps_ret pe_str)))),?_⟩
   have rz:=wz.L.rm _ (look_mem hz)
   have hg:=wz.get hz
   refine hidC λ _ ji je=>?_
   have jj:badCells ad n (keysR z.2)→_:=λ hb=>ji H (kB hb)
   refine first2_ (C := ¬ n < 0∧(n=0∨(0 < n∧0≤ad∧ad + n≤512))) (je H) (λ hok=>?_) λ jf=>?_
   rotate_left
   · refine ⟨_,rfl,_,_,rfl,rfl,_,rfl,ite2 (λ c=>jj (.inl (of_decide_eq_true c))) (λ c=>?_)⟩
     have c0:¬ n < 0:=λ y=>c (decide_eq_true y)
     refine ⟨_,rfl,_,_,rfl,rfl,_,rfl,ite2 (λ c=>?_) (λ c=>?_)⟩
     · have c1:=of_decide_eq_true c
       refine ⟨_,rfl,_,_,rfl,rfl,_,rfl,ite2 (λ c=>jj (bad_range c1 (.inl (of_decide_eq_true c)))) (λ c=>?_)⟩
       have c2:¬ ad < 0:=λ y=>c (decide_eq_true y)
       refine ⟨_,rfl,_,rfl,_,_,rfl,rfl,_,_,rfl,rfl,_,rfl,iteB (λ c=>jj (bad_range c1 (.inr (of_decide_eq_true c)))) (λ c=>?_)⟩
       have c3:¬ 512 < ad + n:=λ y=>c (decide_eq_true y)
       exact jf ⟨c0,.inr ⟨c1,by lia,by lia⟩⟩
     · have c1:¬ 0 < n:=λ y=>c (decide_eq_true y)
       exact jf ⟨c0,.inl (by lia)⟩
   refine hid λ _ jt=>?_
   refine ⟨_,rfl,_,rfl,_,rfl,_,_,rfl,rfl,_,_,rfl,?_⟩
   refine for_range (lo:=ad) (n:=(ad + n - ad).toNat) (λ i σ H2 => ∃ v4:Option V,σ=[some (.ref b),some (.int t),some (.int ad),some (.int n),v4]∧H2=H∧∀ k:Nat,k < i→(ad + k) / 8∈keysR z.2) ⟨_,rfl,rfl,λ k hk=>absurd hk (Nat.not_lt_zero k)⟩ ?_ ?_
   · rintro i σ H2 hi ⟨v4,rfl,rfl,hk⟩
     refine ⟨_,rfl,_,_,rfl,rfl,⟨by decide,by decide⟩,_,rfl,_,rfl,b,fR z,rfl,hg,z.1,_,rfl,get_dk (t:=(ad + (i:Int)) / 8) rz.hd,_,rfl,?_⟩
     rw [keyIn]
     refine ite2 (λ c=>?_) (λ c=>?_)
     · have c':¬ (ad + (i:Int)) / 8∈keysR z.2:=by simpa using c
       exact kB (bad_cell (k:=i) (by lia) c')
     · have c':(ad + (i:Int)) / 8∈keysR z.2:=by simpa using c
       refine ⟨_,rfl,rfl,λ k hk'=>?_⟩
       by_cases e:k=i
       · rw [e]; exact c'
       · exact hk k (by lia)
   · rintro σ H2 ⟨v4,rfl,rfl,hk⟩
     refine jt _ _ _ ?_
     exact kG (good_cells hok.1 hok.2 λ k h=>hk k (by lia))
end
end Rm
namespace Rm
open PySem L2
def spRefused:Sp:=λ vs H Q _ => ∃ (b d:Addr) (tot:Int) (Z:Rms) (D:Deed),vs=[.ref b,.int tot,.ref d]∧WZ H b Z∧DeedAt H d D∧∀ (s:Str) (H':Hp),Says tot (conW Z) D s→Same H H'→Q (.str s) H'
section
variable {P:Program}{w:World}{K:PySem.W.Frag}{mg:Str→Option Value}{base:Heap}
theorem scRf:FnScope ["_law_world","_law_total","_law_deed_here"] ["_law_world","_law_total","_law_deed_here"] (defScope sRefused):=⟨rfl,rfl,rfl,by decide +kernel,rfl,by decide +kernel,by decide +kernel⟩
set_option maxHeartbeats 4000000 in
theorem ok_refused {f fRp fRc fHl:Addr}{fd dRp dRc dHl:FuncData}(F:Fun K "_law_refused" "_law_refused" sRefused f fd) (T:MTxt mg)
   (GRp:FnOk P w K mg base CX0 2 fRp dRp ["_law_world","_law_total","_law_deed_here"] spRefPages) (DRp:Def K mg "_law_refused_pages" fRp dRp ["_law_world","_law_total","_law_deed_here"])
   (GRc:FnOk P w K mg base CX0 1 fRc dRc ["_law_world","_law_task","_law_address_here","_law_many_here"] spRefCells) (DRc:Def K mg "_law_refused_cells" fRc dRc ["_law_world","_law_task","_law_address_here","_law_many_here"])
   (GHl:FnOk P w K mg base CX0 1 fHl dHl ["_law_world"] spHeldL) (DHl:Def K mg "_law_held" fHl dHl ["_law_world"]) :
   FnOk P w K mg base CX0 3 f fd ["_law_world","_law_total","_law_deed_here"] spRefused:=by
 refine F.ok scRf (λ vs H Q E h=>?_) (λ cdv A outer s H vs Q E hr h=>?_)
 · obtain ⟨b,d,tot,Z,D,rfl,_⟩:=h
   rfl
 · obtain ⟨b,d,tot,Z,D,rfl,wz,hd,k⟩:=h
   refine ⟨_,(pss_cons (ps_if (pt_cmpR op_eq (pe_ix ix_tup (pv 2) pe_int (λ _ _=>rfl)) pe_str (nomark _)) (pss_one (ps_ret (pe_ifExp (pt_cmp (pc_din (hu_of hr) (pe_ix ix_tup (pv 2) pe_int (λ _ _=>rfl)) (pv 0))) pe_str pe_str))) pss_nil)
     (pss_cons (ps_if (pt_cmp (pc_dnotin (hu_of hr) (pe_ix ix_tup (pv 2) pe_int (λ _ _=>rfl)) (pv 0))) (pss_one (ps_ret pe_str)) pss_nil)
     (pss_cons (ps_if (PW.pt (pw_or (pt_cmpR op_eq (pe_ix ix_tup (pv 2) pe_int (λ _ _=>rfl)) pe_str (nomark _)) (pw_or1 (pt_cmpR op_eq (pe_ix ix_tup (pv 2) pe_int (λ _ _=>rfl)) pe_str (nomark _))))) (pss_one (ps_ret (pe_call GRp (hr.mono (by decide)) (by rfl) DRp.mg DRp.kp DRp.b .nil pass0 (pa_cons (pv 0) (pa_cons (pv 1) (pa_cons (pv 2) pa_nil)))))) pss_nil)
     (pss_cons (ps_if (pt_cmpR op_eq (pe_ix ix_tup (pv 2) pe_int (λ _ _=>rfl)) pe_str (nomark _)) (pss_one (ps_ret (pe_call GRc (hr.mono (by decide)) (by rfl) DRc.mg DRc.kp DRc.b .nil pass0 (pa_cons (pv 0) (pa_cons (pe_ix ix_tup (pv 2) pe_int (λ _ _=>rfl)) (pa_cons (pe_ix ix_tup (pv 2) pe_int (λ _ _=>rfl)) (pa_cons (pe_ix ix_tup (pv 2) pe_int (λ _ _=>rfl)) pa_nil))))))) pss_nil)
     (pss_cons (ps_if (pt_cmpR op_eq (pe_ix ix_tup (pv 2) pe_int (λ _ _=>rfl)) pe_str (nomark _)) (pss_one (ps_ret (pe_call GRc (hr.mono (by decide)) (by rfl) DRc.mg DRc.kp DRc.b .nil pass0 (pa_cons (pv 0) (pa_cons (pe_ix ix_tup (pv 2) pe_int (λ _ _=>rfl)) (pa_cons (pe_ix ix_tup (pv 2) pe_int (λ _ _=>rfl)) (pa_cons (pe_callB call_len_seq (by rfl) T.len PySem.boot_len (pa_cons (pe_ix ix_tup (pv 2) pe_int (λ _ _=>rfl)) pa_nil)) pa_nil))))))) pss_nil)
     (pss_cons (ps_if (PW.pt (pw_and (pt_cmpR op_eq (pe_ix ix_tup (pv 2) pe_int (λ _ _=>rfl)) pe_str (nomark _)) (pw_and1 (pt_cmp (pc_din (hu_of hr) (pe_ix ix_tup (pv 2) pe_int (λ _ _=>rfl)) (pv 0)))))) (pss_one (ps_ret pe_str)) pss_nil)
     (pss_cons (ps_if (PW.pt (pw_and (pt_cmpR op_eq (pe_ix ix_tup (pv 2) pe_int (λ _ _=>rfl)) pe_str (nomark _)) (pw_and1 (pt_cmpR op_gt (pe_op op_add (pe_call GHl (hr.mono (by decide)) (by rfl) DHl.mg DHl.kp DHl.b .nil pass0 (pa_cons (pv 0) pa_nil)) (pe_callB call_lenD (by rfl) T.len PySem.boot_len (pa_cons (pe_dget (hu_of hr) (pv 0) (pe_ix ix_tup (pv 2) pe_int (λ _ _=>rfl)) (λ _ _=>rfl)) pa_nil))) (pv 1) (nomark _))))) (pss_one (ps_ret pe_str)) pss_nil)
     (pss_one (ps_ret pe_str))))))))),?_⟩
   have hd0:=hd
   cases D with
   | begin t =>
     have hd:H d=some (.tup [.str "begin",.int t]):=hd
     refine hidC λ _ ji je=>?_
     refine eqT (ev_T (ev_v rfl) ev_c (SqT.of hd) rfl) ev_c rfl (ji _ ?_)
     refine ⟨_,rfl,d,_,_,.int t,rfl,rfl,SqT.of hd,rfl,_,rfl,b,_,rfl,get_dk (t:=t) wz.L.hd,_,rfl,?_⟩
     cases ez:look Z t with
     | none=>exact iteF (k "" _ (.inr ⟨⟨_,lookWn ez,rfl⟩,rfl⟩) (Same.refl H))
     | some z=>exact iteT (k "Taken" _ (.inl ⟨.taken,⟨⟨_,lkc ez⟩,rfl⟩,rfl⟩) (Same.refl H))
   | close t =>
     have hd:H d=some (.tup [.str "close",.int t]):=hd
     have no:look Z t=none→Says tot (conW Z) (.close t) "NoTask" := λ e=>.inl ⟨.noTask,⟨lookWn e,rfl⟩,rfl⟩
     refine hidC λ _ ji je=>?_
     refine eqF (ev_T (ev_v rfl) ev_c (SqT.of hd) rfl) ev_c rfl (ks_ne (by decide +kernel)) (je _ ?_)
     refine hidC λ _ ji je=>?_
     refine ⟨_,rfl,d,_,_,.int t,rfl,rfl,SqT.of hd,rfl,_,rfl,b,_,rfl,get_dk (t:=t) wz.L.hd,_,rfl,?_⟩
     cases ez:look Z t with
     | none=>exact ji _ (k _ _ (no ez) (Same.refl H))
     | some z =>
     refine je _ ?_
     refine hidC λ _ ji je=>?_
     refine eqF (ev_T (ev_v rfl) ev_c (SqT.of hd) rfl) ev_c rfl (ks_ne (by decide +kernel)) (iteF (eqF (ev_T (ev_v rfl) ev_c (SqT.of hd) rfl) ev_c rfl (ks_ne (by decide +kernel)) (je _ ?_)))
     refine hidC λ _ ji je=>?_
     refine eqF (ev_T (ev_v rfl) ev_c (SqT.of hd) rfl) ev_c rfl (ks_ne (by decide +kernel)) (je _ ?_)
     refine hidC λ _ ji je=>?_
     refine eqF (ev_T (ev_v rfl) ev_c (SqT.of hd) rfl) ev_c rfl (ks_ne (by decide +kernel)) (je _ ?_)
     refine hidC λ _ ji je=>?_
     refine eqF (ev_T (ev_v rfl) ev_c (SqT.of hd) rfl) ev_c rfl (ks_ne (by decide +kernel)) (iteF (je _ ?_))
     refine hidC λ _ ji je=>?_
     refine eqF (ev_T (ev_v rfl) ev_c (SqT.of hd) rfl) ev_c rfl (ks_ne (by decide +kernel)) (iteF (je _ ?_))
     exact k "" _ (.inr ⟨⟨_,⟨_,lkc ez⟩,rfl⟩,rfl⟩) (Same.refl H)
   | map t pg m =>
     have hd:H d=some (.tup [.str "map",.int t,.int pg,.int m]):=hd
     have no:look Z t=none→Says tot (conW Z) (.map t pg m) "NoTask" := λ e=>.inl ⟨.noTask,.inl ⟨lookWn e,rfl⟩,rfl⟩
     refine hidC λ _ ji je=>?_
     refine eqF (ev_T (ev_v rfl) ev_c (SqT.of hd) rfl) ev_c rfl (ks_ne (by decide +kernel)) (je _ ?_)
     refine hidC λ _ ji je=>?_
     refine ⟨_,rfl,d,_,_,.int t,rfl,rfl,SqT.of hd,rfl,_,rfl,b,_,rfl,get_dk (t:=t) wz.L.hd,_,rfl,?_⟩
     cases ez:look Z t with
     | none=>exact ji _ (k _ _ (no ez) (Same.refl H))
     | some z =>
     refine je _ ?_
     refine hidC λ _ ji je=>?_
     refine eqT (ev_T (ev_v rfl) ev_c (SqT.of hd) rfl) ev_c rfl (iteT (ji _ ?_))
     exact ⟨_,rfl,_,rfl,_,rfl,b,d,tot,t,pg,m,Z,_,z,rfl,wz,.inl rfl,hd,ez,k⟩
   | drop t pg m =>
     have hd:H d=some (.tup [.str "drop",.int t,.int pg,.int m]):=hd
     have no:look Z t=none→Says tot (conW Z) (.drop t pg m) "NoTask" := λ e=>.inl ⟨.noTask,.inl ⟨lookWn e,rfl⟩,rfl⟩
     refine hidC λ _ ji je=>?_
     refine eqF (ev_T (ev_v rfl) ev_c (SqT.of hd) rfl) ev_c rfl (ks_ne (by decide +kernel)) (je _ ?_)
     refine hidC λ _ ji je=>?_
     refine ⟨_,rfl,d,_,_,.int t,rfl,rfl,SqT.of hd,rfl,_,rfl,b,_,rfl,get_dk (t:=t) wz.L.hd,_,rfl,?_⟩
     cases ez:look Z t with
     | none=>exact ji _ (k _ _ (no ez) (Same.refl H))
     | some z =>
     refine je _ ?_
     refine hidC λ _ ji je=>?_
     refine eqF (ev_T (ev_v rfl) ev_c (SqT.of hd) rfl) ev_c rfl (ks_ne (by decide +kernel)) (iteF (eqT (ev_T (ev_v rfl) ev_c (SqT.of hd) rfl) ev_c rfl (ji _ ?_)))
     exact ⟨_,rfl,_,rfl,_,rfl,b,d,tot,t,pg,m,Z,_,z,rfl,wz,.inr rfl,hd,ez,k⟩
   | peek t ad n =>
     have hd:H d=some (.tup [.str "peek",.int t,.int ad,.int n]):=hd
     have no:look Z t=none→Says tot (conW Z) (.peek t ad n) "NoTask" := λ e=>.inl ⟨.noTask,.inl ⟨lookWn e,rfl⟩,rfl⟩
     refine hidC λ _ ji je=>?_
     refine eqF (ev_T (ev_v rfl) ev_c (SqT.of hd) rfl) ev_c rfl (ks_ne (by decide +kernel)) (je _ ?_)
     refine hidC λ _ ji je=>?_
     refine ⟨_,rfl,d,_,_,.int t,rfl,rfl,SqT.of hd,rfl,_,rfl,b,_,rfl,get_dk (t:=t) wz.L.hd,_,rfl,?_⟩
     cases ez:look Z t with
     | none=>exact ji _ (k _ _ (no ez) (Same.refl H))
     | some z =>
     refine je _ ?_
     refine hidC λ _ ji je=>?_
     refine eqF (ev_T (ev_v rfl) ev_c (SqT.of hd) rfl) ev_c rfl (ks_ne (by decide +kernel)) (iteF (eqF (ev_T (ev_v rfl) ev_c (SqT.of hd) rfl) ev_c rfl (ks_ne (by decide +kernel)) (je _ ?_)))
     refine hidC λ _ ji je=>?_
     refine eqT (ev_T (ev_v rfl) ev_c (SqT.of hd) rfl) ev_c rfl (ji _ ?_)
     exact ⟨_,rfl,_,rfl,d,_,_,.int t,rfl,rfl,SqT.of hd,rfl,_,rfl,d,_,_,.int ad,rfl,rfl,SqT.of hd,rfl,_,rfl,d,_,_,.int n,rfl,rfl,SqT.of hd,rfl,b,t,ad,n,Z,z,rfl,wz,ez,λ hb=>k _ _ (.inl ⟨.noPage,.inr ⟨_,lkc ez,by rw [keysC_con]; exact hb,rfl⟩,rfl⟩) (Same.refl H),λ hb=>k _ _ (.inr ⟨⟨_,_,lkc ez,by rw [keysC_con]; exact hb,rfl⟩,rfl⟩) (Same.refl H)⟩
   | poke t ad cs =>
     obtain ⟨c,hd,hc⟩:=hd
     have no:look Z t=none→Says tot (conW Z) (.poke t ad cs) "NoTask" := λ e=>.inl ⟨.noTask,.inl ⟨lookWn e,rfl⟩,rfl⟩
     refine hidC λ _ ji je=>?_
     refine eqF (ev_T (ev_v rfl) ev_c (SqT.of hd) rfl) ev_c rfl (ks_ne (by decide +kernel)) (je _ ?_)
     refine hidC λ _ ji je=>?_
     refine ⟨_,rfl,d,_,_,.int t,rfl,rfl,SqT.of hd,rfl,_,rfl,b,_,rfl,get_dk (t:=t) wz.L.hd,_,rfl,?_⟩
     cases ez:look Z t with
     | none=>exact ji _ (k _ _ (no ez) (Same.refl H))
     | some z =>
     refine je _ ?_
     refine hidC λ _ ji je=>?_
     refine eqF (ev_T (ev_v rfl) ev_c (SqT.of hd) rfl) ev_c rfl (ks_ne (by decide +kernel)) (iteF (eqF (ev_T (ev_v rfl) ev_c (SqT.of hd) rfl) ev_c rfl (ks_ne (by decide +kernel)) (je _ ?_)))
     refine hidC λ _ ji je=>?_
     refine eqF (ev_T (ev_v rfl) ev_c (SqT.of hd) rfl) ev_c rfl (ks_ne (by decide +kernel)) (je _ ?_)
     refine hidC λ _ ji je=>?_
     refine eqT (ev_T (ev_v rfl) ev_c (SqT.of hd) rfl) ev_c rfl (ji _ ?_)
     refine ⟨_,rfl,_,rfl,d,_,_,.int t,rfl,rfl,SqT.of hd,rfl,_,rfl,d,_,_,.int ad,rfl,rfl,SqT.of hd,rfl,_,rfl,d,_,_,.ref c,rfl,rfl,SqT.of hd,rfl,c,_,rfl,.inl (SqL.of hc),b,t,ad,(cs.length:Int),Z,z,?_,wz,ez,λ hb=>k _ _ (.inl ⟨.noPage,.inr ⟨_,lkc ez,by rw [keysC_con]; exact hb,rfl⟩,rfl⟩) (Same.refl H),λ hb=>k _ _ (.inr ⟨⟨_,_,lkc ez,by rw [keysC_con]; exact hb,rfl⟩,rfl⟩) (Same.refl H)⟩
     rw [List.length_map]
     rfl
   | copy t o =>
     have hd:H d=some (.tup [.str "copy",.int t,.int o]):=hd
     have no:look Z t=none→Says tot (conW Z) (.copy t o) "NoTask" := λ e=>.inl ⟨.noTask,.inl ⟨lookWn e,rfl⟩,rfl⟩
     refine hidC λ _ ji je=>?_
     refine eqF (ev_T (ev_v rfl) ev_c (SqT.of hd) rfl) ev_c rfl (ks_ne (by decide +kernel)) (je _ ?_)
     refine hidC λ _ ji je=>?_
     refine ⟨_,rfl,d,_,_,.int t,rfl,rfl,SqT.of hd,rfl,_,rfl,b,_,rfl,get_dk (t:=t) wz.L.hd,_,rfl,?_⟩
     cases ez:look Z t with
     | none=>exact ji _ (k _ _ (no ez) (Same.refl H))
     | some z =>
     refine je _ ?_
     refine hidC λ _ ji je=>?_
     refine eqF (ev_T (ev_v rfl) ev_c (SqT.of hd) rfl) ev_c rfl (ks_ne (by decide +kernel)) (iteF (eqF (ev_T (ev_v rfl) ev_c (SqT.of hd) rfl) ev_c rfl (ks_ne (by decide +kernel)) (je _ ?_)))
     refine hidC λ _ ji je=>?_
     refine eqF (ev_T (ev_v rfl) ev_c (SqT.of hd) rfl) ev_c rfl (ks_ne (by decide +kernel)) (je _ ?_)
     refine hidC λ _ ji je=>?_
     refine eqF (ev_T (ev_v rfl) ev_c (SqT.of hd) rfl) ev_c rfl (ks_ne (by decide +kernel)) (je _ ?_)
     refine hidC λ _ ji je=>?_
     refine eqT (ev_T (ev_v rfl) ev_c (SqT.of hd) rfl) ev_c rfl (iteT ?_)
     refine ⟨_,rfl,d,_,_,.int o,rfl,rfl,SqT.of hd,rfl,_,rfl,b,_,rfl,get_dk (t:=o) wz.L.hd,_,rfl,?_⟩
     cases eo:look Z o with
     | some y=>exact ji _ (k "Taken" _ (.inl ⟨.taken,.inr ⟨_,lkc ez,.inl ⟨⟨_,lkc eo⟩,rfl⟩⟩,rfl⟩) (Same.refl H))
     | none =>
     refine je _ ?_
     refine hidC λ _ ji je=>?_
     refine eqT (ev_T (ev_v rfl) ev_c (SqT.of hd) rfl) ev_c rfl (iteT ?_)
     refine ⟨_,rfl,b,Z,rfl,wz.L,wz.ln,λ H1 s1=>?_⟩
     have wz1:=wz.same s1
     have rz1:=wz1.L.rm _ (look_mem ez)
     refine ⟨_,rfl,_,rfl,d,_,_,.int t,rfl,rfl,SqT.of (s1 _ _ hd),rfl,b,fR z,rfl,wz1.get ez,z.1,_,rfl,rz1.hd,_,_,rfl,rfl,_,rfl,_,_,rfl,rfl,_,rfl,?_⟩
     rw [dk_len]
     refine iteB (λ c=>ji _ ?_) (λ c=>je _ ?_)
     · exact k "NoRoom" _ (.inl ⟨.noRoom,.inr ⟨_,lkc ez,.inr ⟨lookWn eo,by rw [← held_c,con_len]; exact of_decide_eq_true c,rfl⟩⟩,rfl⟩) s1
     · exact k "" _ (.inr ⟨⟨_,_,lkc ez,lookWn eo,by rw [← held_c,con_len]; exact λ y=>c (decide_eq_true y),rfl⟩,rfl⟩) s1
end
end Rm
namespace Rm
open PySem L2
theorem flat8:∀ (L:List (List Int)) (_:∀ x∈L,x.length=8) (i j:Nat),j < 8→L.flatten[8 * i + j]? = (L[i]?).bind (·[j]?)
 | [],_,i,j,_=>by simp
 | x :: L,h,0,j,hj=>by
   have hx:=h x (List.mem_cons_self ..)
   rw [List.flatten_cons,List.getElem?_append_left (by lia)]
   simp
 | x :: L,h,i + 1,j,hj=>by
   have hx:=h x (List.mem_cons_self ..)
   rw [List.flatten_cons,List.getElem?_append_right (by lia)]
   rw [show 8 * (i + 1) + j - x.length=8 * i + j by lia,flat8 L (λ y hy=>h y (List.mem_cons_of_mem _ hy)) i j hj]
   rfl
theorem flat8_len:∀ (L:List (List Int)) (_:∀ x∈L,x.length=8),L.flatten.length=8 * L.length
 | [],_=>rfl
 | x :: L,h=>by
   rw [List.flatten_cons,List.length_append,flat8_len L λ y hy=>h y (List.mem_cons_of_mem _ hy),h x (List.mem_cons_self ..),List.length_cons]
   lia
abbrev CR:=List (Int×List Int)
structure Rows8 (r:CR) (ad n:Int):Prop where
 h8:∀ x∈r,x.2.length=8
 nd:(r.map (·.1)).Nodup
 good:¬ badCells ad n (keysC r)
theorem Rows8.row {r:CR}{ad n:Int}(g:Rows8 r ad n) {k:Nat}(hk:(k:Int) < n):∃ row,look r ((ad + k) / 8)=some row∧row.length=8:=by
 have h:(ad + k) / 8∈keysC r:=Classical.byContradiction λ c=>g.good (bad_cell hk c)
 cases e:look r ((ad + k) / 8) with
 | none=>exact absurd h (look_none e)
 | some row=>exact ⟨row,rfl,g.h8 _ (look_mem e)⟩
theorem Rows8.rowP {r:CR}{ad n:Int}(g:Rows8 r ad n) (hn:0 < n) {i:Nat}(hi:(i:Int) < cCnt ad n):∃ row,look r (ad / 8 + i)=some row∧row.length=8:=by
 have h:ad / 8 + i∈keysC r:=by
   refine Classical.byContradiction λ c=>g.good (.inr ⟨hn,.inr λ all=>c (all _ ?_)⟩)
   unfold pagesL
   exact List.mem_map.mpr ⟨i,List.mem_range.mpr (by lia),rfl⟩
 cases e:look r (ad / 8 + i) with
 | none=>exact absurd h (look_none e)
 | some row=>exact ⟨row,rfl,g.h8 _ (look_mem e)⟩
def cellAt (r:CR) (x:Int):Int:=((look r (x / 8)).getD []).getD (x % 8).toNat 0
theorem Rows8.lenP {r:CR}{ad n:Int}(g:Rows8 r ad n) (hn:0 < n):∀ x∈(pagesL (cFst ad) (cCnt ad n)).map (λ q=>(look r q).getD []),x.length=8:=by
 intro x hx
 obtain ⟨q,hq,rfl⟩:=List.mem_map.mp hx
 unfold pagesL at hq
 obtain ⟨i,hi,rfl⟩:=List.mem_map.mp hq
 have hi':=List.mem_range.mp hi
 obtain ⟨row,e,h8⟩:=g.rowP hn (i:=i) (by lia)
 unfold cFst
 rw [e]
 exact h8
theorem Rows8.whole {r:CR}{ad n:Int}(g:Rows8 r ad n) (hn:0 < n) {i j:Nat}(hi:(i:Int) < cCnt ad n) (hj:j < 8):(cellsC r (pagesL (cFst ad) (cCnt ad n)))[8 * i + j]? = some (cellAt r (8 * (ad / 8 + i) + j)):=by
 unfold cellsC
 rw [flat8 _ (g.lenP hn) i j hj,List.getElem?_map]
 unfold pagesL
 rw [List.getElem?_map,List.getElem?_range (by lia)]
 obtain ⟨row,e,h8⟩:=g.rowP hn hi
 show ((look r (cFst ad + (i:Int))).getD [])[j]? = _
 unfold cFst cellAt
 rw [show (8 * (ad / 8 + (i:Int)) + (j:Int)) / 8=ad / 8 + i by lia,show ((8 * (ad / 8 + (i:Int)) + (j:Int)) % 8).toNat=j by lia,e]
 show row[j]? = some (row.getD j 0)
 rw [List.getD_eq_getElem?_getD,List.getElem?_eq_getElem (by lia)]
 rfl
theorem Rows8.wlen {r:CR}{ad n:Int}(g:Rows8 r ad n) (hn:0 < n):(((cellsC r (pagesL (cFst ad) (cCnt ad n))).length:Nat):Int)=8 * cCnt ad n:=by
 unfold cellsC
 rw [flat8_len _ (g.lenP hn),List.length_map]
 unfold pagesL
 rw [List.length_map,List.length_range]
 unfold cCnt
 lia
theorem peek_cells {r:CR}{ad:Int}{n:Nat}(g:Rows8 r ad n):peekK r ad n=(List.range n).map λ k:Nat=>cellAt r (ad + k):=by
 unfold peekK cellPages
 by_cases z:(n:Int)=0
 · have:n=0:=by lia
   subst this
   simp
 rw [if_neg z]
 have hn:(0:Int) < n:=by lia
 have wl:=g.wlen hn
 have w8:=λ i j hi hj=>g.whole hn (i:=i) (j:=j) hi hj
 generalize cellsC r (pagesL (cFst ad) (cCnt ad n))=w at *
 apply List.ext_getElem?
 intro k
 rw [List.getElem?_take,List.getElem?_map]
 by_cases hk:k < n
 · rw [if_pos (by lia),List.getElem?_range hk,List.getElem?_drop]
   have e:(ad % 8).toNat + k=8 * (((ad + k) / 8 - ad / 8).toNat) + ((ad + k) % 8).toNat:=by lia
   rw [e,w8 _ _ (by unfold cCnt; lia) (by lia)]
   show _=some (cellAt r (ad + k))
   congr 2
   lia
 · rw [if_neg (by lia),List.getElem?_eq_none (by rw [List.length_range]; lia)]
   rfl
def cset (r:CR) (x v:Int):CR:=setA r (x / 8) (((look r (x / 8)).getD []).set (x % 8).toNat v)
def csets (r:CR) (ad:Int) (cs:List Int) (i:Nat):CR:=(List.range i).foldl (λ c (k:Nat)=>cset c (ad + k) (cs.getD k 0)) r
theorem csets_succ (r:CR) (ad:Int) (cs:List Int) (i:Nat):csets r ad cs (i + 1)=cset (csets r ad cs i) (ad + i) (cs.getD i 0):=by
 unfold csets
 rw [List.range_succ,List.foldl_append]
 rfl
theorem look_setA {α:Type}{l:List (Int×α)}{k q:Int}{a:α}:look (setA l k a) q=if q=k then (look l k).map (λ _=>a) else look l q:=by
 induction l with
 | nil=>split <;> rfl
 | cons x l ih =>
   show look ((if x.1=k then (k,a) else x) :: setA l k a) q=_
   rw [look_cons,ih,look_cons,look_cons]
   by_cases e:x.1=k
   · rw [if_pos e,if_pos e]
     by_cases f:q=k
     · rw [if_pos f.symm,if_pos f]; rfl
     · rw [if_neg (Ne.symm f),if_neg f,if_neg f,if_neg (λ y=>f (y.symm.trans e))]
   · rw [if_neg e,if_neg e]
     by_cases f:q=k
     · rw [if_pos f,if_neg (λ y=>e (y.trans f)),if_pos f]
     · rw [if_neg f,if_neg f]
def patch (row:List Int) (q ad:Int) (cs:List Int) (i:Nat):List Int:=row.mapIdx λ j x=>if ad≤8 * q + j∧8 * q + j < ad + i then cs.getD (8 * q + j - ad).toNat 0 else x
theorem csets_look {r:CR}{ad:Int}{cs:List Int}(g:Rows8 r ad cs.length):∀ (i:Nat),i≤cs.length→∀ q,look (csets r ad cs i) q=(look r q).map λ row=>patch row q ad cs i
 | 0,_,q=>by
   show look r q=_
   cases e:look r q with
   | none=>rfl
   | some row =>
     show _=some (patch row q ad cs 0)
     congr 1
     unfold patch
     apply List.ext_getElem?
     intro j
     rw [List.getElem?_mapIdx]
     cases row[j]? with
     | none=>rfl
     | some x =>
       show _=some (if _ then _ else _)
       rw [if_neg (by lia)]
 | i + 1,hi,q=>by
   have ih:=csets_look g i (by lia)
   obtain ⟨row,er,h8⟩:=g.row (k:=i) (by lia)
   rw [csets_succ]
   unfold cset
   rw [look_setA,ih,er]
   by_cases e:q=(ad + i) / 8
   · rw [if_pos e,e,er]
     show some _=some _
     congr 1
     show (patch row ((ad + i) / 8) ad cs i).set ((ad + i) % 8).toNat (cs.getD i 0)=patch row ((ad + i) / 8) ad cs (i + 1)
     unfold patch
     apply List.ext_getElem?
     intro j
     rw [List.getElem?_set,List.getElem?_mapIdx,List.getElem?_mapIdx,List.length_mapIdx]
     by_cases ej:((ad + i) % 8).toNat=j
     · rw [if_pos ej,if_pos (by lia),List.getElem?_eq_getElem (by lia)]
       show some _=some (if _ then _ else _)
       rw [if_pos (by lia)]
       congr 2
       lia
     · rw [if_neg ej]
       cases ex:row[j]? with
       | none=>rfl
       | some x =>
         have hj:j < 8:=by
           have:=(List.getElem?_eq_some_iff.mp ex).1
           lia
         show some (if _ then _ else _)=some (if _ then _ else _)
         congr 1
         by_cases c:ad≤8 * ((ad + i) / 8) + j∧8 * ((ad + i) / 8) + j < ad + i
         · rw [if_pos c,if_pos (by lia)]
         · rw [if_neg c,if_neg (by lia)]
   · rw [if_neg e,ih]
     cases eq:look r q with
     | none=>rfl
     | some rw' =>
       have h8':rw'.length=8:=g.h8 _ (look_mem eq)
       show some _=some _
       congr 1
       unfold patch
       apply List.ext_getElem?
       intro j
       rw [List.getElem?_mapIdx,List.getElem?_mapIdx]
       cases ex:rw'[j]? with
       | none=>rfl
       | some x =>
         have hj:j < 8:=by
           have:=(List.getElem?_eq_some_iff.mp ex).1
           lia
         show some (if _ then _ else _)=some (if _ then _ else _)
         congr 1
         by_cases c:ad≤8 * q + j∧8 * q + j < ad + i
         · rw [if_pos c,if_pos (by lia)]
         · rw [if_neg c,if_neg (by lia)]
theorem csets_keys (r:CR) (ad:Int) (cs:List Int):∀ i,(csets r ad cs i).map (·.1)=r.map (·.1)
 | 0=>rfl
 | i + 1=>by rw [csets_succ]; unfold cset; rw [setA_keys,csets_keys r ad cs i]
theorem alist_ext {α:Type}:∀ {l m:List (Int×α)},l.map (·.1)=m.map (·.1)→(l.map (·.1)).Nodup→(∀ q,look l q=look m q)→l=m
 | [],[],_,_,_=>rfl
 | [],_ :: _,h,_,_=>by cases h
 | _ :: _,[],h,_,_=>by cases h
 | x :: l,y :: m,h,nd,hl=>by
   obtain ⟨e1,e2⟩:=List.cons.inj h
   obtain ⟨n1,n2⟩:=List.nodup_cons.mp (show (x.1 :: l.map (·.1)).Nodup from nd)
   have h0:=hl x.1
   rw [look_cons,look_cons,if_pos rfl,if_pos (show y.1=x.1 from e1.symm)] at h0
   have exy:x=y:=Prod.ext e1 (Option.some.inj h0)
   subst exy
   congr 1
   refine alist_ext e2 n2 λ q=>?_
   have hq:=hl q
   rw [look_cons,look_cons] at hq
   by_cases e:x.1=q
   · have a1:look l q=none:=by
       cases c:look l q with
       | none=>rfl
       | some v=>exact absurd (List.mem_map.mpr ⟨_,look_mem c,e.symm⟩) n1
     have a2:look m q=none:=by
       cases c:look m q with
       | none=>rfl
       | some v=>exact absurd (e2 ▸ List.mem_map.mpr ⟨_,look_mem c,e.symm⟩) n1
     rw [a1,a2]
   · rw [if_neg e,if_neg e] at hq
     exact hq
theorem setAll_look {q:Int}:∀ {ps:List Int}{rows:List (List Int)}{c:CR},ps.Nodup→ps.length=rows.length→look (setAll c ps rows) q=match ps.findIdx? (· = q) with
   | some i=>(look c q).map λ _=>rows.getD i []
   | none=>look c q
 | [],_,c,_,_=>by
   unfold setAll
   simp
 | p :: ps,[],c,_,h=>by cases h
 | p :: ps,w :: rows,c,nd,h=>by
   obtain ⟨n1,n2⟩:=List.nodup_cons.mp nd
   have ih:=setAll_look (q:=q) (ps:=ps) (rows:=rows) (c:=setA c p w) n2 (Nat.succ.inj h)
   show look (setAll (setA c p w) ps rows) q=_
   rw [ih,look_setA,List.findIdx?_cons]
   by_cases e:p=q
   · subst e
     have:ps.findIdx? (λ x=>decide (x=p))=none:=by
       rw [List.findIdx?_eq_none_iff]
       intro x hx
       exact decide_eq_false λ y=>n1 (y ▸ hx)
     rw [this,if_pos rfl,decide_eq_true rfl]
     rfl
   · rw [if_neg (Ne.symm e),decide_eq_false e]
     cases ps.findIdx? (λ x=>decide (x=q)) with
     | none=>rfl
     | some i=>rfl
theorem splice_get {ws cs:List Int}{s k:Nat}(h:s + cs.length≤ws.length):(splice ws s cs)[k]? = if k < s then ws[k]? else if k < s + cs.length then cs[k - s]? else ws[k]? := by
 unfold splice
 have l0:(ws.take s).length=s:=by rw [List.length_take]; lia
 by_cases a:k < s
 · rw [if_pos a,List.getElem?_append_left (by rw [List.length_append,l0]; lia),List.getElem?_append_left (by lia),List.getElem?_take,if_pos a]
 rw [if_neg a]
 by_cases b:k < s + cs.length
 · rw [if_pos b,List.getElem?_append_left (by rw [List.length_append,l0]; lia),List.getElem?_append_right (by lia),l0]
 · rw [if_neg b,List.getElem?_append_right (by rw [List.length_append,l0]; lia),List.length_append,l0,List.getElem?_drop]
   congr 1
   lia
theorem poke_cells {r:CR}{ad:Int}{cs:List Int}(g:Rows8 r ad cs.length):csets r ad cs cs.length=pokeK r ad cs:=by
 unfold pokeK cellPages
 by_cases z:((cs.length:Nat):Int)=0
 · rw [if_pos z]
   have:cs=[]:=List.eq_nil_of_length_eq_zero (by lia)
   subst this
   rfl
 rw [if_neg z]
 have hn:(0:Int) < ((cs.length:Nat):Int):=by lia
 have wl:=g.wlen hn
 have w8:=λ i j hi hj=>g.whole hn (i:=i) (j:=j) hi hj
 have hc:(cCnt ad cs.length:Int)=(ad + cs.length - 1) / 8 - ad / 8 + 1:=rfl
 have pl:(pagesL (cFst ad) (cCnt ad cs.length)).length=(cCnt ad cs.length).toNat:=by unfold pagesL; rw [List.length_map,List.length_range]
 refine alist_ext (by rw [csets_keys,setAll_keys]) (by rw [csets_keys]; exact g.nd) λ q=>?_
 rw [csets_look g _ (Nat.le_refl _) q,setAll_look (pages_nodup _ _) (by unfold chunks; rw [List.length_map,List.length_range])]
 generalize cellsC r (pagesL (cFst ad) (cCnt ad cs.length))=w at *
 cases e:(pagesL (cFst ad) (cCnt ad cs.length)).findIdx? (λ x=>decide (x=q)) with
 | none =>
   have hq:∀ i:Nat,(i:Int) < cCnt ad cs.length→ad / 8 + i≠q:=λ i hi y=>by
     have:=List.findIdx?_eq_none_iff.mp e (ad / 8 + i) (by unfold pagesL; exact List.mem_map.mpr ⟨i,List.mem_range.mpr (by lia),rfl⟩)
     rw [decide_eq_true y] at this
     cases this
   cases eq:look r q with
   | none=>rfl
   | some row =>
     have h8:row.length=8:=g.h8 _ (look_mem eq)
     show some _=some _
     congr 1
     unfold patch
     apply List.ext_getElem?
     intro j
     rw [List.getElem?_mapIdx]
     cases ex:row[j]? with
     | none=>rfl
     | some x =>
       have hj:j < 8:=by
         have:=(List.getElem?_eq_some_iff.mp ex).1
         lia
       show some (if _ then _ else _)=some x
       rw [if_neg λ c=>hq (q - ad / 8).toNat (by lia) (by lia)]
 | some i =>
   obtain ⟨hi,hp,_⟩:=List.findIdx?_eq_some_iff_getElem.mp e
   have hq:ad / 8 + (i:Int)=q:=by
     have h1:(pagesL (cFst ad) (cCnt ad cs.length))[i]? = some q:=by rw [List.getElem?_eq_getElem hi]; exact congrArg some (of_decide_eq_true hp)
     unfold pagesL at h1
     rw [List.getElem?_map,List.getElem?_range (by lia)] at h1
     exact Option.some.inj h1
   rw [pl] at hi
   obtain ⟨row,er,h8⟩:=g.rowP hn (i:=i) (by lia)
   rw [← hq,er]
   show some _=some _
   congr 1
   have hch:(chunks (pagesL (cFst ad) (cCnt ad cs.length)).length (splice w (ad % 8).toNat cs)).getD i []=((splice w (ad % 8).toNat cs).drop (8 * i)).take 8:=by
     unfold chunks
     rw [List.getD_eq_getElem?_getD,List.getElem?_map,List.getElem?_range (by lia)]
     rfl
   rw [hch]
   unfold patch
   apply List.ext_getElem?
   intro j
   rw [List.getElem?_mapIdx,List.getElem?_take]
   by_cases hj:j < 8
   · rw [if_pos hj,List.getElem?_drop,splice_get (by lia),List.getElem?_eq_getElem (show j < row.length by lia)]
     have wv:=w8 i j (by lia) hj
     have ev:cellAt r (8 * (ad / 8 + (i:Int)) + (j:Int))=row[j]'(by lia):=by
       unfold cellAt
       rw [show (8 * (ad / 8 + (i:Int)) + (j:Int)) / 8=ad / 8 + i by lia,show ((8 * (ad / 8 + (i:Int)) + (j:Int)) % 8).toNat=j by lia,er]
       show row.getD j 0=_
       rw [List.getD_eq_getElem?_getD,List.getElem?_eq_getElem (by lia)]
       rfl
     rw [wv,ev]
     show some (if _ then _ else _)=_
     by_cases c1:8 * i + j < (ad % 8).toNat
     · rw [if_pos c1,if_neg (by lia)]
     rw [if_neg c1]
     by_cases c2:8 * i + j < (ad % 8).toNat + cs.length
     · rw [if_pos c2,if_pos (by lia),show (8 * (ad / 8 + (i:Int)) + (j:Int) - ad).toNat=8 * i + j - (ad % 8).toNat by lia,List.getD_eq_getElem?_getD,List.getElem?_eq_getElem (show 8 * i + j - (ad % 8).toNat < cs.length by lia)]
       rfl
     · rw [if_neg c2,if_neg (by lia)]
   · rw [if_neg hj,List.getElem?_eq_none (by lia)]
     rfl
end Rm
namespace Rm
open PySem L2
theorem RoomAt.cell {H H':Hp}{r:Addr}{R:Room}{q:Int}{y:Addr×List Int}{row:List Int}(rm:RoomAt H r R) (hy:look R q=some y) (o:Off (· = y.1) H H') (hc:H' y.1=some (.lst (row.map V.int))) (h8:row.length=8) (ij:∀ y'∈R,y'.2.1=y.1→y'.1=q):RoomAt H' r (setA R q (y.1,row)):=by
 have hl:=(rm.hr _ (look_mem hy)).1
 refine ⟨?_,λ z hz=>?_,by rw [setA_keys]; exact rm.nd,λ z hz=>?_⟩
 · rw [o _ _ rm.hd (dk_ne_lst rm.hd hl)]
   congr 2
   unfold kvP dk setA
   rw [List.map_map]
   apply List.map_congr_left
   intro x hx
   show ((Sum.inl x.1:Key),fP x.2)=((Sum.inl (if x.1=q then (q,(y.1,row)) else x).1:Key),fP (if x.1=q then (q,(y.1,row)) else x).2)
   by_cases e:x.1=q
   · have:look R x.1=some x.2:=look_some rm.nd hx
     rw [e,hy] at this
     rw [if_pos e,e, ← Option.some.inj this]
     rfl
   · rw [if_neg e]
 · rcases setA_mem hz with e | ⟨h,n⟩
   · rw [e]; exact ⟨hc,h8⟩
   · exact ⟨o _ _ (rm.hr z h).1 (λ e=>n (ij z h e)),(rm.hr z h).2⟩
 · rcases setA_mem hz with e | ⟨h,n⟩
   · rw [e]; exact rm.rg (q,y) (look_mem hy)
   · exact rm.rg z h
structure Acc (H0:Hp) (ts:List Addr) (R:Room) (H6:Hp):Prop where
 pr:Paired (λ t (y:Int×Addr×List Int)=>H6 t=some (.tup [.int y.1,.ref y.2.1])) ts R
 row:∀ y∈R,H6 y.2.1=some (.lst (y.2.2.map V.int))∧y.2.2.length=8∧H0 y.2.1=none
 ij:∀ y∈R,∀ y'∈R,y.2.1=y'.2.1→y.1=y'.1
 sm:Same H0 H6
theorem Acc.nil {H0:Hp}:Acc H0 [] [] H0:=⟨.nil,(λ _ h=>nomatch h),(λ _ h=>nomatch h),Same.refl _⟩
theorem Acc.same {H0 H6 H7:Hp}{ts:List Addr}{R:Room}(A:Acc H0 ts R H6) (s:Same H6 H7):Acc H0 ts R H7:=⟨Paired.mapP A.pr λ a y q=>s _ _ q,λ y hy=>⟨s _ _ (A.row y hy).1,(A.row y hy).2⟩,A.ij,A.sm.trans s⟩
theorem Acc.step {H0 H6 H7:Hp}{ts:List Addr}{R:Room}{c T:Addr}{q:Int}{row:List Int}(A:Acc H0 ts R H6) (s:Same H6 H7) (hz:H6 c=none) (hc:H7 c=some (.lst (row.map V.int))) (h8:row.length=8) (hT:H7 T=none):Acc H0 (ts ++ [T]) (R ++ [(q,c,row)]) (L2.upd H7 T (.tup [.int q,.ref c])):=by
 have s':=same_new (X:=.tup [.int q,.ref c]) hT
 have A2:=(A.same s).same s'
 refine ⟨A2.pr.snoc upd_same,λ y hy=>?_,λ y hy y' hy' e=>?_,A2.sm⟩
 · rcases List.mem_append.mp hy with h | h
   · exact A2.row y h
   · rw [List.mem_singleton.mp h]
     exact ⟨s' _ _ hc,h8,A.sm.free hz⟩
 · rcases List.mem_append.mp hy with h | h
   · rcases List.mem_append.mp hy' with h' | h'
     · exact A.ij y h y' h' e
     · rw [List.mem_singleton.mp h'] at e
       have:=(A.row y h).1
       rw [show y.2.1=c from e,hz] at this
       cases this
   · rcases List.mem_append.mp hy' with h' | h'
     · rw [List.mem_singleton.mp h] at e
       have:=(A.row y' h').1
       rw [show y'.2.1=c from e.symm,hz] at this
       cases this
     · rw [List.mem_singleton.mp h,List.mem_singleton.mp h']
theorem pr_map {α β γ:Type}{G:α→γ→Prop}{f:β→γ}:∀ {xs:List α}{ys:List β},Paired (λ a b=>G a (f b)) xs ys→Paired G xs (ys.map f)
 | _,_,.nil=>.nil
 | _,_,.cons h t=>.cons h (pr_map t)
theorem Acc.pairs {H0 H6:Hp}{ts:List Addr}{R:Room}(A:Acc H0 ts R H6):Paired (λ t (p:Key×V)=>H6 t=some (.tup [kV p.1,p.2])) ts (kvP R):=pr_map (f:=λ y:Int×Addr×List Int=>((Sum.inl y.1:Key),fP y.2)) A.pr
theorem key_nodup {R:Room}(h:(R.map (·.1)).Nodup):(R.map ((λ x:Key×V=>x.1) ∘ λ x:Int×Addr×List Int=>((Sum.inl x.1:Key),fP x.2))).Nodup:=by
 have e:(R.map ((λ x:Key×V=>x.1) ∘ λ x:Int×Addr×List Int=>((Sum.inl x.1:Key),fP x.2)))=(R.map (·.1)).map (λ k=>(Sum.inl k:Key)):=by rw [List.map_map]; rfl
 rw [e]
 exact List.Pairwise.map _ (λ a b (n:a≠b) z=>n (Sum.inl.inj z)) h
theorem Acc.thaw {H10 H11:Hp}{zc:Addr}{ob:Obj}{kvs:List (Key×V)}{ts:List Addr}{R:Room}(A:Acc (L2.upd H10 zc (.frz ob (.dK kvs))) ts R H11) (h:H10 zc=some (.dK kvs)):Acc H10 ts R (L2.upd H11 zc (.dK kvs)):=by
 have hz:H11 zc=some (.frz ob (.dK kvs)):=A.sm _ _ upd_same
 refine ⟨Paired.mapP A.pr λ a y q=>by rw [upd_ne (λ e=>by rw [e,hz] at q; cases q)]; exact q,λ y hy=>?_,A.ij,λ c u e=>?_⟩
 · obtain ⟨r1,r2,r3⟩:=A.row y hy
   have n:y.2.1≠zc:=λ e=>by rw [e,hz] at r1; cases r1
   exact ⟨by rw [upd_ne n]; exact r1,r2,by rw [upd_ne n] at r3; exact r3⟩
 · by_cases n:c=zc
   · rw [n,upd_same, ← e,n,h]
   · rw [upd_ne n]
     exact A.sm _ _ (by rw [upd_ne n]; exact e)
def Stay (H H':Hp) (Z Z':Rms):Prop := ∀ q o,H q=some o→(∀ kvs,o≠.dK kvs)→¬ Adr Z q→H' q=some o∧¬ Adr Z' q
section
variable {C:Addr}{H H' H'' H1 H2:Hp}{p a b:Addr}{tot:Int}{W Z Z' Z'':Rms}{t q:Int}{z:Addr×Room}
theorem Stay.same (s:Same H H'):Stay H H' Z Z:=λ q o e _ n=>⟨s _ _ e,n⟩
theorem Stay.trans (h:Stay H H' Z Z') (h':Stay H' H'' Z' Z''):Stay H H'' Z Z'':=λ q o e n a=>let ⟨x,y⟩:=h q o e n a; h' q o x n y
theorem Stay.set {R':Room}(hz:look Z t=some z) (hk:∀ q o,H q=some o→(∀ kvs,o≠.dK kvs)→¬ Adr Z q→H' q=some o) (hr:∀ y∈R',(∃ y'∈z.2,y'.2.1=y.2.1)∨H y.2.1=none):Stay H H' Z (setA Z t (z.1,R')):=λ q o e n na=>⟨hk q o e n na,λ ⟨x,hx,y,hy,eq⟩=>by
 rcases setA_mem hx with e1 | ⟨h,_⟩
 · rw [e1] at hy
   rcases hr y hy with ⟨y',hy',e2⟩ | h0
   · exact na ⟨_,look_mem hz,y',hy',e2.trans eq⟩
   · rw [eq,e] at h0; cases h0
 · exact na ⟨x,h,y,hy,eq⟩⟩
theorem Stay.add {o':Int}{r:Addr}{N:Room}(hk:∀ q o,H q=some o→(∀ kvs,o≠.dK kvs)→¬ Adr Z q→H' q=some o) (hr:∀ y∈N,H y.2.1=none):Stay H H' Z (Z ++ [(o',r,N)]):=λ q o e n na=>⟨hk q o e n na,λ ⟨x,hx,y,hy,eq⟩=>by
 rcases List.mem_append.mp hx with h | h
 · exact na ⟨x,h,y,hy,eq⟩
 · rw [List.mem_singleton.mp h] at hy
   have h0:=hr y hy
   rw [eq,e] at h0; cases h0⟩
theorem Stay.del (hk:∀ q o,H q=some o→(∀ kvs,o≠.dK kvs)→¬ Adr Z q→H' q=some o):Stay H H' Z (delA Z t):=λ q o e n na=>⟨hk q o e n na,λ ⟨x,hx,y,hy,eq⟩=>na ⟨x,(List.mem_filter.mp hx).1,y,hy,eq⟩⟩
theorem keepU {X:HO}{c:Addr}{kvs:List (Key×V)}(s:Same H H1) (hb:H c=some (.dK kvs)):∀ q o,H q=some o→(∀ kvs,o≠.dK kvs)→¬ Adr Z q→(upd H1 c X) q=some o:=λ q o e n _=>by
 rw [upd_ne (λ y=>by rw [y,hb] at e; exact n _ (Option.some.inj e).symm)]
 exact s _ _ e
theorem setA_setA {α:Type}{l:List (Int×α)}{k:Int}{x y:α}:setA (setA l k x) k y=setA l k y:=by
 unfold setA
 rw [List.map_map]
 apply List.map_congr_left
 intro u _
 show (if (if u.1=k then (k,x) else u).1=k then (k,y) else (if u.1=k then (k,x) else u))=if u.1=k then (k,y) else u
 by_cases e:u.1=k
 · rw [if_pos e,if_pos e]
   exact if_pos rfl
 · rw [if_neg e,if_neg e]
theorem look_set (hz:look Z t=some z) {R':Room}:look (setA Z t (z.1,R')) t=some (z.1,R'):=by rw [look_setA,if_pos rfl,hz]; rfl
theorem Sep.putZ (S:Sep C H p a b tot W Z) (hz:look Z t=some z) (hq:look z.2 q=none) (q0:0≤q) (q1:q < 64) {c:Addr}(s:Same H H2) (hc0:H c=none) (hc:H2 c=some (.lst (z8.map V.int))) :
   Sep C (upd H2 z.1 (.dK (kvP (z.2 ++ [(q,c,z8)])))) p a b tot W (setA Z t (z.1,z.2 ++ [(q,c,z8)]))∧Stay H (upd H2 z.1 (.dK (kvP (z.2 ++ [(q,c,z8)])))) Z (setA Z t (z.1,z.2 ++ [(q,c,z8)])):=by
 have hm:=look_mem hz
 have S2:=S.same s
 have rz2:=S2.L.rm _ hm
 have nW:¬ Adr W c:=λ h=>by obtain ⟨xs,e2⟩:=S.D.R.lst h; rw [hc0] at e2; cases e2
 have nZ:¬ Adr Z c:=λ h=>by obtain ⟨xs,e2⟩:=S.L.lst h; rw [hc0] at e2; cases e2
 refine ⟨S2.roomZ (B:=(· = z.1)) hz (λ c u e nc=>by rw [upd_ne nc]; exact e) (λ c e=>.inl e) (rz2.add hc rfl hq q0 q1) (λ y hy=>?_) (λ y1 h1 y2 h2 e=>?_),Stay.set hz (keepU s (S.L.rm _ hm).hd) λ y hy=>?_⟩
 · rcases List.mem_append.mp hy with h | h
   · exact .inl ⟨y,h,rfl,rfl⟩
   · rw [List.mem_singleton.mp h]; exact .inr ⟨nW,nZ⟩
 · rcases List.mem_append.mp h1 with h1 | h1
   · rcases List.mem_append.mp h2 with h2 | h2
     · exact (S.inj _ hm y1 h1 _ hm y2 h2 e).2
     · rw [List.mem_singleton.mp h2] at e
       exact absurd ⟨_,hm,y1,h1,e⟩ nZ
   · rcases List.mem_append.mp h2 with h2 | h2
     · rw [List.mem_singleton.mp h1] at e
       exact absurd ⟨_,hm,y2,h2,e.symm⟩ nZ
     · rw [List.mem_singleton.mp h1,List.mem_singleton.mp h2]
 · rcases List.mem_append.mp hy with h | h
   · exact .inl ⟨y,h,rfl⟩
   · rw [List.mem_singleton.mp h]; exact .inr hc0
theorem Sep.popZ (S:Sep C H p a b tot W Z) (hz:look Z t=some z):Sep C (upd H z.1 (.dK (kvP (delA z.2 q)))) p a b tot W (setA Z t (z.1,delA z.2 q))∧Stay H (upd H z.1 (.dK (kvP (delA z.2 q)))) Z (setA Z t (z.1,delA z.2 q)):=by
 have hm:=look_mem hz
 have rz:=S.L.rm _ hm
 have sub:∀ y∈delA z.2 q,y∈z.2:=λ y hy=>(List.mem_filter.mp hy).1
 exact ⟨S.roomZ (B:=(· = z.1)) hz (λ c u e nc=>by rw [upd_ne nc]; exact e) (λ c e=>.inl e) rz.del (λ y hy=>.inl ⟨y,sub y hy,rfl,rfl⟩) (λ y1 h1 y2 h2 e=>(S.inj _ hm y1 (sub y1 h1) _ hm y2 (sub y2 h2) e).2),Stay.set hz (keepU (Same.refl H) rz.hd) λ y hy=>.inl ⟨y,sub y hy,rfl⟩⟩
theorem Sep.cellZ (S:Sep C H p a b tot W Z) (hz:look Z t=some z) {y:Addr×List Int}(hy:look z.2 q=some y) {row:List Int}(h8:row.length=8):Sep C (upd H y.1 (.lst (row.map V.int))) p a b tot W (setA Z t (z.1,setA z.2 q (y.1,row)))∧Stay H (upd H y.1 (.lst (row.map V.int))) Z (setA Z t (z.1,setA z.2 q (y.1,row))):=by
 have hm:=look_mem hz
 have rz:=S.L.rm _ hm
 have o6:Off (· = y.1) H (upd H y.1 (.lst (row.map V.int))):=λ c u e nc=>by rw [upd_ne nc]; exact e
 have ij:∀ y'∈z.2,y'.2.1=y.1→y'.1=q:=λ y' hy' e=>(S.inj _ hm y' hy' _ hm _ (look_mem hy) e).2
 refine ⟨S.roomZ hz o6 (λ c e=>.inr ⟨_,look_mem hy,e.symm⟩) (rz.cell hy o6 upd_same h8 ij) (λ y' hy'=>?_) (λ y1 h1 y2 h2 e=>?_),Stay.set hz (λ c u e n na=>o6 _ _ e λ x=>na ⟨_,hm,_,look_mem hy,x.symm⟩) λ y' hy'=>?_⟩
 · rcases setA_mem hy' with e | ⟨h,_⟩
   · rw [e]; exact .inl ⟨_,look_mem hy,rfl,rfl⟩
   · exact .inl ⟨y',h,rfl,rfl⟩
 · rcases setA_mem h1 with e1 | ⟨h1,_⟩
   · rcases setA_mem h2 with e2 | ⟨h2,_⟩
     · rw [e1,e2]
     · rw [e1] at e ⊢
       exact (S.inj _ hm _ (look_mem hy) _ hm y2 h2 e).2
   · rcases setA_mem h2 with e2 | ⟨h2,_⟩
     · rw [e2] at e ⊢
       exact (S.inj _ hm y1 h1 _ hm _ (look_mem hy) e).2
     · exact (S.inj _ hm y1 h1 _ hm y2 h2 e).2
 · rcases setA_mem hy' with e | ⟨h,_⟩
   · rw [e]; exact .inl ⟨_,look_mem hy,rfl⟩
   · exact .inl ⟨y',h,rfl⟩
theorem Sep.getZ (S:Sep C H p a b tot W Z) (hz:look Z t=some z):DGet H b (.int t) (some (fR z)):=by
 have:=get_dk (t:=t) S.L.hd
 rw [hz] at this
 exact this
theorem Sep.getP (S:Sep C H p a b tot W Z) (hz:look Z t=some z) {y:Addr×List Int}(hy:look z.2 q=some y):DGet H z.1 (.int q) (some (fP y)):=by
 have:=get_dk (t:=q) (S.L.rm _ (look_mem hz)).hd
 rw [hy] at this
 exact this
end
theorem look_delA {α:Type}{l:List (Int×α)}{k q:Int}:look (delA l k) q=if q=k then none else look l q:=by
 induction l with
 | nil=>split <;> rfl
 | cons x l ih =>
   unfold delA at ih ⊢
   by_cases e:x.1=k
   · rw [List.filter_cons_of_neg (by simpa using e),ih,look_cons]
     by_cases f:q=k
     · rw [if_pos f,if_pos f]
     · rw [if_neg f,if_neg f,if_neg (λ y=>f (y.symm.trans e))]
   · rw [List.filter_cons_of_pos (by simpa using e),look_cons,ih,look_cons]
     by_cases f:q=k
     · rw [if_pos f,if_pos f,if_neg (λ y=>e (y.trans f))]
     · rw [if_neg f,if_neg f]
theorem dropC_look {q:Int}:∀ {ps:List Int}{r:CR},look (dropC r ps) q=if q∈ps then none else look r q
 | [],r=>by simp [dropC]
 | k :: ps,r=>by
   have ih:=dropC_look (q:=q) (ps:=ps) (r:=delA r k)
   show look (dropC (delA r k) ps) q=_
   rw [ih,look_delA]
   by_cases a:q∈ps
   · rw [if_pos a,if_pos (List.mem_cons_of_mem _ a)]
   · rw [if_neg a]
     by_cases b:q=k
     · rw [if_pos b,if_pos (by rw [b]; exact List.mem_cons_self ..)]
     · rw [if_neg b,if_neg (by rw [List.mem_cons]; exact λ h=>h.elim b a)]
theorem pages_at {pg m:Int}{i:Nat}(h:i < m.toNat):(pagesL pg m)[i]? = some (pg + i):=by
 unfold pagesL
 rw [List.getElem?_map,List.getElem?_range h]
 rfl
theorem pages_take {pg m:Int}{i:Nat}(h:i < m.toNat):(pagesL pg m).take (i + 1)=(pagesL pg m).take i ++ [pg + i]:=by
 rw [List.take_add_one,pages_at h]
 rfl
theorem pages_no {pg m:Int}{i:Nat}(h:i < m.toNat):¬ pg + (i:Int)∈(pagesL pg m).take i:=by
 intro hm
 obtain ⟨j,hj,e⟩:=List.mem_iff_getElem.mp hm
 have hj':j < i:=by rw [List.length_take] at hj; lia
 have e2:(pagesL pg m)[j]? = some (pg + i):=by
   have:((pagesL pg m).take i)[j]? = some (pg + i):=by rw [List.getElem?_eq_getElem hj,e]
   rw [List.getElem?_take,if_pos hj'] at this
   exact this
 rw [pages_at (by lia)] at e2
 have:=Option.some.inj e2
 lia
def DeedOut (H:Hp) (Z:Rms) (d:Addr):Deed→Prop
 | .poke t ad cs => ∃ c,H d=some (.tup [.str "poke",.int t,.int ad,.ref c])∧H c=some (.lst (cs.map V.int))∧¬ Adr Z c
 | D=>DeedAt H d D
def spChange (C:Addr):Sp:=λ vs H Q _ => ∃ (p a b d:Addr) (tot:Int) (W Z:Rms) (D:Deed) (c':Wc),vs=[.ref b,.ref d]∧Sep C H p a b tot W Z∧Z.length≤1000∧(∀ x∈Z,x.2.2.length≤64)∧DeedOut H Z d D∧Good tot (conW Z) D c' ∧
 ∀ (H':Hp) (Z':Rms),Sep C H' p a b tot W Z'→conW Z'=c'→Stay H H' Z Z'→Q .non H'
theorem look_no {α:Type}{l:List (Int×α)}{k:Int}(h:¬ k∈l.map (·.1)):look l k=none:=by
 cases e:look l k with
 | none=>rfl
 | some a=>exact absurd (List.mem_map.mpr ⟨_,look_mem e,rfl⟩) h
theorem setA_self {α:Type}{l:List (Int×α)}{k:Int}{x:α}(nd:(l.map (·.1)).Nodup) (h:look l k=some x):setA l k x=l:=by
 unfold setA
 conv=>rhs; rw [← List.map_id l]
 apply List.map_congr_left
 intro u hu
 by_cases e:u.1=k
 · have:=look_some nd hu
   rw [e,h] at this
   rw [if_pos e, ← e,Option.some.inj this]
   rfl
 · rw [if_neg e]; rfl
theorem conW_nd {H:Hp}{b:Addr}{Z:Rms}(L:RmsAt H b Z):((conW Z).map (·.1)).Nodup:=by
 unfold conW
 rw [List.map_map]
 exact L.nd
theorem Sep.self {C:Addr}{H:Hp}{p a b:Addr}{tot:Int}{W Z:Rms}{t:Int}{z:Addr×Room}(S:Sep C H p a b tot W Z) (hz:look Z t=some z):conW Z=setA (conW Z) t (con z.2):=(setA_self (conW_nd S.L) (lkc hz)).symm
theorem tup_ne {H:Hp}{d:Addr}{xs:List V}(h:H d=some (.tup xs)) {Z:Rms}{b:Addr}(L:RmsAt H b Z):¬ Adr Z d:=λ q=>by
 obtain ⟨ys,e⟩:=L.lst q
 rw [h] at e; cases e
section
variable {P:Program}{w:World}{K:PySem.W.Frag}{mg:Str→Option Value}{base:Heap}
theorem scCh:FnScope ["_law_world","_law_deed_here","_law_room","_law_page_here","_law_k","_law_at"] ["_law_world","_law_deed_here"] (defScope sChange):=⟨rfl,rfl,rfl,by decide +kernel,rfl,by decide +kernel,by decide +kernel⟩
set_option maxHeartbeats 8000000 in
theorem ok_change {f C:Addr}{fd:FuncData}(F:Fun K "_law_change" "_law_change" sChange f fd) (T:MTxt mg):FnOk P w K mg base CX0 1 f fd ["_law_world","_law_deed_here"] (spChange C):=by
 refine F.ok scCh (λ vs H Q E h=>?_) (λ cdv A outer s H vs Q E hr h=>?_)
 · obtain ⟨p,a,b,d,tot,W,Z,D,c',rfl,_⟩:=h
   rfl
 · obtain ⟨p,a,b,d,tot,W,Z,D,c',rfl,S,ln,lm,hd,g,k⟩:=h
   have hs:sizeLine=16777216:=sizeLine_eq
   refine ⟨_,(pss_cons (ps_if (pt_cmpR op_eq (pe_ix ix_tup (pv 1) pe_int (λ _ _=>rfl)) pe_str (nomark _)) (pss_one (ps_dput (hu_of hr) (pv 0) (pe_ix ix_tup (pv 1) pe_int (λ _ _=>rfl)) pe_dnewK rfl)) pss_nil)
     (pss_cons (ps_if (pt_cmpR op_eq (pe_ix ix_tup (pv 1) pe_int (λ _ _=>rfl)) pe_str (nomark _)) (pss_one (ps_expr (pe_dpop1 (pv 0) (pe_ix ix_tup (pv 1) pe_int (λ _ _=>rfl)) ⟨rfl,rfl,rfl,rfl⟩))) pss_nil)
     (pss_cons (ps_if (pt_cmpR op_eq (pe_ix ix_tup (pv 1) pe_int (λ _ _=>rfl)) pe_str (nomark _)) (pss_cons (ps_set (i:=2) scCh.nd rfl (Or.inr rfl) (pe_dget (hu_of hr) (pv 0) (pe_ix ix_tup (pv 1) pe_int (λ _ _=>rfl)) (λ _ _=>rfl)))
     (pss_one (ps_dput (hu_of hr) (pv 0) (pe_ix ix_tup (pv 1) pe_int (λ _ _=>rfl)) (pe_callTy (call_dictP rfl) (by rfl) T.dict bt_dict (pa_cons (pe_thaw (pe_comp (cl:=[("_law_room",s.heap.objs.size + 1)]) (caps:=[("_law_room",2)]) ⟨rfl,by decide +kernel,by decide +kernel,rfl,by kernel_rfl,by intro p hp; simp only [List.mem_cons,List.not_mem_nil,or_false] at hp; rcases hp with rfl <;> first | rfl | exact ⟨rfl,.inl rfl,.inl rfl⟩ | exact ⟨rfl,.inl rfl,.inr rfl⟩,by kernel_rfl,by intro p hp; simp only [List.mem_cons,List.not_mem_nil,or_false] at hp; rcases hp with rfl <;> first | rfl | exact ⟨rfl,.inl rfl,.inl rfl⟩ | exact ⟨rfl,.inl rfl,.inr rfl⟩,by decide +kernel⟩ rfl (pi_dict (pv 2)) (λ _ _ _ _=>pts_nil) (λ _ _ _ _=>(pe_tup (pa_cons (pv 0) (pa_cons (pe_callTy (show CallR _ _ (rListOf K) from call_listK) (by rfl) T.list bt_list (pa_cons (pe_dget (hu_of hr) (pv 1) (pv 0) (λ _ _=>rfl)) pa_nil)) pa_nil)))))) pa_nil)) rfl))) pss_nil)
     (pss_cons (ps_if (pt_cmpR op_eq (pe_ix ix_tup (pv 1) pe_int (λ _ _=>rfl)) pe_str (nomark _)) (pss_one (ps_for PassesOwn.never rfl (pi_range2 (by rfl) T.range (pa_cons (pe_ix ix_tup (pv 1) pe_int (λ _ _=>rfl)) (pa_cons (pe_op op_add (pe_ix ix_tup (pv 1) pe_int (λ _ _=>rfl)) (pe_ix ix_tup (pv 1) pe_int (λ _ _=>rfl))) pa_nil))) (pg_name (i:=3) scCh.nd rfl (Or.inl rfl)) (pss_one (ps_dput (hu_of hr) (pe_dget (hu_of hr) (pv 0) (pe_ix ix_tup (pv 1) pe_int (λ _ _=>rfl)) (λ _ _=>rfl)) (pv 3) (pe_op op_rep (pe_lst (pa_cons pe_int pa_nil)) pe_int) rfl)))) pss_nil)
     (pss_cons (ps_if (pt_cmpR op_eq (pe_ix ix_tup (pv 1) pe_int (λ _ _=>rfl)) pe_str (nomark _)) (pss_one (ps_for PassesOwn.never rfl (pi_range2 (by rfl) T.range (pa_cons (pe_ix ix_tup (pv 1) pe_int (λ _ _=>rfl)) (pa_cons (pe_op op_add (pe_ix ix_tup (pv 1) pe_int (λ _ _=>rfl)) (pe_ix ix_tup (pv 1) pe_int (λ _ _=>rfl))) pa_nil))) (pg_name (i:=3) scCh.nd rfl (Or.inl rfl)) (pss_one (ps_expr (pe_dpop1 (pe_dget (hu_of hr) (pv 0) (pe_ix ix_tup (pv 1) pe_int (λ _ _=>rfl)) (λ _ _=>rfl)) (pv 3) ⟨rfl,rfl,rfl,rfl⟩))))) pss_nil)
     (pss_one (ps_if (pt_cmpR op_eq (pe_ix ix_tup (pv 1) pe_int (λ _ _=>rfl)) pe_str (nomark _)) (pss_one (ps_for PassesOwn.never rfl (pi_range1 (by rfl) T.range (pa_cons (pe_callB call_len_seq (by rfl) T.len PySem.boot_len (pa_cons (pe_ix ix_tup (pv 1) pe_int (λ _ _=>rfl)) pa_nil)) pa_nil)) (pg_name (i:=4) scCh.nd rfl (Or.inl rfl)) (pss_cons (ps_set (i:=5) scCh.nd rfl (Or.inl rfl) (pe_op op_add (pe_ix ix_tup (pv 1) pe_int (λ _ _=>rfl)) (pv 4)))
     (pss_one (ps_asg (pe_ix ix_list (pe_ix ix_tup (pv 1) pe_int (λ _ _=>rfl)) (pv 4) (λ _ _=>rfl)) (pg_sub (pe_dget (hu_of hr) (pe_dget (hu_of hr) (pv 0) (pe_ix ix_tup (pv 1) pe_int (λ _ _=>rfl)) (λ _ _=>rfl)) (pe_op op_fdiv (pv 5) pe_int) (λ _ _=>rfl)) (pe_op op_mod (pv 5) pe_int) set_list)))))) pss_nil))))))),?_⟩
   have nt:∀ (xs:List V) (kvs:List (Key×V)),HO.tup xs≠.dK kvs:=λ _ _ y=>by cases y
   cases D with
   | begin t =>
     have hd:H d=some (.tup [.str "begin",.int t]):=hd
     obtain ⟨g1,g2⟩:=g
     have hn:=lookW0 g1
     refine hid λ _ jt=>?_
     refine hidC λ _ ji je=>?_
     refine eqT (ev_T (ev_v rfl) ev_c (SqT.of hd) rfl) ev_c rfl (ji _ ?_)
     intro r hr0
     have sr:=same_new (X:=.dK []) hr0
     refine ⟨_,rfl,_,rfl,d,_,_,.int t,rfl,rfl,SqT.of (sr _ _ hd),rfl,b,_,rfl,DPut.k (k:=Sum.inl t) (sr _ _ S.L.hd) (by rw [dk_len]; lia),?_⟩
     rw [show (V.ref r)=fR (r,([]:Room)) from rfl,putK_new' hn]
     have S9:=S.addZ (o:=t) (r:=r) (N:=[]) hn sr hr0 ⟨upd_same,(λ _ h=>nomatch h),List.nodup_nil,(λ _ h=>nomatch h)⟩ (λ _ h=>nomatch h) (λ _ h=>nomatch h)
     have st:Stay H (upd (upd H r (.dK [])) b (.dK (kvR (Z ++ [(t,r,[])])))) Z (Z ++ [(t,r,[])]):=Stay.add (keepU sr S.L.hd) (λ _ h=>nomatch h)
     have hd9:=(st _ _ hd (nt _) (tup_ne hd S.L)).1
     generalize upd (upd H r (.dK [])) b (.dK (kvR (Z ++ [(t,r,[])])))=H9 at *
     refine jt _ _ _ ?_
     refine hidC λ _ ji je=>?_
     refine eqF (ev_T (ev_v rfl) ev_c (SqT.of hd9) rfl) ev_c rfl (ks_ne (by decide +kernel)) (je _ ?_)
     refine hidC λ _ ji je=>?_
     refine eqF (ev_T (ev_v rfl) ev_c (SqT.of hd9) rfl) ev_c rfl (ks_ne (by decide +kernel)) (je _ ?_)
     refine hidC λ _ ji je=>?_
     refine eqF (ev_T (ev_v rfl) ev_c (SqT.of hd9) rfl) ev_c rfl (ks_ne (by decide +kernel)) (je _ ?_)
     refine hidC λ _ ji je=>?_
     refine eqF (ev_T (ev_v rfl) ev_c (SqT.of hd9) rfl) ev_c rfl (ks_ne (by decide +kernel)) (je _ ?_)
     refine hidCL λ _ ji je=>?_
     refine eqF (ev_T (ev_v rfl) ev_c (SqT.of hd9) rfl) ev_c rfl (ks_ne (by decide +kernel)) (je _ ?_)
     exact k H9 _ S9 (by rw [conW_app,g2]; rfl) st
   | close t =>
     have hd:H d=some (.tup [.str "close",.int t]):=hd
     obtain ⟨⟨r,g1⟩,g2⟩:=g
     obtain ⟨z,hz,_⟩:=lookW g1
     refine hidC λ _ ji je=>?_
     refine eqF (ev_T (ev_v rfl) ev_c (SqT.of hd) rfl) ev_c rfl (ks_ne (by decide +kernel)) (je _ ?_)
     refine hid λ _ jt=>?_
     refine hidC λ _ ji je=>?_
     refine eqT (ev_T (ev_v rfl) ev_c (SqT.of hd) rfl) ev_c rfl (ji _ ?_)
     refine ⟨_,rfl,b,rfl,.inl ⟨_,.inl S.L.hd⟩,_,rfl,d,_,_,.int t,rfl,rfl,SqT.of hd,rfl,_,Sum.inl t,fR z,S.L.hd,rfl,by rw [valV_dk,hz]; rfl,?_⟩
     rw [dropK_dk]
     have S9:=S.delZ (t:=t)
     have st:Stay H (upd H b (.dK (kvR (delA Z t)))) Z (delA Z t):=Stay.del (keepU (Same.refl H) S.L.hd)
     have hd9:=(st _ _ hd (nt _) (tup_ne hd S.L)).1
     generalize upd H b (.dK (kvR (delA Z t)))=H9 at *
     refine jt _ _ _ ?_
     refine hidC λ _ ji je=>?_
     refine eqF (ev_T (ev_v rfl) ev_c (SqT.of hd9) rfl) ev_c rfl (ks_ne (by decide +kernel)) (je _ ?_)
     refine hidC λ _ ji je=>?_
     refine eqF (ev_T (ev_v rfl) ev_c (SqT.of hd9) rfl) ev_c rfl (ks_ne (by decide +kernel)) (je _ ?_)
     refine hidC λ _ ji je=>?_
     refine eqF (ev_T (ev_v rfl) ev_c (SqT.of hd9) rfl) ev_c rfl (ks_ne (by decide +kernel)) (je _ ?_)
     refine hidCL λ _ ji je=>?_
     refine eqF (ev_T (ev_v rfl) ev_c (SqT.of hd9) rfl) ev_c rfl (ks_ne (by decide +kernel)) (je _ ?_)
     exact k H9 _ S9 (by rw [conW_del,g2]) st
   | peek t ad n =>
     have hd:H d=some (.tup [.str "peek",.int t,.int ad,.int n]):=hd
     obtain ⟨r,g1,g2,g3⟩:=g
     refine hidC λ _ ji je=>?_
     refine eqF (ev_T (ev_v rfl) ev_c (SqT.of hd) rfl) ev_c rfl (ks_ne (by decide +kernel)) (je _ ?_)
     refine hidC λ _ ji je=>?_
     refine eqF (ev_T (ev_v rfl) ev_c (SqT.of hd) rfl) ev_c rfl (ks_ne (by decide +kernel)) (je _ ?_)
     refine hidC λ _ ji je=>?_
     refine eqF (ev_T (ev_v rfl) ev_c (SqT.of hd) rfl) ev_c rfl (ks_ne (by decide +kernel)) (je _ ?_)
     refine hidC λ _ ji je=>?_
     refine eqF (ev_T (ev_v rfl) ev_c (SqT.of hd) rfl) ev_c rfl (ks_ne (by decide +kernel)) (je _ ?_)
     refine hidC λ _ ji je=>?_
     refine eqF (ev_T (ev_v rfl) ev_c (SqT.of hd) rfl) ev_c rfl (ks_ne (by decide +kernel)) (je _ ?_)
     refine hidCL λ _ ji je=>?_
     refine eqF (ev_T (ev_v rfl) ev_c (SqT.of hd) rfl) ev_c rfl (ks_ne (by decide +kernel)) (je _ ?_)
     exact k H Z S g3.symm (Stay.same (Same.refl H))
   | copy t o =>
     have hd:H d=some (.tup [.str "copy",.int t,.int o]):=hd
     obtain ⟨r,g1,g2,g3,g4⟩:=g
     obtain ⟨z,hz,ez⟩:=lookW g1
     have hno:=lookW0 g2
     have hm:=look_mem hz
     have rz:=S.L.rm _ hm
     have hlz:z.2.length≤64:=lm _ hm
     refine hidC λ _ ji je=>?_
     refine eqF (ev_T (ev_v rfl) ev_c (SqT.of hd) rfl) ev_c rfl (ks_ne (by decide +kernel)) (je _ ?_)
     refine hidC λ _ ji je=>?_
     refine eqF (ev_T (ev_v rfl) ev_c (SqT.of hd) rfl) ev_c rfl (ks_ne (by decide +kernel)) (je _ ?_)
     refine hid λ _ jt=>?_
     refine hidC λ _ ji je=>?_
     refine eqT (ev_T (ev_v rfl) ev_c (SqT.of hd) rfl) ev_c rfl (ji _ ?_)
     refine ⟨_,rfl,_,rfl,d,_,_,.int t,rfl,rfl,SqT.of hd,rfl,b,fR z,rfl,S.getZ hz,?_⟩
     have rzh:H z.1=some (.dK (kvP z.2)):=rz.hd
     have nfz:∀ (o:Obj) u',H z.1≠some (.frz o u'):=λ o u' y=>by rw [rzh] at y; cases y
     refine ⟨_,rfl,z.1,_,rfl,rzh,nfz,λ ob=>?_⟩
     refine comp_dict0 (a:=z.1) (o:=ob) (kvs:=kvP z.2) (λ i ys H11 => ∃ (ts:List Addr) (R:Room),ys=ts.map V.ref∧ts.length=i∧con R=(con z.2).take i∧Acc (upd H z.1 (.frz ob (.dK (kvP z.2)))) ts R H11) ⟨[],[],rfl,rfl,rfl,Acc.nil⟩ (λ i zs H11 _ ⟨_,_,_,_,_,ac⟩=>ac.sm _ _ upd_same) ?_ ?_
     · rintro i' kk v zs H11 hk ⟨ts,R,rfl,lt,ck,ac⟩
       have hk':(z.2.map λ y:Int×Addr×List Int=>((Sum.inl y.1:Key),fP y.2))[i']? = some (kk,v):=hk
       rw [List.getElem?_map] at hk'
       obtain ⟨y,hyi,e⟩:=Option.map_eq_some_iff.mp hk'
       cases e
       have hym:=List.mem_of_getElem? hyi
       have hil:i' < z.2.length:=(List.getElem?_eq_some_iff.mp hyi).1
       have hy:look z.2 y.1=some y.2:=look_some rz.nd hym
       have hz11:H11 z.1=some (.frz ob (.dK (kvP z.2))):=ac.sm _ _ upd_same
       have hgy:DGet H11 z.1 (.int y.1) (some (fP y.2)):=.inl ⟨kvP z.2,Sum.inl y.1,.inr ⟨ob,hz11⟩,rfl,by rw [valV_dk,hy]; rfl⟩
       obtain ⟨hyr,hy8⟩:=rz.hr y hym
       have hyr11:H11 y.2.1=some (.lst (y.2.2.map V.int)):=ac.sm _ _ (by rw [upd_ne (λ q=>by rw [q,rzh] at hyr; cases hyr)]; exact hyr)
       refine ⟨_,rfl,_,rfl,_,rfl,z.1,fP y.2,rfl,hgy,y.2.1,_,rfl,.inl (SqL.of hyr11),λ l hl=>⟨(by show 2≤sizeLine; decide),λ T2 hT2=>⟨by rw [List.length_map]; lia,ts ++ [T2],R ++ [(y.1,l,y.2.2)],by rw [List.map_append]; rfl,by rw [List.length_append,lt]; rfl,?_,ac.step (same_new hl) hl upd_same hy8 hT2⟩⟩⟩
       rw [List.take_add_one, ← ck]
       unfold con
       rw [List.getElem?_map,hyi,List.map_append]
       rfl
     · rintro zs H11 ⟨ts,R,rfl,lt,ck,ac⟩ l hl
       rw [dk_len,List.take_of_length_le (show (con z.2).length≤z.2.length by rw [con_len]; exact Nat.le_refl _)] at ck
       have sl:=same_new (X:=.lst (ts.map V.ref)) hl
       have el:(upd H11 l (.lst (ts.map V.ref))) l=some (.lst (ts.map V.ref)):=upd_same
       have ac':=ac.same sl
       have hzl:(upd H11 l (.lst (ts.map V.ref))) z.1=some (.frz ob (.dK (kvP z.2))):=ac'.sm _ _ upd_same
       generalize upd H11 l (.lst (ts.map V.ref))=H12 at *
       have ac12:=ac'.thaw rzh
       have nlz:l≠z.1:=λ q=>by rw [q,hzl] at el; cases el
       have ek:=twin_keys ck
       refine ⟨z.1,ob,kvP z.2,hzl,nfz,l,ts,kvP R,rfl,by rw [upd_ne nlz]; exact el,ac12.pairs,?_,λ a2 ha2=>?_⟩
       · unfold kvP dk
         rw [List.map_map]
         exact key_nodup (show (keysR R).Nodup by rw [ek]; exact rz.nd)
       generalize upd H12 z.1 (.dK (kvP z.2))=H13 at *
       have rg:∀ y∈R,0≤y.1∧y.1 < 64:=λ y hy=>by
         have h1:y.1∈keysR R:=List.mem_map.mpr ⟨y,hy,rfl⟩
         rw [ek] at h1
         obtain ⟨y',hy',e⟩:=List.mem_map.mp h1
         rw [← e]
         exact rz.rg y' hy'
       have rm:RoomAt (upd H13 a2 (.dK (kvP R))) a2 R:=⟨upd_same,λ y hy=>⟨by rw [upd_ne (ne_of_none (ac12.row y hy).1 ha2)]; exact (ac12.row y hy).1,(ac12.row y hy).2.1⟩,(show (keysR R).Nodup by rw [ek]; exact rz.nd),rg⟩
       have s14:Same H (upd H13 a2 (.dK (kvP R))):=ac12.sm.trans (same_new ha2)
       have h10a:H a2=none:=ac12.sm.free ha2
       refine ⟨_,rfl,_,rfl,d,_,_,.int o,rfl,rfl,SqT.of (s14 _ _ hd),rfl,b,_,rfl,DPut.k (k:=Sum.inl o) (s14 _ _ S.L.hd) (by rw [dk_len]; lia),?_⟩
       rw [show (V.ref a2)=fR (a2,R) from rfl,putK_new' hno]
       have S9:=S.addZ (o:=o) (r:=a2) (N:=R) hno s14 h10a rm (λ y hy=>(ac12.row y hy).2.2) ac12.ij
       have st:Stay H (upd (upd H13 a2 (.dK (kvP R))) b (.dK (kvR (Z ++ [(o,a2,R)])))) Z (Z ++ [(o,a2,R)]):=Stay.add (keepU s14 S.L.hd) (λ y hy=>(ac12.row y hy).2.2)
       have hd9:=(st _ _ hd (nt _) (tup_ne hd S.L)).1
       generalize upd (upd H13 a2 (.dK (kvP R))) b (.dK (kvR (Z ++ [(o,a2,R)])))=H9 at *
       refine jt _ _ _ ?_
       refine hidC λ _ ji je=>?_
       refine eqF (ev_T (ev_v rfl) ev_c (SqT.of hd9) rfl) ev_c rfl (ks_ne (by decide +kernel)) (je _ ?_)
       refine hidC λ _ ji je=>?_
       refine eqF (ev_T (ev_v rfl) ev_c (SqT.of hd9) rfl) ev_c rfl (ks_ne (by decide +kernel)) (je _ ?_)
       refine hidCL λ _ ji je=>?_
       refine eqF (ev_T (ev_v rfl) ev_c (SqT.of hd9) rfl) ev_c rfl (ks_ne (by decide +kernel)) (je _ ?_)
       exact k H9 _ S9 (by rw [conW_app,g4,ck,ez]) st
   | map t pg m =>
     have hd:H d=some (.tup [.str "map",.int t,.int pg,.int m]):=hd
     obtain ⟨r,g1,g2,g3,g4,g5⟩:=g
     obtain ⟨z,hz,ez⟩:=lookW g1
     have b1:¬ m < 1:=λ y=>g2 (.inl y)
     have b2:¬ pg < 0:=λ y=>g2 (.inr (.inl y))
     have b3:¬ 64 < pg + m:=λ y=>g2 (.inr (.inr y))
     have hlz:z.2.length≤64:=lm _ (look_mem hz)
     refine hidC λ _ ji je=>?_
     refine eqF (ev_T (ev_v rfl) ev_c (SqT.of hd) rfl) ev_c rfl (ks_ne (by decide +kernel)) (je _ ?_)
     refine hidC λ _ ji je=>?_
     refine eqF (ev_T (ev_v rfl) ev_c (SqT.of hd) rfl) ev_c rfl (ks_ne (by decide +kernel)) (je _ ?_)
     refine hidC λ _ ji je=>?_
     refine eqF (ev_T (ev_v rfl) ev_c (SqT.of hd) rfl) ev_c rfl (ks_ne (by decide +kernel)) (je _ ?_)
     refine hid λ _ jt=>?_
     refine hidC λ _ ji je=>?_
     refine eqT (ev_T (ev_v rfl) ev_c (SqT.of hd) rfl) ev_c rfl (ji _ ?_)
     refine ⟨_,rfl,d,_,_,.int pg,rfl,rfl,SqT.of hd,rfl,_,rfl,d,_,_,.int pg,rfl,rfl,SqT.of hd,rfl,_,rfl,d,_,_,.int m,rfl,rfl,SqT.of hd,rfl,_,_,rfl,rfl,_,_,rfl,⟨by lia,by lia,by lia,by lia⟩,?_⟩
     refine for_range (lo:=pg) (n:=(pg + m - pg).toNat) (λ i σ H6 => ∃ (v3:Option V) (Zi:Rms) (zi:Addr×Room),σ=[some (.ref b),some (.ref d),none,v3,none,none]∧Sep C H6 p a b tot W Zi∧look Zi t=some zi∧con zi.2=con z.2 ++ ((pagesL pg m).take i).map (λ q=>(q,z8))∧conW Zi=setA (conW Z) t (con zi.2)∧Stay H H6 Z Zi) ⟨_,Z,z,rfl,S,hz,by simp,S.self hz,Stay.same (Same.refl H)⟩ ?_ ?_
     · rintro i σ H6 hi ⟨v3,Zi,zi,rfl,Si,hzi,ci,cwi,sti⟩
       have hi':i < m.toNat:=by lia
       have hd6:=(sti _ _ hd (nt _) (tup_ne hd S.L)).1
       have lz:zi.2.length≤128:=by
         have:=congrArg List.length ci
         rw [con_len,List.length_append,con_len,List.length_map,List.length_take] at this
         lia
       have hq:look zi.2 (pg + (i:Int))=none:=by
         have h0:look (con zi.2) (pg + (i:Int))=none:=by
           rw [ci]
           refine look_no λ hm=>?_
           rw [List.map_append] at hm
           rcases List.mem_append.mp hm with h | h
           · refine g3 _ ?_ (by rw [← ez]; exact h)
             exact List.mem_of_getElem? (pages_at hi')
           · rw [List.map_map] at h
             obtain ⟨u,hu,e⟩:=List.mem_map.mp h
             exact pages_no hi' ((show u=pg + (i:Int) from e) ▸ hu)
         rw [look_con] at h0
         exact Option.map_eq_none_iff.mp h0
       refine ⟨by decide,λ z1 hz1=>⟨z1,8,_,rfl,rfl,upd_same,by lia,by lia,by rw [List.length_singleton]; lia,λ z2 hz2=>?_⟩⟩
       rw [rep1 (V.int 0)]
       have sz:=(same_new (X:=.lst [V.int 0]) hz1).trans (same_new (X:=.lst (List.replicate ((8:Int)).toNat (V.int 0))) hz2)
       have ezl:(upd (upd H6 z1 (.lst [V.int 0])) z2 (.lst (List.replicate ((8:Int)).toNat (V.int 0)))) z2=some (.lst (z8.map V.int)):=by rw [upd_same]; unfold z8; rw [List.map_replicate]; rfl
       have hz2':H6 z2=none:=(same_new (X:=.lst [V.int 0]) hz1).free hz2
       generalize upd (upd H6 z1 (.lst [V.int 0])) z2 (.lst (List.replicate ((8:Int)).toNat (V.int 0)))=H7 at *
       have S7:=Si.same sz
       have rz7:=S7.L.rm _ (look_mem hzi)
       refine ⟨_,rfl,_,rfl,d,_,_,.int t,rfl,rfl,SqT.of (sz _ _ hd6),rfl,b,fR zi,rfl,S7.getZ hzi,_,rfl,zi.1,_,rfl,DPut.k (k:=Sum.inl (pg + (i:Int))) rz7.hd (by rw [dk_len]; show zi.2.length < sizeLine; lia),?_⟩
       rw [show (V.ref z2)=fP (z2,z8) from rfl,putK_new' hq]
       obtain ⟨S8,st8⟩:=Si.putZ hzi hq (by lia) (by lia) sz hz2' ezl
       refine ⟨_,_,(zi.1,zi.2 ++ [(pg + (i:Int),z2,z8)]),rfl,S8,look_set hzi,?_,?_,sti.trans st8⟩
       · rw [con_app,ci,pages_take hi',List.map_append,List.append_assoc]
         rfl
       · rw [conW_set,cwi,setA_setA]
     · rintro σ H6 ⟨v3,Zi,zi,rfl,Si,hzi,ci,cwi,sti⟩
       have hd9:=(sti _ _ hd (nt _) (tup_ne hd S.L)).1
       refine jt _ _ _ ?_
       refine hidC λ _ ji je=>?_
       refine eqF (ev_T (ev_v rfl) ev_c (SqT.of hd9) rfl) ev_c rfl (ks_ne (by decide +kernel)) (je _ ?_)
       refine hidCL λ _ ji je=>?_
       refine eqF (ev_T (ev_v rfl) ev_c (SqT.of hd9) rfl) ev_c rfl (ks_ne (by decide +kernel)) (je _ ?_)
       refine k H6 Zi Si ?_ sti
       rw [cwi,ci,List.take_of_length_le (by unfold pagesL; rw [List.length_map,List.length_range]; lia),g5,ez]
   | drop t pg m =>
     have hd:H d=some (.tup [.str "drop",.int t,.int pg,.int m]):=hd
     obtain ⟨r,g1,g2,g3,g5⟩:=g
     obtain ⟨z,hz,ez⟩:=lookW g1
     have b1:¬ m < 1:=λ y=>g2 (.inl y)
     have b2:¬ pg < 0:=λ y=>g2 (.inr (.inl y))
     have b3:¬ 64 < pg + m:=λ y=>g2 (.inr (.inr y))
     refine hidC λ _ ji je=>?_
     refine eqF (ev_T (ev_v rfl) ev_c (SqT.of hd) rfl) ev_c rfl (ks_ne (by decide +kernel)) (je _ ?_)
     refine hidC λ _ ji je=>?_
     refine eqF (ev_T (ev_v rfl) ev_c (SqT.of hd) rfl) ev_c rfl (ks_ne (by decide +kernel)) (je _ ?_)
     refine hidC λ _ ji je=>?_
     refine eqF (ev_T (ev_v rfl) ev_c (SqT.of hd) rfl) ev_c rfl (ks_ne (by decide +kernel)) (je _ ?_)
     refine hidC λ _ ji je=>?_
     refine eqF (ev_T (ev_v rfl) ev_c (SqT.of hd) rfl) ev_c rfl (ks_ne (by decide +kernel)) (je _ ?_)
     refine hid λ _ jt=>?_
     refine hidC λ _ ji je=>?_
     refine eqT (ev_T (ev_v rfl) ev_c (SqT.of hd) rfl) ev_c rfl (ji _ ?_)
     refine ⟨_,rfl,d,_,_,.int pg,rfl,rfl,SqT.of hd,rfl,_,rfl,d,_,_,.int pg,rfl,rfl,SqT.of hd,rfl,_,rfl,d,_,_,.int m,rfl,rfl,SqT.of hd,rfl,_,_,rfl,rfl,_,_,rfl,⟨by lia,by lia,by lia,by lia⟩,?_⟩
     refine for_range (lo:=pg) (n:=(pg + m - pg).toNat) (λ i σ H6 => ∃ (v3:Option V) (Zi:Rms) (zi:Addr×Room),σ=[some (.ref b),some (.ref d),none,v3,none,none]∧Sep C H6 p a b tot W Zi∧look Zi t=some zi∧con zi.2=dropC (con z.2) ((pagesL pg m).take i)∧conW Zi=setA (conW Z) t (con zi.2)∧Stay H H6 Z Zi) ⟨_,Z,z,rfl,S,hz,rfl,S.self hz,Stay.same (Same.refl H)⟩ ?_ ?_
     · rintro i σ H6 hi ⟨v3,Zi,zi,rfl,Si,hzi,ci,cwi,sti⟩
       have hi':i < m.toNat:=by lia
       have hd6:=(sti _ _ hd (nt _) (tup_ne hd S.L)).1
       have rz6:=Si.L.rm _ (look_mem hzi)
       obtain ⟨y,hy⟩:∃ y,look zi.2 (pg + (i:Int))=some y:=by
         have hk:pg + (i:Int)∈keysC (con z.2):=by rw [ez]; exact g3 _ (List.mem_of_getElem? (pages_at hi'))
         have h0:look (con zi.2) (pg + (i:Int))=look (con z.2) (pg + (i:Int)):=by rw [ci,dropC_look,if_neg (pages_no hi')]
         cases e:look (con z.2) (pg + (i:Int)) with
         | none=>exact absurd hk (look_none e)
         | some row =>
           rw [e,look_con] at h0
           obtain ⟨y,hy,_⟩:=Option.map_eq_some_iff.mp h0
           exact ⟨y,hy⟩
       refine ⟨_,rfl,_,rfl,d,_,_,.int t,rfl,rfl,SqT.of hd6,rfl,b,fR zi,rfl,Si.getZ hzi,zi.1,rfl,.inl ⟨_,.inl rz6.hd⟩,_,rfl,_,Sum.inl (pg + (i:Int)),fP y,rz6.hd,rfl,by show valV (dk fP zi.2) (Sum.inl (pg + (i:Int)))=_; rw [valV_dk,hy]; rfl,?_⟩
       rw [dropK_dk]
       obtain ⟨S8,st8⟩:=Si.popZ (q:=pg + (i:Int)) hzi
       refine ⟨_,_,(zi.1,delA zi.2 (pg + (i:Int))),rfl,S8,look_set hzi,?_,?_,sti.trans st8⟩
       · rw [con_del,ci,pages_take hi']
         unfold dropC
         rw [List.foldl_append]
         rfl
       · rw [conW_set,cwi,setA_setA]
     · rintro σ H6 ⟨v3,Zi,zi,rfl,Si,hzi,ci,cwi,sti⟩
       have hd9:=(sti _ _ hd (nt _) (tup_ne hd S.L)).1
       refine jt _ _ _ ?_
       refine hidCL λ _ ji je=>?_
       refine eqF (ev_T (ev_v rfl) ev_c (SqT.of hd9) rfl) ev_c rfl (ks_ne (by decide +kernel)) (je _ ?_)
       refine k H6 Zi Si ?_ sti
       rw [cwi,ci,List.take_of_length_le (by unfold pagesL; rw [List.length_map,List.length_range]; lia),g5,ez]
   | poke t ad cs =>
     obtain ⟨c,hd,hc,nc⟩:=hd
     obtain ⟨r,g1,g2,g3⟩:=g
     obtain ⟨z,hz,ez⟩:=lookW g1
     have rz:=S.L.rm _ (look_mem hz)
     have nl:∀ (xs:List V) (kvs:List (Key×V)),HO.lst xs≠.dK kvs:=λ _ _ y=>by cases y
     have g8:Rows8 (con z.2) ad cs.length:=⟨λ x hx=>by
       obtain ⟨y,hy,rfl⟩:=List.mem_map.mp hx
       exact (rz.hr y hy).2,by rw [con_keys]; exact rz.nd,by rw [ez]; exact g2⟩
     have lc:cs.length≤4096:=by
       by_cases z0:cs.length=0
       · lia
       · have this:¬ noPages (cFst ad) (cCnt ad cs.length):=λ y=>g2 (.inr ⟨by lia,.inl y⟩)
         unfold noPages cFst cCnt at this
         lia
     refine hidC λ _ ji je=>?_
     refine eqF (ev_T (ev_v rfl) ev_c (SqT.of hd) rfl) ev_c rfl (ks_ne (by decide +kernel)) (je _ ?_)
     refine hidC λ _ ji je=>?_
     refine eqF (ev_T (ev_v rfl) ev_c (SqT.of hd) rfl) ev_c rfl (ks_ne (by decide +kernel)) (je _ ?_)
     refine hidC λ _ ji je=>?_
     refine eqF (ev_T (ev_v rfl) ev_c (SqT.of hd) rfl) ev_c rfl (ks_ne (by decide +kernel)) (je _ ?_)
     refine hidC λ _ ji je=>?_
     refine eqF (ev_T (ev_v rfl) ev_c (SqT.of hd) rfl) ev_c rfl (ks_ne (by decide +kernel)) (je _ ?_)
     refine hidC λ _ ji je=>?_
     refine eqF (ev_T (ev_v rfl) ev_c (SqT.of hd) rfl) ev_c rfl (ks_ne (by decide +kernel)) (je _ ?_)
     refine hidCL λ _ ji je=>?_
     refine eqT (ev_T (ev_v rfl) ev_c (SqT.of hd) rfl) ev_c rfl (ji _ ?_)
     refine ⟨_,rfl,d,_,_,.ref c,rfl,rfl,SqT.of hd,rfl,c,_,rfl,.inl (SqL.of hc),_,rfl,(by rw [List.length_map]; lia),(by rw [List.length_map]; lia),?_⟩
     rw [List.length_map]
     refine for_range (lo:=0) (n:=((cs.length:Nat):Int).toNat) (λ i σ H6 => ∃ (v4 v5:Option V) (Zi:Rms) (zi:Addr×Room),σ=[some (.ref b),some (.ref d),none,none,v4,v5]∧Sep C H6 p a b tot W Zi∧look Zi t=some zi∧con zi.2=csets (con z.2) ad cs i∧conW Zi=setA (conW Z) t (con zi.2)∧Stay H H6 Z Zi) ⟨_,_,Z,z,rfl,S,hz,rfl,S.self hz,Stay.same (Same.refl H)⟩ ?_ ?_
     · rintro i σ H6 hi ⟨v4,v5,Zi,zi,rfl,Si,hzi,ci,cwi,sti⟩
       have hic:i < cs.length:=by lia
       have hd6:=(sti _ _ hd (nt _) (tup_ne hd S.L)).1
       have hc6:=(sti _ _ hc (nl _) nc).1
       have rz6:=Si.L.rm _ (look_mem hzi)
       obtain ⟨x,ex⟩:∃ x:Int,x=ad + (0 + (i:Int)):=⟨_,rfl⟩
       obtain ⟨row,er,_⟩:=g8.row (k:=i) (by lia)
       have ex':ad + (i:Int)=x:=by lia
       obtain ⟨y,hy⟩:∃ y,look zi.2 (x / 8)=some y:=by
         have h0:look (con zi.2) (x / 8)=some (patch row (x / 8) ad cs i):=by rw [ci,csets_look g8 i (by lia), ← ex',er]; rfl
         rw [look_con] at h0
         obtain ⟨y,hy,_⟩:=Option.map_eq_some_iff.mp h0
         exact ⟨y,hy⟩
       have hyc:look (con zi.2) (x / 8)=some y.2:=by rw [look_con,hy]; rfl
       obtain ⟨hyr,hy8⟩:=rz6.hr _ (look_mem hy)
       have hyr:H6 y.1=some (.lst (y.2.map V.int)):=hyr
       have hy8:y.2.length=8:=hy8
       subst ex
       refine ⟨_,rfl,d,_,_,.int ad,rfl,rfl,SqT.of hd6,rfl,_,rfl,_,_,rfl,rfl,?_⟩
       refine ⟨_,rfl,d,_,_,.ref c,rfl,rfl,SqT.of hd6,rfl,_,rfl,c,_,_,.int cs[i],rfl,rfl,SqL.of hc6,at_nat (by lia) hic,_,rfl,_,rfl,d,_,_,.int t,rfl,rfl,SqT.of hd6,rfl,b,fR zi,rfl,Si.getZ hzi,_,rfl,_,_,rfl,rfl,⟨by decide,by decide⟩,zi.1,fP y,rfl,Si.getP hzi hy,_,rfl,_,_,rfl,rfl,(by show (0:Int) < 8; decide),y.1,_,_,((ad + (0 + (i:Int))) % 8).toNat,rfl,rfl,hyr,?_,?_⟩
       · unfold ixN
         rw [List.length_map,hy8,if_pos (by lia),if_pos (by lia)]
       · obtain ⟨S8,st8⟩:=Si.cellZ hzi hy (row:=y.2.set ((ad + (0 + (i:Int))) % 8).toNat cs[i]) (by rw [List.length_set]; exact hy8)
         rw [← List.map_set]
         refine ⟨_,_,_,(zi.1,setA zi.2 ((ad + (0 + (i:Int))) / 8) (y.1,y.2.set ((ad + (0 + (i:Int))) % 8).toNat cs[i])),rfl,S8,look_set hzi,?_,?_,sti.trans st8⟩
         · rw [con_set,csets_succ, ← ci,ex']
           unfold cset
           rw [hyc,List.getD_eq_getElem?_getD,List.getElem?_eq_getElem hic]
           rfl
         · rw [conW_set,cwi,setA_setA]
     · rintro σ H6 ⟨v4,v5,Zi,zi,rfl,Si,hzi,ci,cwi,sti⟩
       refine k H6 Zi Si ?_ sti
       rw [cwi,ci,show ((cs.length:Nat):Int).toNat=cs.length from Int.toNat_natCast _,poke_cells g8,g3,ez]
end
end Rm
namespace Rm
open PySem L2
theorem DeedOut.at {H:Hp}{Z:Rms}{d:Addr}{D:Deed}(h:DeedOut H Z d D):DeedAt H d D:=by
 cases D with
 | poke t ad cs=>obtain ⟨c,h1,h2,_⟩:=h; exact ⟨c,h1,h2⟩
 | _=>exact h
theorem DeedOut.same {H H':Hp}{Z:Rms}{d:Addr}{D:Deed}(h:DeedOut H Z d D) (s:Same H H'):DeedOut H' Z d D:=by
 cases D with
 | poke t ad cs=>obtain ⟨c,h1,h2,h3⟩:=h; exact ⟨c,s _ _ h1,s _ _ h2,h3⟩
 | _=>exact s _ _ h
theorem tells_non {c:Wc}{D:Deed}{H H':Hp}(h:¬ kindOf D = "peek"):Tells c D .non H H':=by
 cases D with
 | peek t ad n=>exact absurd rfl h
 | _=>rfl
theorem peek_of {D:Deed}(h:kindOf D = "peek"):∃ t ad n,D=.peek t ad n:=by
 cases D with
 | peek t ad n=>exact ⟨t,ad,n,rfl⟩
 | begin t=>exact absurd h (by show ¬ ("begin" : Str) = "peek"; decide +kernel)
 | close t=>exact absurd h (by show ¬ ("close" : Str) = "peek"; decide +kernel)
 | map t pg m=>exact absurd h (by show ¬ ("map" : Str) = "peek"; decide +kernel)
 | drop t pg m=>exact absurd h (by show ¬ ("drop" : Str) = "peek"; decide +kernel)
 | poke t ad cs=>exact absurd h (by show ¬ ("poke" : Str) = "peek"; decide +kernel)
 | copy t o=>exact absurd h (by show ¬ ("copy" : Str) = "peek"; decide +kernel)
theorem word_ne (X:Ref4):¬ V.str (wordOf X)=V.str "" := by
 cases X <;> exact ks_ne (by decide +kernel)
def spDue (C:Addr):Sp:=λ vs H Q _ => ∃ (p a b d:Addr) (tot:Int) (W Z:Rms) (D:Deed),vs=[.ref b,.int tot,.ref d]∧Sep C H p a b tot W Z∧Z.length≤1000∧(∀ x∈Z,x.2.2.length≤64)∧DeedOut H Z d D ∧
 (∀ X,Due tot (conW Z) D X→∀ (H':Hp) (T:Addr),Same H H'→H T=none→H' T=some (.tup [.non,.str (wordOf X)])→Q (.ref T) H') ∧
 (∀ (H':Hp) (Z':Rms) (c':Wc) (T:Addr) (v:V),Good tot (conW Z) D c'→Sep C H' p a b tot W Z'→conW Z'=c'→Stay H H' Z Z'→Tells (conW Z) D v H H'→H' T=some (.tup [v,.str ""])→Q (.ref T) H')
section
variable {P:Program}{w:World}{K:PySem.W.Frag}{mg:Str→Option Value}{base:Heap}
theorem scDu:FnScope ["_law_world","_law_total","_law_deed_here","_law_word_here","_law_told_here","_law_at"] ["_law_world","_law_total","_law_deed_here"] (defScope sDue):=⟨rfl,rfl,rfl,by decide +kernel,rfl,by decide +kernel,by decide +kernel⟩
set_option maxHeartbeats 4000000 in
theorem ok_due {f C fRf fCh:Addr}{fd dRf dCh:FuncData}(F:Fun K "_law_due" "_law_due" sDue f fd) (T:MTxt mg)
   (GRf:FnOk P w K mg base CX0 3 fRf dRf ["_law_world","_law_total","_law_deed_here"] spRefused) (DRf:Def K mg "_law_refused" fRf dRf ["_law_world","_law_total","_law_deed_here"])
   (GCh:FnOk P w K mg base CX0 1 fCh dCh ["_law_world","_law_deed_here"] (spChange C)) (DCh:Def K mg "_law_change" fCh dCh ["_law_world","_law_deed_here"]) :
   FnOk P w K mg base CX0 4 f fd ["_law_world","_law_total","_law_deed_here"] (spDue C):=by
 refine F.ok scDu (λ vs H Q E h=>?_) (λ cdv A outer s H vs Q E hr h=>?_)
 · obtain ⟨p,a,b,d,tot,W,Z,D,rfl,_⟩:=h
   rfl
 · obtain ⟨p,a,b,d,tot,W,Z,D,rfl,S,ln,lm,hd,kE,kQ⟩:=h
   have hs:sizeLine=16777216:=sizeLine_eq
   refine ⟨_,(pss_cons (ps_set (i:=3) scDu.nd rfl (Or.inl rfl) (pe_call GRf (hr.mono (by decide)) (by rfl) DRf.mg DRf.kp DRf.b .nil pass0 (pa_cons (pv 0) (pa_cons (pv 1) (pa_cons (pv 2) pa_nil)))))
     (pss_cons (ps_set (i:=4) scDu.nd rfl (Or.inl rfl) pe_non)
     (pss_cons (ps_if (PW.pt (pw_and (pt_cmpR op_eq (pv 3) pe_str (nomark _)) (pw_and1 (pt_cmpR op_eq (pe_ix ix_tup (pv 2) pe_int (λ _ _=>rfl)) pe_str (nomark _))))) (pss_cons (ps_set (i:=4) scDu.nd rfl (Or.inl rfl) (pe_lst pa_nil))
     (pss_one (ps_for PassesOwn.never rfl (pi_rangeL (by rfl) T.range (pa_cons (pe_ix ix_tup (pv 2) pe_int (λ _ _=>rfl)) (pa_cons (pe_op op_add (pe_ix ix_tup (pv 2) pe_int (λ _ _=>rfl)) (pe_ix ix_tup (pv 2) pe_int (λ _ _=>rfl))) pa_nil))) (pg_name (i:=5) scDu.nd rfl (Or.inl rfl)) (pss_one (ps_expr (pe_bm PySem.F.plainAttrs_list PySem.F.slot_list_append PySem.F.type_list_append mt_append (pv 4) (pa_cons (pe_ix ix_list (pe_dget (hu_of hr) (pe_dget (hu_of hr) (pv 0) (pe_ix ix_tup (pv 2) pe_int (λ _ _=>rfl)) (λ _ _=>rfl)) (pe_op op_fdiv (pv 5) pe_int) (λ _ _=>rfl)) (pe_op op_mod (pv 5) pe_int) (λ _ _=>rfl)) pa_nil))))))) pss_nil)
     (pss_cons (ps_if (pt_cmpR op_eq (pv 3) pe_str (nomark _)) (pss_one (ps_expr (pe_call GCh (hr.mono (by decide)) (by rfl) DCh.mg DCh.kp DCh.b .nil pass0 (pa_cons (pv 0) (pa_cons (pv 2) pa_nil))))) pss_nil)
     (pss_one (ps_ret (pe_tup (pa_cons (pv 4) (pa_cons (pv 3) pa_nil))))))))),?_⟩
   have wz:WZ H b Z:=⟨S.L,ln,lm⟩
   refine hidN λ _ jt=>?_
   refine ⟨_,rfl,_,rfl,_,rfl,b,d,tot,Z,D,rfl,wz,hd.at,λ sw H1 sy s1=>jt _ _ ?_⟩
   refine hidN λ _ jt=>?_
   refine jt _ _ ?_
   rcases sy with ⟨X,due,rfl⟩ | ⟨⟨c',g⟩,rfl⟩
   · refine hidC λ _ ji je=>?_
     refine eqF (ev_v rfl) ev_c rfl (word_ne X) (iteF (je _ ?_))
     refine hidC λ _ ji je=>?_
     refine eqF (ev_v rfl) ev_c rfl (word_ne X) (je _ ?_)
     exact ⟨_,rfl,_,rfl,(by show 2≤sizeLine; decide),λ T hT=>kE X due _ T (s1.trans (same_new hT)) (s1.free hT) upd_same⟩
   · have S1:=S.same s1
     have hd1:=hd.same s1
     obtain ⟨kr,hk⟩:=hd1.at.kind
     by_cases hp:kindOf D = "peek"
     · obtain ⟨t,ad,n,rfl⟩:=peek_of hp
       have hd':H1 d=some (.tup [.str "peek",.int t,.int ad,.int n]):=hd1
       obtain ⟨r,g1,g2,g3⟩:=id g
       obtain ⟨z,hz,ez⟩:=lookW g1
       have n0:¬ n < 0:=λ y=>g2 (.inl y)
       have n512:n≤512:=by
         by_cases z0:n=0
         · lia
         · have this:¬ noPages (cFst ad) (cCnt ad n):=λ y=>g2 (.inr ⟨by lia,.inl y⟩)
           unfold noPages cFst cCnt at this
           lia
       have rz:=S.L.rm _ (look_mem hz)
       have g8:Rows8 (con z.2) ad (n.toNat:Int):=⟨λ x hx=>by
         obtain ⟨y,hy,rfl⟩:=List.mem_map.mp hx
         exact (rz.hr y hy).2,by rw [con_keys]; exact rz.nd,by rw [ez,Int.toNat_of_nonneg (by lia)]; exact g2⟩
       refine hid λ _ jt=>?_
       refine hidC λ _ ji je=>?_
       refine eqT (ev_v rfl) ev_c rfl (iteT (eqT (ev_T (ev_v rfl) ev_c (SqT.of hd') rfl) ev_c rfl (ji _ ?_)))
       refine ⟨by decide,λ l hl=>?_⟩
       have sl:=same_new (X:=.lst []) hl
       have el:(upd H1 l (.lst [])) l=some (.lst []):=upd_same
       have hn0:H l=none:=s1.free hl
       have o2:Off (· = l) H1 (upd H1 l (.lst [])):=λ c u e nc=>by rw [upd_ne nc]; exact e
       generalize upd H1 l (.lst [])=H2 at *
       have hd2:=sl _ _ hd'
       refine ⟨_,rfl,d,_,_,.int ad,rfl,rfl,SqT.of hd2,rfl,_,rfl,d,_,_,.int ad,rfl,rfl,SqT.of hd2,rfl,_,rfl,d,_,_,.int n,rfl,rfl,SqT.of hd2,rfl,_,_,rfl,rfl,_,_,rfl,?_⟩
       refine for_range (lo:=ad) (n:=(ad + n - ad).toNat) (λ i σ H6 => ∃ v5:Option V,σ=[some (.ref b),some (.int tot),some (.ref d),some (.str ""),some (.ref l),v5]∧H6 l=some (.lst (((List.range i).map λ k:Nat=>cellAt (con z.2) (ad + k)).map V.int))∧Off (· = l) H1 H6) ⟨_,rfl,el,o2⟩ ?_ ?_
       · rintro i σ H6 hi ⟨v5,rfl,h6,o6⟩
         have s6:Same H1 H6:=λ c u e=>o6 _ _ e λ y=>by rw [y,hl] at e; cases e
         have S6:=S1.same s6
         have rz6:=S6.L.rm _ (look_mem hz)
         have hd6:=s6 _ _ hd'
         obtain ⟨row,er,_⟩:=g8.row (k:=i) (by lia)
         obtain ⟨y,hy,ey⟩:∃ y,look z.2 ((ad + (i:Int)) / 8)=some y∧y.2=row:=by
           rw [look_con] at er
           exact Option.map_eq_some_iff.mp er
         obtain ⟨hyr,hy8⟩:=rz6.hr _ (look_mem hy)
         have hyr:H6 y.1=some (.lst (y.2.map V.int)):=hyr
         have hy8:y.2.length=8:=hy8
         have hx:((ad + (i:Int)) % 8).toNat < y.2.length:=by lia
         refine ⟨_,rfl,.inl ⟨rfl,_,SqL.of h6⟩,_,rfl,_,rfl,d,_,_,.int t,rfl,rfl,SqT.of hd6,rfl,b,fR z,rfl,S6.getZ hz,_,rfl,_,_,rfl,rfl,⟨by decide,by decide⟩,z.1,fP y,rfl,S6.getP hz hy,_,rfl,_,_,rfl,rfl,(by show (0:Int) < 8; decide),y.1,_,_,.int (y.2[((ad + (i:Int)) % 8).toNat]),rfl,rfl,SqL.of hyr,at_nat (by lia) hx,l,_,_,rfl,rfl,h6,(by rw [List.length_map,List.length_map,List.length_range]; lia),?_⟩
         refine ⟨_,rfl,?_,λ c u e nc=>by rw [upd_ne nc]; exact o6 _ _ e nc⟩
         rw [upd_same,List.range_succ,List.map_append,List.map_append]
         show _=some (HO.lst (_ ++ [V.int (cellAt (con z.2) (ad + (i:Int)))]))
         have ec:cellAt (con z.2) (ad + (i:Int))=y.2[((ad + (i:Int)) % 8).toNat]:=by
           unfold cellAt
           rw [er, ← ey]
           show y.2.getD _ 0=_
           rw [List.getD_eq_getElem?_getD,List.getElem?_eq_getElem hx]
           rfl
         rw [ec]
       · rintro σ H6 ⟨v5,rfl,h6,o6⟩
         have s6:Same H1 H6:=λ c u e=>o6 _ _ e λ y=>by rw [y,hl] at e; cases e
         rw [show (ad + n - ad).toNat=n.toNat by lia, ← peek_cells g8,Int.toNat_of_nonneg (by lia),ez] at h6
         refine jt _ _ _ ?_
         refine hid λ _ jt=>?_
         refine hidC λ _ ji je=>?_
         refine eqT (ev_v rfl) ev_c rfl (ji _ ?_)
         refine ⟨_,rfl,_,rfl,p,a,b,d,tot,W,Z,_,c',rfl,S1.same s6,ln,lm,hd1.same s6,g,λ H7 Z' S7 e7 st7=>?_⟩
         refine jt _ _ _ ?_
         have nA:¬ Adr Z l:=λ y=>by obtain ⟨xs,e⟩:=S.L.lst y; rw [hn0] at e; cases e
         have h7:=(st7 _ _ h6 (λ _ y=>by cases y) nA).1
         exact ⟨_,rfl,_,rfl,(by show 2≤sizeLine; decide),λ T hT=>kQ _ Z' c' T (.ref l) g (S7.same (same_new hT)) e7 (((Stay.same (s1.trans s6)).trans st7).trans (Stay.same (same_new hT))) ⟨l,r,rfl,g1,hn0,(same_new hT) _ _ h7⟩ upd_same⟩
     · refine hidC λ _ ji je=>?_
       refine eqT (ev_v rfl) ev_c rfl (iteT (eqF (ev_T (ev_v rfl) ev_c (SqT.of hk) at0) ev_c rfl (ks_ne hp) (je _ ?_)))
       refine hid λ _ jt=>?_
       refine hidC λ _ ji je=>?_
       refine eqT (ev_v rfl) ev_c rfl (ji _ ?_)
       refine ⟨_,rfl,_,rfl,p,a,b,d,tot,W,Z,D,c',rfl,S1,ln,lm,hd1,g,λ H2 Z' S2 e2 st2=>?_⟩
       refine jt _ _ _ ?_
       exact ⟨_,rfl,_,rfl,(by show 2≤sizeLine; decide),λ T hT=>kQ _ Z' c' T .non g (S2.same (same_new hT)) e2 (((Stay.same s1).trans st2).trans (Stay.same (same_new hT))) (tells_non hp) upd_same⟩
end
end Rm
namespace Rm
open PySem L2
def spSame:Sp:=λ vs H Q _ => ∃ (f u:Addr) (v v':V) (s:Str),vs=[.ref f,.ref u]∧H f=some (.tup [v,.str s])∧H u=some (.tup [v',.str s]) ∧
 ((v=.non∧v'=.non)∨∃ (l l':Addr) (xs:List Int),v=.ref l∧v'=.ref l'∧H l=some (.lst (xs.map V.int))∧H l'=some (.lst (xs.map V.int)))∧Q (.bl true) H
section
variable {P:Program}{w:World}{K:PySem.W.Frag}{mg:Str→Option Value}{base:Heap}
theorem scSa:FnScope ["_law_found","_law_due_here","_law_cell"] ["_law_found","_law_due_here"] (defScope sSame):=⟨rfl,rfl,rfl,by decide +kernel,rfl,by decide +kernel,by decide +kernel⟩
set_option maxHeartbeats 4000000 in
theorem ok_same {f:Addr}{fd:FuncData}(F:Fun K "_law_same" "_law_same" sSame f fd) (T:MTxt mg):FnOk P w K mg base CX0 1 f fd ["_law_found","_law_due_here"] spSame:=by
 refine F.ok scSa (λ vs H Q E h=>?_) (λ cdv A outer s H vs Q E hr h=>?_)
 · obtain ⟨f,u,v,v',sw,rfl,_⟩:=h
   rfl
 · obtain ⟨f,u,v,v',sw,rfl,hf,hu,hv,k⟩:=h
   refine ⟨_,(pss_cons (ps_if (PW.pt (pw_or (pt_cmpR op_ne (pe_ix ix_tup (pv 0) pe_int (λ _ _=>rfl)) (pe_ix ix_tup (pv 1) pe_int (λ _ _=>rfl)) (nomark _)) (pw_or1 (pt_cmpR op_ne (pe_cmpR op_isN (pe_ix ix_tup (pv 0) pe_int (λ _ _=>rfl)) pe_non (nomark _)) (pe_cmpR op_isN (pe_ix ix_tup (pv 1) pe_int (λ _ _=>rfl)) pe_non (nomark _)) (nomark _))))) (pss_one (ps_ret pe_bl)) pss_nil)
     (pss_cons (ps_if (pt_cmpR op_isN (pe_ix ix_tup (pv 1) pe_int (λ _ _=>rfl)) pe_non (nomark _)) (pss_one (ps_ret pe_bl)) pss_nil)
     (pss_cons (ps_if (pt_not (pt_val (pe_callB call_isi (by rfl) T.isi bt_isinstance (pa_cons (pe_ix ix_tup (pv 0) pe_int (λ _ _=>rfl)) (pa_cons (pe_bltn (v:=.ty "list") (by rfl) T.list bt_list rfl) pa_nil))))) (pss_one (ps_ret pe_bl)) pss_nil)
     (pss_cons (ps_for PassesOwn.never rfl (pi_list (pe_ix ix_tup (pv 0) pe_int (λ _ _=>rfl))) (pg_name (i:=2) scSa.nd rfl (Or.inl rfl)) (pss_one (ps_if (PW.pt (pw_or (pt_not (pt_val (pe_callB call_isi (by rfl) T.isi bt_isinstance (pa_cons (pv 2) (pa_cons (pe_bltn (v:=.ty "int") (by rfl) T.int bt_int rfl) pa_nil))))) (pw_or1 (pt_val (pe_callB call_isi (by rfl) T.isi bt_isinstance (pa_cons (pv 2) (pa_cons (pe_bltn (v:=.ty "bool") (by rfl) T.bool bt_bool rfl) pa_nil))))))) (pss_one (ps_ret pe_bl)) pss_nil)))
     (pss_one (ps_ret (pe_cmpR (op_eqL hr.units0) (pe_ix ix_tup (pv 0) pe_int (λ _ _=>rfl)) (pe_ix ix_tup (pv 1) pe_int (λ _ _=>rfl)) (nomark _)))))))),?_⟩
   refine hidC λ _ ji je=>?_
   refine ⟨_,rfl,f,_,_,.str sw,rfl,rfl,SqT.of hf,rfl,_,rfl,u,_,_,.str sw,rfl,rfl,SqT.of hu,rfl,rfl,_,rfl,?_⟩
   rw [decide_eq_true rfl]
   refine iteF ?_
   refine ⟨_,rfl,f,_,_,v,rfl,rfl,SqT.of hf,rfl,rfl,_,rfl,u,_,_,v',rfl,rfl,SqT.of hu,rfl,rfl,rfl,_,rfl,?_⟩
   rcases hv with ⟨rfl,rfl⟩ | ⟨l,l',xs,rfl,rfl,hl,hl'⟩
   · rw [decide_eq_true rfl]
     refine je _ ?_
     refine hidC λ _ ji je=>?_
     refine ⟨_,rfl,u,_,_,.non,rfl,rfl,SqT.of hu,rfl,rfl,_,rfl,?_⟩
     rw [decide_eq_true rfl]
     exact ji _ k
   · rw [decide_eq_false (show ¬ V.ref l=V.non by intro y; cases y),decide_eq_false (show ¬ V.ref l'=V.non by intro y; cases y),decide_eq_true rfl]
     refine je _ ?_
     refine hidC λ _ ji je=>?_
     refine ⟨_,rfl,u,_,_,.ref l',rfl,rfl,SqT.of hu,rfl,rfl,_,rfl,?_⟩
     rw [decide_eq_false (show ¬ V.ref l'=V.non by intro y; cases y)]
     refine je _ ?_
     refine hidC λ _ ji je=>?_
     refine ⟨_,rfl,f,_,_,.ref l,rfl,rfl,SqT.of hf,rfl,.ref l,"list",_,true,rfl,.lst hl,kit_ll _,true,rfl,je _ ?_⟩
     refine hid λ _ jt=>?_
     refine ⟨_,rfl,f,_,_,.ref l,rfl,rfl,SqT.of hf,rfl,l,rfl,⟨_,SqL.of hl⟩,?_⟩
     refine for_list (K:=K) (a:=l) (xs:=xs.map V.int) (λ i σ H3 => ∃ v2:Option V,σ=[some (.ref f),some (.ref u),v2]∧H3=H) ⟨_,rfl,rfl⟩ (λ i σ H3 _ ⟨_,_,e⟩=>by rw [e]; exact SqL.of hl) ?_ ?_
     · rintro i x σ H3 hx ⟨v2,rfl,rfl⟩
       rw [List.getElem?_map] at hx
       obtain ⟨q,_,rfl⟩:=Option.map_eq_some_iff.mp hx
       refine ⟨_,rfl,.int q,"int",_,true,rfl,.int q,kit_ii _,true,rfl,iteF ?_⟩
       refine ⟨_,rfl,.int q,"bool",_,false,rfl,.int q,kit_ib _,false,rfl,iteF ?_⟩
       exact ⟨_,rfl,rfl⟩
     · rintro σ H3 ⟨v2,rfl,rfl⟩
       refine jt _ _ _ ?_
       refine ⟨_,rfl,f,_,_,.ref l,rfl,rfl,SqT.of hf,rfl,_,rfl,u,_,_,.ref l',rfl,rfl,SqT.of hu,rfl,l,l',_,_,rfl,rfl,SqL.of hl,SqL.of hl',flat_ints _,flat_ints _,?_⟩
       rw [eqLV_ints,decide_eq_true rfl]
       exact k
end
end Rm
namespace Rm
open PySem L2
structure Fit (C:Addr) (H:Hp) (p a b:Addr) (tot:Int) (W Z:Rms):Prop where
 S:Sep C H p a b tot W Z
 cw:conW W=conW Z
 ln:Z.length≤1000
 lm:∀ x∈Z,x.2.2.length≤64
 kg:∀ x∈Z,Lo x.1
theorem Fit.same {C:Addr}{H H':Hp}{p a b:Addr}{tot:Int}{W Z:Rms}(I:Fit C H p a b tot W Z) (s:Same H H'):Fit C H' p a b tot W Z:=⟨I.S.same s,I.cw,I.ln,I.lm,I.kg⟩
def spAll (C:Addr):Sp:=λ vs H Q _ => ∃ (p a b:Addr) (tot:Int) (W Z:Rms),vs=[.ref p,.ref b]∧Fit C H p a b tot W Z∧∀ H',Same H H'→Q (.bl true) H'
section
variable {P:Program}{w:World}{K:PySem.W.Frag}{mg:Str→Option Value}{base:Heap}
theorem scAl:FnScope ["_law_rooms","_law_world","_law_task","_law_page_here"] ["_law_rooms","_law_world"] (defScope sAll):=⟨rfl,rfl,rfl,by decide +kernel,rfl,by decide +kernel,by decide +kernel⟩
set_option maxHeartbeats 4000000 in
theorem ok_all {f C fSa:Addr}{cl4:Ref4→Addr}{fd dSa:FuncData}(F:Fun K "_law_all" "_law_all" sAll f fd) (T:MTxt mg) (M:Kit P w K mg base C cl4)
   (GSa:FnOk P w K mg base CX0 1 fSa dSa ["_law_found","_law_due_here"] spSame) (DSa:Def K mg "_law_same" fSa dSa ["_law_found","_law_due_here"]) :
   FnOk P w K mg base CX0 4 f fd ["_law_rooms","_law_world"] (spAll C):=by
 refine F.ok scAl (λ vs H Q E h=>?_) (λ cdv A outer s H vs Q E hr h=>?_)
 · obtain ⟨p,a,b,tot,W,Z,rfl,_⟩:=h
   rfl
 · obtain ⟨p,a,b,tot,W,Z,rfl,I,k⟩:=h
   have hs:sizeLine=16777216:=sizeLine_eq
   refine ⟨_,(pss_cons (ps_thaw (ps_for PassesOwn.never rfl (pi_dict (pv 1)) (pg_name (i:=2) scAl.nd rfl (Or.inl rfl)) (pss_one (ps_for PassesOwn.never rfl (pi_list (pe_callB (call_sortedK rfl) (by rfl) T.sorted bt_sorted (pa_cons (pe_dget (hu_of hr) (pv 1) (pv 2) (λ _ _=>rfl)) pa_nil))) (pg_name (i:=3) scAl.nd rfl (Or.inl rfl)) (pss_one (ps_if (pt_not (pt_val (pe_call GSa (hr.mono (by decide)) (by rfl) DSa.mg DSa.kp DSa.b .nil pass0 (pa_cons (pe_tup (pa_cons (pe_meth (pv 0) M.cl M.mPe M.GPe (hr.mono (by decide)) M.bPe .nil pass1 (pa_cons (pv 2) (pa_cons (pe_op op_mul pe_int (pv 3)) (pa_cons pe_int pa_nil)))) (pa_cons pe_str pa_nil))) (pa_cons (pe_tup (pa_cons (pe_dget (hu_of hr) (pe_dget (hu_of hr) (pv 1) (pv 2) (λ _ _=>rfl)) (pv 3) (λ _ _=>rfl)) (pa_cons pe_str pa_nil))) pa_nil))))) (pss_one (ps_ret pe_bl)) pss_nil))))))
     (pss_one (ps_ret pe_bl))),?_⟩
   have nPe:(flds tot a).lookup ("peek" : Str)=none:=flds_no _ _ (by decide +kernel) (by decide +kernel)
   have nfb:∀ (o:Obj) u',H b≠some (.frz o u'):=λ o u' z=>by rw [I.S.L.hd] at z; cases z
   refine hid λ _ jt=>?_
   refine ⟨_,rfl,b,_,rfl,I.S.L.hd,nfb,λ ob=>?_⟩
   refine for_dict (kvs:=kvR Z) (λ i σ H2 => ∃ v2 v3:Option V,σ=[some (.ref p),some (.ref b),v2,v3]∧H2 b=some (.frz ob (.dK (kvR Z)))∧Off (· = b) H H2)
     ⟨_,_,rfl,upd_same,λ c u e n=>by rw [upd_ne n]; exact e⟩ (λ i σ H2 _ ⟨_,_,_,h2,_⟩=>h2) ?_ ?_
   · rintro i kk v σ H2 hk ⟨v2,v3,rfl,h2,o2⟩
     have hk':(Z.map λ y:Int×Addr×Room=>((Sum.inl y.1:Key),fR y.2))[i]? = some (kk,v):=hk
     rw [List.getElem?_map] at hk'
     obtain ⟨⟨t,z⟩,hzi,e⟩:=Option.map_eq_some_iff.mp hk'
     cases e
     have hm:=List.mem_of_getElem? hzi
     have hz:look Z t=some z:=look_some I.S.L.nd hm
     have rz:=I.S.L.rm _ hm
     have rzh:H z.1=some (.dK (kvP z.2)):=rz.hd
     have nzb:z.1≠b:=I.S.L.ne _ hm
     have kt:Lo t:=I.kg _ hm
     have hlz:z.2.length≤64:=I.lm _ hm
     have hg2:DGet H2 b (.int t) (some (fR z)):=.inl ⟨kvR Z,Sum.inl t,.inr ⟨ob,h2⟩,rfl,by rw [valV_dk,hz]; rfl⟩
     have h2z:H2 z.1=some (.dK (kvP z.2)):=o2 _ _ rzh nzb
     have hkl:(keysR z.2).length=z.2.length:=by unfold keysR; rw [List.length_map]
     obtain ⟨x,hx',exz⟩:=twin I.cw hz
     have hkk:=twin_keys exz
     refine ⟨_,rfl,_,rfl,b,fR z,rfl,hg2,z.1,_,keysR z.2,rfl,h2z,by unfold keysR kvP dk; rw [List.map_map,List.map_map]; rfl,rz.nd,by lia,λ l1 ns1 hl1 pm _=>?_⟩
     have s1:=same_new (X:=.lst (ns1.map V.int)) hl1
     have el1:(upd H2 l1 (.lst (ns1.map V.int))) l1=some (.lst (ns1.map V.int)):=upd_same
     have h2b:=s1 _ _ h2
     have o2':Off (· = b) H (upd H2 l1 (.lst (ns1.map V.int))):=λ c u e n=>s1 _ _ (o2 _ _ e n)
     generalize upd H2 l1 (.lst (ns1.map V.int))=H3 at *
     refine ⟨l1,rfl,⟨_,SqL.of el1⟩,?_⟩
     refine for_list (K:=K) (a:=l1) (xs:=ns1.map V.int) (λ j σ H4 => ∃ v3:Option V,σ=[some (.ref p),some (.ref b),some (.int t),v3]∧H4 l1=some (.lst (ns1.map V.int))∧H4 b=some (.frz ob (.dK (kvR Z)))∧Off (· = b) H H4) ⟨_,rfl,el1,h2b,o2'⟩ (λ j σ H4 _ ⟨_,_,e,_⟩=>SqL.of e) ?_ ?_
     · rintro j v σ H4 hj ⟨v3,rfl,h4,h4b,o4⟩
       rw [List.getElem?_map] at hj
       obtain ⟨q,hq,rfl⟩:=Option.map_eq_some_iff.mp hj
       have hqk:q∈keysR z.2:=pm.mem_iff.mp (List.mem_of_getElem? hq)
       obtain ⟨y,hy⟩:=keys_look hqk
       have q01:=rz.rg _ (look_mem hy)
       have q0:0≤q:=q01.1
       have q1:q < 64:=q01.2
       have hqx:q∈keysR x.2:=by rw [hkk]; exact hqk
       obtain ⟨yx,hyx⟩:=look_keys.mpr hqx
       have eyx:yx.2=y.2:=by
         have e1:look (con x.2) q=some yx.2:=by rw [look_con,hyx]; rfl
         rw [exz,look_con,hy] at e1
         exact (Option.some.inj e1).symm
       have yx8:yx.2.length=8:=((I.S.D.R.rm _ (look_mem hx')).hr _ (look_mem hyx)).2
       have D4:=I.S.stay o4 (λ c q=>.inl q)
       obtain ⟨dx4,h14⟩:=id D4.ob
       obtain ⟨f1,f2⟩:=one_pageI (q:=q) (at':=0) (n:=8) (by decide) (by decide) (by decide)
       rw [Int.add_zero] at f1 f2
       have hyl:H4 y.1=some (.lst (y.2.map V.int)):=by
         have e1:H y.1=some (.lst (y.2.map V.int)):=(rz.hr _ (look_mem hy)).1
         exact o4 _ _ e1 (λ q=>by rw [q,I.S.L.hd] at e1; cases e1)
       have h4z:H4 z.1=some (.dK (kvP z.2)):=o4 _ _ rzh nzb
       refine hidCL λ _ ji je=>?_
       refine ⟨_,rfl,p,dx4,_,rfl,h14,nPe,_,rfl,_,rfl,_,_,rfl,rfl,.inl ⟨by decide,by decide⟩,p,a,tot,t,8 * q,8,W,rfl,D4,kt,by decide,by rw [f1]; exact big_lo (by lia) (by lia),by rw [f2]; decide,λ w hw=>Nat.le_trans (twin_len I.cw I.lm w hw) (by lia),λ e=>absurd (e.symm.trans hx') (by simp),λ x' hx2 hb=>?_,λ x' hx2 hb H5 l5 s5 nl5 hl5=>?_⟩
       · obtain rfl:x'=x:=Option.some.inj (hx2.symm.trans hx')
         exact absurd hb (one_goodI f1 f2 q0 q1 (by decide) hqx)
       · obtain rfl:x'=x:=Option.some.inj (hx2.symm.trans hx')
         rw [peek_one f1 f2 hyx yx8,eyx] at hl5
         refine ⟨(by show 2≤sizeLine; decide),λ T1 hT1=>?_⟩
         have s6:=same_new (X:=.tup [.ref l5,.str ""]) hT1
         have e6:(upd H5 T1 (.tup [.ref l5,.str ""])) T1=some (.tup [.ref l5,.str ""]):=upd_same
         generalize upd H5 T1 (.tup [.ref l5,.str ""])=H6 at *
         have s46:=s5.trans s6
         have hg6:DGet H6 b (.int t) (some (fR z)):=.inl ⟨kvR Z,Sum.inl t,.inr ⟨ob,s46 _ _ h4b⟩,rfl,by rw [valV_dk,hz]; rfl⟩
         have hy6:DGet H6 z.1 (.int q) (some (fP y)):=by
           have q1:=get_dk (t:=q) (s46 _ _ h4z)
           rw [hy] at q1
           exact q1
         refine ⟨_,rfl,_,rfl,b,fR z,rfl,hg6,_,rfl,z.1,fP y,rfl,hy6,(by show 2≤sizeLine; decide),λ T2 hT2=>?_⟩
         have s7:=same_new (X:=.tup [fP y,.str ""]) hT2
         refine ⟨T1,T2,.ref l5,fP y,"",rfl,s7 _ _ e6,upd_same,.inr ⟨l5,y.1,y.2,rfl,rfl,s7 _ _ (s6 _ _ hl5),s7 _ _ (s46 _ _ hyl)⟩,true,rfl,je _ ?_⟩
         have s47:=s46.trans s7
         exact ⟨_,rfl,s47 _ _ h4,s47 _ _ h4b,λ c u e n=>s47 _ _ (o4 _ _ e n)⟩
     · rintro σ H4 ⟨v3,rfl,h4,h4b,o4⟩
       exact ⟨_,_,rfl,h4b,o4⟩
   · rintro σ H2 ⟨v2,v3,rfl,h2,o2⟩
     refine ⟨b,ob,_,h2,nfb,jt _ _ _ ?_⟩
     have sZ:Same H (upd H2 b (.dK (kvR Z))):=λ c u e=>by
       by_cases q:c=b
       · rw [q,upd_same, ← e,q,I.S.L.hd]
       · rw [upd_ne q]; exact o2 _ _ e q
     exact k _ sZ
end
end Rm
namespace L2
open PySem PySem.Spec PyProof.Rows
def rNeDT (K:PySem.W.Frag) (n:Nat):R2:=λ x y H Q => ∃ p q xs ys,x=.ref p∧y=.ref q∧SqT K H p xs∧SqT K H q ys∧Paired (Deep K H n) xs ys∧Q (.bl false) H
section
variable {X:Cx}
theorem op_neDT (n:Nat) (hu:X.A.units + n + 1 < cLine):OpR X (compareOp .NotEq) (rNeDT X.K n):=by
 intro pins s σ H x y v u Q I rx ry h
 obtain ⟨p,q,xs,ys,rfl,rfl,hx,hy,hp,hq⟩:=h
 cases rx
 cases ry
 obtain ⟨its,r,pl,hz⟩:=I.tuple hx
 obtain ⟨its2,r2,pl2,hz2⟩:=I.tuple hy
 have l1:=r.length
 have l2:=r2.length
 have hl:=pr_len hp
 have hin:X.A.in1.units + n < cLine:=by show X.A.units + 1 + n < cLine; lia
 have ih:∀ {x y:V}{v u:Value},Deep X.K H n x y→RelV x v→RelV y u→SeqAt.EqAt X.A.in1 s v u true:=λ a b c=>deep_eq I n hin a b c
 refine PySem.SeqAt.RcNeAt.tuples (e:=λ _=>true) pl pl2 (by lia) (deep_items r r2 hp ih) _ _ _ _ ⟨.bl false,H,I,?_,hq⟩
 have e:((List.range (min its.toArray.size its2.toArray.size)).all (λ _=>true) && its.toArray.size == its2.toArray.size)=true:=by
   rw [Bool.and_eq_true]
   exact ⟨List.all_eq_true.mpr λ _ _=>rfl,by rw [List.size_toArray,List.size_toArray]; exact beq_iff_eq.mpr (by lia)⟩
 rw [e]
 rfl
end
end L2
namespace Rm
open PySem L2
section
variable {tot:Int}{c c1 c2:Wc}{D:Deed}{X X':Ref4}
theorem one_look {α:Type}{x y:α}{o:Option α}(h:o=some x) (h':o=some y):x=y:=Option.some.inj (h.symm.trans h')
theorem no_look {α:Type}{x:α}{o:Option α}(h:o=none) (h':o=some x):False:=by rw [h] at h'; cases h'
theorem due_good (d:Due tot c D X) (g:Good tot c D c1):False:=by
 cases D with
 | begin t=>obtain ⟨⟨r,h⟩,_⟩:=d; exact no_look g.1 h
 | close t=>obtain ⟨⟨r,h⟩,_⟩:=g; exact no_look d.1 h
 | map t pg m =>
   obtain ⟨r,h,g1,g2,g3,_⟩:=g
   rcases d with ⟨h',_⟩ | ⟨r',h',d⟩
   · exact no_look h' h
   · obtain rfl:=one_look h h'
     rcases d with ⟨a,_⟩ | ⟨_,⟨q,hq,hk⟩,_⟩ | ⟨_,_,a,_⟩
     · exact g1 a
     · exact g2 q hq hk
     · exact g3 a
 | drop t pg m =>
   obtain ⟨r,h,g1,g2,_⟩:=g
   rcases d with ⟨h',_⟩ | ⟨r',h',d,_⟩
   · exact no_look h' h
   · obtain rfl:=one_look h h'
     exact d.elim g1 λ a=>a g2
 | peek t ad n =>
   obtain ⟨r,h,g1,_⟩:=g
   rcases d with ⟨h',_⟩ | ⟨r',h',d,_⟩
   · exact no_look h' h
   · obtain rfl:=one_look h h'
     exact g1 d
 | poke t ad cs =>
   obtain ⟨r,h,g1,_⟩:=g
   rcases d with ⟨h',_⟩ | ⟨r',h',d,_⟩
   · exact no_look h' h
   · obtain rfl:=one_look h h'
     exact g1 d
 | copy t o =>
   obtain ⟨r,h,g1,g2,_⟩:=g
   rcases d with ⟨h',_⟩ | ⟨r',h',d⟩
   · exact no_look h' h
   · obtain rfl:=one_look h h'
     rcases d with ⟨⟨y,a⟩,_⟩ | ⟨_,a,_⟩
     · exact no_look g1 a
     · exact g2 a
theorem due_uniq (d:Due tot c D X) (d':Due tot c D X'):X=X':=by
 cases D with
 | begin t=>exact d.2.trans d'.2.symm
 | close t=>exact d.2.trans d'.2.symm
 | map t pg m =>
   rcases d with ⟨h,e⟩ | ⟨r,h,d⟩
   · rcases d' with ⟨h',e'⟩ | ⟨r',h',_⟩
     · exact e.trans e'.symm
     · exact (no_look h h').elim
   · rcases d' with ⟨h',_⟩ | ⟨r',h',d'⟩
     · exact (no_look h' h).elim
     · obtain rfl:=one_look h h'
       rcases d with ⟨a,e⟩ | ⟨a,⟨q,hq,hk⟩,e⟩ | ⟨a,b,_,e⟩
       · rcases d' with ⟨_,e'⟩ | ⟨a',_⟩ | ⟨a',_⟩
         · exact e.trans e'.symm
         · exact absurd a a'
         · exact absurd a a'
       · rcases d' with ⟨a',_⟩ | ⟨_,_,e'⟩ | ⟨_,b',_⟩
         · exact absurd a' a
         · exact e.trans e'.symm
         · exact absurd hk (b' q hq)
       · rcases d' with ⟨a',_⟩ | ⟨_,⟨q,hq,hk⟩,_⟩ | ⟨_,_,_,e'⟩
         · exact absurd a' a
         · exact absurd hk (b q hq)
         · exact e.trans e'.symm
 | drop t pg m =>
   rcases d with ⟨h,e⟩ | ⟨r,h,_,e⟩
   · rcases d' with ⟨h',e'⟩ | ⟨r',h',_⟩
     · exact e.trans e'.symm
     · exact (no_look h h').elim
   · rcases d' with ⟨h',_⟩ | ⟨r',h',_,e'⟩
     · exact (no_look h' h).elim
     · exact e.trans e'.symm
 | peek t ad n =>
   rcases d with ⟨h,e⟩ | ⟨r,h,_,e⟩
   · rcases d' with ⟨h',e'⟩ | ⟨r',h',_⟩
     · exact e.trans e'.symm
     · exact (no_look h h').elim
   · rcases d' with ⟨h',_⟩ | ⟨r',h',_,e'⟩
     · exact (no_look h' h).elim
     · exact e.trans e'.symm
 | poke t ad cs =>
   rcases d with ⟨h,e⟩ | ⟨r,h,_,e⟩
   · rcases d' with ⟨h',e'⟩ | ⟨r',h',_⟩
     · exact e.trans e'.symm
     · exact (no_look h h').elim
   · rcases d' with ⟨h',_⟩ | ⟨r',h',_,e'⟩
     · exact (no_look h' h).elim
     · exact e.trans e'.symm
 | copy t o =>
   rcases d with ⟨h,e⟩ | ⟨r,h,d⟩
   · rcases d' with ⟨h',e'⟩ | ⟨r',h',_⟩
     · exact e.trans e'.symm
     · exact (no_look h h').elim
   · rcases d' with ⟨h',_⟩ | ⟨r',h',d'⟩
     · exact (no_look h' h).elim
     · rcases d with ⟨⟨y,a⟩,e⟩ | ⟨a,_,e⟩
       · rcases d' with ⟨_,e'⟩ | ⟨a',_⟩
         · exact e.trans e'.symm
         · exact (no_look a' a).elim
       · rcases d' with ⟨⟨y,a'⟩,_⟩ | ⟨_,_,e'⟩
         · exact (no_look a a').elim
         · exact e.trans e'.symm
theorem good_uniq (g:Good tot c D c1) (g':Good tot c D c2):c1=c2:=by
 cases D with
 | begin t=>exact g.2.trans g'.2.symm
 | close t=>exact g.2.trans g'.2.symm
 | map t pg m=>obtain ⟨r,h,_,_,_,e⟩:=g; obtain ⟨r',h',_,_,_,e'⟩:=g'; obtain rfl:=one_look h h'; exact e.trans e'.symm
 | drop t pg m=>obtain ⟨r,h,_,_,e⟩:=g; obtain ⟨r',h',_,_,e'⟩:=g'; obtain rfl:=one_look h h'; exact e.trans e'.symm
 | peek t ad n=>obtain ⟨r,h,_,e⟩:=g; obtain ⟨r',h',_,e'⟩:=g'; exact e.trans e'.symm
 | poke t ad cs=>obtain ⟨r,h,_,e⟩:=g; obtain ⟨r',h',_,e'⟩:=g'; obtain rfl:=one_look h h'; exact e.trans e'.symm
 | copy t o=>obtain ⟨r,h,_,_,e⟩:=g; obtain ⟨r',h',_,_,e'⟩:=g'; obtain rfl:=one_look h h'; exact e.trans e'.symm
theorem good_keys (lg:Lg D) (g:Good tot c D c1):c1.length≤c.length + 1∧((∀ x∈c,Lo x.1)→∀ x∈c1,Lo x.1):=by
 have st:∀ {t:Int}{r:List (Int×List Int)},Lo t→(setA c t r).length≤c.length + 1∧((∀ x∈c,Lo x.1)→∀ x∈setA c t r,Lo x.1):=λ {t r} lt=>⟨by unfold setA; rw [List.length_map]; lia,λ h x hx=>(setA_mem hx).elim (λ e=>by rw [e]; exact lt) λ a=>h x a.1⟩
 have ad:∀ {t:Int}{r:List (Int×List Int)},Lo t→(c ++ [(t,r)]).length≤c.length + 1∧((∀ x∈c,Lo x.1)→∀ x∈c ++ [(t,r)],Lo x.1):=λ {t r} lt=>⟨by rw [List.length_append]; exact Nat.le_refl _,λ h x hx=>(List.mem_append.mp hx).elim (h x) λ a=>by rw [List.mem_singleton.mp a]; exact lt⟩
 cases D with
 | begin t=>obtain ⟨_,rfl⟩:=g; exact ad lg
 | close t=>obtain ⟨_,rfl⟩:=g; exact ⟨Nat.le_trans (List.length_filter_le _ _) (by lia),λ h x hx=>h x (List.mem_filter.mp hx).1⟩
 | map t pg m=>obtain ⟨r,_,_,_,_,rfl⟩:=g; exact st lg.1
 | drop t pg m=>obtain ⟨r,_,_,_,rfl⟩:=g; exact st lg.1
 | peek t ad n=>obtain ⟨r,_,_,rfl⟩:=g; exact ⟨by lia,id⟩
 | poke t ad cs=>obtain ⟨r,_,_,rfl⟩:=g; exact st lg.1
 | copy t o=>obtain ⟨r,_,_,_,rfl⟩:=g; exact ad lg.2
end
theorem few_ints:∀ (n:Nat) (l:List Int),l.Nodup→(∀ x∈l,0≤x∧x < n)→l.length≤n
 | 0,l,_,h=>by
   cases l with
   | nil=>exact Nat.le_refl _
   | cons x l=>have:=h x (List.mem_cons_self ..); lia
 | n + 1,l,nd,h=>by
   have ih:=few_ints n (l.filter λ x:Int=>decide (x≠(n:Int))) (nd.sublist List.filter_sublist) λ x hx=>by
     obtain ⟨h1,h2⟩:=List.mem_filter.mp hx
     have:=h x h1
     have:x≠n:=of_decide_eq_true h2
     lia
   have key:∀ l:List Int,l.Nodup→l.length≤(l.filter λ x:Int=>decide (x≠(n:Int))).length + 1:=by
     intro l
     induction l with
     | nil=>intro _; exact Nat.zero_le _
     | cons x l ih =>
       intro nd
       obtain ⟨n1,n2⟩:=List.nodup_cons.mp nd
       by_cases e:x=n
       · have fe:(l.filter λ x:Int=>decide (x≠(n:Int)))=l:=List.filter_eq_self.mpr λ y hy=>decide_eq_true (show y≠(n:Int) from λ q=>n1 (by rw [e, ← q]; exact hy))
         rw [List.filter_cons_of_neg (by simpa using e),fe]
         exact Nat.le_refl _
       · rw [List.filter_cons_of_pos (by simpa using e),List.length_cons,List.length_cons]
         exact Nat.succ_le_succ (ih n2)
   have:=key l nd
   lia
theorem RoomAt.len {H:Hp}{a:Addr}{R:Room}(r:RoomAt H a R):R.length≤64:=by
 have:=few_ints 64 (R.map (·.1)) r.nd λ x hx=>by
   obtain ⟨y,hy,rfl⟩:=List.mem_map.mp hx
   exact r.rg y hy
 rw [List.length_map] at this
 exact this
theorem Sep.lst {C:Addr}{H:Hp}{p a b l:Addr}{tot:Int}{W Z:Rms}{xs ys:List V}(S:Sep C H p a b tot W Z) (hl:H l=some (.lst xs)) (nW:¬ Adr W l) (nZ:¬ Adr Z l):Sep C (upd H l (.lst ys)) p a b tot W Z:=by
 have o:Off (· = l) H (upd H l (.lst ys)):=λ c u e nc=>by rw [upd_ne nc]; exact e
 obtain ⟨dx,h1⟩:=id S.D.ob
 have nd:∀ {c:Addr}{kvs:List (Key×V)},H c=some (.dK kvs)→¬ c=l:=λ {c kvs} h e=>by rw [e,hl] at h; cases h
 exact ⟨S.D.offG o (λ e=>by rw [e,hl] at h1; cases h1) (nd S.D.R.hd) (λ x hx=>nd (S.D.R.rm x hx).hd) (λ x hx y hy e=>nW ⟨x,hx,y,hy,e⟩),
   S.L.offG o (nd S.L.hd) (λ x hx=>nd (S.L.rm x hx).hd) (λ x hx y hy e=>nZ ⟨x,hx,y,hy,e⟩),S.inj,S.al,S.ar,S.ab,S.a1,S.b1⟩
end Rm
namespace Rm
open PySem L2
def spLaw (K:PySem.W.Frag):Sp:=λ vs H Q _ => ∃ (a:Addr) (ns:List Int),vs=[.ref a]∧SqL K H a (ns.map V.int)∧ns.length≤63∧∀ H',Q (.bl true) H'
theorem poke_of {D:Deed}(h:kindOf D = "poke"):∃ t ad cs,D=.poke t ad cs:=by
 cases D with
 | poke t ad cs=>exact ⟨t,ad,cs,rfl⟩
 | begin t=>exact absurd h (by show ¬ ("begin" : Str) = "poke"; decide +kernel)
 | close t=>exact absurd h (by show ¬ ("close" : Str) = "poke"; decide +kernel)
 | map t pg m=>exact absurd h (by show ¬ ("map" : Str) = "poke"; decide +kernel)
 | drop t pg m=>exact absurd h (by show ¬ ("drop" : Str) = "poke"; decide +kernel)
 | peek t ad n=>exact absurd h (by show ¬ ("peek" : Str) = "poke"; decide +kernel)
 | copy t o=>exact absurd h (by show ¬ ("copy" : Str) = "poke"; decide +kernel)
def HandAt (H:Hp) (h d c c2:Addr):Deed→Prop
 | .poke t ad cs=>H d=some (.tup [.str "poke",.int t,.int ad,.ref c])∧H c=some (.lst (cs.map V.int))∧H h=some (.tup [.str "poke",.int t,.int ad,.ref c2])∧H c2=some (.lst (cs.map V.int))∧c2≠c
 | D=>h=d∧DeedAt H d D
section
variable {H H':Hp}{h d c c2:Addr}{D:Deed}{Z:Rms}{b:Addr}
theorem HandAt.keep (k:∀ q o,H q=some o→(∀ kvs,o≠.dK kvs)→¬ Adr Z q→H' q=some o) (L:RmsAt H b Z) (nc:¬ Adr Z c) (nc2:¬ Adr Z c2) (ha:HandAt H h d c c2 D):HandAt H' h d c c2 D:=by
 have kt:∀ {q:Addr}{xs:List V},H q=some (.tup xs)→H' q=some (.tup xs):=λ {q xs} e=>k _ _ e (λ _ y=>by cases y) (tup_ne e L)
 have kl:∀ {q:Addr}{xs:List V},H q=some (.lst xs)→¬ Adr Z q→H' q=some (.lst xs):=λ {q xs} e n=>k _ _ e (λ _ y=>by cases y) n
 cases D with
 | poke t ad cs=>obtain ⟨h1,h2,h3,h4,h5⟩:=ha; exact ⟨kt h1,kl h2 nc,kt h3,kl h4 nc2,h5⟩
 | _=>exact ⟨ha.1,kt ha.2⟩
theorem HandAt.out (ha:HandAt H h d c c2 D) (nc:¬ Adr Z c):DeedOut H Z d D:=by
 cases D with
 | poke t ad cs=>exact ⟨c,ha.1,ha.2.1,nc⟩
 | _=>exact ha.2
theorem HandAt.at (ha:HandAt H h d c c2 D):DeedAt H h D:=by
 cases D with
 | poke t ad cs=>exact ⟨c2,ha.2.2.1,ha.2.2.2.1⟩
 | _=>rw [ha.1]; exact ha.2
theorem deep_ints {K:PySem.W.Frag}:∀ cs:List Int,Paired (Deep K H 0) (cs.map V.int) (cs.map V.int)
 | []=>.nil
 | x :: cs=>.cons ⟨rfl,rfl⟩ (deep_ints cs)
theorem HandAt.deep {K:PySem.W.Frag}(ha:HandAt H h d c c2 D):∃ xs ys,H h=some (.tup xs)∧H d=some (.tup ys)∧Paired (Deep K H 1) xs ys:=by
 have f:∀ {x:V},flatV x=true→Deep K H 1 x x:=λ e=>.inl ⟨rfl,e⟩
 cases D with
 | poke t ad cs =>
   obtain ⟨h1,h2,h3,h4,h5⟩:=ha
   exact ⟨_,_,h3,h1,.cons (f rfl) (.cons (f rfl) (.cons (f rfl) (.cons (.inr ⟨c2,c,_,_,rfl,rfl,h5,.inl ⟨SqL.of h4,SqL.of h2⟩,deep_ints cs⟩) .nil)))⟩
 | begin t=>obtain ⟨rfl,e⟩:=ha; exact ⟨_,_,e,e,.cons (f rfl) (.cons (f rfl) .nil)⟩
 | close t=>obtain ⟨rfl,e⟩:=ha; exact ⟨_,_,e,e,.cons (f rfl) (.cons (f rfl) .nil)⟩
 | map t pg m=>obtain ⟨rfl,e⟩:=ha; exact ⟨_,_,e,e,.cons (f rfl) (.cons (f rfl) (.cons (f rfl) (.cons (f rfl) .nil)))⟩
 | drop t pg m=>obtain ⟨rfl,e⟩:=ha; exact ⟨_,_,e,e,.cons (f rfl) (.cons (f rfl) (.cons (f rfl) (.cons (f rfl) .nil)))⟩
 | peek t ad n=>obtain ⟨rfl,e⟩:=ha; exact ⟨_,_,e,e,.cons (f rfl) (.cons (f rfl) (.cons (f rfl) (.cons (f rfl) .nil)))⟩
 | copy t o=>obtain ⟨rfl,e⟩:=ha; exact ⟨_,_,e,e,.cons (f rfl) (.cons (f rfl) (.cons (f rfl) .nil))⟩
theorem HandAt.kind (ha:HandAt H h d c c2 D):∃ r,H d=some (.tup (.str (kindOf D) :: r)):=by
 cases D with
 | poke t ad cs=>exact ⟨_,ha.1⟩
 | _=>exact ⟨_,ha.2⟩
end
structure Lp (C:Addr) (H:Hp) (p a b l2 l5:Addr) (tot:Int) (n:Nat) (ts xs:List V) (W Z:Rms):Prop where
 I:Fit C H p a b tot W Z
 ln:Z.length≤n
 t2:H l2=some (.lst ts)
 n2:¬ Adr Z l2
 t5:H l5=some (.lst xs)
 n5:¬ Adr Z l5
theorem Lp.same {C:Addr}{H H':Hp}{p a b l2 l5:Addr}{tot:Int}{n:Nat}{ts xs:List V}{W Z:Rms}(L:Lp C H p a b l2 l5 tot n ts xs W Z) (s:Same H H'):Lp C H' p a b l2 l5 tot n ts xs W Z:=⟨L.I.same s,L.ln,s _ _ L.t2,L.n2,s _ _ L.t5,L.n5⟩
theorem Lp.lst {C:Addr}{H:Hp}{p a b l2 l5 l:Addr}{tot:Int}{n:Nat}{ts xs us vs:List V}{W Z:Rms}(L:Lp C H p a b l2 l5 tot n ts xs W Z) (hl:H l=some (.lst us)) (nW:¬ Adr W l) (nZ:¬ Adr Z l) (e2:l≠l2) (e5:l≠l5):Lp C (upd H l (.lst vs)) p a b l2 l5 tot n ts xs W Z :=
 ⟨⟨L.I.S.lst hl nW nZ,L.I.cw,L.I.ln,L.I.lm,L.I.kg⟩,L.ln,by rw [upd_ne (Ne.symm e2)]; exact L.t2,L.n2,by rw [upd_ne (Ne.symm e5)]; exact L.t5,L.n5⟩
def Apart (H:Hp) (W Z:Rms) (l2 l5 h:Addr) (D:Deed):Prop:=kindOf D = "poke" → ∃ (c2:Addr) (xs:List V) (t ad:Int),H h=some (.tup [.str "poke",.int t,.int ad,.ref c2])∧H c2=some (.lst xs)∧xs.length≤64∧¬ Adr W c2∧¬ Adr Z c2∧c2≠l2∧c2≠l5
theorem hand_of {H:Hp}{d c c2:Addr}{D:Deed}(hp:¬ kindOf D = "poke") (h:DeedAt H d D):HandAt H d d c c2 D:=by
 cases D with
 | poke t ad cs=>exact absurd rfl hp
 | _=>exact ⟨rfl,h⟩
theorem share3 {t1 t2 t3:TS}{D:Ends}{σ:St}{H:Hp}(Pr:St→Hp→Prop) (mk:∀ u3:TS,(∀ σ H,Pr σ H→u3 D σ H)→tSeq t1 (tSeq t2 u3) D σ H) (h:∀ σ H,Pr σ H→t3 D σ H):tSeq t1 (tSeq t2 t3) D σ H:=mk t3 h
theorem peek_len {tot:Int}{c c':Wc}{t ad n:Int}{r:List (Int×List Int)}(g:Good tot c (.peek t ad n) c'):(peekK r ad n).length≤512:=by
 obtain ⟨r',_,g2,_⟩:=g
 unfold peekK
 rw [List.length_take]
 have n0:¬ n < 0:=λ y=>g2 (.inl y)
 by_cases z0:n=0
 · lia
 · have this:¬ noPages (cFst ad) (cCnt ad n):=λ y=>g2 (.inr ⟨by lia,.inl y⟩)
   unfold noPages cFst cCnt at this
   lia
theorem Lp.grow {C:Addr}{H:Hp}{p a b l2 l5:Addr}{tot:Int}{n m:Nat}{ts xs:List V}{W Z:Rms}(L:Lp C H p a b l2 l5 tot n ts xs W Z) (h:n≤m):Lp C H p a b l2 l5 tot m ts xs W Z:=⟨L.I,Nat.le_trans L.ln h,L.t2,L.n2,L.t5,L.n5⟩
theorem no_adr {H:Hp}{b:Addr}{Z:Rms}{l:Addr}(L:RmsAt H b Z) (h:H l=none):¬ Adr Z l:=λ y=>by obtain ⟨xs,e⟩:=L.lst y; rw [h] at e; cases e
end Rm
namespace Rm
open PySem L2
section
variable {P:Program}{w:World}{K:PySem.W.Frag}{mg:Str→Option Value}{base:Heap}
theorem scLaw:FnScope ["_law_script","_law_first","_law_digits","_law_tasks_here","_law_total","_law_rooms","_law_world","_law_k","_law_cell","_law_deed_here","_law_handed","_law_found"] ["_law_script"] (defScope sLaw):=⟨rfl,rfl,rfl,by decide +kernel,rfl,by decide +kernel,by decide +kernel⟩
set_option maxHeartbeats 8000000 in
theorem ok_law {f C fI fNu fTs fDe fTo fSa fDu fHl fAl:Addr}{cl4:Ref4→Addr}{fd dI dNu dTs dDe dTo dSa dDu dHl dAl:FuncData}(F:Fun K "law" "law" sLaw f fd) (T:MTxt mg) (M:Kit P w K mg base C cl4)
   (mgC:mg "PlainRooms" = some (.ref C)) (MK:Mk K C fI) (GI:FnOk P w K mg base CX0 1 fI dI ["self","total"] (spInit C)) (bI:Binds K dI ["self","total"] [])
   (GNu:FnOk P w K mg base CX0 1 fNu dNu ["_law_cell","_law_k","_law_digits"] spNumber) (DNu:Def K mg "_law_number" fNu dNu ["_law_cell","_law_k","_law_digits"])
   (GTs:FnOk P w K mg base CX0 1 fTs dTs ["_law_cell"] spTasks) (DTs:Def K mg "_law_tasks" fTs dTs ["_law_cell"])
   (GDe:FnOk P w K mg base CX0 2 fDe dDe ["_law_number_here","_law_tasks_here"] spDeed) (DDe:Def K mg "_law_deed" fDe dDe ["_law_number_here","_law_tasks_here"])
   (GTo:FnOk P w K mg base CX0 5 fTo dTo ["_law_rooms","_law_deed_here"] (spTold C)) (DTo:Def K mg "_law_told" fTo dTo ["_law_rooms","_law_deed_here"])
   (GSa:FnOk P w K mg base CX0 1 fSa dSa ["_law_found","_law_due_here"] spSame) (DSa:Def K mg "_law_same" fSa dSa ["_law_found","_law_due_here"])
   (GDu:FnOk P w K mg base CX0 4 fDu dDu ["_law_world","_law_total","_law_deed_here"] (spDue C)) (DDu:Def K mg "_law_due" fDu dDu ["_law_world","_law_total","_law_deed_here"])
   (GHl:FnOk P w K mg base CX0 1 fHl dHl ["_law_world"] spHeldL) (DHl:Def K mg "_law_held" fHl dHl ["_law_world"])
   (GAl:FnOk P w K mg base CX0 4 fAl dAl ["_law_rooms","_law_world"] (spAll C)) (DAl:Def K mg "_law_all" fAl dAl ["_law_rooms","_law_world"]) :
   FnOk P w K mg base CX0 6 f fd ["_law_script"] (spLaw K):=by
 refine F.ok scLaw (λ vs H Q E h=>?_) (λ cdv A outer s H vs Q E hr h=>?_)
 · obtain ⟨a,ns,rfl,_⟩:=h
   rfl
 · obtain ⟨sc,ns,rfl,hsc,hns,k⟩:=h
   have hs:sizeLine=16777216:=sizeLine_eq
   have g_sum:(defScope sLaw).names.lookup ("sum" : Str)=some NameKind.globalImplicit:=by decide +kernel
   have g__law_tasks:(defScope sLaw).names.lookup ("_law_tasks" : Str)=some NameKind.globalImplicit:=by decide +kernel
   have g_PlainRooms:(defScope sLaw).names.lookup ("PlainRooms" : Str)=some NameKind.globalImplicit:=by decide +kernel
   have g_range:(defScope sLaw).names.lookup ("range" : Str)=some NameKind.globalImplicit:=by decide +kernel
   have g_enumerate:(defScope sLaw).names.lookup ("enumerate" : Str)=some NameKind.globalImplicit:=by decide +kernel
   have g__law_deed:(defScope sLaw).names.lookup ("_law_deed" : Str)=some NameKind.globalImplicit:=by decide +kernel
   have g__law_number:(defScope sLaw).names.lookup ("_law_number" : Str)=some NameKind.globalImplicit:=by decide +kernel
   have g_list:(defScope sLaw).names.lookup ("list" : Str)=some NameKind.globalImplicit:=by decide +kernel
   have g__law_told:(defScope sLaw).names.lookup ("_law_told" : Str)=some NameKind.globalImplicit:=by decide +kernel
   have g__law_same:(defScope sLaw).names.lookup ("_law_same" : Str)=some NameKind.globalImplicit:=by decide +kernel
   have g__law_due:(defScope sLaw).names.lookup ("_law_due" : Str)=some NameKind.globalImplicit:=by decide +kernel
   have g_len:(defScope sLaw).names.lookup ("len" : Str)=some NameKind.globalImplicit:=by decide +kernel
   have g__law_held:(defScope sLaw).names.lookup ("_law_held" : Str)=some NameKind.globalImplicit:=by decide +kernel
   have g__law_all:(defScope sLaw).names.lookup ("_law_all" : Str)=some NameKind.globalImplicit:=by decide +kernel
   refine ⟨_,(pss_cons (ps_set (i:=1) scLaw.nd rfl (Or.inl rfl) (pe_callB (call_sum rfl) g_sum T.sum bt_sum (pa_cons (pe_slice sl_list (pv 0) po_none (po_some pe_int)) pa_nil)))
     (pss_cons (ps_set (i:=2) scLaw.nd rfl (Or.inl rfl) (pe_cmpR op_eq (pe_op op_mod (pv 1) pe_int) pe_int (nomark _)))
     (pss_cons (ps_set (i:=3) scLaw.nd rfl (Or.inl rfl) (pe_call GTs (hr.mono (by decide)) g__law_tasks DTs.mg DTs.kp DTs.b .nil pass0 (pa_cons (pe_op op_fdiv (pv 1) pe_int) pa_nil)))
     (pss_cons (ps_set (i:=4) scLaw.nd rfl (Or.inl rfl) (pe_ix ix_list (pe_lst (pa_cons (pe_op op_add pe_int (pe_op op_mod (pe_op op_fdiv (pv 1) pe_int) pe_int)) (pa_cons (pe_op op_add pe_int (pe_op op_mod (pe_op op_fdiv (pv 1) pe_int) pe_int)) pa_nil))) (pe_op op_fdiv (pe_op op_mod (pe_op op_fdiv (pv 1) pe_int) pe_int) pe_int) (λ _ _=>rfl)))
     (pss_cons (ps_set (i:=5) scLaw.nd rfl (Or.inl rfl) (pe_make MK GI (hr.mono (by decide)) g_PlainRooms mgC bI .nil pass0 (pa_cons (pv 4) pa_nil)))
     (pss_cons (ps_set (i:=6) scLaw.nd rfl (Or.inl rfl) pe_dnewK)
     (pss_cons (ps_for PassesOwn.never rfl (pi_range1 g_range T.range (pa_cons (pe_op op_add pe_int (pe_op op_mod (pe_op op_fdiv (pv 1) pe_int) pe_int)) pa_nil)) (pg_name (i:=7) scLaw.nd rfl (Or.inl rfl)) (pss_cons (ps_expr (pe_meth (pv 5) M.cl M.mBe M.GBe (hr.mono (by decide)) M.bBe .nil pass1 (pa_cons (pe_ix ix_list (pv 3) (pv 7) (λ _ _=>rfl)) pa_nil)))
     (pss_one (ps_dput (hu_of hr) (pv 6) (pe_ix ix_list (pv 3) (pv 7) (λ _ _=>rfl)) pe_dnewK rfl))))
     (pss_cons (ps_for PassesOwn.never rfl (pi_enum g_enumerate T.enumerate (pa_cons (pe_slice sl_list (pv 0) po_none (po_some pe_int)) pa_nil)) (pg_tup rfl (pgs_cons (pg_name (i:=7) scLaw.nd rfl (Or.inl rfl)) (pgs_cons (pg_name (i:=8) scLaw.nd rfl (Or.inl rfl)) pgs_nil))) (pss_cons (ps_set (i:=9) scLaw.nd rfl (Or.inl rfl) (pe_call GDe (hr.mono (by decide)) g__law_deed DDe.mg DDe.kp DDe.b .nil pass0 (pa_cons (pe_call GNu (hr.mono (by decide)) g__law_number DNu.mg DNu.kp DNu.b .nil pass0 (pa_cons (pv 8) (pa_cons (pv 7) (pa_cons (pv 2) pa_nil)))) (pa_cons (pv 3) pa_nil))))
     (pss_cons (ps_set (i:=10) scLaw.nd rfl (Or.inl rfl) (pv 9))
     (pss_cons (ps_if (pt_cmpR op_eq (pe_ix ix_tup (pv 9) pe_int (λ _ _=>rfl)) pe_str (nomark _)) (pss_one (ps_set (i:=10) scLaw.nd rfl (Or.inl rfl) (pe_tup (pa_cons (pe_ix ix_tup (pv 9) pe_int (λ _ _=>rfl)) (pa_cons (pe_ix ix_tup (pv 9) pe_int (λ _ _=>rfl)) (pa_cons (pe_ix ix_tup (pv 9) pe_int (λ _ _=>rfl)) (pa_cons (pe_callTy call_list_of g_list T.list bt_list (pa_cons (pe_ix ix_tup (pv 9) pe_int (λ _ _=>rfl)) pa_nil)) pa_nil))))))) pss_nil)
     (pss_cons (ps_set (i:=11) scLaw.nd rfl (Or.inl rfl) (pe_call GTo (hr.mono (by decide)) g__law_told DTo.mg DTo.kp DTo.b .nil pass0 (pa_cons (pv 5) (pa_cons (pv 10) pa_nil))))
     (pss_cons (ps_if (PW.pt (pw_or (pt_not (pt_val (pe_call GSa (hr.mono (by decide)) g__law_same DSa.mg DSa.kp DSa.b .nil pass0 (pa_cons (pv 11) (pa_cons (pe_call GDu (hr.mono (by decide)) g__law_due DDu.mg DDu.kp DDu.b .nil pass0 (pa_cons (pv 6) (pa_cons (pv 4) (pa_cons (pv 9) pa_nil)))) pa_nil))))) (pw_or1 (pt_cmpR (op_neDT 1 (Nat.lt_of_le_of_lt (Nat.add_le_add_left (by decide:2≤64) _) hr.units)) (pv 10) (pv 9) (nomark _))))) (pss_one (ps_ret pe_bl)) pss_nil)
     (pss_cons (ps_if (pt_cmpR op_notN (pe_ix ix_tup (pv 11) pe_int (λ _ _=>rfl)) pe_non (nomark _)) (pss_cons (ps_expr (pe_bm PySem.F.plainAttrs_list PySem.F.slot_list_append PySem.F.type_list_append mt_append (pe_ix ix_tup (pv 11) pe_int (λ _ _=>rfl)) (pa_cons pe_int pa_nil)))
     (pss_one (ps_if (pt_cmpR op_gt (pe_callB call_len_seq g_len T.len PySem.boot_len (pa_cons (pe_ix ix_tup (pv 11) pe_int (λ _ _=>rfl)) pa_nil)) pe_int (nomark _)) (pss_one (ps_asg pe_int (pg_sub (pe_ix ix_tup (pv 11) pe_int (λ _ _=>rfl)) pe_int set_list))) pss_nil))) pss_nil)
     (pss_cons (ps_if (pt_cmpR op_eq (pe_ix ix_tup (pv 9) pe_int (λ _ _=>rfl)) pe_str (nomark _)) (pss_cons (ps_expr (pe_bm PySem.F.plainAttrs_list PySem.F.slot_list_append PySem.F.type_list_append mt_append (pe_ix ix_tup (pv 10) pe_int (λ _ _=>rfl)) (pa_cons pe_int pa_nil)))
     (pss_one (ps_asg pe_int (pg_sub (pe_ix ix_tup (pv 10) pe_int (λ _ _=>rfl)) pe_int set_list)))) pss_nil)
     (pss_one (ps_if (pt_cmpR op_ne (pe_meth0 (pv 5) M.cl M.mH M.GH (hr.mono (by decide)) M.bH .nil pass0) (pe_call GHl (hr.mono (by decide)) g__law_held DHl.mg DHl.kp DHl.b .nil pass0 (pa_cons (pv 6) pa_nil)) (nomark _)) (pss_one (ps_ret pe_bl)) pss_nil))))))))))
     (pss_one (ps_ret (pe_call GAl (hr.mono (by decide)) g__law_all DAl.mg DAl.kp DAl.b .nil pass0 (pa_cons (pv 5) (pa_cons (pv 6) pa_nil))))))))))))),?_⟩
   have ec:∀ n:Nat,cutV (ns.map V.int) none (some (n:Int))=(ns.take n).map V.int:=λ n=>cut_to
   have ec1:cutV (ns.map V.int) none (some 1)=(ns.take 1).map V.int:=ec 1
   have ec63:cutV (ns.map V.int) none (some 63)=(ns.take 63).map V.int:=ec 63
   refine hidN λ _ jt=>?_
   refine ⟨_,rfl,_,rfl,sc,_,rfl,hsc,λ l1 hl1=>?_⟩
   rw [ec1]
   have s1:=same_new (X:=.lst ((ns.take 1).map V.int)) hl1
   refine ⟨l1,ns.take 1,rfl,SqL.of upd_same,?_⟩
   generalize (ns.take 1).sum=fs
   generalize upd H l1 (.lst ((ns.take 1).map V.int))=H1 at *
   refine jt _ _ ?_
   refine hidN λ _ jt=>?_
   refine ⟨_,rfl,_,_,rfl,rfl,(by show (0:Int) < 2; decide),rfl,jt _ _ ?_⟩
   generalize decide (V.int (fs % 2)=V.int 0)=dg
   refine hidN λ _ jt=>?_
   refine ⟨_,rfl,_,_,rfl,rfl,⟨by decide,by decide⟩,fs / 2,rfl,λ k3 k4 H2 l2 u1 u2 u3 u4 s2 nl2 hl2=>jt _ _ ?_⟩
   have i0:0≤fs / 22 % 4 / 3:=by lia
   have i1:fs / 22 % 4 / 3 < (([2 + fs / 2 % 11,2 + fs / 2 % 99]:List Int).length:Int):=by show fs / 22 % 4 / 3 < 2; lia
   obtain ⟨tot,htot,etot⟩:=atI_of (xs:=[2 + fs / 2 % 11,2 + fs / 2 % 99]) i0 i1
   have bt:2≤tot∧tot≤100:=by
     rcases List.mem_cons.mp htot with e | e
     · lia
     · have:=List.mem_singleton.mp e
       lia
   refine hidN λ _ jt=>?_
   refine ⟨_,rfl,_,_,rfl,rfl,⟨by decide,by decide⟩,_,_,rfl,rfl,(by show (0:Int) < 11; decide),_,_,rfl,rfl,_,rfl,_,_,rfl,rfl,⟨by decide,by decide⟩,_,_,rfl,rfl,(by show (0:Int) < 99; decide),_,_,rfl,rfl,(by show 2≤sizeLine; decide),λ l3 hl3=>⟨_,rfl,_,_,rfl,rfl,⟨by decide,by decide⟩,_,_,rfl,rfl,(by show (0:Int) < 4; decide),_,_,rfl,rfl,⟨by decide,by decide⟩,l3,_,_,.int tot,rfl,rfl,SqL.of upd_same,etot,jt _ _ ?_⟩⟩
   have s3:=same_new (X:=.lst ([2 + fs / 2 % 11,2 + fs / 2 % 99].map V.int)) hl3
   refine hidN λ _ jt=>?_
   refine ⟨_,rfl,λ p dx np ndx ne0=>⟨p,dx,_,rfl,upd_same,λ H5 a ha D5 o5=>⟨rfl,jt _ _ ?_⟩⟩⟩
   have s04:Same H (upd H2 l3 (.lst ([2 + fs / 2 % 11,2 + fs / 2 % 99].map V.int))):=(s1.trans s2).trans s3
   have hl24:(upd H2 l3 (.lst ([2 + fs / 2 % 11,2 + fs / 2 % 99].map V.int))) l2=some (.lst ([1,2,k3,k4].map V.int)):=s3 _ _ hl2
   have np':(upd H2 l3 (.lst ([2 + fs / 2 % 11,2 + fs / 2 % 99].map V.int))) p=none:=np
   have ndx':(upd H2 l3 (.lst ([2 + fs / 2 % 11,2 + fs / 2 % 99].map V.int))) dx=none:=ndx
   have ha':(upd (upd (upd H2 l3 (.lst ([2 + fs / 2 % 11,2 + fs / 2 % 99].map V.int))) dx (.own p)) p (.ins C dx [])) a=none:=ha
   have o5':Off (· = p) (upd (upd (upd H2 l3 (.lst ([2 + fs / 2 % 11,2 + fs / 2 % 99].map V.int))) dx (.own p)) p (.ins C dx [])) H5:=o5
   generalize upd H2 l3 (.lst ([2 + fs / 2 % 11,2 + fs / 2 % 99].map V.int))=H4 at *
   have s0:Same H4 (upd (upd H4 dx (.own p)) p (.ins C dx [])):=λ b u e=>by rw [upd_ne (ne_of_none e np'),upd_ne (ne_of_none e ndx')]; exact e
   have s45:Same H4 H5:=λ b u e=>o5' b u (s0 _ _ e) (ne_of_none e np')
   have h4a:H4 a=none:=s0.free ha'
   have hl25:=s45 _ _ hl24
   have s05:=s04.trans s45
   have h0a:H a=none:=s04.free h4a
   refine hidN λ _ jt=>?_
   intro b hb
   have sb:=same_new (X:=.dK []) hb
   have eb:(upd H5 b (.dK [])) b=some (.dK []):=upd_same
   have nab:a≠b:=ne_of_none D5.R.hd hb
   have h0b:H b=none:=s05.free hb
   have S6:Sep C (upd H5 b (.dK [])) p a b tot [] []:=⟨D5.same sb,⟨eb,(λ _ h=>nomatch h),List.nodup_nil,List.nodup_nil,(λ _ h=>nomatch h)⟩,(λ _ h=>nomatch h),(λ c _ h=>by obtain ⟨x,hx,_⟩:=h; cases hx),(λ x h=>nomatch h),nab,(λ _ h=>nomatch h),(λ x h=>nomatch h)⟩
   have s06:=s05.trans sb
   have hl26:=sb _ _ hl25
   have h5l2:l2≠a:=λ e=>by rw [e,D5.R.hd] at hl25; cases hl25
   refine jt _ _ ?_
   clear s1 s2 s3 s04 s0 s45 o5 o5' ha ha' np np' ndx ndx' ne0 hl1 hl3 hl24 s05 nl2 hl2
   generalize upd H5 b (.dK [])=H6 at *
   have tk:∀ i:Nat,i < 2→atI ([1,2,k3,k4].map V.int) (0 + (i:Int))=some (.int ((i:Int) + 1)):=λ i hi=>by
     have:i=0∨i=1:=by lia
     rcases this with rfl | rfl <;> rfl
   refine hid λ _ jt=>?_
   refine ⟨_,rfl,_,_,rfl,rfl,⟨by decide,by decide⟩,_,_,rfl,rfl,(by show (0:Int) < 2; decide),_,_,rfl,rfl,_,rfl,(by lia),(by lia),?_⟩
   refine for_range (lo:=0) (n:=(1 + fs / 8 % 2).toNat) (λ i σ H7 => ∃ (v7:Option V) (W Z:Rms),σ=[some (.ref sc),some (.int fs),some (.bl dg),some (.ref l2),some (.int tot),some (.ref p),some (.ref b),v7,none,none,none,none]∧Sep C H7 p a b tot W Z∧conW W=conW Z∧conW Z=(List.range i).map (λ k:Nat=>((k:Int) + 1,[]))∧Same H H7∧H7 l2=some (.lst ([1,2,k3,k4].map V.int))∧¬ Adr Z l2) ⟨_,[],[],rfl,S6,rfl,rfl,s06,hl26,λ h=>by obtain ⟨x,hx,_⟩:=h; cases hx⟩ ?_ ?_
   · rintro i σ H7 hi ⟨v7,W,Z,rfl,S7,cw,cz,s07,h72,n2⟩
     have hi2:i < 2:=by lia
     have ti:=tk i hi2
     obtain ⟨dx,h1⟩:=id S7.D.ob
     have nBe:(flds tot a).lookup ("begin" : Str)=none:=flds_no _ _ (by decide +kernel) (by decide +kernel)
     have hno:look (conW Z) ((i:Int) + 1)=none:=by
       rw [cz]
       refine look_no λ hm=>?_
       rw [List.map_map] at hm
       obtain ⟨j,hj,e⟩:=List.mem_map.mp hm
       have:=List.mem_range.mp hj
       have e':(j:Int) + 1=(i:Int) + 1:=e
       lia
     have hnZ:=lookW0 hno
     have hnW:look W ((i:Int) + 1)=none:=lookW0 (by rw [cw]; exact hno)
     have lW:W.length≤1000:=by rw [← conW_len,cw,cz,List.length_map,List.length_range]; lia
     have lZ:Z.length≤1000:=by rw [← conW_len,cz,List.length_map,List.length_range]; lia
     refine ⟨_,rfl,p,dx,_,rfl,h1,nBe,_,rfl,_,rfl,l2,_,_,.int ((i:Int) + 1),rfl,rfl,SqL.of h72,ti,p,a,tot,(i:Int) + 1,W,rfl,S7.D,big_lo (by lia) (by lia),lW,λ ⟨x,hx⟩=>(no_look hnW hx).elim,λ _ H8 r hr8 D8 o8=>?_⟩
     have S8:=S7.addW (N:=[]) hr8 (λ _ h=>nomatch h) D8 o8
     have h82:H8 l2=some (.lst ([1,2,k3,k4].map V.int)):=o8 _ _ h72 (λ e=>by rw [show l2=a from e,S7.D.R.hd] at h72; cases h72)
     have s08:Same H H8:=λ q u e=>o8 _ _ (s07 _ _ e) (λ y=>by rw [show q=a from y,h0a] at e; cases e)
     intro r2 hr2
     have sr:=same_new (X:=.dK []) hr2
     refine ⟨_,rfl,_,rfl,_,rfl,l2,_,_,.int ((i:Int) + 1),rfl,rfl,SqL.of (sr _ _ h82),ti,b,_,rfl,DPut.k (k:=Sum.inl ((i:Int) + 1)) (sr _ _ S8.L.hd) (by rw [dk_len]; lia),?_⟩
     rw [show (V.ref r2)=fR (r2,([]:Room)) from rfl,putK_new' hnZ]
     have S9:=S8.addZ (o:=(i:Int) + 1) (r:=r2) (N:=[]) hnZ sr hr2 ⟨upd_same,(λ _ h=>nomatch h),List.nodup_nil,(λ _ h=>nomatch h)⟩ (λ _ h=>nomatch h) (λ _ h=>nomatch h)
     have st:Stay H8 (upd (upd H8 r2 (.dK [])) b (.dK (kvR (Z ++ [((i:Int) + 1,r2,[])])))) Z (Z ++ [((i:Int) + 1,r2,[])]):=Stay.add (keepU sr S8.L.hd) (λ _ h=>nomatch h)
     have h92:=st _ _ h82 (λ _ y=>by cases y) n2
     refine ⟨_,_,_,rfl,S9,by rw [conW_app,conW_app,cw],by rw [conW_app,cz,List.range_succ,List.map_append]; rfl,λ q u e=>?_,h92.1,h92.2⟩
     rw [upd_ne (λ y=>by rw [y,h0b] at e; cases e)]
     exact sr _ _ (s08 _ _ e)
   · rintro σ H7 ⟨v7,W,Z,rfl,S7,cw,cz,s07,h72,n2⟩
     refine jt _ _ _ ?_
     have hsc7:SqL K H7 sc (ns.map V.int):=seq_keep hsc λ u e=>s07 _ _ e
     have lZ:Z.length≤2:=by rw [← conW_len,cz,List.length_map,List.length_range]; lia
     have kg7:∀ x∈Z,Lo x.1:=λ x hx=>by
       have hm:(x.1,con x.2.2)∈conW Z:=List.mem_map.mpr ⟨x,hx,rfl⟩
       rw [cz] at hm
       obtain ⟨j,hj,e⟩:=List.mem_map.mp hm
       have:=List.mem_range.mp hj
       have e':(j:Int) + 1=x.1:=(Prod.mk.inj e).1
       exact big_lo (by lia) (by lia)
     refine hid λ _ jt=>?_
     refine ⟨_,rfl,_,rfl,sc,_,rfl,hsc7,λ l5 hl5=>?_⟩
     rw [ec63]
     have s5:=same_new (X:=.lst ((ns.take 63).map V.int)) hl5
     have e5:(upd H7 l5 (.lst ((ns.take 63).map V.int))) l5=some (.lst ((ns.take 63).map V.int)):=upd_same
     have L7:Lp C (upd H7 l5 (.lst ((ns.take 63).map V.int))) p a b l2 l5 tot (0 + 2) ([1,2,k3,k4].map V.int) ((ns.take 63).map V.int) W Z:=⟨⟨S7.same s5,cw,by lia,λ x hx=>(S7.L.rm x hx).len,kg7⟩,lZ,s5 _ _ h72,n2,e5,no_adr S7.L hl5⟩
     generalize upd H7 l5 (.lst ((ns.take 63).map V.int))=H8 at *
     clear S6 s06 hl26 hsc7 s5 e5 hl5 s07 h72 S7 cw cz n2 kg7 lZ D5 hl25 h5l2 hb sb eb h0a h0b h4a
     have lt:Lo tot:=big_lo (by lia) (by lia)
     have lo4:∀ t∈[1,2,k3,k4],Lo t:=λ t ht=>by
       rw [p60] at u4
       rcases List.mem_cons.mp ht with e | ht
       · exact big_log (by rw [p60]; lia) (by rw [p60]; lia)
       rcases List.mem_cons.mp ht with e | ht
       · exact big_log (by rw [p60]; lia) (by rw [p60]; lia)
       rcases List.mem_cons.mp ht with e | ht
       · exact big_log (by rw [p60]; lia) (by rw [p60]; lia)
       have e:=List.mem_singleton.mp ht
       exact big_log (by rw [p60]; lia) (by rw [p60]; lia)
     have nHe:(flds tot a).lookup ("held" : Str)=none:=flds_no _ _ (by decide +kernel) (by decide +kernel)
     refine ⟨l5,rfl,⟨_,SqL.of L7.t5⟩,?_⟩
     refine for_enum (K:=K) (a:=l5) (xs:=(ns.take 63).map V.int) (λ i σ H6 => ∃ (v7 v8 v9 v10 v11:Option V) (W Z:Rms),σ=[some (.ref sc),some (.int fs),some (.bl dg),some (.ref l2),some (.int tot),some (.ref p),some (.ref b),v7,v8,v9,v10,v11]∧Lp C H6 p a b l2 l5 tot (i + 2) ([1,2,k3,k4].map V.int) ((ns.take 63).map V.int) W Z)
       ⟨_,_,_,_,_,W,Z,rfl,L7⟩ (λ i σ H6 _ ⟨_,_,_,_,_,_,_,_,L⟩=>SqL.of L.t5) ?_ ?_
     · rintro i x σ H6 T6 hx hT ⟨v7,v8,v9,v10,v11,W,Z,rfl,L6⟩
       have hi:i < 63:=by
         have:=(List.getElem?_eq_some_iff.mp hx).1
         rw [List.length_map,List.length_take] at this
         lia
       rw [List.getElem?_map] at hx
       obtain ⟨c,hc,rfl⟩:=Option.map_eq_some_iff.mp hx
       have s7:=same_new (X:=.tup [.int i,.int c]) hT
       refine ⟨T6,[.int i,.int c],rfl,SqT.of upd_same,rfl,.int i,[.int c],rfl,.int c,[],rfl,rfl,?_⟩
       have L7:=L6.same s7
       generalize upd H6 T6 (.tup [.int i,.int c])=H7 at *
       refine hidN λ _ jt=>?_
       refine ⟨_,rfl,_,rfl,_,rfl,c,i,dg,rfl,λ n=>⟨_,rfl,n,l2,[1,2,k3,k4],rfl,L7.t2,rfl,lo4,λ D H8 d s8 nd8 dn lg fw=>jt _ _ ?_⟩⟩
       refine hidN λ _ jt=>?_
       refine ⟨_,rfl,jt _ _ ?_⟩
       have L8:=L7.same s8
       refine share (λ σ H9 => ∃ h ch c2:Addr,σ=[some (.ref sc),some (.int fs),some (.bl dg),some (.ref l2),some (.int tot),some (.ref p),some (.ref b),some (.int (i:Int)),some (.int c),some (.ref d),some (.ref h),v11]∧Same H8 H9∧HandAt H9 h d ch c2 D∧¬ Adr Z ch∧¬ Adr Z c2∧¬ Adr W c2∧(kindOf D = "poke" → c2≠l2∧c2≠l5)) (λ u' ju=>?_) ?_
       · by_cases hp:kindOf D = "poke"
         · obtain ⟨t,ad,cs,rfl⟩:=poke_of hp
           obtain ⟨ch,hd,hch,nch⟩:=dn
           refine hidC λ _ ji je=>?_
           refine eqT (ev_T (ev_v rfl) ev_c (SqT.of hd) rfl) ev_c rfl (ji _ ?_)
           refine ⟨_,rfl,d,_,_,.str "poke",rfl,rfl,SqT.of hd,rfl,_,rfl,d,_,_,.int t,rfl,rfl,SqT.of hd,rfl,_,rfl,d,_,_,.int ad,rfl,rfl,SqT.of hd,rfl,_,rfl,d,_,_,.ref ch,rfl,rfl,SqT.of hd,rfl,ch,_,rfl,.inl (SqL.of hch),λ c2 hc2=>⟨(by show 4≤sizeLine; decide),λ h hh=>?_⟩⟩
           have sa:=same_new (X:=.lst (cs.map V.int)) hc2
           have sb:=same_new (X:=.tup [.str "poke",.int t,.int ad,.ref c2]) hh
           have sab:=sa.trans sb
           exact ju _ _ ⟨h,ch,c2,rfl,sab,⟨sab _ _ hd,sab _ _ hch,upd_same,sb _ _ upd_same,Ne.symm (ne_of_none hch hc2)⟩,no_adr L7.I.S.L nch,no_adr L8.I.S.L hc2,no_adr L8.I.S.D.R hc2,λ _=>⟨Ne.symm (ne_of_none L8.t2 hc2),Ne.symm (ne_of_none L8.t5 hc2)⟩⟩
         · obtain ⟨kr,hk⟩:=dn.at.kind
           refine hidC λ _ ji je=>?_
           exact eqF (ev_T (ev_v rfl) ev_c (SqT.of hk) at0) ev_c rfl (ks_ne hp) (je _ (ju _ _ ⟨d,d,d,rfl,Same.refl _,hand_of hp dn.at,tup_ne hk L8.I.S.L,tup_ne hk L8.I.S.L,tup_ne hk L8.I.S.D.R,λ e=>absurd e hp⟩))
       rintro σ H9 ⟨h,ch,c2,rfl,s9,ha,nch,nc2Z,nc2W,ne2⟩
       have L9:=L8.same s9
       have cw:=L9.I.cw
       have sz:Sz (conW W) tot:=⟨by rw [cw,conW_len]; exact L9.I.ln,λ x hx=>by
         rw [cw] at hx
         obtain ⟨y,hy,rfl⟩:=List.mem_map.mp hx
         show (con y.2.2).length≤64
         rw [con_len]
         exact L9.I.lm y hy,lt⟩
       clear L6 L7 L8 s7 s8 s9 nd8 dn hT
       refine share3 (λ σ H12 => ∃ (T h:Addr) (v:V) (sw:Str) (W Z:Rms),σ=[some (.ref sc),some (.int fs),some (.bl dg),some (.ref l2),some (.int tot),some (.ref p),some (.ref b),some (.int (i:Int)),some (.int c),some (.ref d),some (.ref h),some (.ref T)]∧Lp C H12 p a b l2 l5 tot (i + 1 + 2) ([1,2,k3,k4].map V.int) ((ns.take 63).map V.int) W Z∧H12 T=some (.tup [v,.str sw])∧(v=.non∨(¬ kindOf D = "poke" ∧ ∃ (l:Addr) (us:List V),v=.ref l∧H12 l=some (.lst us)∧us.length≤512∧¬ Adr W l∧¬ Adr Z l∧l≠l2∧l≠l5))∧Apart H12 W Z l2 l5 h D∧∃ r,H12 d=some (.tup (.str (kindOf D) :: r))) (λ u3 ju=>?_) ?_
       · refine hidN λ _ jt=>?_
         refine ⟨_,rfl,_,rfl,p,a,h,tot,W,D,rfl,L9.I.S.D,ha.at,lg,sz,λ X due H10 T s10 eT=>jt _ _ ?_,λ H10 W' T v g D10 st tl nv eT=>jt _ _ ?_⟩
         · have L10:=L9.same s10
           have ha10:=ha.keep (λ q o e _ _=>s10 _ _ e) L9.I.S.L nch nc2Z
           rw [cw] at due
           refine hidC λ _ ji je=>?_
           refine ⟨_,rfl,_,rfl,_,rfl,_,rfl,p,a,b,d,tot,W,Z,D,rfl,L10.I.S,L10.I.ln,L10.I.lm,ha10.out nch,λ X' due' H11 T' s11 nT' eT'=>?_,λ H11 Z' c' T' v' g' _ _ _ _ _=>(due_good due g').elim⟩
           obtain rfl:=due_uniq due due'
           have L11:=L10.same s11
           have ha11:=ha10.keep (λ q o e _ _=>s11 _ _ e) L10.I.S.L nch nc2Z
           obtain ⟨xs,ys,e1,e2,pr⟩:=ha11.deep (K:=K)
           refine ⟨T,T',.non,.non,_,rfl,s11 _ _ eT,eT',.inl ⟨rfl,rfl⟩,true,rfl,iteF ?_⟩
           refine ⟨_,rfl,_,rfl,h,d,_,_,rfl,rfl,SqT.of e1,SqT.of e2,pr,false,rfl,je _ ?_⟩
           refine ju _ _ ⟨T,h,.non,_,W,Z,rfl,L11.grow (by lia),s11 _ _ eT,.inl rfl,λ hp=>?_,ha11.kind⟩
           obtain ⟨t,ad,cs,rfl⟩:=poke_of hp
           exact ⟨c2,_,t,ad,ha11.2.2.1,ha11.2.2.2.1,by rw [List.length_map]; exact fw,nc2W,nc2Z,(ne2 hp).1,(ne2 hp).2⟩
         · have S10:=L9.I.S.step D10 st
           have kt:=st.kt L9.I.S.D
           have ha10:=ha.keep (λ q o e n _=>kt q o e n) L9.I.S.L nch nc2Z
           rw [cw] at g
           refine hidC λ _ ji je=>?_
           refine ⟨_,rfl,_,rfl,_,rfl,_,rfl,p,a,b,d,tot,W',Z,D,rfl,S10,L9.I.ln,L9.I.lm,ha10.out nch,λ X' due' _ _ _ _ _=>(due_good due' g).elim,λ H11 Z' c' T' v' g' S11 e11 st11 tl' eT'=>?_⟩
           have ecw:conW W'=conW Z':=by rw [e11]; exact good_uniq g g'
           have ha11:=ha10.keep (λ q o e n a=>(st11 q o e n a).1) S10.L nch nc2Z
           have eT11:=(st11 _ _ eT (λ _ y=>by cases y) (tup_ne eT S10.L)).1
           have gk:=good_keys lg g'
           have lz:Z'.length≤Z.length + 1:=by rw [← conW_len,e11, ← conW_len (W:=Z)]; exact gk.1
           have kg':∀ x∈Z',Lo x.1:=λ x hx=>by
             have hm:(x.1,con x.2.2)∈conW Z':=List.mem_map.mpr ⟨x,hx,rfl⟩
             rw [e11] at hm
             exact gk.2 (λ y hy=>by obtain ⟨u,hu,rfl⟩:=List.mem_map.mp hy; exact L9.I.kg u hu) _ hm
           have q2:=st11 _ _ (kt.lst L9.t2) (λ _ y=>by cases y) L9.n2
           have q5:=st11 _ _ (kt.lst L9.t5) (λ _ y=>by cases y) L9.n5
           have lnZ:=L9.ln
           have L11:Lp C H11 p a b l2 l5 tot (i + 1 + 2) ([1,2,k3,k4].map V.int) ((ns.take 63).map V.int) W' Z':=⟨⟨S11,ecw,by lia,λ x hx=>(S11.L.rm x hx).len,kg'⟩,by lia,q2.1,q2.2,q5.1,q5.2⟩
           obtain ⟨xs,ys,e1,e2,pr⟩:=ha11.deep (K:=K)
           have hv:((v=.non∧v'=.non)∨∃ (l l':Addr) (xs:List Int),v=.ref l∧v'=.ref l'∧H11 l=some (.lst (xs.map V.int))∧H11 l'=some (.lst (xs.map V.int)))∧(v=.non∨(¬ kindOf D = "poke" ∧ ∃ (l:Addr) (us:List V),v=.ref l∧H11 l=some (.lst us)∧us.length≤512∧¬ Adr W' l∧¬ Adr Z' l∧l≠l2∧l≠l5)):=by
             by_cases hp:kindOf D = "peek"
             · obtain ⟨t,ad,n,rfl⟩:=peek_of hp
               obtain ⟨l,r,rfl,hr1,nl,hl⟩:=tl
               obtain ⟨l',r',rfl,hr2,nl',hl'⟩:=tl'
               rw [cw] at hr1
               obtain rfl:=one_look hr1 hr2
               have ql:=st11 _ _ hl (λ _ y=>by cases y) (no_adr L9.I.S.L nl)
               exact ⟨.inr ⟨l,l',_,rfl,rfl,ql.1,hl'⟩,.inr ⟨by show ¬ ("peek" : Str) = "poke"; decide +kernel,l,_,rfl,ql.1,by rw [List.length_map]; exact peek_len g,nv l rfl,ql.2,Ne.symm (ne_of_none L9.t2 nl),Ne.symm (ne_of_none L9.t5 nl)⟩⟩
             · have a1:=tl.non (ks_ne hp)
               have a2:=tl'.non (ks_ne hp)
               exact ⟨.inl ⟨a1,a2⟩,.inl a1⟩
           refine ⟨T,T',v,v',"",rfl,eT11,eT',hv.1,true,rfl,iteF ?_⟩
           refine ⟨_,rfl,_,rfl,h,d,_,_,rfl,rfl,SqT.of e1,SqT.of e2,pr,false,rfl,je _ ?_⟩
           refine ju _ _ ⟨T,h,v,_,W',Z',rfl,L11,eT11,hv.2,λ hp=>?_,ha11.kind⟩
           obtain ⟨t,ad,cs,rfl⟩:=poke_of hp
           refine ⟨c2,_,t,ad,ha11.2.2.1,ha11.2.2.2.1,by rw [List.length_map]; exact fw,λ y=>?_,(st11 _ _ ha10.2.2.2.1 (λ _ y=>by cases y) nc2Z).2,(ne2 hp).1,(ne2 hp).2⟩
           rcases st.rows c2 y with y | y
           · exact nc2W y
           · have:=ha.2.2.2.1
             rw [y] at this; cases this
       clear L9 cw sz ha nch nc2Z nc2W ne2 W Z
       rintro σ H12 ⟨T,h,v,sw,W,Z,rfl,L12,eT,hv,ap,r,hk⟩
       refine share (λ σ H13 => ∃ (W Z:Rms),σ=[some (.ref sc),some (.int fs),some (.bl dg),some (.ref l2),some (.int tot),some (.ref p),some (.ref b),some (.int (i:Int)),some (.int c),some (.ref d),some (.ref h),some (.ref T)]∧Lp C H13 p a b l2 l5 tot (i + 1 + 2) ([1,2,k3,k4].map V.int) ((ns.take 63).map V.int) W Z∧Apart H13 W Z l2 l5 h D∧∃ r,H13 d=some (.tup (.str (kindOf D) :: r))) (λ u' ju=>?_) ?_
       · refine hidC λ _ ji je=>?_
         refine ⟨_,rfl,T,_,_,v,rfl,rfl,SqT.of eT,rfl,rfl,_,rfl,?_⟩
         rcases hv with rfl | ⟨npk,l,us,rfl,hl,lu,nW,nZ,e2,e5⟩
         · rw [decide_eq_true rfl]
           exact je _ (ju _ _ ⟨W,Z,rfl,L12,ap,r,hk⟩)
         · rw [decide_eq_false (show ¬ V.ref l=V.non by intro y; cases y)]
           refine ji _ ?_
           refine hidD λ _ jd=>?_
           refine ⟨_,rfl,T,_,_,.ref l,rfl,rfl,SqT.of eT,rfl,.inl ⟨rfl,_,SqL.of hl⟩,l,_,_,rfl,rfl,hl,(by lia),jd _ _ ?_⟩
           have nT:T≠l:=λ e=>by rw [e,hl] at eT; cases eT
           have ndl:d≠l:=λ e=>by rw [e,hl] at hk; cases hk
           have L13:=L12.lst (vs:=us ++ [.int 300]) hl nW nZ e2 e5
           have eT13:(upd H12 l (.lst (us ++ [.int 300]))) T=some (.tup [.ref l,.str sw]):=by rw [upd_ne nT]; exact eT
           have hk13:(upd H12 l (.lst (us ++ [.int 300]))) d=some (.tup (.str (kindOf D) :: r)):=by rw [upd_ne ndl]; exact hk
           have hl13:(upd H12 l (.lst (us ++ [.int 300]))) l=some (.lst (us ++ [.int 300])):=upd_same
           generalize upd H12 l (.lst (us ++ [.int 300]))=H13 at *
           refine hidCL λ _ ji je=>?_
           refine ⟨_,rfl,T,_,_,.ref l,rfl,rfl,SqT.of eT13,rfl,l,_,rfl,.inl (SqL.of hl13),_,_,rfl,rfl,_,rfl,iteB (λ _=>ji _ ?_) (λ _=>je _ ?_)⟩
           · refine ⟨_,rfl,T,_,_,.ref l,rfl,rfl,SqT.of eT13,rfl,l,_,_,0,rfl,rfl,hl13,?_,?_⟩
             · unfold ixN
               rw [List.length_append,if_pos (by decide),if_pos (by show (0:Int) < ((us.length + 1:Nat):Int); lia)]
               rfl
             · refine ju _ _ ⟨W,Z,rfl,L13.lst hl13 nW nZ e2 e5,λ e=>absurd e npk,r,?_⟩
               rw [upd_ne ndl]; exact hk13
           · exact ju _ _ ⟨W,Z,rfl,L13,λ e=>absurd e npk,r,hk13⟩
       clear L12 eT hv ap hk W Z r
       rintro σ H13 ⟨W,Z,rfl,L13,ap,r,hk⟩
       refine share (λ σ H14 => ∃ (W Z:Rms),σ=[some (.ref sc),some (.int fs),some (.bl dg),some (.ref l2),some (.int tot),some (.ref p),some (.ref b),some (.int (i:Int)),some (.int c),some (.ref d),some (.ref h),some (.ref T)]∧Lp C H14 p a b l2 l5 tot (i + 1 + 2) ([1,2,k3,k4].map V.int) ((ns.take 63).map V.int) W Z) (λ u' ju=>?_) ?_
       · refine hidC λ _ ji je=>?_
         by_cases hp:kindOf D = "poke"
         · rw [hp] at hk
           refine eqT (ev_T (ev_v rfl) ev_c (SqT.of hk) at0) ev_c rfl (ji _ ?_)
           obtain ⟨c2,xs,t,ad,hh,hc2,lx,nW,nZ,e2,e5⟩:=ap hp
           refine hidD λ _ jd=>?_
           refine ⟨_,rfl,h,_,_,.ref c2,rfl,rfl,SqT.of hh,rfl,.inl ⟨rfl,_,SqL.of hc2⟩,c2,_,_,rfl,rfl,hc2,(by lia),jd _ _ ?_⟩
           have nh:h≠c2:=λ e=>by rw [e,hc2] at hh; cases hh
           have L14:=L13.lst (vs:=xs ++ [.int 301]) hc2 nW nZ e2 e5
           have hh14:(upd H13 c2 (.lst (xs ++ [.int 301]))) h=some (.tup [.str "poke",.int t,.int ad,.ref c2]):=by rw [upd_ne nh]; exact hh
           have hc14:(upd H13 c2 (.lst (xs ++ [.int 301]))) c2=some (.lst (xs ++ [.int 301])):=upd_same
           generalize upd H13 c2 (.lst (xs ++ [.int 301]))=H14 at *
           refine ⟨_,rfl,h,_,_,.ref c2,rfl,rfl,SqT.of hh14,rfl,c2,_,_,0,rfl,rfl,hc14,?_,?_⟩
           · unfold ixN
             rw [List.length_append,if_pos (by decide),if_pos (by show (0:Int) < ((xs.length + 1:Nat):Int); lia)]
             rfl
           · exact ju _ _ ⟨W,Z,rfl,L14.lst hc14 nW nZ e2 e5⟩
         · exact eqF (ev_T (ev_v rfl) ev_c (SqT.of hk) at0) ev_c rfl (ks_ne hp) (je _ (ju _ _ ⟨W,Z,rfl,L13⟩))
       clear L13 ap hk W Z r
       rintro σ H14 ⟨W,Z,rfl,L14⟩
       obtain ⟨dx,h1⟩:=id L14.I.S.D.ob
       have hWl:W.length≤1000:=by rw [← conW_len,L14.I.cw,conW_len]; exact L14.I.ln
       refine hidCL λ _ ji je=>?_
       refine ⟨_,rfl,p,dx,_,rfl,h1,nHe,p,a,tot,W,rfl,L14.I.S.D,hWl,λ H15 s15=>⟨_,rfl,b,Z,rfl,(L14.same s15).I.S.L,L14.I.ln,λ H16 s16=>⟨rfl,_,rfl,?_⟩⟩⟩
       have eh:heldW W=heldW Z:=by rw [held_con,held_con,L14.I.cw]
       rw [eh,decide_eq_true rfl]
       exact je _ ⟨_,_,_,_,_,W,Z,rfl,(L14.same s15).same s16⟩
     · rintro σ H6 ⟨v7,v8,v9,v10,v11,W,Z,rfl,L6⟩
       refine jt _ _ _ ?_
       exact ⟨_,rfl,_,rfl,p,a,b,tot,W,Z,rfl,L6.I,λ H9 _=>k H9⟩
end
end Rm
namespace Hd
open PySem PySem.W PyProof.Rows
def halves:List Obj→List Obj×List Obj
 | []=>([],[])
 | [a]=>([a],[])
 | a :: b :: r=>(a :: (halves r).1,b :: (halves r).2)
def build:Nat→List Obj→BT
 | 0,_=>.nil
 | _ + 1,[]=>.nil
 | f + 1,o :: r=>.node o (build f (halves r).1) (build f (halves r).2)
def topT (tb:String→Option Builtin) (p:Program) (w:World) (m:Nat) (an:Option Value):Nat→SharedT→Thread→Option SharedT
 | 0,_,_=>none
 | k + 1,x,t=>match through t with
   | true=>some x
   | false=>match stepOk m an t with
     | false=>none
     | true=>match stepT (denote tb) p w x t with
       | some (y,u)=>topT tb p w m an k y u
       | none=>none
theorem topT_of {tb:String→Option Builtin}{p:Program}{w:World}{m:Nat}{an:Option Value}:∀ {k:Nat}{x z:SharedT}{t:Thread},topT tb p w m an k x t=some z→topRun tb p w m an k x.abs t=some z.abs:=by
 intro k
 induction k with
 | zero=>intro x z t e; cases e
 | succ k ih =>
   intro x z t e
   unfold topT at e
   unfold topRun
   cases a:through t with
   | true=>rw [a] at e; cases e; rfl
   | false =>
     rw [a] at e
     cases b:stepOk m an t with
     | false=>rw [b] at e; cases e
     | true =>
       rw [b] at e
       cases c:stepT (denote tb) p w x t with
       | none=>rw [c] at e; cases e
       | some r =>
         obtain ⟨y,u⟩:=r
         rw [c] at e
         rw [stepT_spec c]
         exact ih e
def looks (p q:Program) (loose:List Str) (Xt:Shared→Bool) (g0:Bool) (h:Heap) (s:Shared) :=
 (staticsOk (importedModules p.main.body) h s.heap && namesBound p s.heap && gensDone s && laidKept h s.heap,openSeen q loose (importedModules p.main.body) Xt g0 s)
theorem left_of {p q:Program}{loose:List Str}{Xt:Shared→Bool}{α:Type}{Yf:Shared→α}{Ya:World→α}{N M m:Nat}{g0:Bool}{H:Params→Heap}{T:Params→BT}{life:Life}{gs:Array GenState}{d:Drawn}{k:Nat}{an:Option Value}
   (hO:∀ w:World,(fencedOpening treeTable p w N).map (λ s=>(s.heap,s.gens,s.drawn,s.toks))=some (H w.params,gs,d,k))
   (hT:∀ P,absHeap (T P) m life=H P)
   (hS:∀ w:World,((H w.params).isNs mainGlobals && gs.size == 0,(H w.params).objs.size,(H w.params).nsMap mainGlobals "__annotations__")=(true,m,an))
   (le:Nat.ble M N=true)
   (run:∀ (w:World) (os:OsState),(topT treeTable p w m an M ⟨T w.params,m,life,gs,d,k,os⟩ (topStub p)).map (λ s=>(looks p q loose Xt g0 (H w.params) s.abs,Yf s.abs))=some ((true,openGood q loose),Ya w)) :
   LeftO p q loose Xt Yf Ya N g0:=by
 intro w
 obtain ⟨s,a,b⟩:=Option.map_eq_some_iff.mp (hO w)
 obtain ⟨h,gs',d',k',os⟩:=s
 simp only [Prod.mk.injEq] at b
 obtain ⟨rfl,rfl,rfl,rfl⟩:=b
 have z:=hS w
 simp only [Prod.mk.injEq] at z
 obtain ⟨z1,z2,z3⟩:=z
 obtain ⟨x,c,e⟩:=Option.map_eq_some_iff.mp (run w os)
 have r:=topT_of c
 have ab:(SharedT.mk (T w.params) m life gs' d' k' os).abs=⟨H w.params,gs',d',k',os⟩:=by
   unfold SharedT.abs
   rw [hT]
 rw [ab] at r
 have r:=topRun_mono (N - M) _ _ _ _ r
 rw [show M + (N - M)=N from Nat.add_sub_cancel' (Nat.le_of_ble_eq_true le)] at r
 simp only [looks,Prod.mk.injEq] at e
 obtain ⟨⟨e1,e2⟩,e3⟩:=e
 have t:topFrom treeTable p w N ⟨H w.params,gs',d',k',os⟩=some x.abs:=by
   unfold topFrom
   dsimp only
   rw [z1,z2,z3,r]
   simp only [Option.bind_some,e1]
 unfold openEnds
 rw [a]
 simp only [Option.bind_some,t,Option.map_some,e2,e3]
theorem both {r:OpenRow}{q:Program}{loose:List Str}{d:DefRec}{kwd:List (Str×Expr)}{N:Nat}(H:Hook)
   (h1:defOf q r.name=some (d,kwd)) (h2:r.prog.theDef r.name=some (d.params,d.body,d.scope)) (h3:kwWritten? d.params.kwonlyargs d.params.kw_defaults=some kwd) (h4:(!r.writes || r.records.isEmpty)=true)
   (h5:r.wellSaid=true) (h6:(chainsOk q && opensWell r.prog && (frees r.toRowW && r.within.isEmpty))=true) (h7:r.prog.bare) (h8:r.toRowW.promised)
   (h:LeftO r.prog q loose (λ s=>xlAt q [] s && recOk r.records s) H.obs H.val N∧WalkO q loose (XL q []) H.says r.toRowW d kwd λ f vs=>PySem.call f vs):r.Holds :=
 holds_open h.1 H.of H.keeps (λ s e=>xl_of s (Bool.and_eq_true_iff.mp e).1) XL.keeps h1 h2 h3 (λ s e=>recFacts_of (Bool.and_eq_true_iff.mp e).2) h4 h5 h6 h7 h8 h.2
noncomputable def bootT (P:Params):BT:=build 12 (boot_heap P).objs.toList
end Hd
namespace Hd
open PySem PySem.W PyProof.Rows
def q:Program:=PySem.W.view PySem.Challenge.pw_ownroom_k20_plain_rooms_deeds [42]
def loose:List Str:=[Str.ofString "__name__",Str.ofString "KernelError",Str.ofString "ValueError",Str.ofString "NoTask",Str.ofString "NoPage",Str.ofString "NoRoom",Str.ofString "Taken",Str.ofString "PAGE_CELLS",Str.ofString "ROOM_PAGES",Str.ofString "room_of",Str.ofString "refuse_second_room",Str.ofString "refuse_above",Str.ofString "pages_from",Str.ofString "refuse_unmapped",Str.ofString "pages_to_map",Str.ofString "pages_to_drop",Str.ofString "pages_of_cells",Str.ofString "run_within",Str.ofString "pages_with",Str.ofString "PlainRooms",Str.ofString "cells_of_pages",Str.ofString "_law_number",Str.ofString "_law_tasks",Str.ofString "_law_page",Str.ofString "_law_many",Str.ofString "_law_address",Str.ofString "_law_cells",Str.ofString "_law_deed",Str.ofString "_law_do",Str.ofString "_law_word",Str.ofString "_law_told",Str.ofString "_law_held",Str.ofString "_law_wanted",Str.ofString "_law_refused_pages",Str.ofString "_law_refused_cells",Str.ofString "_law_refused",Str.ofString "_law_change",Str.ofString "_law_due",Str.ofString "_law_same",Str.ofString "_law_all"]
local macro_rules | `(tactic| o_head $H) => `(tactic| refine Hd.both (q:=Hd.q) (loose:=Hd.loose) (N:=100000) $H (by rfl) (by rfl) (by rfl) (by rfl) (by assumption) (by decide +kernel) ⟨rfl,rfl,rfl,rfl,rfl,by decide +kernel⟩ ?$(Lean.mkIdent `hw):ident ?$(Lean.mkIdent `hc):ident)
set_option maxRecDepth 100000 in
set_option maxHeartbeats 0 in
open_top top for PySem.Challenge.rw_ownroom_k20_plain_rooms_deeds
end Hd
set_option maxHeartbeats 0
namespace Hd
open PySem PySem.W PyProof.Rows
def at_:List Addr:=[2,3,15,22,23,24,25,28,35,36,37,40,47,48,49,52,59,60,61,64,71,72,73,76,78,79,81,82,83,85,86,88,89,90,92,93,95,96,97,99,100,102,103,104,106,107,109,110,111,113,114,116,117,118,120,121,123,124,125,127,128,130,131,132,134,135,137,138,139,142,143,151,153,154,156,157,158,160,161,163,164,165,167,168,170,171,172,174,175,177,178,179,181,182,184,185,186,188,189,191,192,193,195,196,198,199,200,202,203,205,206,207,210,211,212,213,214,215,216,219,221,222,224,225,226,228,229,231,232,233,235,236,238,239,240,242,243,245,246,247,249,250,252,253,254,256,257,259,260,261,264,265,266,268,269,271,272,273,275,276,278,279,280,283,284,285,287,288,290,291,292,295,296,297,299,300,302,303,304,307,308,309,311,312,314,315,316,318,319,321,322,323,326,327,328,330,331,333,334,335,337,338,340,341,342,344,345,347,348,349,351,352,354,355]
noncomputable def lhs (w:World) (os:OsState) :=
 (topT treeTable PySem.Challenge.pw_ownroom_k20_plain_rooms_deeds w 11 (some (.ref 6)) 100000 ⟨bootT w.params,11, {},Array.mk [],boot_drawn,boot_toks,os⟩ (topStub PySem.Challenge.pw_ownroom_k20_plain_rooms_deeds)).map
   λ s=>(looks PySem.Challenge.pw_ownroom_k20_plain_rooms_deeds q loose (λ s=>xlAt q [] s && recOk PySem.Challenge.rw_ownroom_k20_plain_rooms_deeds.row.records s) true (boot_heap w.params) s.abs,at_.map s.abs.heap.get?)
noncomputable def rhs (w:World):=some ((true,openGood q loose),(Hd.top.heap_39 w.params).map λ p=>some p.2)
theorem lhs_self:lhs=lhs:=rfl
theorem rhs_self:rhs=rhs:=rfl
name_quick hdL for Hd.lhs by Hd.lhs_self
name_quick hdR for Hd.rhs by Hd.rhs_self
theorem same_ (w:World) (os:OsState):PySem.W.Fast.hdL w os=PySem.W.Fast.hdR w:=by kernel_rfl
theorem run_ (w:World) (os:OsState):lhs w os=rhs w:=((congrFun (congrFun PySem.W.Fast.hdL_eq w) os).trans (same_ w os)).trans (congrFun PySem.W.Fast.hdR_eq w).symm
end Hd
namespace Rm
open PySem L2
theorem ln1 {us:List Value}(h:us.length=1):∃ a,us=[a]:=List.length_eq_one_iff.mp h
theorem ln2 {us:List Value}(h:us.length=2):∃ a b,us=[a,b]:=by
 cases us with
 | nil=>cases h
 | cons a us=>obtain ⟨b,rfl⟩:=ln1 (Nat.succ.inj h); exact ⟨a,b,rfl⟩
theorem ln3 {us:List Value}(h:us.length=3):∃ a b c,us=[a,b,c]:=by
 cases us with
 | nil=>cases h
 | cons a us=>obtain ⟨b,c,rfl⟩:=ln2 (Nat.succ.inj h); exact ⟨a,b,c,rfl⟩
theorem ln4 {us:List Value}(h:us.length=4):∃ a b c d,us=[a,b,c,d]:=by
 cases us with
 | nil=>cases h
 | cons a us=>obtain ⟨b,c,d,rfl⟩:=ln3 (Nat.succ.inj h); exact ⟨a,b,c,d,rfl⟩
theorem ln5 {us:List Value}(h:us.length=5):∃ a b c d e,us=[a,b,c,d,e]:=by
 cases us with
 | nil=>cases h
 | cons a us=>obtain ⟨b,c,d,e,rfl⟩:=ln4 (Nat.succ.inj h); exact ⟨a,b,c,d,e,rfl⟩
theorem all_mk {l:PySem.W.OpenLaw}{w:World}{K:PySem.W.Frag}{h:Heap}{mg:Str→Option Value}{fa:Addr}(X:K.In h) (G:h.Ns mainGlobals mg) (hfa:mg "law" = some (.ref fa))
   
   {C:Addr}
   {f1:Addr}{od1 an1:Option Addr}{sl1:Array (Option Value)}{oc1 kV1 dc1 pm1 cd1 ct1:Value}
   {f2:Addr}{od2 an2:Option Addr}{sl2:Array (Option Value)}{oc2 kV2 dc2 pm2 cd2 ct2:Value}
   {f3:Addr}{od3 an3:Option Addr}{sl3:Array (Option Value)}{oc3 kV3 dc3 pm3 cd3 ct3:Value}
   {f4:Addr}{od4 an4:Option Addr}{sl4:Array (Option Value)}{oc4 kV4 dc4 pm4 cd4 ct4:Value}
   {f5:Addr}{od5 an5:Option Addr}{sl5:Array (Option Value)}{oc5 kV5 dc5 pm5 cd5 ct5:Value}
   {f6:Addr}{od6 an6:Option Addr}{sl6:Array (Option Value)}{oc6 kV6 dc6 pm6 cd6 ct6:Value}
   {f7:Addr}{od7 an7:Option Addr}{sl7:Array (Option Value)}{oc7 kV7 dc7 pm7 cd7 ct7:Value}
   {f8:Addr}{od8 an8:Option Addr}{sl8:Array (Option Value)}{oc8 kV8 dc8 pm8 cd8 ct8:Value}
   {f9:Addr}{od9 an9:Option Addr}{sl9:Array (Option Value)}{oc9 kV9 dc9 pm9 cd9 ct9:Value}
   {f10:Addr}{od10 an10:Option Addr}{sl10:Array (Option Value)}{oc10 kV10 dc10 pm10 cd10 ct10:Value}
   {f11:Addr}{od11 an11:Option Addr}{sl11:Array (Option Value)}{oc11 kV11 dc11 pm11 cd11 ct11:Value}
   {f12:Addr}{od12 an12:Option Addr}{sl12:Array (Option Value)}{oc12 kV12 dc12 pm12 cd12 ct12:Value}
   {f13:Addr}{od13 an13:Option Addr}{sl13:Array (Option Value)}{oc13 kV13 dc13 pm13 cd13 ct13:Value}
   {f14:Addr}{od14 an14:Option Addr}{sl14:Array (Option Value)}{oc14 kV14 dc14 pm14 cd14 ct14:Value}
   {f15:Addr}{od15 an15:Option Addr}{sl15:Array (Option Value)}{oc15 kV15 dc15 pm15 cd15 ct15:Value}
   {f16:Addr}{od16 an16:Option Addr}{sl16:Array (Option Value)}{oc16 kV16 dc16 pm16 cd16 ct16:Value}
   {f17:Addr}{od17 an17:Option Addr}{sl17:Array (Option Value)}{oc17 kV17 dc17 pm17 cd17 ct17:Value}
   {f18:Addr}{od18 an18:Option Addr}{sl18:Array (Option Value)}{oc18 kV18 dc18 pm18 cd18 ct18:Value}
   {f19:Addr}{od19 an19:Option Addr}{sl19:Array (Option Value)}{oc19 kV19 dc19 pm19 cd19 ct19:Value}
   {f20:Addr}{od20 an20:Option Addr}{sl20:Array (Option Value)}{oc20 kV20 dc20 pm20 cd20 ct20:Value}
   {f21:Addr}{od21 an21:Option Addr}{sl21:Array (Option Value)}{oc21 kV21 dc21 pm21 cd21 ct21:Value}
   {f22:Addr}{od22 an22:Option Addr}{sl22:Array (Option Value)}{oc22 kV22 dc22 pm22 cd22 ct22:Value}
   {f23:Addr}{od23 an23:Option Addr}{sl23:Array (Option Value)}{oc23 kV23 dc23 pm23 cd23 ct23:Value}
   {f24:Addr}{od24 an24:Option Addr}{sl24:Array (Option Value)}{oc24 kV24 dc24 pm24 cd24 ct24:Value}
   {f25:Addr}{od25 an25:Option Addr}{sl25:Array (Option Value)}{oc25 kV25 dc25 pm25 cd25 ct25:Value}
   {f26:Addr}{od26 an26:Option Addr}{sl26:Array (Option Value)}{oc26 kV26 dc26 pm26 cd26 ct26:Value}
   {f27:Addr}{od27 an27:Option Addr}{sl27:Array (Option Value)}{oc27 kV27 dc27 pm27 cd27 ct27:Value}
   {f28:Addr}{od28 an28:Option Addr}{sl28:Array (Option Value)}{oc28 kV28 dc28 pm28 cd28 ct28:Value}
   {f29:Addr}{od29 an29:Option Addr}{sl29:Array (Option Value)}{oc29 kV29 dc29 pm29 cd29 ct29:Value}
   {f30:Addr}{od30 an30:Option Addr}{sl30:Array (Option Value)}{oc30 kV30 dc30 pm30 cd30 ct30:Value}
   {f31:Addr}{od31 an31:Option Addr}{sl31:Array (Option Value)}{oc31 kV31 dc31 pm31 cd31 ct31:Value}
   {f32:Addr}{od32 an32:Option Addr}{sl32:Array (Option Value)}{oc32 kV32 dc32 pm32 cd32 ct32:Value}
   {f33:Addr}{od33 an33:Option Addr}{sl33:Array (Option Value)}{oc33 kV33 dc33 pm33 cd33 ct33:Value}
   {f34:Addr}{od34 an34:Option Addr}{sl34:Array (Option Value)}{oc34 kV34 dc34 pm34 cd34 ct34:Value}
   {f35:Addr}{od35 an35:Option Addr}{sl35:Array (Option Value)}{oc35 kV35 dc35 pm35 cd35 ct35:Value}
   {f36:Addr}{od36 an36:Option Addr}{sl36:Array (Option Value)}{oc36 kV36 dc36 pm36 cd36 ct36:Value}
   {f37:Addr}{od37 an37:Option Addr}{sl37:Array (Option Value)}{oc37 kV37 dc37 pm37 cd37 ct37:Value}
   {f38:Addr}{od38 an38:Option Addr}{sl38:Array (Option Value)}{oc38 kV38 dc38 pm38 cd38 ct38:Value}
   {f39:Addr}{od39 an39:Option Addr}{sl39:Array (Option Value)}{oc39 kV39 dc39 pm39 cd39 ct39:Value}
   {f40:Addr}{od40 an40:Option Addr}{sl40:Array (Option Value)}{oc40 kV40 dc40 pm40 cd40 ct40:Value}
   {t64:Tok}
   {t8:Tok}
   {xNoTask xNoPage xNoRoom xTaken xKernelError:Addr}
   
   (aC:PySem.W.nsIn K mainGlobals "PlainRooms" = some (some (.ref C)))
   (a1:PySem.W.findIn K (.ref C) "__init__" = some (some (.ref f1)))
   (i1:PySem.W.isFn K (.ref f1)=true)
   (l1:K.lookup f1=some ⟨oc1,od1,.func (PySem.W.fnOf "__init__" "PlainRooms.__init__" (defArgs sInit) (defBody sInit) (defScope sInit) .none kV1 dc1 pm1 an1 cd1 ct1),sl1⟩)
   (c1:PySem.W.codeIn K cd1 "PlainRooms.__init__" = true)
   (k1:PySem.W.keepIn K (.ref f1)=true)
   (a2:PySem.W.findIn K (.ref C) "begin" = some (some (.ref f2)))
   (i2:PySem.W.isFn K (.ref f2)=true)
   (l2:K.lookup f2=some ⟨oc2,od2,.func (PySem.W.fnOf "begin" "PlainRooms.begin" (defArgs sBegin) (defBody sBegin) (defScope sBegin) .none kV2 dc2 pm2 an2 cd2 ct2),sl2⟩)
   (c2:PySem.W.codeIn K cd2 "PlainRooms.begin" = true)
   (k2:PySem.W.keepIn K (.ref f2)=true)
   (a3:PySem.W.findIn K (.ref C) "close" = some (some (.ref f3)))
   (i3:PySem.W.isFn K (.ref f3)=true)
   (l3:K.lookup f3=some ⟨oc3,od3,.func (PySem.W.fnOf "close" "PlainRooms.close" (defArgs sClose) (defBody sClose) (defScope sClose) .none kV3 dc3 pm3 an3 cd3 ct3),sl3⟩)
   (c3:PySem.W.codeIn K cd3 "PlainRooms.close" = true)
   (k3:PySem.W.keepIn K (.ref f3)=true)
   (a4:PySem.W.findIn K (.ref C) "map" = some (some (.ref f4)))
   (i4:PySem.W.isFn K (.ref f4)=true)
   (l4:K.lookup f4=some ⟨oc4,od4,.func (PySem.W.fnOf "map" "PlainRooms.map" (defArgs sMap) (defBody sMap) (defScope sMap) .none kV4 dc4 pm4 an4 cd4 ct4),sl4⟩)
   (c4:PySem.W.codeIn K cd4 "PlainRooms.map" = true)
   (k4:PySem.W.keepIn K (.ref f4)=true)
   (a5:PySem.W.findIn K (.ref C) "drop" = some (some (.ref f5)))
   (i5:PySem.W.isFn K (.ref f5)=true)
   (l5:K.lookup f5=some ⟨oc5,od5,.func (PySem.W.fnOf "drop" "PlainRooms.drop" (defArgs sDrop) (defBody sDrop) (defScope sDrop) .none kV5 dc5 pm5 an5 cd5 ct5),sl5⟩)
   (c5:PySem.W.codeIn K cd5 "PlainRooms.drop" = true)
   (k5:PySem.W.keepIn K (.ref f5)=true)
   (a6:PySem.W.findIn K (.ref C) "peek" = some (some (.ref f6)))
   (i6:PySem.W.isFn K (.ref f6)=true)
   (l6:K.lookup f6=some ⟨oc6,od6,.func (PySem.W.fnOf "peek" "PlainRooms.peek" (defArgs sPeek) (defBody sPeek) (defScope sPeek) .none kV6 dc6 pm6 an6 cd6 ct6),sl6⟩)
   (c6:PySem.W.codeIn K cd6 "PlainRooms.peek" = true)
   (k6:PySem.W.keepIn K (.ref f6)=true)
   (a7:PySem.W.findIn K (.ref C) "poke" = some (some (.ref f7)))
   (i7:PySem.W.isFn K (.ref f7)=true)
   (l7:K.lookup f7=some ⟨oc7,od7,.func (PySem.W.fnOf "poke" "PlainRooms.poke" (defArgs sPoke) (defBody sPoke) (defScope sPoke) .none kV7 dc7 pm7 an7 cd7 ct7),sl7⟩)
   (c7:PySem.W.codeIn K cd7 "PlainRooms.poke" = true)
   (k7:PySem.W.keepIn K (.ref f7)=true)
   (a8:PySem.W.findIn K (.ref C) "copy" = some (some (.ref f8)))
   (i8:PySem.W.isFn K (.ref f8)=true)
   (l8:K.lookup f8=some ⟨oc8,od8,.func (PySem.W.fnOf "copy" "PlainRooms.copy" (defArgs sCopy) (defBody sCopy) (defScope sCopy) .none kV8 dc8 pm8 an8 cd8 ct8),sl8⟩)
   (c8:PySem.W.codeIn K cd8 "PlainRooms.copy" = true)
   (k8:PySem.W.keepIn K (.ref f8)=true)
   (a9:PySem.W.findIn K (.ref C) "held" = some (some (.ref f9)))
   (i9:PySem.W.isFn K (.ref f9)=true)
   (l9:K.lookup f9=some ⟨oc9,od9,.func (PySem.W.fnOf "held" "PlainRooms.held" (defArgs sHeld) (defBody sHeld) (defScope sHeld) .none kV9 dc9 pm9 an9 cd9 ct9),sl9⟩)
   (c9:PySem.W.codeIn K cd9 "PlainRooms.held" = true)
   (k9:PySem.W.keepIn K (.ref f9)=true)
   (pgC:PySem.W.plainGet K C Str.empty=true)
   (hdC:PySem.W.hasDictIn K C=true)
   (poC:PySem.W.plainOver K C=true)
   (saC:PySem.W.findIn K (.ref C) "__setattr__" = some (some (.builtin "object.__setattr__")))
   (mkC:PySem.W.makesIn K C=true)
   (kcC:PySem.W.keepIn K (.ref C)=true)
   (nC0:PySem.W.findIn K (.ref C) "total" = some none)
   (nC1:PySem.W.findIn K (.ref C) "rooms" = some none)
   (a10:PySem.W.nsIn K mainGlobals "room_of" = some (some (.ref f10)))
   (l10:K.lookup f10=some ⟨oc10,od10,.func (PySem.W.fnOf "room_of" "room_of" (defArgs sRoomOf) (defBody sRoomOf) (defScope sRoomOf) .none kV10 dc10 pm10 an10 cd10 ct10),sl10⟩)
   (c10:PySem.W.codeIn K cd10 "room_of" = true)
   (k10:PySem.W.keepIn K (.ref f10)=true)
   (a11:PySem.W.nsIn K mainGlobals "refuse_second_room" = some (some (.ref f11)))
   (l11:K.lookup f11=some ⟨oc11,od11,.func (PySem.W.fnOf "refuse_second_room" "refuse_second_room" (defArgs sSecond) (defBody sSecond) (defScope sSecond) .none kV11 dc11 pm11 an11 cd11 ct11),sl11⟩)
   (c11:PySem.W.codeIn K cd11 "refuse_second_room" = true)
   (k11:PySem.W.keepIn K (.ref f11)=true)
   (a12:PySem.W.nsIn K mainGlobals "refuse_above" = some (some (.ref f12)))
   (l12:K.lookup f12=some ⟨oc12,od12,.func (PySem.W.fnOf "refuse_above" "refuse_above" (defArgs sAbove) (defBody sAbove) (defScope sAbove) .none kV12 dc12 pm12 an12 cd12 ct12),sl12⟩)
   (c12:PySem.W.codeIn K cd12 "refuse_above" = true)
   (k12:PySem.W.keepIn K (.ref f12)=true)
   (a13:PySem.W.nsIn K mainGlobals "pages_from" = some (some (.ref f13)))
   (l13:K.lookup f13=some ⟨oc13,od13,.func (PySem.W.fnOf "pages_from" "pages_from" (defArgs sPagesFrom) (defBody sPagesFrom) (defScope sPagesFrom) .none kV13 dc13 pm13 an13 cd13 ct13),sl13⟩)
   (c13:PySem.W.codeIn K cd13 "pages_from" = true)
   (k13:PySem.W.keepIn K (.ref f13)=true)
   (a14:PySem.W.nsIn K mainGlobals "refuse_unmapped" = some (some (.ref f14)))
   (l14:K.lookup f14=some ⟨oc14,od14,.func (PySem.W.fnOf "refuse_unmapped" "refuse_unmapped" (defArgs sUnmapped) (defBody sUnmapped) (defScope sUnmapped) .none kV14 dc14 pm14 an14 cd14 ct14),sl14⟩)
   (c14:PySem.W.codeIn K cd14 "refuse_unmapped" = true)
   (k14:PySem.W.keepIn K (.ref f14)=true)
   (a15:PySem.W.nsIn K mainGlobals "pages_to_map" = some (some (.ref f15)))
   (l15:K.lookup f15=some ⟨oc15,od15,.func (PySem.W.fnOf "pages_to_map" "pages_to_map" (defArgs sToMap) (defBody sToMap) (defScope sToMap) .none kV15 dc15 pm15 an15 cd15 ct15),sl15⟩)
   (c15:PySem.W.codeIn K cd15 "pages_to_map" = true)
   (k15:PySem.W.keepIn K (.ref f15)=true)
   (a16:PySem.W.nsIn K mainGlobals "pages_to_drop" = some (some (.ref f16)))
   (l16:K.lookup f16=some ⟨oc16,od16,.func (PySem.W.fnOf "pages_to_drop" "pages_to_drop" (defArgs sToDrop) (defBody sToDrop) (defScope sToDrop) .none kV16 dc16 pm16 an16 cd16 ct16),sl16⟩)
   (c16:PySem.W.codeIn K cd16 "pages_to_drop" = true)
   (k16:PySem.W.keepIn K (.ref f16)=true)
   (a17:PySem.W.nsIn K mainGlobals "pages_of_cells" = some (some (.ref f17)))
   (l17:K.lookup f17=some ⟨oc17,od17,.func (PySem.W.fnOf "pages_of_cells" "pages_of_cells" (defArgs sOfCells) (defBody sOfCells) (defScope sOfCells) .none kV17 dc17 pm17 an17 cd17 ct17),sl17⟩)
   (c17:PySem.W.codeIn K cd17 "pages_of_cells" = true)
   (k17:PySem.W.keepIn K (.ref f17)=true)
   (a18:PySem.W.nsIn K mainGlobals "run_within" = some (some (.ref f18)))
   (l18:K.lookup f18=some ⟨oc18,od18,.func (PySem.W.fnOf "run_within" "run_within" (defArgs sWithin) (defBody sWithin) (defScope sWithin) .none kV18 dc18 pm18 an18 cd18 ct18),sl18⟩)
   (c18:PySem.W.codeIn K cd18 "run_within" = true)
   (k18:PySem.W.keepIn K (.ref f18)=true)
   (a19:PySem.W.nsIn K mainGlobals "pages_with" = some (some (.ref f19)))
   (l19:K.lookup f19=some ⟨oc19,od19,.func (PySem.W.fnOf "pages_with" "pages_with" (defArgs sWith) (defBody sWith) (defScope sWith) .none kV19 dc19 pm19 an19 cd19 ct19),sl19⟩)
   (c19:PySem.W.codeIn K cd19 "pages_with" = true)
   (k19:PySem.W.keepIn K (.ref f19)=true)
   (a20:PySem.W.nsIn K mainGlobals "cells_of_pages" = some (some (.ref f20)))
   (l20:K.lookup f20=some ⟨oc20,od20,.func (PySem.W.fnOf "cells_of_pages" "cells_of_pages" (defArgs sCells) (defBody sCells) (defScope sCells) .none kV20 dc20 pm20 an20 cd20 ct20),sl20⟩)
   (c20:PySem.W.codeIn K cd20 "cells_of_pages" = true)
   (k20:PySem.W.keepIn K (.ref f20)=true)
   (a21:PySem.W.nsIn K mainGlobals "_law_number" = some (some (.ref f21)))
   (l21:K.lookup f21=some ⟨oc21,od21,.func (PySem.W.fnOf "_law_number" "_law_number" (defArgs sNumber) (defBody sNumber) (defScope sNumber) .none kV21 dc21 pm21 an21 cd21 ct21),sl21⟩)
   (c21:PySem.W.codeIn K cd21 "_law_number" = true)
   (k21:PySem.W.keepIn K (.ref f21)=true)
   (a22:PySem.W.nsIn K mainGlobals "_law_tasks" = some (some (.ref f22)))
   (l22:K.lookup f22=some ⟨oc22,od22,.func (PySem.W.fnOf "_law_tasks" "_law_tasks" (defArgs sTasks) (defBody sTasks) (defScope sTasks) .none kV22 dc22 pm22 an22 cd22 ct22),sl22⟩)
   (c22:PySem.W.codeIn K cd22 "_law_tasks" = true)
   (k22:PySem.W.keepIn K (.ref f22)=true)
   (a23:PySem.W.nsIn K mainGlobals "_law_page" = some (some (.ref f23)))
   (l23:K.lookup f23=some ⟨oc23,od23,.func (PySem.W.fnOf "_law_page" "_law_page" (defArgs sPage) (defBody sPage) (defScope sPage) .none kV23 dc23 pm23 an23 cd23 ct23),sl23⟩)
   (c23:PySem.W.codeIn K cd23 "_law_page" = true)
   (k23:PySem.W.keepIn K (.ref f23)=true)
   (a24:PySem.W.nsIn K mainGlobals "_law_many" = some (some (.ref f24)))
   (l24:K.lookup f24=some ⟨oc24,od24,.func (PySem.W.fnOf "_law_many" "_law_many" (defArgs sMany) (defBody sMany) (defScope sMany) .none kV24 dc24 pm24 an24 cd24 ct24),sl24⟩)
   (c24:PySem.W.codeIn K cd24 "_law_many" = true)
   (k24:PySem.W.keepIn K (.ref f24)=true)
   (a25:PySem.W.nsIn K mainGlobals "_law_address" = some (some (.ref f25)))
   (l25:K.lookup f25=some ⟨oc25,od25,.func (PySem.W.fnOf "_law_address" "_law_address" (defArgs sAddress) (defBody sAddress) (defScope sAddress) .none kV25 dc25 pm25 an25 cd25 ct25),sl25⟩)
   (c25:PySem.W.codeIn K cd25 "_law_address" = true)
   (k25:PySem.W.keepIn K (.ref f25)=true)
   (a26:PySem.W.nsIn K mainGlobals "_law_cells" = some (some (.ref f26)))
   (l26:K.lookup f26=some ⟨oc26,od26,.func (PySem.W.fnOf "_law_cells" "_law_cells" (defArgs sCellsBy) (defBody sCellsBy) (defScope sCellsBy) .none kV26 dc26 pm26 an26 cd26 ct26),sl26⟩)
   (c26:PySem.W.codeIn K cd26 "_law_cells" = true)
   (k26:PySem.W.keepIn K (.ref f26)=true)
   (a27:PySem.W.nsIn K mainGlobals "_law_deed" = some (some (.ref f27)))
   (l27:K.lookup f27=some ⟨oc27,od27,.func (PySem.W.fnOf "_law_deed" "_law_deed" (defArgs sDeed) (defBody sDeed) (defScope sDeed) .none kV27 dc27 pm27 an27 cd27 ct27),sl27⟩)
   (c27:PySem.W.codeIn K cd27 "_law_deed" = true)
   (k27:PySem.W.keepIn K (.ref f27)=true)
   (a28:PySem.W.nsIn K mainGlobals "_law_do" = some (some (.ref f28)))
   (l28:K.lookup f28=some ⟨oc28,od28,.func (PySem.W.fnOf "_law_do" "_law_do" (defArgs sDo) (defBody sDo) (defScope sDo) .none kV28 dc28 pm28 an28 cd28 ct28),sl28⟩)
   (c28:PySem.W.codeIn K cd28 "_law_do" = true)
   (k28:PySem.W.keepIn K (.ref f28)=true)
   (a29:PySem.W.nsIn K mainGlobals "_law_word" = some (some (.ref f29)))
   (l29:K.lookup f29=some ⟨oc29,od29,.func (PySem.W.fnOf "_law_word" "_law_word" (defArgs sWord) (defBody sWord) (defScope sWord) .none kV29 dc29 pm29 an29 cd29 ct29),sl29⟩)
   (c29:PySem.W.codeIn K cd29 "_law_word" = true)
   (k29:PySem.W.keepIn K (.ref f29)=true)
   (a30:PySem.W.nsIn K mainGlobals "_law_told" = some (some (.ref f30)))
   (l30:K.lookup f30=some ⟨oc30,od30,.func (PySem.W.fnOf "_law_told" "_law_told" (defArgs sTold) (defBody sTold) (defScope sTold) .none kV30 dc30 pm30 an30 cd30 ct30),sl30⟩)
   (c30:PySem.W.codeIn K cd30 "_law_told" = true)
   (k30:PySem.W.keepIn K (.ref f30)=true)
   (a31:PySem.W.nsIn K mainGlobals "_law_held" = some (some (.ref f31)))
   (l31:K.lookup f31=some ⟨oc31,od31,.func (PySem.W.fnOf "_law_held" "_law_held" (defArgs sHeldL) (defBody sHeldL) (defScope sHeldL) .none kV31 dc31 pm31 an31 cd31 ct31),sl31⟩)
   (c31:PySem.W.codeIn K cd31 "_law_held" = true)
   (k31:PySem.W.keepIn K (.ref f31)=true)
   (a32:PySem.W.nsIn K mainGlobals "_law_wanted" = some (some (.ref f32)))
   (l32:K.lookup f32=some ⟨oc32,od32,.func (PySem.W.fnOf "_law_wanted" "_law_wanted" (defArgs sWanted) (defBody sWanted) (defScope sWanted) .none kV32 dc32 pm32 an32 cd32 ct32),sl32⟩)
   (c32:PySem.W.codeIn K cd32 "_law_wanted" = true)
   (k32:PySem.W.keepIn K (.ref f32)=true)
   (a33:PySem.W.nsIn K mainGlobals "_law_refused_pages" = some (some (.ref f33)))
   (l33:K.lookup f33=some ⟨oc33,od33,.func (PySem.W.fnOf "_law_refused_pages" "_law_refused_pages" (defArgs sRefPages) (defBody sRefPages) (defScope sRefPages) .none kV33 dc33 pm33 an33 cd33 ct33),sl33⟩)
   (c33:PySem.W.codeIn K cd33 "_law_refused_pages" = true)
   (k33:PySem.W.keepIn K (.ref f33)=true)
   (a34:PySem.W.nsIn K mainGlobals "_law_refused_cells" = some (some (.ref f34)))
   (l34:K.lookup f34=some ⟨oc34,od34,.func (PySem.W.fnOf "_law_refused_cells" "_law_refused_cells" (defArgs sRefCells) (defBody sRefCells) (defScope sRefCells) .none kV34 dc34 pm34 an34 cd34 ct34),sl34⟩)
   (c34:PySem.W.codeIn K cd34 "_law_refused_cells" = true)
   (k34:PySem.W.keepIn K (.ref f34)=true)
   (a35:PySem.W.nsIn K mainGlobals "_law_refused" = some (some (.ref f35)))
   (l35:K.lookup f35=some ⟨oc35,od35,.func (PySem.W.fnOf "_law_refused" "_law_refused" (defArgs sRefused) (defBody sRefused) (defScope sRefused) .none kV35 dc35 pm35 an35 cd35 ct35),sl35⟩)
   (c35:PySem.W.codeIn K cd35 "_law_refused" = true)
   (k35:PySem.W.keepIn K (.ref f35)=true)
   (a36:PySem.W.nsIn K mainGlobals "_law_change" = some (some (.ref f36)))
   (l36:K.lookup f36=some ⟨oc36,od36,.func (PySem.W.fnOf "_law_change" "_law_change" (defArgs sChange) (defBody sChange) (defScope sChange) .none kV36 dc36 pm36 an36 cd36 ct36),sl36⟩)
   (c36:PySem.W.codeIn K cd36 "_law_change" = true)
   (k36:PySem.W.keepIn K (.ref f36)=true)
   (a37:PySem.W.nsIn K mainGlobals "_law_due" = some (some (.ref f37)))
   (l37:K.lookup f37=some ⟨oc37,od37,.func (PySem.W.fnOf "_law_due" "_law_due" (defArgs sDue) (defBody sDue) (defScope sDue) .none kV37 dc37 pm37 an37 cd37 ct37),sl37⟩)
   (c37:PySem.W.codeIn K cd37 "_law_due" = true)
   (k37:PySem.W.keepIn K (.ref f37)=true)
   (a38:PySem.W.nsIn K mainGlobals "_law_same" = some (some (.ref f38)))
   (l38:K.lookup f38=some ⟨oc38,od38,.func (PySem.W.fnOf "_law_same" "_law_same" (defArgs sSame) (defBody sSame) (defScope sSame) .none kV38 dc38 pm38 an38 cd38 ct38),sl38⟩)
   (c38:PySem.W.codeIn K cd38 "_law_same" = true)
   (k38:PySem.W.keepIn K (.ref f38)=true)
   (a39:PySem.W.nsIn K mainGlobals "_law_all" = some (some (.ref f39)))
   (l39:K.lookup f39=some ⟨oc39,od39,.func (PySem.W.fnOf "_law_all" "_law_all" (defArgs sAll) (defBody sAll) (defScope sAll) .none kV39 dc39 pm39 an39 cd39 ct39),sl39⟩)
   (c39:PySem.W.codeIn K cd39 "_law_all" = true)
   (k39:PySem.W.keepIn K (.ref f39)=true)
   (a40:PySem.W.nsIn K mainGlobals "law" = some (some (.ref f40)))
   (l40:K.lookup f40=some ⟨oc40,od40,.func (PySem.W.fnOf "law" "law" (defArgs sLaw) (defBody sLaw) (defScope sLaw) .none kV40 dc40 pm40 an40 cd40 ct40),sl40⟩)
   (c40:PySem.W.codeIn K cd40 "law" = true)
   (k40:PySem.W.keepIn K (.ref f40)=true)
   (q0:PySem.W.nsIn K mainGlobals "ROOM_PAGES" = some (some (.int 64 t64)))
   (q1:PySem.W.nsIn K mainGlobals "PAGE_CELLS" = some (some (.int 8 t8)))
   (z_list:PySem.W.nsIn K mainGlobals "list" = some none)
   (z_len:PySem.W.nsIn K mainGlobals "len" = some none)
   (z_range:PySem.W.nsIn K mainGlobals "range" = some none)
   (z_enumerate:PySem.W.nsIn K mainGlobals "enumerate" = some none)
   (z_int:PySem.W.nsIn K mainGlobals "int" = some none)
   (z_sum:PySem.W.nsIn K mainGlobals "sum" = some none)
   (z_zip:PySem.W.nsIn K mainGlobals "zip" = some none)
   (z_isinstance:PySem.W.nsIn K mainGlobals "isinstance" = some none)
   (z_min:PySem.W.nsIn K mainGlobals "min" = some none)
   (z_dict:PySem.W.nsIn K mainGlobals "dict" = some none)
   (z_bool:PySem.W.nsIn K mainGlobals "bool" = some none)
   (z_sorted:PySem.W.nsIn K mainGlobals "sorted" = some none)
   (z_ValueError:PySem.W.nsIn K mainGlobals "ValueError" = some none)
   (yNoTask:PySem.W.nsIn K mainGlobals "NoTask" = some (some (.ref xNoTask)))
   (yNoPage:PySem.W.nsIn K mainGlobals "NoPage" = some (some (.ref xNoPage)))
   (yNoRoom:PySem.W.nsIn K mainGlobals "NoRoom" = some (some (.ref xNoRoom)))
   (yTaken:PySem.W.nsIn K mainGlobals "Taken" = some (some (.ref xTaken)))
   (yKernelError:PySem.W.nsIn K mainGlobals "KernelError" = some (some (.ref xKernelError)))
   (vENoTask:PySem.W.excIn K xNoTask veMro "ValueError.__new__" = true)
   (vMNoTask:PySem.W.exmOne K (.ref xNoTask) (.ref xKernelError)=some true)
   (vVNoTask:PySem.W.kitOne K (.ref xNoTask) (.type "ValueError")=some true)
   (vNoTaskNoTask:PySem.W.kitOne K (.ref xNoTask) (.ref xNoTask)=some true)
   (vNoTaskNoPage:PySem.W.kitOne K (.ref xNoTask) (.ref xNoPage)=some false)
   (vNoTaskNoRoom:PySem.W.kitOne K (.ref xNoTask) (.ref xNoRoom)=some false)
   (vNoTaskTaken:PySem.W.kitOne K (.ref xNoTask) (.ref xTaken)=some false)
   (uObNoTask:PySem.W.mroIn K xNoTask (.type "object")=some true)
   (uBeNoTask:PySem.W.mroIn K xNoTask (.type "BaseException")=some true)
   (uGaNoTask:PySem.W.findIn K (.ref xNoTask) "__getattribute__" = some (some (.builtin "BaseException.__getattribute__")))
   (uGbNoTask:PySem.W.findIn K (.ref xNoTask) "__getattr__" = some none)
   (uCcNoTask:PySem.W.findIn K (.ref xNoTask) "__class__" = some (some (.builtin "object.__class__")))
   (vENoPage:PySem.W.excIn K xNoPage veMro "ValueError.__new__" = true)
   (vMNoPage:PySem.W.exmOne K (.ref xNoPage) (.ref xKernelError)=some true)
   (vVNoPage:PySem.W.kitOne K (.ref xNoPage) (.type "ValueError")=some true)
   (vNoPageNoTask:PySem.W.kitOne K (.ref xNoPage) (.ref xNoTask)=some false)
   (vNoPageNoPage:PySem.W.kitOne K (.ref xNoPage) (.ref xNoPage)=some true)
   (vNoPageNoRoom:PySem.W.kitOne K (.ref xNoPage) (.ref xNoRoom)=some false)
   (vNoPageTaken:PySem.W.kitOne K (.ref xNoPage) (.ref xTaken)=some false)
   (uObNoPage:PySem.W.mroIn K xNoPage (.type "object")=some true)
   (uBeNoPage:PySem.W.mroIn K xNoPage (.type "BaseException")=some true)
   (uGaNoPage:PySem.W.findIn K (.ref xNoPage) "__getattribute__" = some (some (.builtin "BaseException.__getattribute__")))
   (uGbNoPage:PySem.W.findIn K (.ref xNoPage) "__getattr__" = some none)
   (uCcNoPage:PySem.W.findIn K (.ref xNoPage) "__class__" = some (some (.builtin "object.__class__")))
   (vENoRoom:PySem.W.excIn K xNoRoom veMro "ValueError.__new__" = true)
   (vMNoRoom:PySem.W.exmOne K (.ref xNoRoom) (.ref xKernelError)=some true)
   (vVNoRoom:PySem.W.kitOne K (.ref xNoRoom) (.type "ValueError")=some true)
   (vNoRoomNoTask:PySem.W.kitOne K (.ref xNoRoom) (.ref xNoTask)=some false)
   (vNoRoomNoPage:PySem.W.kitOne K (.ref xNoRoom) (.ref xNoPage)=some false)
   (vNoRoomNoRoom:PySem.W.kitOne K (.ref xNoRoom) (.ref xNoRoom)=some true)
   (vNoRoomTaken:PySem.W.kitOne K (.ref xNoRoom) (.ref xTaken)=some false)
   (uObNoRoom:PySem.W.mroIn K xNoRoom (.type "object")=some true)
   (uBeNoRoom:PySem.W.mroIn K xNoRoom (.type "BaseException")=some true)
   (uGaNoRoom:PySem.W.findIn K (.ref xNoRoom) "__getattribute__" = some (some (.builtin "BaseException.__getattribute__")))
   (uGbNoRoom:PySem.W.findIn K (.ref xNoRoom) "__getattr__" = some none)
   (uCcNoRoom:PySem.W.findIn K (.ref xNoRoom) "__class__" = some (some (.builtin "object.__class__")))
   (vETaken:PySem.W.excIn K xTaken veMro "ValueError.__new__" = true)
   (vMTaken:PySem.W.exmOne K (.ref xTaken) (.ref xKernelError)=some true)
   (vVTaken:PySem.W.kitOne K (.ref xTaken) (.type "ValueError")=some true)
   (vTakenNoTask:PySem.W.kitOne K (.ref xTaken) (.ref xNoTask)=some false)
   (vTakenNoPage:PySem.W.kitOne K (.ref xTaken) (.ref xNoPage)=some false)
   (vTakenNoRoom:PySem.W.kitOne K (.ref xTaken) (.ref xNoRoom)=some false)
   (vTakenTaken:PySem.W.kitOne K (.ref xTaken) (.ref xTaken)=some true)
   (uObTaken:PySem.W.mroIn K xTaken (.type "object")=some true)
   (uBeTaken:PySem.W.mroIn K xTaken (.type "BaseException")=some true)
   (uGaTaken:PySem.W.findIn K (.ref xTaken) "__getattribute__" = some (some (.builtin "BaseException.__getattribute__")))
   (uGbTaken:PySem.W.findIn K (.ref xTaken) "__getattr__" = some none)
   (uCcTaken:PySem.W.findIn K (.ref xTaken) "__class__" = some (some (.builtin "object.__class__")))
   (uCg:PySem.W.specialIn K (.builtin "object.__class__") "__get__" = some (some (.builtin "getset_descriptor.__get__")))
   (uCt:PySem.W.takesIn K (.builtin "object.__class__")=some true) :
   ∃ fd:FuncData,(∀ (s:Shared) (v:Value),BindsTo s fd ⟨[v],[]⟩ [("_law_script",v)])∧∀ base:Heap,K.In base→base.Ns mainGlobals mg→FnOk l.prog w K mg base CX0 6 fa fd ["_law_script"] (spLaw K):=by
 have e:=hfa.symm.trans (PySem.W.mg_of X G a40)
 cases e
 have F1:=fun_mk (st:=sInit) l1 c1 k1
 have F2:=fun_mk (st:=sBegin) l2 c2 k2
 have F3:=fun_mk (st:=sClose) l3 c3 k3
 have F4:=fun_mk (st:=sMap) l4 c4 k4
 have F5:=fun_mk (st:=sDrop) l5 c5 k5
 have F6:=fun_mk (st:=sPeek) l6 c6 k6
 have F7:=fun_mk (st:=sPoke) l7 c7 k7
 have F8:=fun_mk (st:=sCopy) l8 c8 k8
 have F9:=fun_mk (st:=sHeld) l9 c9 k9
 have F10:=fun_mk (st:=sRoomOf) l10 c10 k10
 have F11:=fun_mk (st:=sSecond) l11 c11 k11
 have F12:=fun_mk (st:=sAbove) l12 c12 k12
 have F13:=fun_mk (st:=sPagesFrom) l13 c13 k13
 have F14:=fun_mk (st:=sUnmapped) l14 c14 k14
 have F15:=fun_mk (st:=sToMap) l15 c15 k15
 have F16:=fun_mk (st:=sToDrop) l16 c16 k16
 have F17:=fun_mk (st:=sOfCells) l17 c17 k17
 have F18:=fun_mk (st:=sWithin) l18 c18 k18
 have F19:=fun_mk (st:=sWith) l19 c19 k19
 have F20:=fun_mk (st:=sCells) l20 c20 k20
 have F21:=fun_mk (st:=sNumber) l21 c21 k21
 have F22:=fun_mk (st:=sTasks) l22 c22 k22
 have F23:=fun_mk (st:=sPage) l23 c23 k23
 have F24:=fun_mk (st:=sMany) l24 c24 k24
 have F25:=fun_mk (st:=sAddress) l25 c25 k25
 have F26:=fun_mk (st:=sCellsBy) l26 c26 k26
 have F27:=fun_mk (st:=sDeed) l27 c27 k27
 have F28:=fun_mk (st:=sDo) l28 c28 k28
 have F29:=fun_mk (st:=sWord) l29 c29 k29
 have F30:=fun_mk (st:=sTold) l30 c30 k30
 have F31:=fun_mk (st:=sHeldL) l31 c31 k31
 have F32:=fun_mk (st:=sWanted) l32 c32 k32
 have F33:=fun_mk (st:=sRefPages) l33 c33 k33
 have F34:=fun_mk (st:=sRefCells) l34 c34 k34
 have F35:=fun_mk (st:=sRefused) l35 c35 k35
 have F36:=fun_mk (st:=sChange) l36 c36 k36
 have F37:=fun_mk (st:=sDue) l37 c37 k37
 have F38:=fun_mk (st:=sSame) l38 c38 k38
 have F39:=fun_mk (st:=sAll) l39 c39 k39
 have F40:=fun_mk (st:=sLaw) l40 c40 k40
 have b1:=F1.binds (ps:=["self","total"]) λ _ _ _ _ _ _ us hl=>by obtain ⟨_,_,rfl⟩:=ln2 hl; rfl
 have b2:=F2.binds (ps:=["self","task"]) λ _ _ _ _ _ _ us hl=>by obtain ⟨_,_,rfl⟩:=ln2 hl; rfl
 have b3:=F3.binds (ps:=["self","task"]) λ _ _ _ _ _ _ us hl=>by obtain ⟨_,_,rfl⟩:=ln2 hl; rfl
 have b4:=F4.binds (ps:=["self","task","page","many"]) λ _ _ _ _ _ _ us hl=>by obtain ⟨_,_,_,_,rfl⟩:=ln4 hl; rfl
 have b5:=F5.binds (ps:=["self","task","page","many"]) λ _ _ _ _ _ _ us hl=>by obtain ⟨_,_,_,_,rfl⟩:=ln4 hl; rfl
 have b6:=F6.binds (ps:=["self","task","address","many"]) λ _ _ _ _ _ _ us hl=>by obtain ⟨_,_,_,_,rfl⟩:=ln4 hl; rfl
 have b7:=F7.binds (ps:=["self","task","address","cells"]) λ _ _ _ _ _ _ us hl=>by obtain ⟨_,_,_,_,rfl⟩:=ln4 hl; rfl
 have b8:=F8.binds (ps:=["self","task","other"]) λ _ _ _ _ _ _ us hl=>by obtain ⟨_,_,_,rfl⟩:=ln3 hl; rfl
 have b9:=F9.binds (ps:=["self"]) λ _ _ _ _ _ _ us hl=>by obtain ⟨_,rfl⟩:=ln1 hl; rfl
 have b10:=F10.binds (ps:=["rooms","task"]) λ _ _ _ _ _ _ us hl=>by obtain ⟨_,_,rfl⟩:=ln2 hl; rfl
 have b11:=F11.binds (ps:=["rooms","task"]) λ _ _ _ _ _ _ us hl=>by obtain ⟨_,_,rfl⟩:=ln2 hl; rfl
 have b12:=F12.binds (ps:=["held","total"]) λ _ _ _ _ _ _ us hl=>by obtain ⟨_,_,rfl⟩:=ln2 hl; rfl
 have b13:=F13.binds (ps:=["page","many"]) λ _ _ _ _ _ _ us hl=>by obtain ⟨_,_,rfl⟩:=ln2 hl; rfl
 have b14:=F14.binds (ps:=["mapped","pages"]) λ _ _ _ _ _ _ us hl=>by obtain ⟨_,_,rfl⟩:=ln2 hl; rfl
 have b15:=F15.binds (ps:=["mapped","page","many"]) λ _ _ _ _ _ _ us hl=>by obtain ⟨_,_,_,rfl⟩:=ln3 hl; rfl
 have b16:=F16.binds (ps:=["mapped","page","many"]) λ _ _ _ _ _ _ us hl=>by obtain ⟨_,_,_,rfl⟩:=ln3 hl; rfl
 have b17:=F17.binds (ps:=["mapped","address","many"]) λ _ _ _ _ _ _ us hl=>by obtain ⟨_,_,_,rfl⟩:=ln3 hl; rfl
 have b18:=F18.binds (ps:=["whole","address","many"]) λ _ _ _ _ _ _ us hl=>by obtain ⟨_,_,_,rfl⟩:=ln3 hl; rfl
 have b19:=F19.binds (ps:=["whole","address","cells"]) λ _ _ _ _ _ _ us hl=>by obtain ⟨_,_,_,rfl⟩:=ln3 hl; rfl
 have b20:=F20.binds (ps:=["room","pages"]) λ _ _ _ _ _ _ us hl=>by obtain ⟨_,_,rfl⟩:=ln2 hl; rfl
 have b21:=F21.binds (ps:=["_law_cell","_law_k","_law_digits"]) λ _ _ _ _ _ _ us hl=>by obtain ⟨_,_,_,rfl⟩:=ln3 hl; rfl
 have b22:=F22.binds (ps:=["_law_cell"]) λ _ _ _ _ _ _ us hl=>by obtain ⟨_,rfl⟩:=ln1 hl; rfl
 have b23:=F23.binds (ps:=["_law_rest"]) λ _ _ _ _ _ _ us hl=>by obtain ⟨_,rfl⟩:=ln1 hl; rfl
 have b24:=F24.binds (ps:=["_law_rest"]) λ _ _ _ _ _ _ us hl=>by obtain ⟨_,rfl⟩:=ln1 hl; rfl
 have b25:=F25.binds (ps:=["_law_rest"]) λ _ _ _ _ _ _ us hl=>by obtain ⟨_,rfl⟩:=ln1 hl; rfl
 have b26:=F26.binds (ps:=["_law_rest"]) λ _ _ _ _ _ _ us hl=>by obtain ⟨_,rfl⟩:=ln1 hl; rfl
 have b27:=F27.binds (ps:=["_law_number_here","_law_tasks_here"]) λ _ _ _ _ _ _ us hl=>by obtain ⟨_,_,rfl⟩:=ln2 hl; rfl
 have b28:=F28.binds (ps:=["_law_rooms","_law_deed_here"]) λ _ _ _ _ _ _ us hl=>by obtain ⟨_,_,rfl⟩:=ln2 hl; rfl
 have b29:=F29.binds (ps:=["_law_caught"]) λ _ _ _ _ _ _ us hl=>by obtain ⟨_,rfl⟩:=ln1 hl; rfl
 have b30:=F30.binds (ps:=["_law_rooms","_law_deed_here"]) λ _ _ _ _ _ _ us hl=>by obtain ⟨_,_,rfl⟩:=ln2 hl; rfl
 have b31:=F31.binds (ps:=["_law_world"]) λ _ _ _ _ _ _ us hl=>by obtain ⟨_,rfl⟩:=ln1 hl; rfl
 have b32:=F32.binds (ps:=["_law_page_here","_law_many_here"]) λ _ _ _ _ _ _ us hl=>by obtain ⟨_,_,rfl⟩:=ln2 hl; rfl
 have b33:=F33.binds (ps:=["_law_world","_law_total","_law_deed_here"]) λ _ _ _ _ _ _ us hl=>by obtain ⟨_,_,_,rfl⟩:=ln3 hl; rfl
 have b34:=F34.binds (ps:=["_law_world","_law_task","_law_address_here","_law_many_here"]) λ _ _ _ _ _ _ us hl=>by obtain ⟨_,_,_,_,rfl⟩:=ln4 hl; rfl
 have b35:=F35.binds (ps:=["_law_world","_law_total","_law_deed_here"]) λ _ _ _ _ _ _ us hl=>by obtain ⟨_,_,_,rfl⟩:=ln3 hl; rfl
 have b36:=F36.binds (ps:=["_law_world","_law_deed_here"]) λ _ _ _ _ _ _ us hl=>by obtain ⟨_,_,rfl⟩:=ln2 hl; rfl
 have b37:=F37.binds (ps:=["_law_world","_law_total","_law_deed_here"]) λ _ _ _ _ _ _ us hl=>by obtain ⟨_,_,_,rfl⟩:=ln3 hl; rfl
 have b38:=F38.binds (ps:=["_law_found","_law_due_here"]) λ _ _ _ _ _ _ us hl=>by obtain ⟨_,_,rfl⟩:=ln2 hl; rfl
 have b39:=F39.binds (ps:=["_law_rooms","_law_world"]) λ _ _ _ _ _ _ us hl=>by obtain ⟨_,_,rfl⟩:=ln2 hl; rfl
 have T:Txt K mg C:=⟨⟨pgC,hdC,poC,saC⟩,nC0,nC1,PySem.W.mg_none_of X G z_len,PySem.W.mg_none_of X G z_list,PySem.W.mg_none_of X G z_sum,PySem.W.mg_none_of X G z_zip⟩
 have ST:STxt mg:=⟨⟨_,PySem.W.mg_of X G q0,⟨_,rfl⟩⟩,⟨_,PySem.W.mg_of X G q1,⟨_,rfl⟩⟩,PySem.W.mg_none_of X G z_list,PySem.W.mg_none_of X G z_range,PySem.W.mg_none_of X G z_len⟩
 have XNoTask:XTxt K mg "NoTask" xNoTask:=⟨PySem.W.mg_of X G yNoTask,vENoTask⟩
 have XNoPage:XTxt K mg "NoPage" xNoPage:=⟨PySem.W.mg_of X G yNoPage,vENoPage⟩
 have XNoRoom:XTxt K mg "NoRoom" xNoRoom:=⟨PySem.W.mg_of X G yNoRoom,vENoRoom⟩
 have XTaken:XTxt K mg "Taken" xTaken:=⟨PySem.W.mg_of X G yTaken,vETaken⟩
 refine ⟨PySem.W.fnOf "law" "law" (defArgs sLaw) (defBody sLaw) (defScope sLaw) .none kV40 dc40 pm40 an40 cd40 ct40,λ s v=>.of_eq rfl,λ base _ _=>?_⟩
 have GR:=ok_roomOf (P:=l.prog) (w:=w) (base:=base) F10 XNoTask
 have GS:=ok_second (P:=l.prog) (w:=w) (base:=base) F11 XTaken
 have GA:=ok_above (P:=l.prog) (w:=w) (base:=base) F12 XNoRoom
 have GP:=ok_pagesFrom (P:=l.prog) (w:=w) (base:=base) F13 ST XNoPage
 have GU:=ok_unmapped (P:=l.prog) (w:=w) (base:=base) F14 XNoPage
 have GM:=ok_toMap F15 XTaken GP ⟨PySem.W.mg_of X G a13,k13,b13⟩
 have GD:=ok_toDrop F16 GP ⟨PySem.W.mg_of X G a13,k13,b13⟩ GU ⟨PySem.W.mg_of X G a14,k14,b14⟩
 have GO:=ok_ofCells F17 ST XNoPage GP ⟨PySem.W.mg_of X G a13,k13,b13⟩ GU ⟨PySem.W.mg_of X G a14,k14,b14⟩
 have GWi:=ok_within (P:=l.prog) (w:=w) (base:=base) F18 ST
 have GWw:=ok_with (P:=l.prog) (w:=w) (base:=base) F19 ST
 have GC:=ok_cellsOf (P:=l.prog) (w:=w) (base:=base) (mg:=mg) F20
 have GH:=ok_held (P:=l.prog) (w:=w) (base:=base) F9 T
 have GI:=ok_init (P:=l.prog) (w:=w) (base:=base) F1 T
 have GBe:=ok_begin F2 T GS ⟨PySem.W.mg_of X G a11,k11,b11⟩
 have GCl:=ok_close F3 T GR ⟨PySem.W.mg_of X G a10,k10,b10⟩
 have GMp:=ok_map F4 T ST GR ⟨PySem.W.mg_of X G a10,k10,b10⟩ GM ⟨PySem.W.mg_of X G a15,k15,b15⟩ GA ⟨PySem.W.mg_of X G a12,k12,b12⟩ GH b9 ⟨a9,i9,k9⟩
 have GDr:=ok_drop F5 T GR ⟨PySem.W.mg_of X G a10,k10,b10⟩ GD ⟨PySem.W.mg_of X G a16,k16,b16⟩
 have GPe:=ok_peek F6 T GR ⟨PySem.W.mg_of X G a10,k10,b10⟩ GO ⟨PySem.W.mg_of X G a17,k17,b17⟩ GC ⟨PySem.W.mg_of X G a20,k20,b20⟩ GWi ⟨PySem.W.mg_of X G a18,k18,b18⟩
 have GPk:=ok_poke F7 T GR ⟨PySem.W.mg_of X G a10,k10,b10⟩ GO ⟨PySem.W.mg_of X G a17,k17,b17⟩ GC ⟨PySem.W.mg_of X G a20,k20,b20⟩ GWw ⟨PySem.W.mg_of X G a19,k19,b19⟩
 have GCo:=ok_copy F8 T GR ⟨PySem.W.mg_of X G a10,k10,b10⟩ GS ⟨PySem.W.mg_of X G a11,k11,b11⟩ GA ⟨PySem.W.mg_of X G a12,k12,b12⟩ GH b9 ⟨a9,i9,k9⟩
 have MT:MTxt mg:=⟨PySem.W.mg_none_of X G z_range,PySem.W.mg_none_of X G z_enumerate,PySem.W.mg_none_of X G z_sum,PySem.W.mg_none_of X G z_int,PySem.W.mg_none_of X G z_isinstance,PySem.W.mg_none_of X G z_min,PySem.W.mg_none_of X G z_list,PySem.W.mg_none_of X G z_len,PySem.W.mg_none_of X G z_dict,PySem.W.mg_none_of X G z_bool,PySem.W.mg_none_of X G z_sorted⟩
 have OT:OTx K mg (cl4of xNoTask xNoPage xNoRoom xTaken):=⟨λ Z0=>match Z0 with | .noTask=>⟨uObNoTask,uBeNoTask,uGaNoTask,uGbNoTask,uCcNoTask,uCg,uCt⟩ | .noPage=>⟨uObNoPage,uBeNoPage,uGaNoPage,uGbNoPage,uCcNoPage,uCg,uCt⟩ | .noRoom=>⟨uObNoRoom,uBeNoRoom,uGaNoRoom,uGbNoRoom,uCcNoRoom,uCg,uCt⟩ | .taken=>⟨uObTaken,uBeTaken,uGaTaken,uGbTaken,uCcTaken,uCg,uCt⟩,PySem.W.mg_none_of X G z_ValueError,λ Z0=>match Z0 with | .noTask=>vVNoTask | .noPage=>vVNoPage | .noRoom=>vVNoRoom | .taken=>vVTaken,λ Z0=>match Z0 with | .noTask=>PySem.W.mg_of X G yNoTask | .noPage=>PySem.W.mg_of X G yNoPage | .noRoom=>PySem.W.mg_of X G yNoRoom | .taken=>PySem.W.mg_of X G yTaken,λ Z1 Z2=>match Z1,Z2 with | .noTask,.noTask=>vNoTaskNoTask | .noTask,.noPage=>vNoTaskNoPage | .noTask,.noRoom=>vNoTaskNoRoom | .noTask,.taken=>vNoTaskTaken | .noPage,.noTask=>vNoPageNoTask | .noPage,.noPage=>vNoPageNoPage | .noPage,.noRoom=>vNoPageNoRoom | .noPage,.taken=>vNoPageTaken | .noRoom,.noTask=>vNoRoomNoTask | .noRoom,.noPage=>vNoRoomNoPage | .noRoom,.noRoom=>vNoRoomNoRoom | .noRoom,.taken=>vNoRoomTaken | .taken,.noTask=>vTakenNoTask | .taken,.noPage=>vTakenNoPage | .taken,.noRoom=>vTakenNoRoom | .taken,.taken=>vTakenTaken⟩
 let KT:Kit l.prog w K mg base C (cl4of xNoTask xNoPage xNoRoom xTaken):=⟨_,_,_,_,_,_,_,_,_,_,_,_,_,_,_,_,T.cl,GBe,b2,⟨a2,i2,k2⟩,GCl,b3,⟨a3,i3,k3⟩,GMp,b4,⟨a4,i4,k4⟩,GDr,b5,⟨a5,i5,k5⟩,GPe,b6,⟨a6,i6,k6⟩,GPk,b7,⟨a7,i7,k7⟩,GCo,b8,⟨a8,i8,k8⟩,GH,b9,⟨a9,i9,k9⟩⟩
 have GNu:=ok_number (P:=l.prog) (w:=w) (base:=base) (mg:=mg) F21
 have GTs:=ok_tasks (P:=l.prog) (w:=w) (base:=base) (mg:=mg) F22
 have GPg:=ok_page (P:=l.prog) (w:=w) (base:=base) (mg:=mg) F23
 have GMa:=ok_many (P:=l.prog) (w:=w) (base:=base) (mg:=mg) F24
 have GAd:=ok_address (P:=l.prog) (w:=w) (base:=base) (mg:=mg) F25
 have GCb:=ok_cellsBy (P:=l.prog) (w:=w) (base:=base) F26 MT
 have GDe:=ok_deed F27 MT GPg ⟨PySem.W.mg_of X G a23,k23,b23⟩ GMa ⟨PySem.W.mg_of X G a24,k24,b24⟩ GAd ⟨PySem.W.mg_of X G a25,k25,b25⟩ GCb ⟨PySem.W.mg_of X G a26,k26,b26⟩
 have GDo:=ok_do F28 KT
 have GWo:=λ hx:Addr=>ok_word (e:=hx) (P:=l.prog) (w:=w) (base:=base) F29 MT OT
 have GTo:=ok_told F30 (PySem.W.mg_of X G yKernelError) (λ Z0=>match Z0 with | .noTask=>vMNoTask | .noPage=>vMNoPage | .noRoom=>vMNoRoom | .taken=>vMTaken) GDo ⟨PySem.W.mg_of X G a28,k28,b28⟩ GWo ⟨PySem.W.mg_of X G a29,k29,b29⟩
 have GHl:=ok_heldL (P:=l.prog) (w:=w) (base:=base) F31 MT
 have GWa:=ok_wanted (P:=l.prog) (w:=w) (base:=base) F32 MT
 have GRp:=ok_refPages F33 MT GWa ⟨PySem.W.mg_of X G a32,k32,b32⟩ GHl ⟨PySem.W.mg_of X G a31,k31,b31⟩
 have GRc:=ok_refCells (P:=l.prog) (w:=w) (base:=base) F34 MT
 have GRf:=ok_refused F35 MT GRp ⟨PySem.W.mg_of X G a33,k33,b33⟩ GRc ⟨PySem.W.mg_of X G a34,k34,b34⟩ GHl ⟨PySem.W.mg_of X G a31,k31,b31⟩
 have GCh:=ok_change (C:=C) (P:=l.prog) (w:=w) (base:=base) F36 MT
 have GDu:=ok_due F37 MT GRf ⟨PySem.W.mg_of X G a35,k35,b35⟩ GCh ⟨PySem.W.mg_of X G a36,k36,b36⟩
 have GSa:=ok_same (P:=l.prog) (w:=w) (base:=base) F38 MT
 have GAl:=ok_all F39 MT KT GSa ⟨PySem.W.mg_of X G a38,k38,b38⟩
 exact ok_law F40 MT KT (PySem.W.mg_of X G aC) ⟨mkC,a1,i1,kcC⟩ GI b1 GNu ⟨PySem.W.mg_of X G a21,k21,b21⟩ GTs ⟨PySem.W.mg_of X G a22,k22,b22⟩ GDe ⟨PySem.W.mg_of X G a27,k27,b27⟩ GTo ⟨PySem.W.mg_of X G a30,k30,b30⟩ GSa ⟨PySem.W.mg_of X G a38,k38,b38⟩ GDu ⟨PySem.W.mg_of X G a37,k37,b37⟩ GHl ⟨PySem.W.mg_of X G a31,k31,b31⟩ GAl ⟨PySem.W.mg_of X G a39,k39,b39⟩
theorem walk {l:PySem.W.OpenLaw}{q:Program}{loose:List Str}{XP:(Str→Option Value)→Heap→Prop}{YP:World→Heap→Prop}{d:DefRec}{K:Params→PySem.W.Frag}(hn:l.most=some 63) (hdf:d.params.defaults=[])
   (hY:∀ (w:World) (h:Heap),YP w h→(K w.params).In h)
   (F:∀ (w:World) (mg:Str→Option Value) (fa:Addr) (h:Heap),(K w.params).In h→h.Ns mainGlobals mg→mg d.name=some (.ref fa) →
     ∃ fd:FuncData,(∀ (s:Shared) (u:Value),BindsTo s fd ⟨[u],[]⟩ [("_law_script",u)])∧∀ base:Heap,(K w.params).In base→base.Ns mainGlobals mg→FnOk l.prog w (K w.params) mg base CX0 6 fa fd ["_law_script"] (spLaw (K w.params))) :
   PySem.W.WalkO q loose XP YP l.row.toRowW d [] (λ f vs=>PySem.call f vs) :=
 L2.walk_of (n:=63) (k:=6) (x := "_law_script") (CX:=λ _=>CX0) (sp:=λ w=>spLaw (K w.params)) hn (by decide) hdf ⟨rfl,by decide,by decide⟩ hY F (λ _ _ a ns hl _ hS=>⟨a,ns,rfl,hS,hl,λ _=>rfl⟩) λ _ _ _ _ _ z=>z
end Rm
open PySem PySem.W PyProof.Rows
set_option maxRecDepth 100000 in
set_option maxHeartbeats 0 in
theorem PySem.Challenge.cw_ownroom_k20_plain_rooms_deeds_holds : PySem.Challenge.rw_ownroom_k20_plain_rooms_deeds.Holds := by
 refine Hd.top ⟨Hd.left_of (H:=boot_heap) (T:=Hd.bootT) (life:={}) (m:=11) (M:=100000) (gs:=Array.mk []) (d:=boot_drawn) (k:=boot_toks) (an:=some (.ref 6)) (boot_open (by kernel_rfl) (by decide) (λ s=>by kernel_rfl)) (λ P=>by kernel_rfl) (λ w=>by kernel_rfl) (by decide) (λ w os=>Hd.run_ w os),?_⟩
 k_fill
 refine Rm.walk (l:=PySem.Challenge.rw_ownroom_k20_plain_rooms_deeds) rfl rfl (λ w h Y=>PySem.W.kIn_of Y) ?F
 case F =>
   intro w mg fa h KX G hmg
   refine' Rm.all_mk KX G hmg ?aC ?a1 ?i1 ?l1 ?c1 ?k1 ?a2 ?i2 ?l2 ?c2 ?k2 ?a3 ?i3 ?l3 ?c3 ?k3 ?a4 ?i4 ?l4 ?c4 ?k4 ?a5 ?i5 ?l5 ?c5 ?k5 ?a6 ?i6 ?l6 ?c6 ?k6 ?a7 ?i7 ?l7 ?c7 ?k7 ?a8 ?i8 ?l8 ?c8 ?k8 ?a9 ?i9 ?l9 ?c9 ?k9 ?pgC ?hdC ?poC ?saC ?mkC ?kcC ?nC0 ?nC1 ?a10 ?l10 ?c10 ?k10 ?a11 ?l11 ?c11 ?k11 ?a12 ?l12 ?c12 ?k12 ?a13 ?l13 ?c13 ?k13 ?a14 ?l14 ?c14 ?k14 ?a15 ?l15 ?c15 ?k15 ?a16 ?l16 ?c16 ?k16 ?a17 ?l17 ?c17 ?k17 ?a18 ?l18 ?c18 ?k18 ?a19 ?l19 ?c19 ?k19 ?a20 ?l20 ?c20 ?k20 ?a21 ?l21 ?c21 ?k21 ?a22 ?l22 ?c22 ?k22 ?a23 ?l23 ?c23 ?k23 ?a24 ?l24 ?c24 ?k24 ?a25 ?l25 ?c25 ?k25 ?a26 ?l26 ?c26 ?k26 ?a27 ?l27 ?c27 ?k27 ?a28 ?l28 ?c28 ?k28 ?a29 ?l29 ?c29 ?k29 ?a30 ?l30 ?c30 ?k30 ?a31 ?l31 ?c31 ?k31 ?a32 ?l32 ?c32 ?k32 ?a33 ?l33 ?c33 ?k33 ?a34 ?l34 ?c34 ?k34 ?a35 ?l35 ?c35 ?k35 ?a36 ?l36 ?c36 ?k36 ?a37 ?l37 ?c37 ?k37 ?a38 ?l38 ?c38 ?k38 ?a39 ?l39 ?c39 ?k39 ?a40 ?l40 ?c40 ?k40 ?q0 ?q1 ?z_list ?z_len ?z_range ?z_enumerate ?z_int ?z_sum ?z_zip ?z_isinstance ?z_min ?z_dict ?z_bool ?z_sorted ?z_ValueError ?yNoTask ?yNoPage ?yNoRoom ?yTaken ?yKernelError ?vENoTask ?vMNoTask ?vVNoTask ?vNoTaskNoTask ?vNoTaskNoPage ?vNoTaskNoRoom ?vNoTaskTaken ?uObNoTask ?uBeNoTask ?uGaNoTask ?uGbNoTask ?uCcNoTask ?vENoPage ?vMNoPage ?vVNoPage ?vNoPageNoTask ?vNoPageNoPage ?vNoPageNoRoom ?vNoPageTaken ?uObNoPage ?uBeNoPage ?uGaNoPage ?uGbNoPage ?uCcNoPage ?vENoRoom ?vMNoRoom ?vVNoRoom ?vNoRoomNoTask ?vNoRoomNoPage ?vNoRoomNoRoom ?vNoRoomTaken ?uObNoRoom ?uBeNoRoom ?uGaNoRoom ?uGbNoRoom ?uCcNoRoom ?vETaken ?vMTaken ?vVTaken ?vTakenNoTask ?vTakenNoPage ?vTakenNoRoom ?vTakenTaken ?uObTaken ?uBeTaken ?uGaTaken ?uGbTaken ?uCcTaken ?uCg ?uCt
   (case aC=>k_is)
   (case a1=>k_is)
   (case i1=>k_is)
   (case l1=>k_is)
   (case c1=>k_is)
   (case k1=>k_is)
   (case a2=>k_is)
   (case i2=>k_is)
   (case l2=>k_is)
   (case c2=>k_is)
   (case k2=>k_is)
   (case a3=>k_is)
   (case i3=>k_is)
   (case l3=>k_is)
   (case c3=>k_is)
   (case k3=>k_is)
   (case a4=>k_is)
   (case i4=>k_is)
   (case l4=>k_is)
   (case c4=>k_is)
   (case k4=>k_is)
   (case a5=>k_is)
   (case i5=>k_is)
   (case l5=>k_is)
   (case c5=>k_is)
   (case k5=>k_is)
   (case a6=>k_is)
   (case i6=>k_is)
   (case l6=>k_is)
   (case c6=>k_is)
   (case k6=>k_is)
   (case a7=>k_is)
   (case i7=>k_is)
   (case l7=>k_is)
   (case c7=>k_is)
   (case k7=>k_is)
   (case a8=>k_is)
   (case i8=>k_is)
   (case l8=>k_is)
   (case c8=>k_is)
   (case k8=>k_is)
   (case a9=>k_is)
   (case i9=>k_is)
   (case l9=>k_is)
   (case c9=>k_is)
   (case k9=>k_is)
   (case pgC=>k_is)
   (case hdC=>k_is)
   (case poC=>k_is)
   (case saC=>k_is)
   (case mkC=>k_is)
   (case kcC=>k_is)
   (case nC0=>k_is)
   (case nC1=>k_is)
   (case a10=>k_is)
   (case l10=>k_is)
   (case c10=>k_is)
   (case k10=>k_is)
   (case a11=>k_is)
   (case l11=>k_is)
   (case c11=>k_is)
   (case k11=>k_is)
   (case a12=>k_is)
   (case l12=>k_is)
   (case c12=>k_is)
   (case k12=>k_is)
   (case a13=>k_is)
   (case l13=>k_is)
   (case c13=>k_is)
   (case k13=>k_is)
   (case a14=>k_is)
   (case l14=>k_is)
   (case c14=>k_is)
   (case k14=>k_is)
   (case a15=>k_is)
   (case l15=>k_is)
   (case c15=>k_is)
   (case k15=>k_is)
   (case a16=>k_is)
   (case l16=>k_is)
   (case c16=>k_is)
   (case k16=>k_is)
   (case a17=>k_is)
   (case l17=>k_is)
   (case c17=>k_is)
   (case k17=>k_is)
   (case a18=>k_is)
   (case l18=>k_is)
   (case c18=>k_is)
   (case k18=>k_is)
   (case a19=>k_is)
   (case l19=>k_is)
   (case c19=>k_is)
   (case k19=>k_is)
   (case a20=>k_is)
   (case l20=>k_is)
   (case c20=>k_is)
   (case k20=>k_is)
   (case a21=>k_is)
   (case l21=>k_is)
   (case c21=>k_is)
   (case k21=>k_is)
   (case a22=>k_is)
   (case l22=>k_is)
   (case c22=>k_is)
   (case k22=>k_is)
   (case a23=>k_is)
   (case l23=>k_is)
   (case c23=>k_is)
   (case k23=>k_is)
   (case a24=>k_is)
   (case l24=>k_is)
   (case c24=>k_is)
   (case k24=>k_is)
   (case a25=>k_is)
   (case l25=>k_is)
   (case c25=>k_is)
   (case k25=>k_is)
   (case a26=>k_is)
   (case l26=>k_is)
   (case c26=>k_is)
   (case k26=>k_is)
   (case a27=>k_is)
   (case l27=>k_is)
   (case c27=>k_is)
   (case k27=>k_is)
   (case a28=>k_is)
   (case l28=>k_is)
   (case c28=>k_is)
   (case k28=>k_is)
   (case a29=>k_is)
   (case l29=>k_is)
   (case c29=>k_is)
   (case k29=>k_is)
   (case a30=>k_is)
   (case l30=>k_is)
   (case c30=>k_is)
   (case k30=>k_is)
   (case a31=>k_is)
   (case l31=>k_is)
   (case c31=>k_is)
   (case k31=>k_is)
   (case a32=>k_is)
   (case l32=>k_is)
   (case c32=>k_is)
   (case k32=>k_is)
   (case a33=>k_is)
   (case l33=>k_is)
   (case c33=>k_is)
   (case k33=>k_is)
   (case a34=>k_is)
   (case l34=>k_is)
   (case c34=>k_is)
   (case k34=>k_is)
   (case a35=>k_is)
   (case l35=>k_is)
   (case c35=>k_is)
   (case k35=>k_is)
   (case a36=>k_is)
   (case l36=>k_is)
   (case c36=>k_is)
   (case k36=>k_is)
   (case a37=>k_is)
   (case l37=>k_is)
   (case c37=>k_is)
   (case k37=>k_is)
   (case a38=>k_is)
   (case l38=>k_is)
   (case c38=>k_is)
   (case k38=>k_is)
   (case a39=>k_is)
   (case l39=>k_is)
   (case c39=>k_is)
   (case k39=>k_is)
   (case a40=>k_is)
   (case l40=>k_is)
   (case c40=>k_is)
   (case k40=>k_is)
   (case q0=>k_is)
   (case q1=>k_is)
   (case z_list=>k_is)
   (case z_len=>k_is)
   (case z_range=>k_is)
   (case z_enumerate=>k_is)
   (case z_int=>k_is)
   (case z_sum=>k_is)
   (case z_zip=>k_is)
   (case z_isinstance=>k_is)
   (case z_min=>k_is)
   (case z_dict=>k_is)
   (case z_bool=>k_is)
   (case z_sorted=>k_is)
   (case z_ValueError=>k_is)
   (case yNoTask=>k_is)
   (case yNoPage=>k_is)
   (case yNoRoom=>k_is)
   (case yTaken=>k_is)
   (case yKernelError=>k_is)
   (case vENoTask=>k_exc)
   (case vMNoTask=>kts_exm)
   (case vVNoTask=>kit_is)
   (case vNoTaskNoTask=>kit_is)
   (case vNoTaskNoPage=>kit_is)
   (case vNoTaskNoRoom=>kit_is)
   (case vNoTaskTaken=>kit_is)
   (case uObNoTask=>k_is)
   (case uBeNoTask=>k_is)
   (case uGaNoTask=>k_is)
   (case uGbNoTask=>k_is)
   (case uCcNoTask=>k_is)
   (case vENoPage=>k_exc)
   (case vMNoPage=>kts_exm)
   (case vVNoPage=>kit_is)
   (case vNoPageNoTask=>kit_is)
   (case vNoPageNoPage=>kit_is)
   (case vNoPageNoRoom=>kit_is)
   (case vNoPageTaken=>kit_is)
   (case uObNoPage=>k_is)
   (case uBeNoPage=>k_is)
   (case uGaNoPage=>k_is)
   (case uGbNoPage=>k_is)
   (case uCcNoPage=>k_is)
   (case vENoRoom=>k_exc)
   (case vMNoRoom=>kts_exm)
   (case vVNoRoom=>kit_is)
   (case vNoRoomNoTask=>kit_is)
   (case vNoRoomNoPage=>kit_is)
   (case vNoRoomNoRoom=>kit_is)
   (case vNoRoomTaken=>kit_is)
   (case uObNoRoom=>k_is)
   (case uBeNoRoom=>k_is)
   (case uGaNoRoom=>k_is)
   (case uGbNoRoom=>k_is)
   (case uCcNoRoom=>k_is)
   (case vETaken=>k_exc)
   (case vMTaken=>kts_exm)
   (case vVTaken=>kit_is)
   (case vTakenNoTask=>kit_is)
   (case vTakenNoPage=>kit_is)
   (case vTakenNoRoom=>kit_is)
   (case vTakenTaken=>kit_is)
   (case uObTaken=>k_is)
   (case uBeTaken=>k_is)
   (case uGaTaken=>k_is)
   (case uGbTaken=>k_is)
   (case uCcTaken=>k_is)
   (case uCg=>k_is)
   (case uCt=>k_is)
