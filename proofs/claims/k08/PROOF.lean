import PyProof.Rows.All
import Wide.All
import OpenK.AllK
import Wide.FinOn
import Lean
import PyProof.EqAt
import PyProof.EqKinds
import PyProof.TupleCall
import PySem.Challenge.RW_surebook_k08_sides
set_option Elab.async false
set_option linter.all false
set_option maxRecDepth 100000
namespace L2
open PySem PySem.Spec PyProof.Rows
abbrev Key:=Sum Int Str
def keyIs : Key -> Value -> Bool
 | .inl k,v=>Value.isInt k v
 | .inr x,v=>Value.isStrOf x v
def keyH (w : World) : Key -> Int
 | .inl k=>hashInt k
 | .inr x=>hashStr w x
theorem keyIs_shape : ∀ {k : Key} {v : Value},keyIs k v = true -> (∃ i t,k = Sum.inl i /\ v = Value.int i t) \/ (∃ x t,k = Sum.inr x /\ v = Value.str x t)
 | .inl i,v,h=>by
  obtain ⟨t,e⟩:=Value.isInt_shape (k:=i) (v:=v) h
  exact .inl ⟨i,t,rfl,e⟩
 | .inr x,v,h=>by
  obtain ⟨t,e⟩:=Value.isStrOf_shape (x:=x) (v:=v) h
  exact .inr ⟨x,t,rfl,e⟩
theorem key_ll (a b : Int) : decide ((Sum.inl a : Key) = Sum.inl b) = (a == b):=by
 by_cases e : a = b
 ·subst e; simp
 ·have h : ¬ (Sum.inl a : Key) = Sum.inl b:=fun q=>e (Sum.inl.inj q)
  rw [decide_eq_false h]
  exact (beq_eq_false_iff_ne.mpr e).symm
theorem key_rr (a b : Str) : decide ((Sum.inr a : Key) = Sum.inr b) = decide (a = b):=by
 by_cases e : a = b
 ·subst e; simp
 ·have h : ¬ (Sum.inr a : Key) = Sum.inr b:=fun q=>e (Sum.inr.inj q)
  rw [decide_eq_false h,decide_eq_false e]
theorem key_lr (a : Int) (b : Str) : decide ((Sum.inl a : Key) = Sum.inr b) = false:=decide_eq_false (fun q=>nomatch q)
theorem key_rl (a : Str) (b : Int) : decide ((Sum.inr a : Key) = Sum.inl b) = false:=decide_eq_false (fun q=>nomatch q)
def mixKind (prog : Program) (w : World) : PySem.KeyKind prog w Key where
 is:=keyIs
 hash:=keyH w
 inj:=fun v a b ha hb=>by
  rcases keyIs_shape ha with ⟨i,t,rfl,rfl⟩ | ⟨x,t,rfl,rfl⟩
  ·rcases keyIs_shape hb with ⟨j,u,rfl,e⟩ | ⟨y,u,rfl,e⟩
   ·injection e with e1 _; rw [e1]
   ·exact nomatch e
  ·rcases keyIs_shape hb with ⟨j,u,rfl,e⟩ | ⟨y,u,rfl,e⟩
   ·exact nomatch e
   ·injection e with e1 _; rw [e1]
 byValue:=fun k v h=>by
  rcases keyIs_shape h with ⟨i,t,rfl,rfl⟩ | ⟨x,t,rfl,rfl⟩ <;> rfl
 pyHash:=fun hv h=>by
  rcases keyIs_shape hv with ⟨i,t,rfl,rfl⟩ | ⟨x,t,rfl,rfl⟩
  ·exact wpAny_pyHash_int h
  ·exact wpAny_pyHash_str h
 eqBool:=fun hu hv h=>by
  rcases keyIs_shape hu with ⟨i,t,rfl,rfl⟩ | ⟨x,t,rfl,rfl⟩
  ·rcases keyIs_shape hv with ⟨j,u,rfl,rfl⟩ | ⟨y,u,rfl,rfl⟩
   ·rw [key_ll] at h; exact wpAny_eqBool_int h
   ·rw [key_lr] at h; exact SeqAt.EqAt.int_str i t y u _ _ _ _ h
  ·rcases keyIs_shape hv with ⟨j,u,rfl,rfl⟩ | ⟨y,u,rfl,rfl⟩
   ·rw [key_rl] at h; exact SeqAt.EqAt.str_int x t j u _ _ _ _ h
   ·rw [key_rr] at h; exact wpAny_eqBool_str h
 «strs»:=fun k x t v h=>by
  rcases keyIs_shape h with ⟨i,u,rfl,e⟩ | ⟨y,u,rfl,e⟩
  ·exact nomatch e
  ·injection e with e1 _
   subst e1
   cases v <;> rfl
end L2
namespace L2
open PySem PySem.Spec PyProof.Rows
inductive V where
 | non | bl (b : Bool) | int (i : Int) | str (x : Str) | byt (b : Array UInt8) | flt (b : UInt64) | ref (a : Addr) | ty (n : String)
 deriving DecidableEq
def RelV : V -> Value -> Prop
 | .non,u=>u = Value.none
 | .bl b,u=>u = Value.bool b
 | .int i,u=>∃ t,u = Value.int i t
 | .str x,u=>∃ t,u = Value.str x t
 | .byt b,u=>∃ t,u = Value.bytes b t
 | .flt b,u=>∃ t,u = Value.float b t
 | .ref a,u=>u = Value.ref a
 | .ty n,u=>u = Value.type n
abbrev Vals : List V -> List Value -> Prop:=Paired RelV
theorem Vals.length {xs : List V} {us : List Value} (r : Vals xs us) : xs.length = us.length:=Paired.length r
theorem Vals.get : ∀ {xs : List V} {us : List Value} {i : Nat} {x : V},Vals xs us -> xs[i]? = some x -> ∃ u,us[i]? = some u /\ RelV x u
 | _,_,_,_,.nil,e=>by simp at e
 | _,_,0,_,.cons r _,e=>by simp at e; subst e; exact ⟨_,rfl,r⟩
 | _,_,i + 1,x,.cons _ t,e=>by
  obtain ⟨u,h1,h2⟩:=Vals.get (i:=i) (x:=x) t (by simpa using e)
  exact ⟨u,by simpa using h1,h2⟩
theorem Vals.set {x : V} {u : Value} (r : RelV x u) : ∀ {xs : List V} {us : List Value} (i : Nat),Vals xs us -> Vals (xs.set i x) (us.set i u)
 | _,_,_,.nil=>.nil
 | _,_,0,.cons _ t=>.cons r t
 | _,_,i + 1,.cons q t=>.cons q (Vals.set r i t)
theorem Vals.append : ∀ {xs ys : List V} {us ws : List Value},Vals xs us -> Vals ys ws -> Vals (xs ++ ys) (us ++ ws)
 | _,_,_,_,.nil,s=>s
 | _,_,_,_,.cons r t,s=>.cons r (Vals.append t s)
def RelO : Option V -> Option Value -> Prop
 | some v,some u=>RelV v u
 | none,none=>True
 | _,_=>False
def KV {κ : Type} : List (κ × V) -> List (κ × Value) -> Prop:=Paired fun (p : κ × V) (q : κ × Value)=>p.1 = q.1 /\ RelV p.2 q.2
def kV : Key -> V
 | .inl i=>.int i
 | .inr x=>.str x
inductive HO where
 | lst (xs : List V)
 | tup (xs : List V)
 | dK (kvs : List (Key × V)) | dT (kvs : List (List Key × V))
 | set (S : Int -> Bool) (n : Nat)
 | ins (C dx : Addr) (fs : List (Str × V))
 | own (x : Addr)
 | xd (fs : List (Str × V))
 | met (f x : Addr)
 | rng (lo hi : Int)
 | frz (o : Obj) (u : HO)
 | tbl (ps : Array Value)
 | ext (φ : Heap -> Prop)
abbrev Hp:=Addr -> Option HO
def upd (H : Hp) (a : Addr) (o : HO) : Hp:=fun b=>if b = a then some o else H b
theorem upd_same {H : Hp} {a : Addr} {o : HO} : upd H a o a = some o:=by unfold upd; rw [if_pos rfl]
theorem upd_ne {H : Hp} {a b : Addr} {o : HO} (h : b ≠ a) : upd H a o b = H b:=by unfold upd; rw [if_neg h]
theorem ne_of {H : Hp} {a b : Addr} {o u : HO} (h : H a = some o) (h' : H b = some u) (d : o ≠ u) : a ≠ b:=by
 intro e; subst e; rw [h] at h'; exact d (Option.some.inj h')
theorem ne_of_none {H : Hp} {a b : Addr} {o : HO} (h : H a = some o) (h' : H b = none) : a ≠ b:=by
 intro e; subst e; rw [h] at h'; cases h'
section
variable (P : Program) (w : World)
def ObjOk (H : Hp) (h : Heap) (a : Addr) : HO -> Prop
 | .lst xs=>xs.length <= sizeLine /\ ∃ (its : List Value) (n : Nat),Vals xs its /\ h.get? a = some { cls:=.type "list",data:=.seq its.toArray n }
 | .tup xs=>xs.length <= sizeLine /\ ∃ its : List Value,Vals xs its /\ IsTup h a its.toArray
 | .dK kvs=>kvs.length <= sizeLine /\ (a == sysModules) = false /\ ∃ vs,KV kvs vs /\ h.DictOf (mixKind P w) a vs
 | .dT kvs=>kvs.length <= sizeLine /\ (a == sysModules) = false /\ ∃ xs : List (List Key × Addr × Value),
   Paired (fun (p : List Key × V) (q : List Key × Addr × Value)=>p.1 = q.1 /\ H q.2.1 = some (.tup (p.1.map kV)) /\ RelV p.2 q.2.2) kvs xs ∧
   ∃ o es ep,h.get? a = some o /\ o.ExactDict /\ o.data = .dict es ep /\ es.toList = xs.map (entryOfKey (tupleKind (mixKind P w))) /\ (xs.map (·.1)).Nodup
 | .set S n=>h.SetOf (intKind P w) a S n
 | .ins C dx fs=>H dx = some (.own a) /\ fs.length <= 1000 /\ dx ≠ a /\ h.get? a = some (PySem.W.instObj C dx) ∧
   ∃ mA,h.Ns1 dx mA /\ (∀ f,RelO (fs.lookup f) (mA f)) /\ PySem.Within mA (fs.map (·.1))
 | .own _=>∃ o,h.get? a = some o
 | .xd fs=>∃ mA,h.Ns1 a mA /\ ∀ f,RelO (fs.lookup f) (mA f)
 | .rng lo hi=>∃ t u v,h.get? a = some { cls:=.type "range",data:=.fields #[.int lo t,.int hi u,.int 1 v] }
 | .frz o u=>h.get? a = some o /\ ObjOk H h a u
 | .tbl ps=>h.get? a = some { cls:=.none,data:=.fields ps }
 | .met f x=>h.get? a = some (PySem.W.methodObj (.ref f) (.ref x))
 | .ext φ=>φ h /\ (∃ o,h.get? a = some o) /\ ∀ h1 h2 : Heap,φ h1 -> (∀ o,h1.get? a = some o -> h2.get? a = some o) -> φ h2
def HOk (H : Hp) (h : Heap) : Prop:=∀ a o,H a = some o -> ObjOk P w H h a o
end
section
variable {P : Program} {w : World} {H H' : Hp} {h h' : Heap} {a : Addr} {o : HO}
theorem ObjOk.lt (x : ObjOk P w H h a o) : a < h.objs.size:=by
 cases o with
 | lst xs=>obtain ⟨_,_,_,_,e⟩:=x; exact Heap.lt_size e
 | tup xs=>obtain ⟨_,_,_,p⟩:=x; exact p.lt
 | dK kvs=>obtain ⟨_,_,_,_,o,_,_,e,_⟩:=x; exact Heap.lt_size e
 | dT kvs=>obtain ⟨_,_,_,_,o,_,_,e,_⟩:=x; exact Heap.lt_size e
 | set S n=>obtain ⟨o,_,_,_,e,_⟩:=x; exact Heap.lt_size e
 | ins C dx fs=>obtain ⟨_,_,_,e,_⟩:=x; exact Heap.lt_size e
 | own y=>obtain ⟨_,e⟩:=x; exact Heap.lt_size e
 | xd fs=>obtain ⟨_,⟨_,_,_,e,_⟩,_⟩:=x; exact Heap.lt_size e
 | rng lo hi=>obtain ⟨_,_,_,e⟩:=x; exact Heap.lt_size e
 | frz ob u=>obtain ⟨e,_⟩:=x; exact Heap.lt_size e
 | tbl ps=>exact Heap.lt_size (show h.get? a = some _ from x)
 | met f y=>exact Heap.lt_size (show h.get? a = some _ from x)
 | ext φ=>obtain ⟨_,⟨_,e⟩,_⟩:=x; exact Heap.lt_size e
theorem Paired.mapP {α β : Type} {F G : α -> β -> Prop} : ∀ {l₁ : List α} {l₂ : List β},Paired F l₁ l₂ -> (∀ a b,F a b -> G a b) -> Paired G l₁ l₂
 | _,_,.nil,_=>.nil
 | _,_,.cons r t,f=>.cons (f _ _ r) (Paired.mapP t f)
theorem ObjOk.stay (x : ObjOk P w H h a o) (k : ∀ b u,(b = a \/ H b = some (.own a)) -> h.get? b = some u -> h'.get? b = some u)
  (ho : ∀ b,H b = some (.own a) -> H' b = some (.own a)) (ht : ∀ b xs,H b = some (.tup xs) -> H' b = some (.tup xs)) : ObjOk P w H' h' a o:=by
 induction o with
 | lst xs=>obtain ⟨z,its,n,r,e⟩:=x; exact ⟨z,its,n,r,k _ _ (.inl rfl) e⟩
 | tup xs=>obtain ⟨z,its,r,ob,e,c⟩:=x; exact ⟨z,its,r,ob,k _ _ (.inl rfl) e,c⟩
 | dK kvs=>obtain ⟨z,y,vs,r,ob,es,ep,e,c⟩:=x; exact ⟨z,y,vs,r,ob,es,ep,k _ _ (.inl rfl) e,c⟩
 | dT kvs =>
  obtain ⟨z,y,xs,r,ob,es,ep,e,c⟩:=x
  exact ⟨z,y,xs,Paired.mapP r fun p q z=>⟨z.1,ht _ _ z.2.1,z.2.2⟩,ob,es,ep,k _ _ (.inl rfl) e,c⟩
 | set S n=>obtain ⟨ob,es,ep,t,e,c⟩:=x; exact ⟨ob,es,ep,t,k _ _ (.inl rfl) e,c⟩
 | ins C dx fs =>
  obtain ⟨d,z,ne,e,mA,⟨od,es,ep,e2,c⟩,r⟩:=x
  exact ⟨ho _ d,z,ne,k _ _ (.inl rfl) e,mA,⟨od,es,ep,k _ _ (.inr d) e2,c⟩,r⟩
 | own y=>obtain ⟨ob,e⟩:=x; exact ⟨ob,k _ _ (.inl rfl) e⟩
 | xd fs=>obtain ⟨mA,⟨od,es,ep,e,c⟩,r⟩:=x; exact ⟨mA,⟨od,es,ep,k _ _ (.inl rfl) e,c⟩,r⟩
 | rng lo hi=>obtain ⟨t,u,v,e⟩:=x; exact ⟨t,u,v,k _ _ (.inl rfl) e⟩
 | frz ob u ih=>obtain ⟨e,q⟩:=x; exact ⟨k _ _ (.inl rfl) e,ih q⟩
 | tbl ps =>
  have e : h.get? a = some { cls:=.none,data:=.fields ps }:=x
  show h'.get? a = some { cls:=.none,data:=.fields ps }
  exact k a _ (.inl rfl) e
 | met f y =>
  have e : h.get? a = some (PySem.W.methodObj (.ref f) (.ref y)):=x
  show h'.get? a = some (PySem.W.methodObj (.ref f) (.ref y))
  exact k a _ (.inl rfl) e
 | ext φ=>obtain ⟨p,⟨o,e⟩,st⟩:=x; exact ⟨st _ _ p fun o q=>k _ _ (.inl rfl) q,⟨o,k _ _ (.inl rfl) e⟩,st⟩
theorem HOk.lt (x : HOk P w H h) (e : H a = some o) : a < h.objs.size:=(x a o e).lt
theorem HOk.fresh (x : HOk P w H h) (e : h.objs.size <= a) : H a = none:=by
 cases q : H a with
 | none=>rfl
 | some u=>exact absurd (Nat.lt_of_lt_of_le (x.lt q) e) (Nat.lt_irrefl _)
theorem HOk.kept (x : HOk P w H h) (k : ∀ b u,h.get? b = some u -> h'.get? b = some u) : HOk P w H h':=fun a o e =>
 (x a o e).stay (fun b u _ q=>k b u q) (fun _ q=>q) fun _ _ q=>q
theorem HOk.laid (x : HOk P w H h) (k : ∀ b u,h.get? b = some u -> h'.get? b = some u) (hp : h.objs.size <= a) (new : ObjOk P w (upd H a o) h' a o) : HOk P w (upd H a o) h':=fun b u e=>by
 have hn:=x.fresh hp
 by_cases hb : b = a
 ·subst hb; rw [upd_same] at e; cases e; exact new
 ·rw [upd_ne hb] at e
  exact (x b u e).stay (fun c v _ q=>k c v q) (fun c q=>by rw [upd_ne (ne_of_none q hn)]; exact q) fun c xs q=>by rw [upd_ne (ne_of_none q hn)]; exact q
end
def Rd (H : Hp) (a : Addr) (u : HO) : Prop:=H a = some u \/ ∃ o,H a = some (.frz o u)
theorem Rd.ok {P : Program} {w : World} {H : Hp} {h : Heap} {a : Addr} {u : HO} (r : Rd H a u) (x : HOk P w H h) : ObjOk P w H h a u:=by
 rcases r with r | ⟨o,r⟩
 ·exact x a u r
 ·obtain ⟨_,q⟩:=x a _ r
  exact q
def Mut : Option HO -> Prop
 | some (.lst _)=>True
 | some (.dK _)=>True
 | some (.dT _)=>True
 | some (.set _ _)=>True
 | some (.ins _ _ _)=>True
 | some (.ext _)=>True
 | _=>False
section
variable {P : Program} {w : World} {H : Hp} {h h' : Heap} {x e : Addr} {o' : HO}
theorem HOk.write (ok : HOk P w H h) (mu : Mut (H x)) (he : e = x \/ H e = some (.own x)) (k : ∀ b u,b ≠ e -> h.get? b = some u -> h'.get? b = some u) (heo : ∃ u,h'.get? e = some u)
  (new : ObjOk P w (upd H x o') h' x o') : HOk P w (upd H x o') h':=fun b u q=>by
 have nown : ∀ c y,H c = some (.own y) -> c ≠ x:=fun c y r z=>by subst z; rw [r] at mu; exact mu
 have ntup : ∀ c xs,H c = some (.tup xs) -> c ≠ x:=fun c xs r z=>by subst z; rw [r] at mu; exact mu
 by_cases hb : b = x
 ·subst hb; rw [upd_same] at q; cases q; exact new
 ·rw [upd_ne hb] at q
  by_cases hbe : b = e
  ·have q' : H b = some (.own x):=by
    rcases he with z | z
    ·exact absurd (hbe.trans z) hb
    ·rw [hbe]; exact z
   rw [q] at q'; cases q'
   obtain ⟨v,hv⟩:=heo
   exact ⟨v,by rw [hbe]; exact hv⟩
  ·refine (ok b u q).stay (fun c v hc r=>k c v ?_ r) (fun c r=>by rw [upd_ne (nown c b r)]; exact r) fun c xs r=>by rw [upd_ne (ntup c xs r)]; exact r
   rcases hc with rfl | hc
   ·exact hbe
   ·rintro rfl
    rcases he with z | z
    ·exact nown c b hc z
    ·rw [hc] at z; cases z; exact hb rfl
end
structure Un (fs ex : List Addr) (H H' : Hp) (h h' : Heap) : Prop where
 keep : ∀ b o,h.get? b = some o -> H b = none -> b ∉ fs -> b ∉ ex -> h'.get? b = some o
 slot : ∀ b o,h.get? b = some o -> H b = none -> b ∈ fs -> b ∉ ex -> ∃ sl,h'.get? b = some { o with slots:=sl }
 free : ∀ b o,h.get? b = some o -> H b = none -> b ∉ ex -> H' b = none
 there : ∀ b o,h.get? b = some o -> b ∉ ex -> ∃ o',h'.get? b = some o'
 tups : ∀ b xs,H b = some (.tup xs) -> H' b = some (.tup xs)
 frzs : ∀ b o u,H b = some (.frz o u) -> H' b = some (.frz o u)
 tbls : ∀ b ps,H b = some (.tbl ps) -> ∃ more,H' b = some (.tbl (ps ++ more))
section
variable {fs fs' ex ex' : List Addr} {H H1 H2 : Hp} {h h1 h2 h' : Heap} {a x e : Addr} {o : HO}
theorem Un.any (u : Un fs ex H H1 h h1) {b : Addr} {ob : Obj} (q : h.get? b = some ob) (n : H b = none) (hx : b ∉ ex) : ∃ sl,h1.get? b = some { ob with slots:=sl }:=by
 by_cases hb : b ∈ fs
 ·exact u.slot b ob q n hb hx
 ·exact ⟨ob.slots,u.keep b ob q n hb hx⟩
theorem Un.kept (k : ∀ b u,h.get? b = some u -> h'.get? b = some u) : Un fs ex H H h h' :=
 ⟨fun b ob q _ _ _=>k b ob q,fun b ob q _ _ _=>⟨ob.slots,k b ob q⟩,fun _ _ _ n _=>n,fun b ob q _=>⟨ob,k b ob q⟩,fun _ _ q=>q,fun _ _ _ q=>q,fun _ ps q=>⟨#[],by rw [q]; simp⟩⟩
theorem Un.refl : Un fs ex H H h h:=Un.kept fun _ _ q=>q
theorem Un.laid (k : ∀ b u,h.get? b = some u -> h'.get? b = some u) (hp : h.objs.size <= a) (hn : H a = none) : Un fs ex H (upd H a o) h h' where
 keep:=fun b u q _ _ _=>k b u q
 slot:=fun b u q _ _ _=>⟨u.slots,k b u q⟩
 free:=fun b u q n _=>by rw [upd_ne (Nat.ne_of_lt (Nat.lt_of_lt_of_le (Heap.lt_size q) hp))]; exact n
 there:=fun b u q _=>⟨u,k b u q⟩
 tups:=fun b xs q=>by rw [upd_ne (ne_of_none q hn)]; exact q
 frzs:=fun b u xs q=>by rw [upd_ne (ne_of_none q hn)]; exact q
 tbls:=fun b ps q=>⟨#[],by rw [upd_ne (ne_of_none q hn),q]; simp⟩
theorem Un.write (mu : Mut (H x)) (he : e = x \/ H e = some (.own x)) (k : ∀ b u,b ≠ e -> h.get? b = some u -> h'.get? b = some u) (heo : ∃ u,h'.get? e = some u) : Un fs ex H (upd H x o) h h':=by
 have hx : ∀ b,H b = none -> b ≠ x:=fun b n z=>by subst z; rw [n] at mu; exact mu
 have hb : ∀ b,H b = none -> b ≠ e:=fun b n z=>by
  subst z
  rcases he with r | r
  ·exact hx b n r
  ·rw [n] at r; cases r
 have hm : ∀ b u,H b = some u -> ¬ Mut (some u) -> b ≠ x:=fun b u q nm z=>by subst z; rw [q] at mu; exact nm mu
 refine ⟨fun b u q n _ _=>k b u (hb b n) q,fun b u q n _ _=>⟨u.slots,k b u (hb b n) q⟩,fun b u q n _=>by rw [upd_ne (hx b n)]; exact n,fun b u q _=>?_,
  fun b xs q=>by rw [upd_ne (hm b _ q fun z=>z)]; exact q,fun b u xs q=>by rw [upd_ne (hm b _ q fun z=>z)]; exact q,fun b ps q=>⟨#[],by rw [upd_ne (hm b _ q fun z=>z),q]; simp⟩⟩
 by_cases hbe : b = e
 ·subst hbe; exact heo
 ·exact ⟨u,k b u hbe q⟩
end
def trk (h : Heap) (H : Hp) : List Addr:=(List.range h.objs.size).filter fun a=>(H a).isSome
def hidT (h : Heap) (H : Hp) : Heap:=PySem.W.hideAll h (trk h H)
theorem hidT_size (h : Heap) (H : Hp) : (hidT h H).objs.size = h.objs.size:=PySem.W.hideAll_size _ _
theorem hidT_get {h : Heap} {H : Hp} {b : Addr} {o : Obj} (e : h.get? b = some o) (n : H b = none) : (hidT h H).get? b = some o :=
 PySem.W.hideAll_get _ e fun hm=>by
  have q : (H b).isSome = true:=(List.mem_filter.mp hm).2
  rw [n] at q; simp at q
theorem of_hidT {h : Heap} {H : Hp} {b : Addr} {o : Obj} (e : (hidT h H).get? b = some o) : h.get? b = some o /\ H b = none:=by
 have e' : h.get? b = some o:=PySem.W.of_hideAll (trk h H) e
 refine ⟨e',?_⟩
 cases q : H b with
 | none=>rfl
 | some x =>
  have hm : b ∈ trk h H:=List.mem_filter.mpr ⟨List.mem_range.mpr (Heap.lt_size e'),by simp [q]⟩
  have z : (hidT h H).get? b = none:=PySem.W.hideAll_none (trk h H) hm
  rw [z] at e; cases e
def allNews (g h : Heap) (L : Addr) : List (Addr × Obj):=(List.range h.objs.size).filterMap fun a=>if a = L \/ (g.get? a).isSome = true then none else (h.get? a).map fun o=>(a,o)
def rest (g h : Heap) (L d : Addr) : List (Addr × Obj):=(allNews g h L).filter fun p=>decide (p.1 ≠ d)
end L2
namespace L2
open PySem PySem.Spec PyProof.Rows
structure Mod (K : PySem.W.Frag) (mg : Str -> Option Value) (base : Heap) : Prop where
 kin : K.In base
 glob : base.Ns mainGlobals mg
 blt : ∃ mb,base.Ns builtinsNs mb /\ ∀ x : Str,x ≠ "__name__" -> mb x = bootBuiltins x
 nolimit : base.NoLimit
structure Cx where
 prog : Program
 w : World
 K : PySem.W.Frag
 mg : Str -> Option Value
 base : Heap
 A : Around
 N : List Str
 s₀ : Shared
 H₀ : Hp
 env : Env
 outer : List Env
 stack : List Env
 ex : List Addr
 fn : Str -> Bool
 calm : Bool
 pn : List (Addr × Obj)
 xe : Value -> Shared -> Prop
def frs (l : List Env) : List Addr:=l.filterMap (·.frame)
abbrev Cx.fs (X : Cx) : List Addr:=frs X.outer
def Vis (sc : Scope) (x : Str) : Prop:=sc.names.lookup x = some .local \/ sc.names.lookup x = some .cell \/ sc.names.lookup x = some .free
def Loc (sc : Scope) (x : Str) : Prop:=sc.names.lookup x = some .local \/ sc.names.lookup x = some .cell
def Look (env : Env) (h : Heap) (m : Str -> Option Value) (x : Str) (u : Value) : Prop :=
 (env.kindOf x = some .local /\ m x = some u) \/ ((env.kindOf x = some .cell \/ env.kindOf x = some .free) /\ ∃ c,env.cells.lookup x = some c /\ h.IsCell c (some u))
structure Cx.Ok (X : Cx) : Prop where
 mod : Mod X.K X.mg X.base
 kind : X.env.scope.kind = .function
 glob : X.env.globals = mainGlobals
 blt : X.env.builtins = builtinsNs
 above : X.s₀.heap.objs.size <= X.env.locals
 inj : ∀ x y c,X.env.cells.lookup x = some c -> X.env.cells.lookup y = some c -> x = y
 has : ∀ x,(X.env.kindOf x = some .cell \/ X.env.kindOf x = some .free) -> ∃ c,X.env.cells.lookup x = some c
 cab : ∀ x c,X.fn x = true -> X.env.cells.lookup x = some c -> X.s₀.heap.objs.size <= c
 hd : X.calm = true -> X.A.handled = none
 frames : X.A.frames = some X.stack
 stk : X.stack = X.outer \/ (X.stack = X.env :: X.outer /\ X.env.frame = some X.env.locals)
 exf : ∀ b ∈ X.ex,b ≠ X.env.locals /\ ∀ x c,X.env.cells.lookup x = some c -> c ≠ b
 bs : ∀ b o,X.base.get? b = some o -> X.s₀.heap.get? b = some o /\ X.H₀ b = none
 bsz : X.base.objs.size <= X.s₀.heap.objs.size
 noex : ∀ b o,X.base.get? b = some o -> b ∉ X.ex
 exfs : ∀ b ∈ X.ex,b ∉ X.fs
 funs : X.s₀.heap.FunFrames X.base X.outer
 frf : ∀ b ∈ X.fs,X.H₀ b = none
structure Inv (X : Cx) (pins : List (Addr × Obj)) (σ : List (Option V)) (H : Hp) (s : Shared) : Prop where
 ok : X.Ok
 os : s.os = X.s₀.os
 bare : AllBare s.gens
 base : Un X.fs X.ex X.H₀ H X.s₀.heap s.heap
 loc : ∃ m,s.heap.Ns X.env.locals m /\ ∀ (i : Nat) (x : Str) (v : V),X.N[i]? = some x -> σ[i]? = some (some v) -> Vis X.env.scope x -> ∃ u,RelV v u /\ Look X.env s.heap m x u
 cell : ∀ x c,X.env.cells.lookup x = some c -> ∃ v,s.heap.IsCell c v
 free : H X.env.locals = none
 freeC : ∀ x c,X.env.cells.lookup x = some c -> H c = none
 pin : ∀ p ∈ X.pn ++ pins,s.heap.get? p.1 = some p.2 /\ H p.1 = none /\ p.1 ≠ X.env.locals /\ p.1 ∉ X.fs /\ ∀ v,p.2.data ≠ .cell v
 hok : HOk X.prog X.w H s.heap
 len : σ.length = X.N.length
section
variable {X : Cx} {pins : List (Addr × Obj)} {σ : List (Option V)} {H H' : Hp} {s : Shared} {h' : Heap}
theorem Cx.Ok.nofr (ok : X.Ok) {b : Addr} {o : Obj} (e : X.base.get? b = some o) : b ∉ X.fs:=fun hb=>by
 have:=(ok.funs.mem hb).1
 rw [e] at this; cases this
theorem Inv.bs (I : Inv X pins σ H s) : ∀ b o,X.base.get? b = some o -> s.heap.get? b = some o /\ H b = none:=fun b o e =>
 ⟨I.base.keep b o (I.ok.bs b o e).1 (I.ok.bs b o e).2 (I.ok.nofr e) (I.ok.noex b o e),I.base.free b o (I.ok.bs b o e).1 (I.ok.bs b o e).2 (I.ok.noex b o e)⟩
theorem Inv.bk (I : Inv X pins σ H s) : ∀ b o,X.base.get? b = some o -> s.heap.get? b = some o:=fun b o e=>(I.bs b o e).1
theorem Inv.mod (I : Inv X pins σ H s) : Mod X.K X.mg X.base:=I.ok.mod
theorem Inv.kIn (I : Inv X pins σ H s) : X.K.In s.heap:=I.ok.mod.kin.keeps I.bk
theorem Inv.lt (I : Inv X pins σ H s) : X.env.locals < s.heap.objs.size:=let ⟨_,hn,_⟩:=I.loc; hn.lt
theorem Inv.sz (I : Inv X pins σ H s) : X.s₀.heap.objs.size <= s.heap.objs.size:=Nat.le_trans I.ok.above (Nat.le_of_lt I.lt)
theorem Inv.nofs (I : Inv X pins σ H s) {a : Addr} (h : s.heap.objs.size <= a) : a ∉ X.fs:=fun hb=>by
 obtain ⟨_,o,ho,_⟩:=I.ok.funs.mem hb
 exact absurd (Nat.lt_of_lt_of_le (Heap.lt_size ho) (Nat.le_trans I.sz h)) (Nat.lt_irrefl _)
theorem Inv.cne (I : Inv X pins σ H s) : ∀ x c,X.env.cells.lookup x = some c -> c ≠ X.env.locals:=fun x c e z=>by
 obtain ⟨v,o,ho,hd⟩:=I.cell x c e
 obtain ⟨m,⟨o',es,ep,ho',hd',_⟩,_⟩:=I.loc
 rw [z,ho'] at ho; cases ho; rw [hd'] at hd; cases hd
theorem Inv.funs (I : Inv X pins σ H s) : s.heap.FunFrames X.base X.outer:=by
 have all : ∀ (l : List Env),(∀ b ∈ frs l,b ∈ X.fs) -> X.s₀.heap.FunFrames X.base l -> s.heap.FunFrames X.base l:=by
  intro l
  induction l with
  | nil=>intro _ _; trivial
  | cons env r ih =>
   intro hs hl
   obtain ⟨hk,⟨L,o,hf,hn,ho,hd⟩,hr⟩:=hl
   have hL : L ∈ X.fs:=hs L (by unfold frs; rw [List.filterMap_cons,hf]; exact List.mem_cons_self)
   obtain ⟨sl,e⟩:=I.base.slot L o ho (I.ok.frf L hL) hL fun z=>I.ok.exfs L z hL
   exact ⟨hk,⟨L,_,hf,hn,e,hd⟩,ih (fun b hb=>hs b (by unfold frs; rw [List.filterMap_cons,hf]; exact List.mem_cons_of_mem _ hb)) hr⟩
 exact all X.outer (fun _ hb=>hb) I.ok.funs
theorem Inv.stack (I : Inv X pins σ H s) : s.heap.FunFrames X.base X.stack:=by
 rcases I.ok.stk with e | ⟨e,hf⟩
 ·rw [e]; exact I.funs
 ·rw [e]
  obtain ⟨m,hn,_⟩:=I.loc
  refine .cons (by rw [I.ok.kind]; decide) hf hn ?_ I.funs
  exact Heap.get?_none_of_le (Nat.le_trans I.ok.bsz I.ok.above)
theorem Inv.stkSub (I : Inv X pins σ H s) : ∀ b ∈ frs X.stack,b ∈ X.env.locals :: X.fs:=fun b hb=>by
 rcases I.ok.stk with e | ⟨e,hf⟩
 ·rw [e] at hb; exact List.mem_cons_of_mem _ hb
 ·rw [e] at hb
  unfold frs at hb
  rw [List.filterMap_cons,hf] at hb
  exact hb
theorem Inv.stkFree (I : Inv X pins σ H s) : ∀ b ∈ frs X.stack,H b = none:=fun b hb=>by
 rcases List.mem_cons.mp (I.stkSub b hb) with e | hb
 ·rw [e]; exact I.free
 ·obtain ⟨_,o,ho,_⟩:=I.ok.funs.mem hb
  exact I.base.free b o ho (I.ok.frf b hb) fun z=>I.ok.exfs b z hb
theorem Inv.step {g' : Array GenState} {t' : Nat} {d' : Drawn} {ch : List Addr} (I : Inv X pins σ H s)
  (hch : ∀ b ∈ ch,(b ∈ X.ex \/ X.s₀.heap.objs.size <= b) /\ b ≠ X.env.locals /\ (∀ x c,X.env.cells.lookup x = some c -> c ≠ b) /\ ∀ p ∈ X.pn ++ pins,p.1 ≠ b)
  (keep : ∀ b o,b ≠ X.env.locals -> b ∉ X.fs -> b ∉ ch -> s.heap.get? b = some o -> H b = none -> h'.get? b = some o)
  (slot : ∀ b o,b ≠ X.env.locals -> b ∈ X.fs -> b ∉ ch -> s.heap.get? b = some o -> H b = none -> ∃ sl,h'.get? b = some { o with slots:=sl }) (free : ∀ b o,b ∉ ch -> s.heap.get? b = some o -> H b = none -> H' b = none)
  (there : ∀ b o,b ∉ ch -> s.heap.get? b = some o -> ∃ o',h'.get? b = some o')
  (tups : ∀ b xs,H b = some (.tup xs) -> H' b = some (.tup xs)) (frzs : ∀ b o u,H b = some (.frz o u) -> H' b = some (.frz o u)) (tbls : ∀ b ps,H b = some (.tbl ps) -> ∃ more,H' b = some (.tbl (ps ++ more)))
  (ns : ∀ m,s.heap.Ns X.env.locals m -> h'.Ns X.env.locals m) (hok : HOk X.prog X.w H' h') (hg : AllBare g') :
  Inv X pins σ H' { s with heap:=h',gens:=g',drawn:=d',toks:=t' }:=by
 have neL : ∀ b o,X.s₀.heap.get? b = some o -> b ≠ X.env.locals:=fun b o e=>Nat.ne_of_lt (Nat.lt_of_lt_of_le (Heap.lt_size e) I.ok.above)
 have neC : ∀ b o,X.s₀.heap.get? b = some o -> b ∉ X.ex -> b ∉ ch:=fun b o e hx hb=>by
  rcases (hch b hb).1 with z | z
  ·exact hx z
  ·exact absurd (Nat.lt_of_lt_of_le (Heap.lt_size e) z) (Nat.lt_irrefl _)
 have cellK : ∀ x c,X.env.cells.lookup x = some c -> ∀ v,s.heap.IsCell c v -> h'.IsCell c v:=fun x c e v ⟨o,ho,hd⟩=>by
  have nch : c ∉ ch:=fun z=>(hch c z).2.2.1 x c e rfl
  by_cases hc : c ∈ X.fs
  ·obtain ⟨sl,q⟩:=slot c o (I.cne x c e) hc nch ho (I.freeC x c e)
   exact ⟨_,q,hd⟩
  ·exact ⟨o,keep c o (I.cne x c e) hc nch ho (I.freeC x c e),hd⟩
 refine ⟨I.ok,I.os,hg,⟨fun b o e n hb hx=>?_,fun b o e n hb hx=>?_,fun b o e n hx=>?_,fun b o e hx=>?_,fun b xs e=>tups b xs (I.base.tups b xs e),fun b o xs e=>frzs b o xs (I.base.frzs b o xs e),fun b ps e=>?_⟩,?_,fun x c e=>?_,?_,fun x c e=>?_,fun p hp=>?_,hok,I.len⟩
 ·exact keep b o (neL b o e) hb (neC b o e hx) (I.base.keep b o e n hb hx) (I.base.free b o e n hx)
 ·obtain ⟨sl,e1⟩:=I.base.slot b o e n hb hx
  obtain ⟨sl',e2⟩:=slot b _ (neL b o e) hb (neC b o e hx) e1 (I.base.free b o e n hx)
  exact ⟨sl',e2⟩
 ·obtain ⟨o',e1⟩:=I.base.there b o e hx
  exact free b o' (neC b o e hx) e1 (I.base.free b o e n hx)
 ·obtain ⟨o',e1⟩:=I.base.there b o e hx
  exact there b o' (neC b o e hx) e1
 ·obtain ⟨m1,e1⟩:=I.base.tbls b ps e
  obtain ⟨m2,e2⟩:=tbls b _ e1
  exact ⟨m1 ++ m2,by rw [e2,Array.append_assoc]⟩
 ·obtain ⟨m,hn,hl⟩:=I.loc
  refine ⟨m,ns m hn,fun i x v e1 e2 e3=>?_⟩
  obtain ⟨u,r,l⟩:=hl i x v e1 e2 e3
  refine ⟨u,r,?_⟩
  rcases l with l | ⟨k,c,e,z⟩
  ·exact .inl l
  ·exact .inr ⟨k,c,e,cellK x c e _ z⟩
 ·obtain ⟨v,z⟩:=I.cell x c e
  exact ⟨v,cellK x c e v z⟩
 ·obtain ⟨m,⟨o,_,_,ho,_⟩,_⟩:=I.loc
  exact free _ o (fun z=>(hch _ z).2.1 rfl) ho I.free
 ·obtain ⟨v,o,ho,hd⟩:=I.cell x c e
  exact free c o (fun z=>(hch c z).2.2.1 x c e rfl) ho (I.freeC x c e)
 ·obtain ⟨e,n,ne,nf,d⟩:=I.pin p hp
  have nch : p.1 ∉ ch:=fun z=>(hch p.1 z).2.2.2 p hp rfl
  exact ⟨keep p.1 p.2 ne nf nch e n,free p.1 p.2 nch e n,ne,nf,d⟩
theorem Inv.un {t' : Nat} (I : Inv X pins σ H s) (u : Un X.fs [] H H' s.heap h') (hok : HOk X.prog X.w H' h') : Inv X pins σ H' { s with heap:=h',toks:=t' }:=by
 obtain ⟨m,⟨o,es,ep,ho,r⟩,_⟩:=id I.loc
 obtain ⟨sl,hL⟩:=u.any ho I.free (by simp)
 exact I.step (g':=s.gens) (d':=s.drawn) (ch:=[]) (fun _ z=>nomatch z) (fun b o _ hb _ e n=>u.keep b o e n hb (by simp)) (fun b o _ hb _ e n=>u.slot b o e n hb (by simp)) (fun b o _ e n=>u.free b o e n (by simp)) (fun b o _ e=>u.there b o e (by simp)) u.tups u.frzs u.tbls (fun m' hm=>by
  obtain ⟨o',es',ep',ho',r'⟩:=hm
  rw [ho] at ho'; cases ho'
  exact ⟨_,es',ep',hL,r'⟩) hok I.bare
theorem Inv.call {g' : Array GenState} {t' : Nat} {d' : Drawn} {ch : List Addr} (I : Inv X pins σ H s) (u : Un (frs X.stack) ch H H' s.heap h') (hok : HOk X.prog X.w H' h') (hg : AllBare g')
  (hch : ∀ b ∈ ch,(b ∈ X.ex \/ X.s₀.heap.objs.size <= b) /\ b ≠ X.env.locals /\ (∀ x c,X.env.cells.lookup x = some c -> c ≠ b) /\ ∀ p ∈ X.pn ++ pins,p.1 ≠ b) :
  Inv X pins σ H' { s with heap:=h',gens:=g',drawn:=d',toks:=t' }:=by
 obtain ⟨m,⟨o,es,ep,ho,r⟩,_⟩:=id I.loc
 obtain ⟨sl,hL⟩:=u.any ho I.free fun z=>(hch _ z).2.1 rfl
 exact I.step (ch:=ch) hch (fun b o hL hb hc e n=>u.keep b o e n (fun z=>(List.mem_cons.mp (I.stkSub b z)).elim hL hb) hc) (fun b o _ _ hc e n=>u.any e n hc) (fun b o hc e n=>u.free b o e n hc) (fun b o hc e=>u.there b o e hc) u.tups u.frzs u.tbls (fun m' hm=>by
  obtain ⟨o',es',ep',ho',r'⟩:=hm
  rw [ho] at ho'; cases ho'
  exact ⟨_,es',ep',hL,r'⟩) hok hg
theorem Inv.turned {t' : Nat} {it : Addr} (I : Inv X pins σ H s) (k : ∀ b o,b ≠ it -> s.heap.get? b = some o -> h'.get? b = some o) (hn : H it = none) (hL : it ≠ X.env.locals)
  (h1 : it ∈ X.ex \/ X.s₀.heap.objs.size <= it) (h2 : ∀ x c,X.env.cells.lookup x = some c -> c ≠ it) (h3 : ∀ p ∈ X.pn ++ pins,p.1 ≠ it) : Inv X pins σ H { s with heap:=h',toks:=t' }:=by
 have nit : ∀ b u,H b = some u -> b ≠ it:=fun b u e z=>by rw [z,hn] at e; cases e
 refine I.step (g':=s.gens) (d':=s.drawn) (ch:=[it]) (fun b hb=>?_) (fun b o _ _ hc e _=>k b o (fun z=>hc (by simp [z])) e) (fun b o _ _ hc e _=>⟨o.slots,k b o (fun z=>hc (by simp [z])) e⟩) (fun _ _ _ _ n=>n)
  (fun b o hc e=>⟨o,k b o (fun z=>hc (by simp [z])) e⟩) (fun _ _ e=>e) (fun _ _ _ e=>e) (fun b ps e=>⟨#[],by rw [e]; simp⟩) (fun m hm=>?_) (fun b u e=>?_) I.bare
 ·have e : b = it:=by simpa using hb
  subst e
  exact ⟨h1,hL,h2,h3⟩
 ·obtain ⟨o,es,ep,ho,r⟩:=hm
  exact ⟨o,es,ep,k _ o (Ne.symm hL) ho,r⟩
 ·refine (I.hok b u e).stay (fun c v hc q=>k c v ?_ q) (fun _ q=>q) fun _ _ q=>q
  rcases hc with z | z
  ·rw [z]; exact nit b u e
  ·exact nit c _ z
theorem Inv.tok (I : Inv X pins σ H s) (t : Nat) : Inv X pins σ H { s with toks:=t }:=I.un (h':=s.heap) (t':=t) Un.refl I.hok
theorem Inv.kept {t' : Nat} (I : Inv X pins σ H s) (k : ∀ b u,s.heap.get? b = some u -> h'.get? b = some u) : Inv X pins σ H { s with heap:=h',toks:=t' }:=I.un (Un.kept k) (I.hok.kept k)
theorem Inv.laid {a : Addr} {o : HO} {t' : Nat} (I : Inv X pins σ H s) (k : ∀ b u,s.heap.get? b = some u -> h'.get? b = some u) (hp : s.heap.objs.size <= a) (new : ObjOk X.prog X.w (upd H a o) h' a o) :
  Inv X pins σ (upd H a o) { s with heap:=h',toks:=t' }:=I.un (Un.laid k hp (I.hok.fresh hp)) (I.hok.laid k hp new)
theorem Inv.write {x e : Addr} {o : HO} {t' : Nat} (I : Inv X pins σ H s) (mu : Mut (H x)) (he : e = x \/ H e = some (.own x)) (k : ∀ b u,b ≠ e -> s.heap.get? b = some u -> h'.get? b = some u) (heo : ∃ u,h'.get? e = some u)
  (new : ObjOk X.prog X.w (upd H x o) h' x o) : Inv X pins σ (upd H x o) { s with heap:=h',toks:=t' }:=I.un (Un.write mu he k heo) (I.hok.write mu he k heo new)
theorem Inv.weak {σ' : List (Option V)} (I : Inv X pins σ H s) (hl : σ'.length = σ.length) (w : ∀ (i : Nat) v,σ'[i]? = some (some v) -> σ[i]? = some (some v)) : Inv X pins σ' H s :=
 ⟨I.ok,I.os,I.bare,I.base,let ⟨m,hn,hl'⟩:=I.loc; ⟨m,hn,fun i x v e1 e2 e3=>hl' i x v e1 (w i v e2) e3⟩,I.cell,I.free,I.freeC,I.pin,I.hok,hl.trans I.len⟩
theorem Inv.pins_of {pins' : List (Addr × Obj)} (I : Inv X pins σ H s) (h : ∀ p ∈ pins',s.heap.get? p.1 = some p.2 /\ H p.1 = none /\ p.1 ≠ X.env.locals /\ p.1 ∉ X.fs /\ ∀ v,p.2.data ≠ .cell v) : Inv X pins' σ H s :=
 ⟨I.ok,I.os,I.bare,I.base,I.loc,I.cell,I.free,I.freeC,fun p hp=>(List.mem_append.mp hp).elim (fun z=>I.pin p (List.mem_append_left _ z)) (h p),I.hok,I.len⟩
theorem nodup_ix {N : List Str} (hN : N.Nodup) {i j : Nat} {x : Str} (a : N[i]? = some x) (b : N[j]? = some x) : i = j:=by
 obtain ⟨h1,e1⟩:=List.getElem?_eq_some_iff.mp a
 obtain ⟨h2,e2⟩:=List.getElem?_eq_some_iff.mp b
 exact (List.getElem_inj hN).mp (e1.trans e2.symm)
theorem store_ok2 {M : Model} {A : Around} {E : Value -> Shared -> Prop} {i : Nat} {x : Str} {v : V} {u : Value} {Q : Unit -> Shared -> Prop} (I : Inv X pins σ H s) (hN : X.N.Nodup) (hi : X.N[i]? = some x) (hx : Loc X.env.scope x) (r : RelV v u)
  (h : ∀ s',Inv X pins (σ.set i (some v)) H s' -> (∃ a,Heap.SameBut a s.heap s'.heap /\ (a = X.env.locals \/ X.env.cells.lookup x = some a)) -> Q () s') (hf : X.fn x = true \/ X.env.scope.names.lookup x = some .local:=by first | exact .inl rfl | exact .inr rfl | assumption) : wpAny M A (storeName X.env x u) Q E s:=by
 obtain ⟨m,hn,hl⟩:=id I.loc
 have hcls : (X.env.scope.kind == .class || (X.env.scope.kind == .module && X.env.locals != X.env.globals)) = false:=by rw [I.ok.kind]; rfl
 have hiσ : i < σ.length:=by rw [I.len]; exact (List.getElem?_eq_some_iff.mp hi).1
 have cne:=I.cne
 have tracked : ∀ {a : Addr} {h' : Heap},(∃ o,s.heap.get? a = some o /\ H a = none) -> Heap.SameBut a s.heap h' -> HOk X.prog X.w H h':=fun {a h'} ha hs b ob e=>by
  obtain ⟨_,_,hfree⟩:=ha
  refine (I.hok b ob e).stay (fun c w' hc q=>(hs.2 c ?_).trans q) (fun _ q=>q) fun _ _ q=>q
  rintro rfl
  rcases hc with rfl | hc
  ·rw [hfree] at e; cases e
  ·rw [hfree] at hc; cases hc
 rcases hx with hk | hk
 ·refine wpAny_storeName_local hk hn (fun h' hn' hs=>?_) hcls
  obtain ⟨oL,_,_,hoL,_⟩:=id hn
  refine h _ ⟨I.ok,I.os,I.bare,⟨fun b o e n hb hx=>?_,fun b o e n hb hx=>?_,I.base.free,fun b o e hx=>?_,I.base.tups,I.base.frzs,I.base.tbls⟩,⟨_,hn',fun j y v' e1 e2 e3=>?_⟩,fun y c e=>?_,I.free,I.freeC,fun p hp=>?_,tracked ⟨oL,hoL,I.free⟩ hs,by simpa using I.len⟩ ⟨_,hs,.inl rfl⟩
  ·exact (hs.2 b (Nat.ne_of_lt (Nat.lt_of_lt_of_le (Heap.lt_size e) I.ok.above))).trans (I.base.keep b o e n hb hx)
  ·obtain ⟨sl,e1⟩:=I.base.slot b o e n hb hx
   exact ⟨sl,(hs.2 b (Nat.ne_of_lt (Nat.lt_of_lt_of_le (Heap.lt_size e) I.ok.above))).trans e1⟩
  ·obtain ⟨o',e1⟩:=I.base.there b o e hx
   exact ⟨o',(hs.2 b (Nat.ne_of_lt (Nat.lt_of_lt_of_le (Heap.lt_size e) I.ok.above))).trans e1⟩
  ·by_cases hj : j = i
   ·subst hj
    rw [hi] at e1; cases e1
    rw [List.getElem?_set_self hiσ] at e2
    cases e2
    exact ⟨u,r,.inl ⟨hk,by simp⟩⟩
   ·rw [List.getElem?_set_ne (Ne.symm hj)] at e2
    obtain ⟨u',r',q⟩:=hl j y v' e1 e2 e3
    refine ⟨u',r',?_⟩
    rcases q with ⟨k,e⟩ | ⟨k,c,e,z⟩
    ·refine .inl ⟨k,?_⟩
     have : y ≠ x:=fun e=>hj (nodup_ix hN e1 (e ▸ hi))
     simp [this,e]
    ·exact .inr ⟨k,c,e,z.sameBut hs (cne y c e)⟩
  ·obtain ⟨w',z⟩:=I.cell y c e
   exact ⟨w',z.sameBut hs (cne y c e)⟩
  ·obtain ⟨e,n,ne,nf,d⟩:=I.pin p hp
   exact ⟨(hs.2 p.1 ne).trans e,n,ne,nf,d⟩
 ·have hfn : X.fn x = true:=by
   rcases hf with z | z
   ·exact z
   ·rw [z] at hk; cases hk
  obtain ⟨c,hc⟩:=I.ok.has x (.inl hk)
  obtain ⟨w',z⟩:=I.cell x c hc
  refine wpAny_storeName_cell I.ok.kind hk hc z (fun h' hc' hs=>?_)
  obtain ⟨oc,hoc,hocd⟩:=id z
  refine h { s with heap:=h' } ⟨I.ok,I.os,I.bare,⟨fun b o e n hb hx=>?_,fun b o e n hb hx=>?_,I.base.free,fun b o e hx=>?_,I.base.tups,I.base.frzs,I.base.tbls⟩,⟨m,hn.sameBut hs (Ne.symm (cne x c hc)),fun j y v' e1 e2 e3=>?_⟩,fun y c' e=>?_,I.free,I.freeC,fun p hp=>?_,tracked ⟨oc,hoc,I.freeC x c hc⟩ hs,by simpa using I.len⟩ ⟨c,hs,.inr hc⟩
  ·exact (hs.2 b (Nat.ne_of_lt (Nat.lt_of_lt_of_le (Heap.lt_size e) (I.ok.cab x c hfn hc)))).trans (I.base.keep b o e n hb hx)
  ·obtain ⟨sl,e1⟩:=I.base.slot b o e n hb hx
   exact ⟨sl,(hs.2 b (Nat.ne_of_lt (Nat.lt_of_lt_of_le (Heap.lt_size e) (I.ok.cab x c hfn hc)))).trans e1⟩
  ·obtain ⟨o',e1⟩:=I.base.there b o e hx
   exact ⟨o',(hs.2 b (Nat.ne_of_lt (Nat.lt_of_lt_of_le (Heap.lt_size e) (I.ok.cab x c hfn hc)))).trans e1⟩
  ·by_cases hj : j = i
   ·subst hj
    rw [hi] at e1; cases e1
    rw [List.getElem?_set_self hiσ] at e2
    cases e2
    exact ⟨u,r,.inr ⟨.inl hk,c,hc,hc'⟩⟩
   ·rw [List.getElem?_set_ne (Ne.symm hj)] at e2
    obtain ⟨u',r',q⟩:=hl j y v' e1 e2 e3
    refine ⟨u',r',?_⟩
    rcases q with q | ⟨k,c',e,z'⟩
    ·exact .inl q
    ·refine .inr ⟨k,c',e,z'.sameBut hs ?_⟩
     rintro rfl
     exact hj (nodup_ix hN e1 (I.ok.inj _ _ _ e hc ▸ hi))
  ·by_cases hcc : c' = c
   ·subst hcc; exact ⟨_,hc'⟩
   ·obtain ⟨w2,z2⟩:=I.cell y c' e
    exact ⟨w2,z2.sameBut hs hcc⟩
  ·obtain ⟨e,n,ne,nf,d⟩:=I.pin p hp
   refine ⟨(hs.2 p.1 ?_).trans e,n,ne,nf,d⟩
   intro q
   rw [q,hoc] at e
   have q' : oc = p.2:=Option.some.inj e
   exact d w' (by rw [← q']; exact hocd)
theorem store_ok {M : Model} {A : Around} {E : Value -> Shared -> Prop} {i : Nat} {x : Str} {v : V} {u : Value} {Q : Unit -> Shared -> Prop} (I : Inv X pins σ H s) (hN : X.N.Nodup) (hi : X.N[i]? = some x) (hx : Loc X.env.scope x) (r : RelV v u)
  (h : ∀ s',Inv X pins (σ.set i (some v)) H s' -> Q () s') (hf : X.fn x = true \/ X.env.scope.names.lookup x = some .local:=by first | exact .inl rfl | exact .inr rfl | assumption) : wpAny M A (storeName X.env x u) Q E s :=
 store_ok2 I hN hi hx r (fun s' I' _=>h s' I') hf
theorem Inv.call' {s' : Shared} {ch : List Addr} (I : Inv X pins σ H s) (ho : s'.os = s.os) (u : Un (frs X.stack) ch H H' s.heap s'.heap) (hok : HOk X.prog X.w H' s'.heap) (hg : AllBare s'.gens)
  (hch : ∀ b ∈ ch,(b ∈ X.ex \/ X.s₀.heap.objs.size <= b) /\ b ≠ X.env.locals /\ (∀ x c,X.env.cells.lookup x = some c -> c ≠ b) /\ ∀ p ∈ X.pn ++ pins,p.1 ≠ b) : Inv X pins σ H' s':=by
 obtain ⟨h',g',d',t',o'⟩:=s'
 have e : o' = s.os:=ho
 subst e
 exact I.call (g':=g') (t':=t') (d':=d') u hok hg hch
end
abbrev XK:=Value -> Option Addr -> Hp -> Prop
abbrev St:=List (Option V)
abbrev VK:=V -> Hp -> Prop
abbrev TE:=St -> Hp -> VK -> Prop
abbrev TT:=St -> Hp -> (Bool -> Hp -> Prop) -> Prop
abbrev TA:=St -> Hp -> (List V -> Hp -> Prop) -> Prop
structure Ends where
 nx : St -> Hp -> Prop
 rt : VK
 bk : St -> Hp -> Prop:=fun _ _=>False
 ct : St -> Hp -> Prop:=fun _ _=>False
abbrev TS:=Ends -> St -> Hp -> Prop
def EP (X : Cx) (pins : List (Addr × Obj)) (σ : St) (Q : VK) (u : Value) (s' : Shared) : Prop:=∃ v H',Inv X pins σ H' s' /\ RelV v u /\ Q v H'
def TP (X : Cx) (pins : List (Addr × Obj)) (σ : St) (Q : Bool -> Hp -> Prop) (b : Bool) (s' : Shared) : Prop:=∃ H',Inv X pins σ H' s' /\ Q b H'
def AP (X : Cx) (pins : List (Addr × Obj)) (σ : St) (Q : List V -> Hp -> Prop) (us : List Value) (s' : Shared) : Prop:=∃ vs H',Inv X pins σ H' s' /\ Vals vs us /\ Q vs H'
def SP (X : Cx) (pins : List (Addr × Obj)) (D : Ends) (f : Flow) (s' : Shared) : Prop :=
 match f with
 | .next=>∃ σ' H',Inv X pins σ' H' s' /\ D.nx σ' H'
 | .brk=>∃ σ' H',Inv X pins σ' H' s' /\ D.bk σ' H'
 | .cont=>∃ σ' H',Inv X pins σ' H' s' /\ D.ct σ' H'
 | .ret u=>∃ v σ' H',Inv X pins σ' H' s' /\ RelV v u /\ D.rt v H'
def PE (X : Cx) (e : Expr) (t : TE) : Prop :=
 ∀ (pins : List (Addr × Obj)) (s : Shared) (σ : St) (H : Hp) (Q : VK),Inv X pins σ H s -> t σ H Q -> wpAny (model X.prog X.w) X.A (eval e X.env) (EP X pins σ Q) X.xe s
def PT (X : Cx) (e : Expr) (t : TT) : Prop :=
 ∀ (pins : List (Addr × Obj)) (s : Shared) (σ : St) (H : Hp) (Q : Bool -> Hp -> Prop),Inv X pins σ H s -> t σ H Q -> wpAny (model X.prog X.w) X.A (isTrue e X.env (eval e X.env)) (TP X pins σ Q) X.xe s
def PW (X : Cx) (e : Expr) (t : TT) : Prop :=
 ∀ (whole : Sem Value) (pins : List (Addr × Obj)) (s : Shared) (σ : St) (H : Hp) (Q : Bool -> Hp -> Prop),Inv X pins σ H s -> t σ H Q -> wpAny (model X.prog X.w) X.A (isTrue e X.env whole) (TP X pins σ Q) X.xe s
theorem PW.pt {X : Cx} {e : Expr} {t : TT} (h : PW X e t) : PT X e t:=h _
def PA (X : Cx) (es : List Expr) (t : TA) : Prop :=
 ∀ (pos : Pos) (pins : List (Addr × Obj)) (s : Shared) (σ : St) (H : Hp) (Q : List V -> Hp -> Prop),Inv X pins σ H s -> t σ H Q -> wpAny (model X.prog X.w) X.A (spliced (backTo pos (starEach es X.env))) (AP X pins σ Q) X.xe s
def PS (X : Cx) (st : Stmt) (t : TS) : Prop :=
 ∀ (pins : List (Addr × Obj)) (s : Shared) (σ : St) (H : Hp) (D : Ends),Inv X pins σ H s -> t D σ H -> wpAny (model X.prog X.w) X.A (exec st X.env) (SP X pins D) X.xe s
def PSs (X : Cx) (st : List Stmt) (t : TS) : Prop :=
 ∀ (pins : List (Addr × Obj)) (s : Shared) (σ : St) (H : Hp) (D : Ends),Inv X pins σ H s -> t D σ H -> wpAny (model X.prog X.w) X.A (execs st X.env) (SP X pins D) X.xe s
theorem thn {α : Type} {t : Sem α} {Q Q' : α -> Shared -> Prop} {M : Model} {A : Around} {E : Value -> Shared -> Prop} {s : Shared} (h : wpAny M A t Q E s) (hQ : ∀ a s,Q a s -> Q' a s) : wpAny M A t Q' E s:=wpAny_mono h hQ fun _ _ x=>x
end L2
namespace L2
open PySem PySem.Spec PyProof.Rows
section
variable {X : Cx}
def tVar (i : Nat) : TE:=fun σ H Q=>∃ v,σ[i]? = some (some v) /\ Q v H
def tC (v : V) : TE:=fun _ H Q=>Q v H
theorem pe_var {i : Nat} {x : Str} {pos : Pos} (hN : X.N[i]? = some x) (hv : Vis X.env.scope x) (hd : (x == ("__debug__" : Str)) = false:=by decide) (hcd : (x == ("__classdict__" : Str)) = false:=by decide) : PE X (.Name x pos) (tVar i):=by
 intro pins s σ H Q I h
 obtain ⟨v,e,h⟩:=h
 obtain ⟨m,hn,hl⟩:=I.loc
 obtain ⟨u,r,l⟩:=hl i x v hN e hv
 have fin : EP X pins σ Q u s:=⟨v,H,I,r,h⟩
 rcases l with ⟨hk,hm⟩ | ⟨hk,c,hc,hcell⟩
 ·exact wpAny_Name (wpAny_loadName_local I.ok.kind hk hn hm fin) hd
 ·rcases hk with hk | hk
  ·exact wpAny_Name (wpAny_loadName_cell I.ok.kind hk hc hcell fin) hd
  ·exact wpAny_Name (wpAny_loadName_free I.ok.kind hk hc hcell fin hcd) hd
theorem pe_int {i j pos} : PE X (.Constant (.int i) j pos) (tC (.int i)):=fun _ _ _ H _ I h=>wpAny_Constant_int ⟨.int i,H,I.tok _,⟨_,rfl⟩,h⟩
theorem pe_bl {b j pos} : PE X (.Constant (.bool b) j pos) (tC (.bl b)):=fun _ _ _ H _ I h=>Constant_bool ⟨.bl b,H,I,rfl,h⟩
theorem pe_non {j pos} : PE X (.Constant .none j pos) (tC .non):=fun _ _ _ H _ I h=>Constant_none ⟨.non,H,I,rfl,h⟩
theorem pe_str {x j pos} : PE X (.Constant (.str x) j pos) (tC (.str x)):=fun _ _ _ H _ I h=>Calls.Constant_str ⟨.str x,H,I.tok _,⟨_,rfl⟩,h⟩
def Gl (X : Cx) (x : Str) : Prop:=X.env.kindOf x = some .globalImplicit
theorem ld_glob {E : Value -> Shared -> Prop} {pins : List (Addr × Obj)} {s : Shared} {σ : St} {H : Hp} {x : Str} {u : Value} {pos : Pos} {Q : Value -> Shared -> Prop} (I : Inv X pins σ H s) (hg : Gl X x) (hm : X.mg x = some u) (h : Q u s)
  (hd : (x == ("__debug__" : Str)) = false:=by decide) : wpAny (model X.prog X.w) X.A (eval (.Name x pos) X.env) Q E s :=
 Calls.Name_function_global I.ok.kind hg (Calls.loadGlobal_global (by rw [I.ok.glob]; exact I.mod.glob.keeps I.bk) hm h) hd
theorem ld_blt {E : Value -> Shared -> Prop} {pins : List (Addr × Obj)} {s : Shared} {σ : St} {H : Hp} {x : Str} {u : Value} {pos : Pos} {Q : Value -> Shared -> Prop} (I : Inv X pins σ H s) (hg : Gl X x) (hm : X.mg x = none) (hv : bootBuiltins x = some u) (h : Q u s)
  (hn : x ≠ "__name__":=by decide) (hd : (x == ("__debug__" : Str)) = false:=by decide) : wpAny (model X.prog X.w) X.A (eval (.Name x pos) X.env) Q E s:=by
 obtain ⟨mb,h1,h2⟩:=I.mod.blt
 exact Calls.Name_function_global I.ok.kind hg (Calls.loadGlobal_builtin (by rw [I.ok.glob]; exact I.mod.glob.keeps I.bk) hm (by rw [I.ok.blt]; exact h1.keeps I.bk) ((h2 x hn).trans hv) h) hd
theorem pe_glob {x : Str} {v : V} {u : Value} {pos : Pos} (hg : Gl X x) (hm : X.mg x = some u) (r : RelV v u) (hd : (x == ("__debug__" : Str)) = false:=by decide) : PE X (.Name x pos) (tC v) :=
 fun _ _ _ H _ I h=>ld_glob I hg hm ⟨v,H,I,r,h⟩ hd
theorem pe_bltn {x : Str} {v : V} {u : Value} {pos : Pos} (hg : Gl X x) (hm : X.mg x = none) (hv : bootBuiltins x = some u) (r : RelV v u) (hn : x ≠ "__name__":=by decide) (hd : (x == ("__debug__" : Str)) = false:=by decide) : PE X (.Name x pos) (tC v) :=
 fun _ _ _ H _ I h=>ld_blt I hg hm hv ⟨v,H,I,r,h⟩ hn hd
variable {a b : Expr} {ta tb : TE} {pos : Pos}
def tB (t : TE) : TT:=fun σ H Q=>t σ H fun x H1=>∃ c,x = .bl c /\ Q c H1
theorem pt_val {e : Expr} {t : TE} (h : PE X e t) (he : ∀ whole,isTrue e X.env whole = (do let v ← whole; standAt e.pos; holding [v] (truthy v)):=by intro _; rfl) : PT X e (tB t):=by
 intro pins s σ H Q I hw
 refine isTrue_plain (thn (h pins s σ H _ I hw) fun v s1 ⟨x,H1,I1,r1,q1⟩=>?_) (he _)
 obtain ⟨d,rfl,q⟩:=q1
 cases r1
 exact wpAny_truthy_bool ⟨H1,I1,q⟩
variable {tA tB' : TT} {rest : List Expr}
def tAnd (t u : TT) : TT:=fun σ H Q=>t σ H fun c H1=>if c = true then u σ H1 Q else Q false H1
def tOr (t u : TT) : TT:=fun σ H Q=>t σ H fun c H1=>if c = true then Q true H1 else u σ H1 Q
def tNot (t : TT) : TT:=fun σ H Q=>t σ H fun c H1=>Q (!c) H1
theorem pw_and1 (ha : PT X a tA) : PW X (.BoolOp .And [a] pos) tA:=by
 intro wh pins s σ H Q I h
 refine isTrue_and (thn (ha pins s σ H Q I h) fun c s1 e=>?_)
 cases c with
 | true=>exact isTrue_and_nil e
 | false=>exact e
theorem pw_or1 (ha : PT X a tA) : PW X (.BoolOp .Or [a] pos) tA:=by
 intro wh pins s σ H Q I h
 refine isTrue_or (thn (ha pins s σ H Q I h) fun c s1 e=>?_)
 cases c with
 | false=>exact isTrue_or_nil e
 | true=>exact e
theorem pw_and (ha : PT X a tA) (hb : PW X (.BoolOp .And (b :: rest) pos) tB') : PW X (.BoolOp .And (a :: b :: rest) pos) (tAnd tA tB'):=by
 intro wh pins s σ H Q I h
 refine isTrue_and (thn (ha pins s σ H _ I h) fun c s1 ⟨H1,I1,q1⟩=>?_)
 cases c with
 | true=>exact hb wh pins s1 σ H1 Q I1 q1
 | false=>exact ⟨H1,I1,q1⟩
theorem pw_or (ha : PT X a tA) (hb : PW X (.BoolOp .Or (b :: rest) pos) tB') : PW X (.BoolOp .Or (a :: b :: rest) pos) (tOr tA tB'):=by
 intro wh pins s σ H Q I h
 refine isTrue_or (thn (ha pins s σ H _ I h) fun c s1 ⟨H1,I1,q1⟩=>?_)
 cases c with
 | true=>exact ⟨H1,I1,q1⟩
 | false=>exact hb wh pins s1 σ H1 Q I1 q1
theorem pt_not (ha : PT X a tA) : PT X (.UnaryOp .Not a pos) (tNot tA):=by
 intro pins s σ H Q I h
 exact isTrue_not (ha pins s σ H (fun c H1=>Q (!c) H1) I h)
def tAndV (ta tb : TE) : TE:=fun σ H Q=>ta σ H fun x H1=>∃ c,x = .bl c /\ if c = true then tb σ H1 Q else Q (.bl false) H1
def tOrV (ta tb : TE) : TE:=fun σ H Q=>ta σ H fun x H1=>∃ c,x = .bl c /\ if c = true then Q (.bl true) H1 else tb σ H1 Q
def tNotV (ta : TE) : TE:=fun σ H Q=>ta σ H fun x H1=>∃ c,x = .bl c /\ Q (.bl (!c)) H1
theorem pe_one {op} {t : TE} (h : PE X a t) : PE X (.BoolOp op [a] pos) t:=fun pins s σ H Q I hw=>BoolOp_one (h pins s σ H Q I hw)
theorem pe_and (ha : PE X a ta) (hb : PE X (.BoolOp .And (b :: rest) pos) tb) : PE X (.BoolOp .And (a :: b :: rest) pos) (tAndV ta tb):=by
 intro pins s σ H Q I h
 refine BoolOp_and (thn (ha pins s σ H _ I h) fun v s1 ⟨x,H1,I1,r1,q1⟩=>?_)
 obtain ⟨c,rfl,q1⟩:=q1
 cases r1
 refine wpAny_truthy_bool ?_
 cases c with
 | true=>exact hb pins s1 σ H1 Q I1 q1
 | false=>exact ⟨.bl false,H1,I1,rfl,q1⟩
theorem pe_or (ha : PE X a ta) (hb : PE X (.BoolOp .Or (b :: rest) pos) tb) : PE X (.BoolOp .Or (a :: b :: rest) pos) (tOrV ta tb):=by
 intro pins s σ H Q I h
 refine BoolOp_or (thn (ha pins s σ H _ I h) fun v s1 ⟨x,H1,I1,r1,q1⟩=>?_)
 obtain ⟨c,rfl,q1⟩:=q1
 cases r1
 refine wpAny_truthy_bool ?_
 cases c with
 | false=>exact hb pins s1 σ H1 Q I1 q1
 | true=>exact ⟨.bl true,H1,I1,rfl,q1⟩
theorem pe_not (ha : PE X a ta) : PE X (.UnaryOp .Not a pos) (tNotV ta):=by
 intro pins s σ H Q I h
 refine UnaryOp_ (thn (ha pins s σ H _ I h) fun v s1 ⟨x,H1,I1,r1,q1⟩=>?_)
 obtain ⟨c,rfl,q1⟩:=q1
 cases r1
 exact not_of (wpAny_truthy_bool ⟨.bl (!c),H1,I1,rfl,q1⟩)
def tIf (t : TT) (ta tb : TE) : TE:=fun σ H Q=>t σ H fun c H1=>if c = true then ta σ H1 Q else tb σ H1 Q
theorem pe_ifExp {c : Expr} (hc : PT X c tA) (ha : PE X a ta) (hb : PE X b tb) : PE X (.IfExp c a b pos) (tIf tA ta tb):=by
 intro pins s σ H Q I h
 refine wpAny_IfExp (thn (hc pins s σ H _ I h) fun d s1 ⟨H1,I1,q1⟩=>?_)
 cases d with
 | true=>exact ha pins s1 σ H1 Q I1 q1
 | false=>exact hb pins s1 σ H1 Q I1 q1
end
end L2
namespace L2
open PySem PySem.Spec PyProof.Rows
def SqL (K : PySem.W.Frag) (H : Hp) (a : Addr) (xs : List V) : Prop :=
 Rd H a (.lst xs) ∨
  ∃ (o : Obj) (its : Array Value) (n : Nat),K.lookup a = some o /\ o.cls = .type "list" /\ o.dict = none /\ o.data = .seq its n /\ its.size <= sizeLine /\ Vals xs its.toList
def SqT (K : PySem.W.Frag) (H : Hp) (a : Addr) (xs : List V) : Prop :=
 Rd H a (.tup xs) ∨
  ∃ (o : Obj) (its : Array Value) (n : Nat),K.lookup a = some o /\ o.cls = .type "tuple" /\ o.data = .seq its n /\ its.size <= sizeLine /\ Vals xs its.toList
def absV : Value -> Option V
 | .none=>some .non
 | .bool b=>some (.bl b)
 | .int i _=>some (.int i)
 | .str x _=>some (.str x)
 | .bytes b _=>some (.byt b)
 | .float b _=>some (.flt b)
 | .ref a=>some (.ref a)
 | .type n=>some (.ty n)
 | _=>none
theorem RelV.abs {x : V} {u : Value} (r : RelV x u) : absV u = some x:=by
 cases x with
 | non=>cases r; rfl
 | bl _=>cases r; rfl
 | int _=>obtain ⟨t,rfl⟩:=r; rfl
 | str _=>obtain ⟨t,rfl⟩:=r; rfl
 | byt _=>obtain ⟨t,rfl⟩:=r; rfl
 | flt _=>obtain ⟨t,rfl⟩:=r; rfl
 | ref _=>cases r; rfl
 | ty _=>cases r; rfl
theorem RelV.inj {x y : V} {u : Value} (r : RelV x u) (q : RelV y u) : x = y:=Option.some.inj (r.abs.symm.trans q.abs)
theorem Vals.inj : ∀ {xs ys : List V} {us : List Value},Vals xs us -> Vals ys us -> xs = ys
 | _,_,_,.nil,.nil=>rfl
 | _,_,_,.cons r t,.cons r' t'=>by rw [r.inj r',Vals.inj t t']
section
variable {X : Cx} {pins : List (Addr × Obj)} {σ : St} {H : Hp} {s : Shared} {a : Addr} {xs ys : List V}
theorem SqL.of {K : PySem.W.Frag} (h : H a = some (.lst xs)) : SqL K H a xs:=.inl (.inl h)
theorem SqT.of {K : PySem.W.Frag} (h : H a = some (.tup xs)) : SqT K H a xs:=.inl (.inl h)
theorem Inv.list (I : Inv X pins σ H s) (h : SqL X.K H a xs) : ∃ its : List Value,Vals xs its /\ PlainL s.heap a its.toArray /\ xs.length <= sizeLine:=by
 rcases h with h | ⟨o,its,n,hk,hc,hd,hs,hz,r⟩
 ·obtain ⟨z,its,n,r,e⟩:=h.ok I.hok
  exact ⟨its,r,⟨_,n,e,rfl,rfl,rfl⟩,z⟩
 ·refine ⟨its.toList,r,⟨o,n,I.kIn a o hk,hc,hd,by simpa using hs⟩,?_⟩
  have e:=r.length
  simp only [Array.length_toList] at e
  omega
theorem Inv.tuple (I : Inv X pins σ H s) (h : SqT X.K H a xs) : ∃ its : List Value,Vals xs its /\ IsTup s.heap a its.toArray /\ xs.length <= sizeLine:=by
 rcases h with h | ⟨o,its,n,hk,hc,hs,hz,r⟩
 ·obtain ⟨z,its,r,p⟩:=h.ok I.hok
  exact ⟨its,r,p,z⟩
 ·refine ⟨its.toList,r,⟨o,I.kIn a o hk,hc,n,by simpa using hs⟩,?_⟩
  have e:=r.length
  simp only [Array.length_toList] at e
  omega
theorem Inv.list_inj (I : Inv X pins σ H s) (h : SqL X.K H a xs) (h' : SqL X.K H a ys) : xs = ys:=by
 obtain ⟨its,r,⟨o,n,e,_,_,d⟩,_⟩:=I.list h
 obtain ⟨its',r',⟨o',n',e',_,_,d'⟩,_⟩:=I.list h'
 rw [e] at e'; cases e'
 rw [d] at d'
 injection d' with d1 _
 have : its = its':=by simpa using congrArg Array.toList d1
 subst this
 exact r.inj r'
theorem Inv.tuple_inj (I : Inv X pins σ H s) (h : SqT X.K H a xs) (h' : SqT X.K H a ys) : xs = ys:=by
 obtain ⟨its,r,⟨o,e,_,n,d⟩,_⟩:=I.tuple h
 obtain ⟨its',r',⟨o',e',_,n',d'⟩,_⟩:=I.tuple h'
 rw [e] at e'; cases e'
 rw [d] at d'
 injection d' with d1 _
 have : its = its':=by simpa using congrArg Array.toList d1
 subst this
 exact r.inj r'
end
abbrev Cx.wish (X : Cx) (E : Value -> Shared -> Prop) : Cx:={ X with xe:=E }
abbrev Cx.nox (X : Cx) : Cx:=X.wish fun _ _=>False
theorem Cx.Ok.wish {X : Cx} (ok : X.Ok) (E : Value -> Shared -> Prop) : (X.wish E).Ok :=
 ⟨ok.mod,ok.kind,ok.glob,ok.blt,ok.above,ok.inj,ok.has,ok.cab,ok.hd,ok.frames,ok.stk,ok.exf,ok.bs,ok.bsz,ok.noex,ok.exfs,ok.funs,ok.frf⟩
theorem Cx.Ok.unwish {X : Cx} {E : Value -> Shared -> Prop} (ok : (X.wish E).Ok) : X.Ok :=
 ⟨ok.mod,ok.kind,ok.glob,ok.blt,ok.above,ok.inj,ok.has,ok.cab,ok.hd,ok.frames,ok.stk,ok.exf,ok.bs,ok.bsz,ok.noex,ok.exfs,ok.funs,ok.frf⟩
section
variable {X : Cx} {pins : List (Addr × Obj)} {σ : St} {H : Hp} {s : Shared} {E : Value -> Shared -> Prop}
theorem Inv.wish (I : Inv X pins σ H s) (E : Value -> Shared -> Prop) : Inv (X.wish E) pins σ H s:=⟨I.ok.wish E,I.os,I.bare,I.base,I.loc,I.cell,I.free,I.freeC,I.pin,I.hok,I.len⟩
theorem Inv.unwish (I : Inv (X.wish E) pins σ H s) : Inv X pins σ H s:=⟨I.ok.unwish,I.os,I.bare,I.base,I.loc,I.cell,I.free,I.freeC,I.pin,I.hok,I.len⟩
theorem SP.unwish {D : Ends} {f : Flow} {s' : Shared} (h : SP (X.wish E) pins D f s') : SP X pins D f s':=by
 cases f with
 | next=>obtain ⟨σ',H',I,q⟩:=h; exact ⟨σ',H',I.unwish,q⟩
 | brk=>obtain ⟨σ',H',I,q⟩:=h; exact ⟨σ',H',I.unwish,q⟩
 | cont=>obtain ⟨σ',H',I,q⟩:=h; exact ⟨σ',H',I.unwish,q⟩
 | ret u=>obtain ⟨v,σ',H',I,r,q⟩:=h; exact ⟨v,σ',H',I.unwish,r,q⟩
theorem PSs.nox {st : List Stmt} {t : TS} (h : PSs X.nox st t) : PSs X st t:=fun pins s σ H D I hw =>
 wpAny_mono (h pins s σ H D (I.wish _) hw) (fun _ _ q=>q.unwish) fun _ _ z=>False.elim z
end
section
variable {X : Cx} {st : Stmt} {rest : List Stmt} {t u : TS} {e : Expr} {te : TE} {pos : Pos}
def tNext : TS:=fun D σ H=>D.nx σ H
def tSeq (t u : TS) : TS:=fun D σ H=>t { D with nx:=u D } σ H
theorem pss_nil : PSs X [] tNext:=fun _ _ σ H _ I h=>wpAny_execs_nil ⟨σ,H,I,h⟩
theorem pss_cons (h1 : PS X st t) (h2 : PSs X rest u) : PSs X (st :: rest) (tSeq t u):=by
 intro pins s σ H D I h
 refine wpAny_execs_cons (thn (h1 pins s σ H { D with nx:=u D } I h) fun f s1 q=>?_)
 cases f with
 | next =>
  obtain ⟨σ',H',I',q⟩:=q
  exact h2 pins s1 σ' H' D I' q
 | ret v=>exact q
 | brk=>exact q
 | cont=>exact q
theorem pss_one (h1 : PS X st t) : PSs X [st] t:=by
 intro pins s σ H D I h
 refine wpAny_execs_cons (thn (h1 pins s σ H D I h) fun f s1 q=>?_)
 cases f with
 | next=>exact wpAny_execs_nil q
 | ret v=>exact q
 | brk=>exact q
 | cont=>exact q
theorem Inv.quiet {pins : List (Addr × Obj)} {σ : St} {H : Hp} {s : Shared} (I : Inv X pins σ H s) : interactive X.env = false:=by simp [interactive,I.ok.kind]
def tDrop (te : TE) : TS:=fun D σ H=>te σ H fun _ H1=>D.nx σ H1
theorem ps_expr (he : PE X e te) (hs : swapsWith e none pos.line X.env = pure false:=by rfl) : PS X (.Expr e pos) (tDrop te):=by
 intro pins s σ H D I h
 exact wpAny_Expr_any (thn (he pins s σ H _ I h) fun v s1 ⟨x,H1,I1,r1,q1⟩=>⟨σ,H1,I1,q1⟩) I.quiet hs
def tRet (te : TE) : TS:=fun D σ H=>te σ H D.rt
theorem ps_ret (he : PE X e te) : PS X (.Return (some e) pos) (tRet te):=by
 intro pins s σ H D I h
 exact wpAny_Return_some (thn (he pins s σ H _ I h) fun v s1 ⟨x,H1,I1,r1,q1⟩=>⟨x,σ,H1,I1,r1,q1⟩)
def tIfS (c : TT) (t u : TS) : TS:=fun D σ H=>c σ H fun b H1=>if b = true then t D σ H1 else u D σ H1
theorem ps_if {c : Expr} {a b : List Stmt} {tc : TT} (hc : PT X c tc) (ha : PSs X a t) (hb : PSs X b u) : PS X (.If c a b pos) (tIfS tc t u):=by
 intro pins s σ H D I h
 refine wpAny_If (thn (hc pins s σ H _ I h) fun d s1 ⟨H1,I1,q1⟩=>?_)
 cases d with
 | true=>exact ha pins s1 σ H1 D I1 q1
 | false=>exact hb pins s1 σ H1 D I1 q1
def tNever : TS:=fun _ _ _=>False
theorem ps_never : PS X st tNever:=fun _ _ _ _ _ _ h=>h.elim
end
abbrev TG:=V -> St -> Hp -> (St -> Hp -> Prop) -> Prop
abbrev TGs:=List V -> St -> Hp -> (St -> Hp -> Prop) -> Prop
def PG (X : Cx) (target : Expr) (t : TG) : Prop :=
 ∀ (pins : List (Addr × Obj)) (s : Shared) (σ : St) (H : Hp) (v : V) (u : Value) (Q : St -> Hp -> Prop),Inv X pins σ H s -> RelV v u -> t v σ H Q →
  wpAny (model X.prog X.w) X.A (assign target X.env u) (fun _ s'=>∃ σ' H',Inv X pins σ' H' s' /\ Q σ' H') X.xe s
def PGs (X : Cx) (ts : List Expr) (t : TGs) : Prop :=
 ∀ (pins : List (Addr × Obj)) (s : Shared) (σ : St) (H : Hp) (vs : List V) (us : List Value) (Q : St -> Hp -> Prop),Inv X pins σ H s -> Vals vs us -> t vs σ H Q →
  wpAny (model X.prog X.w) X.A (assignInOrder ((assignEach ts X.env).map (·.2)) us) (fun _ s'=>∃ σ' H',Inv X pins σ' H' s' /\ Q σ' H') X.xe s
abbrev TSet:=V -> V -> V -> Hp -> (Hp -> Prop) -> Prop
def PSet (X : Cx) (t : TSet) : Prop :=
 ∀ (pins : List (Addr × Obj)) (s : Shared) (σ : St) (H : Hp) (o i v : V) (ov iv u : Value) (Q : Hp -> Prop),Inv X pins σ H s -> RelV o ov -> RelV i iv -> RelV v u -> t o i v H Q →
  wpAny (model X.prog X.w) X.A (setItem ov iv u) (fun _ s'=>∃ H',Inv X pins σ H' s' /\ Q H') X.xe s
section
variable {X : Cx} {pos : Pos}
def gName (i : Nat) : TG:=fun v σ H Q=>Q (σ.set i (some v)) H
theorem pg_name {i : Nat} {x : Str} (hN : X.N.Nodup) (hi : X.N[i]? = some x) (hx : Loc X.env.scope x) (hf : X.fn x = true \/ X.env.scope.names.lookup x = some .local:=by first | exact .inl rfl | exact .inr rfl | assumption) : PG X (.Name x pos) (gName i):=by
 intro pins s σ H v u Q I r h
 exact wpAny_assign_Name (store_ok I hN hi hx r (fun s' I'=>⟨_,H,I',h⟩) hf)
def gNil : TGs:=fun vs σ H Q=>vs = [] /\ Q σ H
def gCons (t : TG) (u : TGs) : TGs:=fun vs σ H Q=>∃ v r,vs = v :: r /\ t v σ H fun σ' H'=>u r σ' H' Q
theorem pgs_nil : PGs X [] gNil:=by
 intro pins s σ H vs us Q I r h
 obtain ⟨e,h⟩:=h
 subst e
 cases r
 exact assignInOrder_nil ⟨σ,H,I,h⟩
theorem pgs_cons {e : Expr} {es : List Expr} {t : TG} {u : TGs} (h1 : PG X e t) (h2 : PGs X es u)
  (hs : (assignEach (e :: es) X.env).map (·.2) = assign e X.env :: (assignEach es X.env).map (·.2):=by rfl) : PGs X (e :: es) (gCons t u):=by
 intro pins s σ H vs us Q I r h
 obtain ⟨v,vr,e1,h⟩:=h
 subst e1
 cases r with
 | cons r rr =>
  rw [hs]
  refine assignInOrder_cons (thn (h1 pins s σ H _ _ _ I r h) fun _ s1 ⟨σ1,H1,I1,q1⟩=>?_)
  exact h2 pins s1 σ1 H1 _ _ Q I1 rr q1
def gTup (K : PySem.W.Frag) (n : Nat) (t : TGs) : TG:=fun v σ H Q=>∃ a xs,v = .ref a /\ SqT K H a xs /\ xs.length = n /\ t xs σ H Q
theorem pg_tup {es : List Expr} {k : Nat} {t : TGs} {n : Nat} (hc : X.calm = true) (h : PGs X es t)
  (hn : (assignEach es X.env).length = n:=by rfl) (hst : (assignEach es X.env).findIdx? (·.1) = none:=by rfl) : PG X (.Tuple es k pos) (gTup X.K n t):=by
 intro pins s σ H v u Q I r hw
 obtain ⟨a,xs,e1,hq,hl,hw⟩:=hw
 subst e1
 cases r
 obtain ⟨its,rv,ht,hz⟩:=I.tuple hq
 refine assign_Tuple_tuple (I.ok.hd hc) ht (by simp [hn,← hl,rv.length]) hst fun h' hx=>?_
 have I1 : Inv X pins σ H { s with heap:=h' }:=I.kept (t':=s.toks) fun b o e=>hx b o (Nat.ne_of_lt (Heap.lt_size e)) e
 exact h pins _ σ H xs _ Q I1 (by simpa using rv) hw
def gSub (to ti : TE) (t : TSet) : TG:=fun v σ H Q=>to σ H fun o H1=>ti σ H1 fun i H2=>t o i v H2 fun H3=>Q σ H3
theorem pg_sub {o i : Expr} {to ti : TE} {t : TSet} (ho : PE X o to) (hi : PE X i ti) (hs : PSet X t)
  (ha : ∀ v,assign (.Subscript o i pos) X.env v = (do
   let ov ← holding [v] (eval o X.env)
   let iv ← holding [v,ov] (eval i X.env)
   standAt pos
   holding [v,ov,iv] (setItem ov iv v)
   release [v,ov,iv] []):=by intro _; rfl) : PG X (.Subscript o i pos) (gSub to ti t):=by
 intro pins s σ H v u Q I r h
 rw [ha]
 refine wpAny_bind (wpAny_holding (thn (ho pins s σ H _ I h) fun ov s1 ⟨x,H1,I1,r1,q1⟩=>?_))
 refine wpAny_bind (wpAny_holding (thn (hi pins s1 σ H1 _ I1 q1) fun iv s2 ⟨y,H2,I2,r2,q2⟩=>?_))
 refine wpAny_bind (wpAny_standAt (wpAny_bind (wpAny_holding (thn (hs pins s2 σ H2 x y v ov iv u _ I2 r1 r2 r q2) fun _ s3 ⟨H3,I3,q3⟩=>?_))))
 exact wpAny_release ⟨σ,H3,I3,q3⟩
def tAsg (te : TE) (g : TG) : TS:=fun D σ H=>te σ H fun x H1=>g x σ H1 D.nx
theorem ps_asg {tg e : Expr} {te : TE} {g : TG} (he : PE X e te) (hg : PG X tg g) (hs : swapsWithSole [tg] e pos.line X.env = pure false:=by rfl) (hw : swappedStores [tg] e X.env = pure none:=by rfl)
  (h1 : (assignEach [tg] X.env).map (·.2) = [assign tg X.env]:=by rfl) : PS X (.Assign [tg] e pos) (tAsg te g):=by
 intro pins s σ H D I h
 refine wpAny_Assign_stores (thn (he pins s σ H _ I h) fun v s1 ⟨x,H1,I1,r1,q1⟩=>?_) hs hw
 rw [h1]
 exact thn (hg pins s1 σ H1 x v _ I1 r1 q1) fun _ s2 q=>q
theorem ps_set {i : Nat} {x : Str} {e : Expr} {te : TE} {pos' : Pos} (hN : X.N.Nodup) (hi : X.N[i]? = some x) (hx : Loc X.env.scope x) (he : PE X e te) (hs : swapsWith e (some (.Name x pos')) pos.line X.env = pure false:=by rfl) (hf : X.fn x = true \/ X.env.scope.names.lookup x = some .local:=by first | exact .inl rfl | exact .inr rfl | assumption) :
  PS X (.Assign [.Name x pos'] e pos) (tAsg te (gName i)):=by
 intro pins s σ H D I h
 refine wpAny_Assign_Name (thn (he pins s σ H _ I h) fun v s1 ⟨y,H1,I1,r1,q1⟩=>?_) hs
 exact store_ok I1 hN hi hx r1 (fun s2 I2=>⟨_,H1,I2,q1⟩) hf
end
section
variable {X : Cx} {pos : Pos}
def tWhile (c : TT) (tb : TS) : TS:=fun D σ H=>∃ W : Nat -> St -> Hp -> Prop,(∃ m,W m σ H) /\ ∀ m σ H,W m σ H →
 c σ H fun b H1=>if b = true then ∃ N : St -> Hp -> Prop,(∀ σ' H',N σ' H' -> ∃ m',m' < m /\ W m' σ' H') /\ tb { D with nx:=N,ct:=N,bk:=D.nx } σ H1 else D.nx σ H1
theorem ps_while {c : Expr} {body : List Stmt} {tc : TT} {tb : TS} (hp : PassesOwn (model X.prog X.w) X.A X.env X.xe) (hc : PT X c tc) (hb : PSs X body tb) : PS X (.While c body [] pos) (tWhile tc tb):=by
 intro pins s σ H D I h
 obtain ⟨W,⟨m0,w0⟩,turn⟩:=h
 refine wpAny_While (codeAny_whileLoop (fun n s'=>∃ σ' H',Inv X pins σ' H' s' /\ W n σ' H') ?_ m0 ⟨σ,H,I,w0⟩)
 rintro n s1 ⟨σ1,H1,I1,w1⟩
 refine wpAny_passesOwn hp (thn (hc pins s1 σ1 H1 _ I1 (turn n σ1 H1 w1)) fun b s2 ⟨H2,I2,q2⟩=>?_)
 cases b with
 | true =>
  obtain ⟨N,hN,q2⟩:=q2
  rw [if_pos rfl]
  refine wpAny_passesOwn hp (thn (hb pins s2 σ1 H2 _ I2 q2) fun f s3 q3=>?_)
  cases f with
  | next =>
   obtain ⟨σ3,H3,I3,n3⟩:=q3
   obtain ⟨m',hm,w3⟩:=hN σ3 H3 n3
   exact ⟨m',hm,σ3,H3,I3,w3⟩
  | cont =>
   obtain ⟨σ3,H3,I3,n3⟩:=q3
   obtain ⟨m',hm,w3⟩:=hN σ3 H3 n3
   exact ⟨m',hm,σ3,H3,I3,w3⟩
  | brk=>exact q3
  | ret v=>exact q3
 | false =>
  rw [if_neg Bool.false_ne_true]
  exact wpAny_execs_nil ⟨σ1,H2,I2,q2⟩
end
structure It where
 go : Nat -> Hp -> Prop
 yld : Nat -> Hp -> V -> Hp -> Prop
 stop : Nat -> Hp -> Prop
def FpOk (X : Cx) (pins : List (Addr × Obj)) (H : Hp) (b : Addr) : Prop :=
 H b = none /\ b ≠ X.env.locals /\ b ∉ X.fs /\ (b ∈ X.ex \/ X.s₀.heap.objs.size <= b) /\ (∀ x c,X.env.cells.lookup x = some c -> c ≠ b) /\ ∀ p ∈ X.pn ++ pins,p.1 ≠ b
theorem Inv.fpOk {X : Cx} {pins : List (Addr × Obj)} {σ : St} {H H' : Hp} {s : Shared} {b : Addr} (I : Inv X pins σ H s) (hb : s.heap.objs.size <= b) (hn : H' b = none) : FpOk X pins H' b:=by
 refine ⟨hn,Nat.ne_of_gt (Nat.lt_of_lt_of_le I.lt hb),I.nofs hb,.inr (Nat.le_trans I.sz hb),fun x c e z=>?_,fun p hp z=>?_⟩
 ·obtain ⟨v,q⟩:=I.cell x c e
  exact absurd (Nat.lt_of_lt_of_le q.lt (by rw [z]; exact hb)) (Nat.lt_irrefl _)
 ·exact absurd (Nat.lt_of_lt_of_le (Heap.lt_size (I.pin p hp).1) (by rw [z]; exact hb)) (Nat.lt_irrefl _)
structure Turn (P : Program) (w : World) (K : PySem.W.Frag) (tg : Expr) (J : It) (fp : List Addr) (it : Addr) (tn : Nat -> Heap -> Prop) : Prop where
 mem : it ∈ fp
 obj : ∀ i h,tn i h -> ∀ b ∈ fp,∃ o,h.get? b = some o /\ ∀ v,o.data ≠ .cell v
 keep : ∀ i h h',tn i h -> (∀ b ∈ fp,∀ o,h.get? b = some o -> h'.get? b = some o) -> tn i h'
 item : ∀ (X : Cx),X.prog = P -> X.w = w -> X.K = K -> X.calm = true -> ∀ (i : Nat) (pins : List (Addr × Obj)) (s : Shared) (σ : St) (H : Hp) (E : Value -> Shared -> Prop),Inv X pins σ H s -> (∀ b ∈ fp,FpOk X pins H b) -> tn i s.heap -> J.go i H →
  wpAny (model P w) X.A (pyNext (.ref it)) (fun r s1=>∃ u,r = some u ∧
   wpAny (model P w) X.A (letOwnedTupleGo tg (.ref it) u) (fun _ s2=>∃ x H',Inv X pins σ H' s2 /\ RelV x u /\ J.yld i H x H' /\ tn (i + 1) s2.heap /\ ∀ b ∈ fp,H' b = none) E s1) E s
 done : ∀ (X : Cx),X.prog = P -> X.w = w -> X.K = K -> X.calm = true -> ∀ (i : Nat) (pins : List (Addr × Obj)) (s : Shared) (σ : St) (H : Hp) (E : Value -> Shared -> Prop),Inv X pins σ H s -> (∀ b ∈ fp,FpOk X pins H b) -> tn i s.heap -> J.stop i H →
  wpAny (model P w) X.A (pyNext (.ref it)) (fun r s1=>r = none /\ Inv X pins σ H s1) E s
 self : ∀ (A : Around) (i : Nat) (s : Shared) (Q : Value -> Shared -> Prop) (E : Value -> Shared -> Prop),tn i s.heap -> Q (.ref it) s -> wpAny (model P w) A (pyIter (.ref it)) Q E s
abbrev TI:=St -> Hp -> (It -> Hp -> Prop) -> Prop
def PIE (X : Cx) (pins : List (Addr × Obj)) (σ : St) (tg : Expr) (R : It -> Hp -> Prop) (itv : Value) (s2 : Shared) : Prop :=
 ∃ (it : Addr) (fp : List Addr) (tn : Nat -> Heap -> Prop) (J : It) (H' : Hp),itv = .ref it /\ Inv X pins σ H' s2 /\ Turn X.prog X.w X.K tg J fp it tn /\ tn 0 s2.heap /\ (∀ b ∈ fp,FpOk X pins H' b) /\ R J H'
def PI (X : Cx) (tg iter : Expr) (wi : TI) : Prop :=
 ∀ (pins : List (Addr × Obj)) (s : Shared) (σ : St) (H : Hp) (R : It -> Hp -> Prop),Inv X pins σ H s -> wi σ H R →
  wpAny (model X.prog X.w) X.A (eval iter X.env) (fun v s1=>wpAny (model X.prog X.w) X.A (pyIter v) (PIE X pins σ tg R) X.xe s1) X.xe s
theorem go_of {M : Model} {A : Around} {E : Value -> Shared -> Prop} {s : Shared} {tg : Expr} {it : Addr} {u : Value} {o : Obj} {n : String} {vs : Array Value} {Q : Unit -> Shared -> Prop} (ho : s.heap.get? it = some o) (hc : o.cls = .type n) (hd : o.data = .fields vs)
  (hn : ["enumerate","zip","dict_itemiterator","dict_reverseitemiterator","odict_iterator","itertools.zip_longest","itertools.pairwise"].contains n = false) (hQ : Q () s) : wpAny M A (letOwnedTupleGo tg (.ref it) u) Q E s:=by
 unfold letOwnedTupleGo
 cases tg <;> first
  | exact wpAny_pure hQ
  | (cases u <;> first
    | exact wpAny_pure hQ
    | (refine wpAny_bind (wpAny_load ho ?_)
       rw [hc,hd]
       show wpAny M A (if (["enumerate","zip","dict_itemiterator","dict_reverseitemiterator","odict_iterator","itertools.zip_longest","itertools.pairwise"].contains n && vs[0]? == some (rawInt _)) = true then _ else _) Q E s
       rw [if_neg (by intro h; rw [hn,Bool.false_and] at h; cases h)]
       exact wpAny_pure hQ))
def Itl (K : PySem.W.Frag) (a : Addr) : It :=
 ⟨fun i H=>∃ xs x,SqL K H a xs /\ xs[i]? = some x,fun i H x H'=>H' = H /\ ∀ xs,SqL K H a xs -> xs[i]? = some x,fun i H=>∃ xs,SqL K H a xs /\ xs.length <= i⟩
def Itt (K : PySem.W.Frag) (a : Addr) : It :=
 ⟨fun i H=>∃ xs x,SqT K H a xs /\ xs[i]? = some x,fun i H x H'=>H' = H /\ ∀ xs,SqT K H a xs -> xs[i]? = some x,fun i H=>∃ xs,SqT K H a xs /\ xs.length <= i⟩
def Itr (lo : Int) (n : Nat) : It:=⟨fun i _=>i < n,fun i H x H'=>H' = H /\ x = .int (lo + i),fun i _=>n <= i⟩
theorem turn_list {P : Program} {w : World} {K : PySem.W.Frag} {tg : Expr} (a it : Addr) : Turn P w K tg (Itl K a) [it] it (fun i h=>h.IsListIter it a i) where
 mem:=by simp
 obj:=fun i h st b hb=>by
  have e : b = it:=by simpa using hb
  subst e
  obtain ⟨o,e,c,d⟩:=st
  exact ⟨o,e,fun v z=>by rw [d] at z; cases z⟩
 keep:=fun i h h' st k=>st.at fun o e=>k it (by simp) o e
 item:=by
  intro X hP hw hK hc i pins s σ H E I hf st hg
  subst hP hw hK
  obtain ⟨xs,x,hq,hx⟩:=hg
  obtain ⟨its,rv,p,hz⟩:=I.list hq
  obtain ⟨u,hu,ru⟩:=rv.get hx
  obtain ⟨f0,f1,f2,f3,f4,f5⟩:=hf it (by simp)
  refine wpAny_pyNext_list_item st p.isList (x:=u) (by simpa using hu) fun h' st' sb=>?_
  have I1 : Inv X pins σ H { s with heap:=h' }:=I.turned (t':=s.toks) (fun b o hb e=>(sb.2 b hb).trans e) f0 f1 f3 f4 f5
  obtain ⟨o,e,c,d⟩:=id st'
  exact ⟨u,rfl,go_of (s:={ s with heap:=h' }) e c d (by decide) ⟨x,H,I1,ru,⟨rfl,fun ys hy=>by rw [I.list_inj hy hq]; exact hx⟩,st',fun b hb=>(hf b hb).1⟩⟩
 done:=by
  intro X hP hw hK hc i pins s σ H E I hf st hg
  subst hP hw hK
  obtain ⟨xs,hq,hx⟩:=hg
  obtain ⟨its,rv,p,hz⟩:=I.list hq
  obtain ⟨f0,f1,f2,f3,f4,f5⟩:=hf it (by simp)
  have hl:=rv.length
  exact wpAny_pyNext_list_end (I.ok.hd hc) st p.isList (by simp; omega) fun h' eb=>⟨rfl,I.turned (t':=s.toks) (fun b o hb e=>eb b o hb e) f0 f1 f3 f4 f5⟩
 self:=fun _ _ _ _ _ st h=>wpAny_pyIter_listiter st h
theorem turn_tuple {P : Program} {w : World} {K : PySem.W.Frag} {tg : Expr} (a it : Addr) : Turn P w K tg (Itt K a) [it] it (fun i h=>h.IsTupleIter it a i) where
 mem:=by simp
 obj:=fun i h st b hb=>by
  have e : b = it:=by simpa using hb
  subst e
  obtain ⟨o,e,c,d⟩:=st
  exact ⟨o,e,fun v z=>by rw [d] at z; cases z⟩
 keep:=fun i h h' st k=>st.at fun o e=>k it (by simp) o e
 item:=by
  intro X hP hw hK hc i pins s σ H E I hf st hg
  subst hP hw hK
  obtain ⟨xs,x,hq,hx⟩:=hg
  obtain ⟨its,rv,p,hz⟩:=I.tuple hq
  obtain ⟨u,hu,ru⟩:=rv.get hx
  obtain ⟨f0,f1,f2,f3,f4,f5⟩:=hf it (by simp)
  refine wpAny_pyNext_tuple_item st (show s.heap.IsTuple a its.toArray from p) (x:=u) (by simpa using hu) fun h' st' sb=>?_
  have I1 : Inv X pins σ H { s with heap:=h' }:=I.turned (t':=s.toks) (fun b o hb e=>(sb.2 b hb).trans e) f0 f1 f3 f4 f5
  obtain ⟨o,e,c,d⟩:=id st'
  exact ⟨u,rfl,go_of (s:={ s with heap:=h' }) e c d (by decide) ⟨x,H,I1,ru,⟨rfl,fun ys hy=>by rw [I.tuple_inj hy hq]; exact hx⟩,st',fun b hb=>(hf b hb).1⟩⟩
 done:=by
  intro X hP hw hK hc i pins s σ H E I hf st hg
  subst hP hw hK
  obtain ⟨xs,hq,hx⟩:=hg
  obtain ⟨its,rv,p,hz⟩:=I.tuple hq
  obtain ⟨f0,f1,f2,f3,f4,f5⟩:=hf it (by simp)
  have hl:=rv.length
  exact wpAny_pyNext_tuple_end (I.ok.hd hc) st (show s.heap.IsTuple a its.toArray from p) (by simp; omega) fun h' eb=>⟨rfl,I.turned (t':=s.toks) (fun b o hb e=>eb b o hb e) f0 f1 f3 f4 f5⟩
 self:=fun _ _ _ _ _ st h=>wpAny_pyIter_tupleiter st h
theorem turn_range {P : Program} {w : World} {K : PySem.W.Frag} {tg : Expr} (it : Addr) (lo : Int) (n : Nat) : Turn P w K tg (Itr lo n) [it] it (fun i h=>IsRangeIter h it (lo + (i : Nat) * 1) ((n : Int) - (i : Nat)) 1) where
 mem:=by simp
 obj:=fun i h st b hb=>by
  have e : b = it:=by simpa using hb
  subst e
  exact ⟨_,st,fun v z=>by
   have z' : Data.fields _ = Data.cell v:=z
   cases z'⟩
 keep:=fun i h h' st k=>k it (by simp) _ st
 item:=by
  intro X hP hw hK hc i pins s σ H E I hf st hg
  subst hP hw hK
  obtain ⟨f0,f1,f2,f3,f4,f5⟩:=hf it (by simp)
  have W:=Walks.range (prog:=X.prog) (w:=X.w) (I.ok.hd hc) it lo 1 n
  refine W.item i s _ _ hg st fun v h' tk hv st' kk=>?_
  obtain ⟨t,rfl⟩:=hv
  have I1 : Inv X pins σ H { s with heap:=h',toks:=tk }:=I.turned (fun b o hb e=>kk b o (by simpa using hb) e) f0 f1 f3 f4 f5
  refine ⟨_,rfl,go_of (s:={ s with heap:=h',toks:=tk }) (n:="range_iterator") st' rfl rfl (by decide) ⟨.int (lo + i),H,I1,⟨t,?_⟩,⟨rfl,rfl⟩,st',fun b hb=>(hf b hb).1⟩⟩
  rw [Int.mul_one]
 done:=by
  intro X hP hw hK hc i pins s σ H E I hf st hg
  subst hP hw hK
  obtain ⟨f0,f1,f2,f3,f4,f5⟩:=hf it (by simp)
  exact wpAny_pyNext_range_end (I.ok.hd hc) st (by have : n <= i:=hg; omega) fun h' eb=>⟨rfl,I.turned (t':=s.toks) (fun b o hb e=>eb b o hb e) f0 f1 f3 f4 f5⟩
 self:=fun _ _ _ _ _ st h=>wpAny_pyIter_rangeiter st h
end L2
namespace L2
open PySem PySem.Spec PyProof.Rows
section
variable {X : Cx} {tg : Expr}
def iList (K : PySem.W.Frag) (tl : TE) : TI:=fun σ H R=>tl σ H fun x H1=>∃ a,x = .ref a /\ (∃ xs,SqL K H1 a xs) /\ R (Itl K a) H1
def iTup (K : PySem.W.Frag) (tl : TE) : TI:=fun σ H R=>tl σ H fun x H1=>∃ a,x = .ref a /\ (∃ xs,SqT K H1 a xs) /\ R (Itt K a) H1
theorem pi_list {l : Expr} {tl : TE} (hl : PE X l tl) : PI X tg l (iList X.K tl):=by
 intro pins s σ H R I h
 refine thn (hl pins s σ H _ I h) fun v s1 ⟨x,H1,I1,r1,q1⟩=>?_
 obtain ⟨a,e,⟨xs,hq⟩,q⟩:=q1
 subst e
 cases r1
 obtain ⟨its,rv,p,hz⟩:=I1.list hq
 refine wpAny_pyIter_list p.isList ?_
 refine ⟨s1.heap.objs.size,[s1.heap.objs.size],_,_,H1,rfl,I1.kept (t':=s1.toks) fun b o e=>Heap.get?_push_of_some _ e,turn_list a _,⟨_,Heap.get?_push_size _ rfl,rfl,rfl⟩,fun b hb=>?_,q⟩
 have e : b = s1.heap.objs.size:=by simpa using hb
 subst e
 exact I1.fpOk (Nat.le_refl _) (I1.hok.fresh (Nat.le_refl _))
theorem pi_tup {l : Expr} {tl : TE} (hl : PE X l tl) : PI X tg l (iTup X.K tl):=by
 intro pins s σ H R I h
 refine thn (hl pins s σ H _ I h) fun v s1 ⟨x,H1,I1,r1,q1⟩=>?_
 obtain ⟨a,e,⟨xs,hq⟩,q⟩:=q1
 subst e
 cases r1
 obtain ⟨its,rv,p,hz⟩:=I1.tuple hq
 refine wpAny_pyIter_tuple (show s1.heap.IsTuple a its.toArray from p) ?_
 refine ⟨s1.heap.objs.size,[s1.heap.objs.size],_,_,H1,rfl,I1.kept (t':=s1.toks) fun b o e=>Heap.get?_push_of_some _ e,turn_tuple a _,⟨_,Heap.get?_push_size _ rfl,rfl,rfl⟩,fun b hb=>?_,q⟩
 have e : b = s1.heap.objs.size:=by simpa using hb
 subst e
 exact I1.fpOk (Nat.le_refl _) (I1.hok.fresh (Nat.le_refl _))
theorem range_it {pins : List (Addr × Obj)} {σ : St} {H : Hp} {s : Shared} {R : It -> Hp -> Prop} {E : Value -> Shared -> Prop} {lo hi : Int} {t u v : Tok} {tk : Nat} (I : Inv X pins σ H s) (h1 : -(2 ^ 62) <= lo) (h2 : lo < 2 ^ 62) (h3 : -(2 ^ 62) <= hi) (h4 : hi < 2 ^ 62)
  (q : R (Itr lo (hi - lo).toNat) H) : wpAny (model X.prog X.w) X.A (pyIter (.ref s.heap.objs.size)) (PIE X pins σ tg R) E { s with heap:=s.heap.push { cls:=.type "range",data:=.fields #[.int lo t,.int hi u,.int 1 v] },toks:=tk }:=by
 refine wpAny_pyIter_range (IsRange.new ..) (small_one h1 h2 h3 h4) ?_
 have I1 : Inv X pins σ H { s with heap:=s.heap.push { cls:=.type "range",data:=.fields #[.int lo t,.int hi u,.int 1 v] },toks:=tk }:=I.kept fun b o e=>Heap.get?_push_of_some _ e
 refine ⟨(s.heap.push { cls:=.type "range",data:=.fields #[.int lo t,.int hi u,.int 1 v] }).objs.size,[(s.heap.push { cls:=.type "range",data:=.fields #[.int lo t,.int hi u,.int 1 v] }).objs.size],_,_,H,rfl,
  I1.kept (t':=tk) fun b o e=>Heap.get?_push_of_some _ e,turn_range _ lo (hi - lo).toNat,?_,fun b hb=>?_,q⟩
 ·have e1 : lo + ((0 : Nat) : Int) * 1 = lo:=by simp
  have e2 : (((hi - lo).toNat : Nat) : Int) - ((0 : Nat) : Int) = Builtin.Range.rangeSize lo hi 1:=by rw [rangeSize_one]; split <;> omega
  show IsRangeIter _ _ (lo + ((0 : Nat) : Int) * 1) ((((hi - lo).toNat : Nat) : Int) - ((0 : Nat) : Int)) 1
  rw [e1,e2]
  exact Heap.get?_push_size _ rfl
 ·have e : b = (s.heap.push { cls:=.type "range",data:=.fields #[.int lo t,.int hi u,.int 1 v] }).objs.size:=by simpa using hb
  subst e
  exact I1.fpOk (Nat.le_refl _) (I1.hok.fresh (Nat.le_refl _))
def iRng1 (ta : TA) : TI:=fun σ H R=>ta σ H fun vs H1=>∃ j : Int,vs = [.int j] /\ -(2 ^ 62) <= j /\ j < 2 ^ 62 /\ R (Itr 0 j.toNat) H1
theorem pi_range1 {a : Expr} {ta : TA} {p pos : Pos} (hg : Gl X "range") (hm : X.mg "range" = none) (ha : PA X [a] ta) (hs : starEach [a] X.env = [(false,eval a X.env)]:=by rfl) : PI X tg (.Call (.Name "range" p) [a] [] pos) (iRng1 ta):=by
 intro pins s σ H R I h
 refine Call_ (ld_blt I hg hm boot_range (PyProof.Rows.callWith_type1 (thn (ha pos pins s σ H _ I h) fun us s1 ⟨vs,H1,I1,r1,q1⟩=>?_) hs rfl))
 obtain ⟨j,e,q1,q2,q⟩:=q1
 subst e
 cases r1 with
 | cons r rr =>
  cases rr
  obtain ⟨t,rfl⟩:=r
  exact call_range_1 (range_it I1 (by omega) (by omega) q1 q2 (by simpa using q))
def tFor (wi : TI) (g : TG) (tb : TS) : TS:=fun D σ H=>wi σ H fun J H1=>∃ W : Nat -> Nat -> St -> Hp -> Prop,(∃ m,W 0 m σ H1) /\ ∀ i m σ H,W i m σ H →
 (J.stop i H /\ D.nx σ H) \/ (J.go i H /\ ∃ N : St -> Hp -> Prop,(∀ σ' H',N σ' H' -> ∃ m',m' < m /\ W (i + 1) m' σ' H') /\ ∀ x H',J.yld i H x H' -> g x σ H' fun σ2 H2=>tb { D with nx:=N,ct:=N,bk:=D.nx } σ2 H2)
def pinsAt (fp : List Addr) (h : Heap) : List (Addr × Obj):=fp.filterMap fun b=>(h.get? b).map fun o=>(b,o)
theorem mem_pinsAt {fp : List Addr} {h : Heap} {b : Addr} {o : Obj} (hb : b ∈ fp) (e : h.get? b = some o) : (b,o) ∈ pinsAt fp h:=List.mem_filterMap.mpr ⟨b,hb,by rw [e]; rfl⟩
theorem of_pinsAt {fp : List Addr} {h : Heap} {p : Addr × Obj} (hp : p ∈ pinsAt fp h) : p.1 ∈ fp /\ h.get? p.1 = some p.2:=by
 obtain ⟨b,hb,e⟩:=List.mem_filterMap.mp hp
 cases q : h.get? b with
 | none=>rw [q] at e; cases e
 | some o =>
  rw [q] at e
  have e' : (b,o) = p:=Option.some.inj e
  subst e'
  exact ⟨hb,q⟩
theorem Inv.pinned {pins : List (Addr × Obj)} {σ : St} {H : Hp} {s : Shared} {fp : List Addr} (I : Inv X pins σ H s) (hf : ∀ b ∈ fp,FpOk X pins H b) (ho : ∀ b ∈ fp,∃ o,s.heap.get? b = some o /\ ∀ v,o.data ≠ .cell v) : Inv X (pins ++ pinsAt fp s.heap) σ H s :=
 I.pins_of fun p hp=>(List.mem_append.mp hp).elim (fun z=>I.pin p (List.mem_append_right _ z)) fun z=>by
  obtain ⟨hb,e⟩:=of_pinsAt z
  obtain ⟨f0,f1,f2,_⟩:=hf p.1 hb
  obtain ⟨o,e',d⟩:=ho p.1 hb
  rw [e] at e'; cases e'
  exact ⟨e,f0,f1,f2,d⟩
theorem Inv.unpinned {pins pl : List (Addr × Obj)} {σ : St} {H : Hp} {s : Shared} (I : Inv X (pins ++ pl) σ H s) : Inv X pins σ H s:=I.pins_of fun p hp=>I.pin p (List.mem_append_right _ (List.mem_append_left _ hp))
theorem ps_for {iter : Expr} {body : List Stmt} {wi : TI} {g : TG} {tb : TS} {pos : Pos} (hp : PassesOwn (model X.prog X.w) X.A X.env X.xe) (hc : X.calm = true) (hi : PI X tg iter wi) (hg : PG X tg g) (hb : PSs X body tb)
  (hs : ∀ x,foldedSetIterable iter X.env x = pure x:=by intro _; rfl) : PS X (.For tg iter body [] pos) (tFor wi g tb):=by
 intro pins s σ H D I h
 refine wpAny_For (thn (hi pins s σ H _ I h) fun v s1 h1=>thn h1 fun itv s2 h2=>?_) hs
 obtain ⟨it,fp,tn,J,H2,e,I2,T,st2,f2,W,⟨m0,w0⟩,turn⟩:=h2
 subst e
 have stat : ∀ {H' : Hp},(∀ b ∈ fp,H' b = none) -> ∀ b ∈ fp,FpOk X pins H' b:=fun hn b hb=>⟨hn b hb,(f2 b hb).2⟩
 refine codeAny_forLoop_any (fun n s'=>∃ i σ' H',Inv X pins σ' H' s' /\ tn i s'.heap /\ (∀ b ∈ fp,H' b = none) /\ W i n σ' H') ?_ m0 ⟨0,σ,H2,I2,st2,fun b hb=>(f2 b hb).1,w0⟩
 rintro n s3 ⟨i,σ3,H3,I3,st3,fr3,w3⟩
 rcases turn i n σ3 H3 w3 with ⟨stop,qn⟩ | ⟨go,N,hN,step⟩
 ·refine wpAny_passesOwn hp (thn (T.done X rfl rfl rfl hc i pins s3 σ3 H3 X.xe I3 (stat fr3) st3 stop) fun r s4 ⟨hr,I4⟩=>?_)
  subst hr
  exact wpAny_execs_nil ⟨σ3,H3,I4,qn⟩
 ·refine wpAny_passesOwn hp (thn (T.item X rfl rfl rfl hc i pins s3 σ3 H3 X.xe I3 (stat fr3) st3 go) fun r s4 ⟨u,hr,h4⟩=>?_)
  subst hr
  refine wpAny_passesOwn hp (thn h4 fun _ s5 ⟨x,H5,I5,r5,y5,st5,fr5⟩=>?_)
  have I5':=I5.pinned (stat fr5) (T.obj _ _ st5)
  refine wpAny_passesOwn hp (thn (hg _ s5 σ3 H5 x u _ I5' r5 (step x H5 y5)) fun _ s6 ⟨σ6,H6,I6,q6⟩=>?_)
  refine wpAny_passesOwn hp (thn (hb _ s6 σ6 H6 _ I6 q6) fun f s7 q7=>?_)
  have again : ∀ {σ7 : St} {H7 : Hp},Inv X (pins ++ pinsAt fp s5.heap) σ7 H7 s7 -> N σ7 H7 -> ∃ m,m < n /\ ∃ i σ' H',Inv X pins σ' H' s7 /\ tn i s7.heap /\ (∀ b ∈ fp,H' b = none) /\ W i m σ' H':=fun {σ7 H7} I7 n7=>by
   obtain ⟨m',hm,w7⟩:=hN σ7 H7 n7
   refine ⟨m',hm,i + 1,σ7,H7,I7.unpinned,T.keep _ _ _ st5 fun b hb o e=>(I7.pin (b,o) (List.mem_append_right _ (List.mem_append_right _ (mem_pinsAt hb e)))).1,fun b hb=>?_,w7⟩
   obtain ⟨o,e,d⟩:=T.obj _ _ st5 b hb
   exact (I7.pin (b,o) (List.mem_append_right _ (List.mem_append_right _ (mem_pinsAt hb e)))).2.1
  cases f with
  | next=>obtain ⟨σ7,H7,I7,n7⟩:=q7; exact again I7 n7
  | cont=>obtain ⟨σ7,H7,I7,n7⟩:=q7; exact again I7 n7
  | brk=>obtain ⟨σ7,H7,I7,q7⟩:=q7; exact ⟨σ7,H7,I7.unpinned,q7⟩
  | ret v=>obtain ⟨x7,σ7,H7,I7,r7,q7⟩:=q7; exact ⟨x7,σ7,H7,I7.unpinned,r7,q7⟩
end
theorem for_list {K : PySem.W.Frag} {a : Addr} {xs : List V} {g : TG} {tb : TS} {D : Ends} {σ : St} {H : Hp} (Pv : Nat -> St -> Hp -> Prop) (h0 : Pv 0 σ H) (hl : ∀ i σ H,i <= xs.length -> Pv i σ H -> SqL K H a xs)
  (hs : ∀ i x σ H,xs[i]? = some x -> Pv i σ H -> g x σ H fun σ2 H2=>tb { D with nx:=Pv (i + 1),ct:=Pv (i + 1),bk:=D.nx } σ2 H2) (hd : ∀ σ H,Pv xs.length σ H -> D.nx σ H) :
  ∃ W : Nat -> Nat -> St -> Hp -> Prop,(∃ m,W 0 m σ H) /\ ∀ i m σ H,W i m σ H →
   ((Itl K a).stop i H /\ D.nx σ H) \/ ((Itl K a).go i H /\ ∃ N : St -> Hp -> Prop,(∀ σ' H',N σ' H' -> ∃ m',m' < m /\ W (i + 1) m' σ' H') /\ ∀ x H',(Itl K a).yld i H x H' -> g x σ H' fun σ2 H2=>tb { D with nx:=N,ct:=N,bk:=D.nx } σ2 H2):=by
 refine ⟨fun i m σ H=>m = xs.length - i /\ i <= xs.length /\ Pv i σ H,⟨xs.length,by simp,Nat.zero_le _,h0⟩,?_⟩
 rintro i m σ H ⟨rfl,hi,p⟩
 have q:=hl i σ H hi p
 by_cases hlt : i < xs.length
 ·refine .inr ⟨⟨xs,xs[i],q,by simp [hlt]⟩,Pv (i + 1),fun σ' H' p'=>⟨xs.length - (i + 1),by omega,rfl,hlt,p'⟩,fun x H' y=>?_⟩
  obtain ⟨e,y⟩:=y
  subst e
  exact hs i x σ _ (y xs q) p
 ·have e : i = xs.length:=by omega
  subst e
  exact .inl ⟨⟨xs,q,Nat.le_refl _⟩,hd σ H p⟩
theorem for_tup {K : PySem.W.Frag} {a : Addr} {xs : List V} {g : TG} {tb : TS} {D : Ends} {σ : St} {H : Hp} (Pv : Nat -> St -> Hp -> Prop) (h0 : Pv 0 σ H) (hl : ∀ i σ H,i <= xs.length -> Pv i σ H -> SqT K H a xs)
  (hs : ∀ i x σ H,xs[i]? = some x -> Pv i σ H -> g x σ H fun σ2 H2=>tb { D with nx:=Pv (i + 1),ct:=Pv (i + 1),bk:=D.nx } σ2 H2) (hd : ∀ σ H,Pv xs.length σ H -> D.nx σ H) :
  ∃ W : Nat -> Nat -> St -> Hp -> Prop,(∃ m,W 0 m σ H) /\ ∀ i m σ H,W i m σ H →
   ((Itt K a).stop i H /\ D.nx σ H) \/ ((Itt K a).go i H /\ ∃ N : St -> Hp -> Prop,(∀ σ' H',N σ' H' -> ∃ m',m' < m /\ W (i + 1) m' σ' H') /\ ∀ x H',(Itt K a).yld i H x H' -> g x σ H' fun σ2 H2=>tb { D with nx:=N,ct:=N,bk:=D.nx } σ2 H2):=by
 refine ⟨fun i m σ H=>m = xs.length - i /\ i <= xs.length /\ Pv i σ H,⟨xs.length,by simp,Nat.zero_le _,h0⟩,?_⟩
 rintro i m σ H ⟨rfl,hi,p⟩
 have q:=hl i σ H hi p
 by_cases hlt : i < xs.length
 ·refine .inr ⟨⟨xs,xs[i],q,by simp [hlt]⟩,Pv (i + 1),fun σ' H' p'=>⟨xs.length - (i + 1),by omega,rfl,hlt,p'⟩,fun x H' y=>?_⟩
  obtain ⟨e,y⟩:=y
  subst e
  exact hs i x σ _ (y xs q) p
 ·have e : i = xs.length:=by omega
  subst e
  exact .inl ⟨⟨xs,q,Nat.le_refl _⟩,hd σ H p⟩
theorem for_range {lo : Int} {n : Nat} {g : TG} {tb : TS} {D : Ends} {σ : St} {H : Hp} (Pv : Nat -> St -> Hp -> Prop) (h0 : Pv 0 σ H)
  (hs : ∀ i σ H,i < n -> Pv i σ H -> g (.int (lo + i)) σ H fun σ2 H2=>tb { D with nx:=Pv (i + 1),ct:=Pv (i + 1),bk:=D.nx } σ2 H2) (hd : ∀ σ H,Pv n σ H -> D.nx σ H) :
  ∃ W : Nat -> Nat -> St -> Hp -> Prop,(∃ m,W 0 m σ H) /\ ∀ i m σ H,W i m σ H →
   ((Itr lo n).stop i H /\ D.nx σ H) \/ ((Itr lo n).go i H /\ ∃ N : St -> Hp -> Prop,(∀ σ' H',N σ' H' -> ∃ m',m' < m /\ W (i + 1) m' σ' H') /\ ∀ x H',(Itr lo n).yld i H x H' -> g x σ H' fun σ2 H2=>tb { D with nx:=N,ct:=N,bk:=D.nx } σ2 H2):=by
 refine ⟨fun i m σ H=>m = n - i /\ i <= n /\ Pv i σ H,⟨n,by simp,Nat.zero_le _,h0⟩,?_⟩
 rintro i m σ H ⟨rfl,hi,p⟩
 by_cases hlt : i < n
 ·refine .inr ⟨hlt,Pv (i + 1),fun σ' H' p'=>⟨n - (i + 1),by omega,rfl,hlt,p'⟩,fun x H' y=>?_⟩
  obtain ⟨e,y⟩:=y
  subst e y
  exact hs i σ _ hlt p
 ·have e : i = n:=by omega
  subst e
  exact .inl ⟨Nat.le_refl _,hd σ H p⟩
theorem while_by {c : TT} {tb : TS} {D : Ends} {σ : St} {H : Hp} (Pv : St -> Hp -> Prop) (μ : St -> Hp -> Nat) (h0 : Pv σ H)
  (hs : ∀ σ H,Pv σ H -> c σ H fun b H1=>if b = true then tb { D with nx:=fun σ' H'=>Pv σ' H' /\ μ σ' H' < μ σ H,ct:=fun σ' H'=>Pv σ' H' /\ μ σ' H' < μ σ H,bk:=D.nx } σ H1 else D.nx σ H1)
  (mono : ∀ σ H Q Q',(∀ b H1,Q b H1 -> Q' b H1) -> c σ H Q -> c σ H Q') : tWhile c tb D σ H:=by
 refine ⟨fun m σ H=>m = μ σ H /\ Pv σ H,⟨_,rfl,h0⟩,?_⟩
 rintro m σ H ⟨rfl,p⟩
 refine mono σ H _ _ (fun b H1 q=>?_) (hs σ H p)
 cases b with
 | true=>exact ⟨_,fun σ' H' ⟨p',l⟩=>⟨_,l,rfl,p'⟩,q⟩
 | false=>exact q
end L2
namespace L2
open PySem PySem.Spec PyProof.Rows
abbrev R2:=V -> V -> Hp -> VK -> Prop
def OpR (X : Cx) (f : Value -> Value -> Sem Value) (r : R2) : Prop :=
 ∀ (pins : List (Addr × Obj)) (s : Shared) (σ : St) (H : Hp) (x y : V) (v u : Value) (Q : VK),Inv X pins σ H s -> RelV x v -> RelV y u -> r x y H Q →
  wpAny (model X.prog X.w) X.A (f v u) (EP X pins σ Q) X.xe s
def UnR (X : Cx) (f : Value -> Sem Value) (r : V -> Hp -> VK -> Prop) : Prop :=
 ∀ (pins : List (Addr × Obj)) (s : Shared) (σ : St) (H : Hp) (x : V) (v : Value) (Q : VK),Inv X pins σ H s -> RelV x v -> r x H Q →
  wpAny (model X.prog X.w) X.A (f v) (EP X pins σ Q) X.xe s
def CallR (X : Cx) (f : Value) (r : List V -> Hp -> VK -> Prop) : Prop :=
 ∀ (pins : List (Addr × Obj)) (s : Shared) (σ : St) (H : Hp) (xs : List V) (us : List Value) (Q : VK),Inv X pins σ H s -> Vals xs us -> r xs H Q →
  wpAny (model X.prog X.w) X.A (call f us) (EP X pins σ Q) X.xe s
def tOp (r : R2) (ta tb : TE) : TE:=fun σ H Q=>ta σ H fun x H1=>tb σ H1 fun y H2=>r x y H2 Q
def tUn (r : V -> Hp -> VK -> Prop) (ta : TE) : TE:=fun σ H Q=>ta σ H fun x H1=>r x H1 Q
def rI (C : Int -> Int -> Prop) (g : Int -> Int -> V) : R2:=fun x y H Q=>∃ i j,x = .int i /\ y = .int j /\ C i j /\ Q (g i j) H
def rI0 (g : Int -> Int -> V) : R2:=fun x y H Q=>∃ i j,x = .int i /\ y = .int j /\ Q (g i j) H
def rU (g : Int -> V) : V -> Hp -> VK -> Prop:=fun x H Q=>∃ i,x = .int i /\ Q (g i) H
section
variable {X : Cx} {a b c : Expr} {ta tb tc : TE} {pos : Pos}
theorem binT (ha : PE X a ta) (hb : PE X b tb) {pins : List (Addr × Obj)} {s : Shared} {σ : St} {H : Hp} {R : V -> V -> Hp -> Prop} (I : Inv X pins σ H s)
  (h : ta σ H fun x H1=>tb σ H1 fun y H2=>R x y H2) {Q : Value -> Shared -> Prop} {f : Value -> Value -> Sem Value}
  (hf : ∀ v u s2 x y H2,Inv X pins σ H2 s2 -> RelV x v -> RelV y u -> R x y H2 -> wpAny (model X.prog X.w) X.A (f v u) Q X.xe s2) :
  wpAny (model X.prog X.w) X.A (eval a X.env) (fun v s₁=>wpAny (model X.prog X.w) X.A (eval b X.env) (fun u s₂=>wpAny (model X.prog X.w) X.A (f v u) Q X.xe s₂) X.xe s₁) X.xe s:=by
 refine thn (ha pins s σ H _ I h) fun v s1 ⟨x,H1,I1,r1,q1⟩=>?_
 refine thn (hb pins s1 σ H1 _ I1 q1) fun u s2 ⟨y,H2,I2,r2,q2⟩=>?_
 exact hf v u s2 x y H2 I2 r1 r2 q2
theorem pe_op {op : Operator} {r : R2} (ho : OpR X (binaryOp op) r) (ha : PE X a ta) (hb : PE X b tb) : PE X (.BinOp a op b pos) (tOp r ta tb):=by
 intro pins s σ H Q I h
 exact wpAny_BinOp (binT ha hb I h fun v u s2 x y H2 I2 rx ry q=>ho pins s2 σ H2 x y v u Q I2 rx ry q)
theorem pe_un {op : UnaryOp} {r : V -> Hp -> VK -> Prop} (ho : UnR X (unaryOp op) r) (ha : PE X a ta) : PE X (.UnaryOp op a pos) (tUn r ta):=by
 intro pins s σ H Q I h
 exact UnaryOp_ (thn (ha pins s σ H _ I h) fun v s1 ⟨x,H1,I1,r1,q1⟩=>ho pins s1 σ H1 x v Q I1 r1 q1)
theorem opI {f : Value -> Value -> Sem Value} {C : Int -> Int -> Prop} {g : Int -> Int -> Int}
  (rule : ∀ (i j : Int) (t u : Tok) (s : Shared) (Q : Value -> Shared -> Prop) (E : Value -> Shared -> Prop),C i j -> Q (.int (g i j) s.toks) { s with toks:=s.toks + 1 } -> wpAny (model X.prog X.w) X.A (f (.int i t) (.int j u)) Q E s) :
  OpR X f (rI C fun i j=>.int (g i j)):=by
 intro pins s σ H x y v u Q I rx ry h
 obtain ⟨i,j,rfl,rfl,hc,q⟩:=h
 obtain ⟨t,rfl⟩:=rx
 obtain ⟨t',rfl⟩:=ry
 exact rule i j t t' s _ _ hc ⟨.int (g i j),H,I.tok _,⟨_,rfl⟩,q⟩
theorem opI0 {f : Value -> Value -> Sem Value} {g : Int -> Int -> Int}
  (rule : ∀ (i j : Int) (t u : Tok) (s : Shared) (Q : Value -> Shared -> Prop) (E : Value -> Shared -> Prop),Q (.int (g i j) s.toks) { s with toks:=s.toks + 1 } -> wpAny (model X.prog X.w) X.A (f (.int i t) (.int j u)) Q E s) :
  OpR X f (rI0 fun i j=>.int (g i j)):=by
 intro pins s σ H x y v u Q I rx ry h
 obtain ⟨i,j,rfl,rfl,q⟩:=h
 obtain ⟨t,rfl⟩:=rx
 obtain ⟨t',rfl⟩:=ry
 exact rule i j t t' s _ _ ⟨.int (g i j),H,I.tok _,⟨_,rfl⟩,q⟩
theorem opB0 {f : Value -> Value -> Sem Value} {g : Int -> Int -> Bool}
  (rule : ∀ (i j : Int) (t u : Tok) (s : Shared) (Q : Value -> Shared -> Prop) (E : Value -> Shared -> Prop),Q (.bool (g i j)) s -> wpAny (model X.prog X.w) X.A (f (.int i t) (.int j u)) Q E s) :
  OpR X f (rI0 fun i j=>.bl (g i j)):=by
 intro pins s σ H x y v u Q I rx ry h
 obtain ⟨i,j,rfl,rfl,q⟩:=h
 obtain ⟨t,rfl⟩:=rx
 obtain ⟨t',rfl⟩:=ry
 exact rule i j t t' s _ _ ⟨.bl (g i j),H,I,rfl,q⟩
def CPow (i j : Int) : Prop:=0 <= j /\ j <= 1000000 /\ i.natAbs < 2 ^ 64
def CMul (i j : Int) : Prop:=(-(2 ^ 64) < i /\ i < 2 ^ 64) \/ (-(2 ^ 64) < j /\ j < 2 ^ 64)
theorem op_add : OpR X (binaryOp .Add) (rI0 fun i j=>.int (i + j)):=opI0 fun _ _ _ _ _ _ _ q=>add_int q
theorem op_sub : OpR X (binaryOp .Sub) (rI0 fun i j=>.int (i - j)):=opI0 fun _ _ _ _ _ _ _ q=>sub_int q
theorem op_mod : OpR X (binaryOp .Mod) (rI (fun _ j=>0 < j) fun i j=>.int (i % j)):=opI fun i j _ _ _ _ _ hc q=>by
 have h1 : (0 : Int) < j:=hc
 exact mod_int' (by omega) (by rw [Int.fmod_eq_emod_of_nonneg i (by omega)]; exact q)
theorem op_modN : OpR X (binaryOp .Mod) (rI (fun _ j=>j ≠ 0) fun i j=>.int (i.fmod j)):=opI fun _ _ _ _ _ _ _ hc q=>mod_int' hc q
theorem op_pow : OpR X (binaryOp .Pow) (rI CPow fun i j=>.int (i ^ j.toNat)):=opI fun _ _ _ _ _ _ _ hc q=>pow_int_small hc.1 hc.2.1 hc.2.2 q
theorem unI {f : Value -> Sem Value} {g : Int -> Int}
  (rule : ∀ (i : Int) (t : Tok) (s : Shared) (Q : Value -> Shared -> Prop) (E : Value -> Shared -> Prop),Q (.int (g i) s.toks) { s with toks:=s.toks + 1 } -> wpAny (model X.prog X.w) X.A (f (.int i t)) Q E s) :
  UnR X f (rU fun i=>.int (g i)):=by
 intro pins s σ H x v Q I rx h
 obtain ⟨i,rfl,q⟩:=h
 obtain ⟨t,rfl⟩:=rx
 exact rule i t s _ _ ⟨.int (g i),H,I.tok _,⟨_,rfl⟩,q⟩
theorem un_neg : UnR X (unaryOp .USub) (rU fun i=>.int (-i)):=unI fun _ _ _ _ _ q=>neg_int q
end
def scal : V -> V -> Bool
 | .non,.non=>true | .non,.int _=>true | .int _,.non=>true | .non,.bl _=>true | .bl _,.non=>true | .non,.str _=>true | .str _,.non=>true
 | .int _,.int _=>true | .bl _,.bl _=>true | .str _,.str _=>true | .byt _,.byt _=>true
 | .int _,.str _=>true | .str _,.int _=>true | .bl _,.str _=>true | .str _,.bl _=>true
 | _,_=>false
def rEq : R2:=fun x y H Q=>scal x y = true /\ Q (.bl (decide (x = y))) H
def rNe : R2:=fun x y H Q=>scal x y = true /\ Q (.bl (!decide (x = y))) H
theorem dec_int {i j : Int} : decide (V.int i = V.int j) = (i == j):=by
 rw [Bool.eq_iff_iff]
 simp
theorem dec_bl {i j : Bool} : decide (V.bl i = V.bl j) = (i == j):=by
 rw [Bool.eq_iff_iff]
 simp
theorem dec_str {i j : Str} : decide (V.str i = V.str j) = (i == j):=by
 rw [Bool.eq_iff_iff]
 simp
theorem dec_byt {i j : Array UInt8} : decide (V.byt i = V.byt j) = (i.toList == j.toList):=by
 rw [Bool.eq_iff_iff]
 cases i
 cases j
 simp
section
variable {X : Cx} {a b c : Expr} {ta tb tc : TE} {pos : Pos}
theorem fin_bl {pins : List (Addr × Obj)} {σ : St} {H : Hp} {s : Shared} {Q : VK} {k k' : Bool} (I : Inv X pins σ H s) (q : Q (.bl k) H) (e : k = k') : EP X pins σ Q (.bool k') s:=by
 subst e
 exact ⟨.bl k,H,I,rfl,q⟩
theorem op_eq : OpR X (compareOp .Eq) rEq:=by
 intro pins s σ H x y v u Q I rx ry h
 obtain ⟨hs,q⟩:=h
 cases x with
 | non =>
  cases rx
  cases y with
  | non=>cases ry; exact PySem.EqNone.eq_none_none (fin_bl I q (by simp))
  | bl j=>cases ry; exact PySem.EqNone.eq_none_bool (fin_bl I q (by simp))
  | int j=>obtain ⟨t',rfl⟩:=ry; exact PySem.EqNone.eq_none_int (fin_bl I q (by simp))
  | str j=>obtain ⟨t',rfl⟩:=ry; exact PySem.EqNone.eq_none_str (fin_bl I q (by simp))
  | _=>exact absurd (show false = true from hs) Bool.false_ne_true
 | bl i =>
  cases rx
  cases y with
  | non=>cases ry; exact PySem.EqNone.eq_bool_none (fin_bl I q (by simp))
  | bl j=>cases ry; exact eq_bool (fin_bl I q dec_bl)
  | str j=>obtain ⟨t',rfl⟩:=ry; exact PySem.EqMixed.eq_bool_str (fin_bl I q (by simp))
  | _=>exact absurd (show false = true from hs) Bool.false_ne_true
 | int i =>
  obtain ⟨t,rfl⟩:=rx
  cases y with
  | non=>cases ry; exact PySem.EqNone.eq_int_none (fin_bl I q (by simp))
  | int j=>obtain ⟨t',rfl⟩:=ry; exact eq_int (fin_bl I q dec_int)
  | str j=>obtain ⟨t',rfl⟩:=ry; exact PySem.EqMixed.eq_int_str (fin_bl I q (by simp))
  | _=>exact absurd (show false = true from hs) Bool.false_ne_true
 | str i =>
  obtain ⟨t,rfl⟩:=rx
  cases y with
  | non=>cases ry; exact PySem.EqNone.eq_str_none (fin_bl I q (by simp))
  | bl j=>cases ry; exact PySem.EqMixed.eq_str_bool (fin_bl I q (by simp))
  | int j=>obtain ⟨t',rfl⟩:=ry; exact PySem.EqMixed.eq_str_int (fin_bl I q (by simp))
  | str j=>obtain ⟨t',rfl⟩:=ry; exact eq_str (fin_bl I q dec_str)
  | _=>exact absurd (show false = true from hs) Bool.false_ne_true
 | byt i =>
  obtain ⟨t,rfl⟩:=rx
  cases y with
  | byt j=>obtain ⟨t',rfl⟩:=ry; exact PySem.W.eq_bytes (fin_bl I q dec_byt)
  | _=>exact absurd (show false = true from hs) Bool.false_ne_true
 | _=>cases y <;> exact absurd (show false = true from hs) Bool.false_ne_true
theorem op_ne : OpR X (compareOp .NotEq) rNe:=by
 intro pins s σ H x y v u Q I rx ry h
 obtain ⟨hs,q⟩:=h
 cases x with
 | non =>
  cases rx
  cases y with
  | non=>cases ry; exact PySem.EqNone.ne_none_none (fin_bl I q (by simp))
  | bl j=>cases ry; exact PySem.EqNone.ne_none_bool (fin_bl I q (by simp))
  | int j=>obtain ⟨t',rfl⟩:=ry; exact PySem.EqNone.ne_none_int (fin_bl I q (by simp))
  | str j=>obtain ⟨t',rfl⟩:=ry; exact PySem.EqNone.ne_none_str (fin_bl I q (by simp))
  | _=>exact absurd (show false = true from hs) Bool.false_ne_true
 | bl i =>
  cases rx
  cases y with
  | non=>cases ry; exact PySem.EqNone.ne_bool_none (fin_bl I q (by simp))
  | bl j=>cases ry; exact ne_bool (fin_bl I q (congrArg not dec_bl))
  | str j=>obtain ⟨t',rfl⟩:=ry; exact PySem.EqMixed.ne_bool_str (fin_bl I q (by simp))
  | _=>exact absurd (show false = true from hs) Bool.false_ne_true
 | int i =>
  obtain ⟨t,rfl⟩:=rx
  cases y with
  | non=>cases ry; exact PySem.EqNone.ne_int_none (fin_bl I q (by simp))
  | int j=>obtain ⟨t',rfl⟩:=ry; exact ne_int (fin_bl I q (congrArg not dec_int))
  | str j=>obtain ⟨t',rfl⟩:=ry; exact PySem.EqMixed.ne_int_str (fin_bl I q (by simp))
  | _=>exact absurd (show false = true from hs) Bool.false_ne_true
 | str i =>
  obtain ⟨t,rfl⟩:=rx
  cases y with
  | non=>cases ry; exact PySem.EqNone.ne_str_none (fin_bl I q (by simp))
  | bl j=>cases ry; exact PySem.EqMixed.ne_str_bool (fin_bl I q (by simp))
  | int j=>obtain ⟨t',rfl⟩:=ry; exact PySem.EqMixed.ne_str_int (fin_bl I q (by simp))
  | str j=>obtain ⟨t',rfl⟩:=ry; exact ne_str (fin_bl I q (congrArg not dec_str))
  | _=>exact absurd (show false = true from hs) Bool.false_ne_true
 | byt i =>
  obtain ⟨t,rfl⟩:=rx
  cases y with
  | byt j=>obtain ⟨t',rfl⟩:=ry; exact PySem.W.ne_bytes (fin_bl I q (congrArg not dec_byt))
  | _=>exact absurd (show false = true from hs) Bool.false_ne_true
 | _=>cases y <;> exact absurd (show false = true from hs) Bool.false_ne_true
theorem op_lt : OpR X (compareOp .Lt) (rI0 fun i j=>.bl (decide (i < j))):=opB0 fun _ _ _ _ _ _ _ q=>lt_int q
theorem op_gt : OpR X (compareOp .Gt) (rI0 fun i j=>.bl (decide (j < i))):=opB0 fun _ _ _ _ _ _ _ q=>gt_int q
theorem op_isN : OpR X (compareOp .Is) (fun x y H Q=>y = .non /\ Q (.bl (decide (x = .non))) H):=by
 intro pins s σ H x y v u Q I rx ry h
 obtain ⟨rfl,q⟩:=h
 cases ry
 refine is_none_gen (fin_bl I q ?_)
 cases x <;> first
  | (cases rx; rfl)
  | (obtain ⟨t,rfl⟩:=rx; rfl)
theorem op_notN : OpR X (compareOp .IsNot) (fun x y H Q=>y = .non /\ Q (.bl (!decide (x = .non))) H):=by
 intro pins s σ H x y v u Q I rx ry h
 obtain ⟨rfl,q⟩:=h
 cases ry
 refine isnot_none_gen (fin_bl I q ?_)
 cases x <;> first
  | (cases rx; rfl)
  | (obtain ⟨t,rfl⟩:=rx; rfl)
theorem nomark (b : Expr) {op : CmpOp} (h : op ≠ .In:=by decide) (h2 : op ≠ .NotIn:=by decide) : behindInMarks op b = false:=by
 have e1 : (op == CmpOp.In) = false:=by cases op <;> first | rfl | exact absurd rfl h
 have e2 : (op == CmpOp.NotIn) = false:=by cases op <;> first | rfl | exact absurd rfl h2
 cases b <;> simp [behindInMarks,e1,e2]
theorem pe_cmpR {op : CmpOp} {r : R2} (ho : OpR X (compareOp op) r) (ha : PE X a ta) (hb : PE X b tb) (hm : behindInMarks op b = false) : PE X (.Compare a [op] [b] pos) (tOp r ta tb):=by
 intro pins s σ H Q I h
 exact wpAny_Compare1 (binT ha hb I h fun v u s2 x y H2 I2 rx ry q=>ho pins s2 σ H2 x y v u Q I2 rx ry q) hm
def tTest (t : TE) : TT:=fun σ H Q=>t σ H fun x H'=>∃ k,x = .bl k /\ Q k H'
theorem pt_cmpR {op : CmpOp} {r : R2} (ho : OpR X (compareOp op) r) (ha : PE X a ta) (hb : PE X b tb) (hm : behindInMarks op b = false) : PT X (.Compare a [op] [b] pos) (tTest (tOp r ta tb)):=by
 intro pins s σ H Q I h
 refine wpAny_isTrue_Compare1 (thn (ha pins s σ H _ I h) fun v s1 ⟨x,H1,I1,r1,q1⟩=>thn (hb pins s1 σ H1 _ I1 q1) fun u s2 ⟨y,H2,I2,r2,q2⟩ =>
  thn (ho pins s2 σ H2 x y v u _ I2 r1 r2 q2) fun c s3 ⟨z,H3,I3,r3,k,e,q3⟩=>?_) hm
 subst e
 cases r3
 exact wpAny_truthy_bool ⟨H3,I3,q3⟩
theorem line63 : (sizeLine : Nat) < 2 ^ 63:=by rw [sizeLine_eq]; decide
theorem vals1 {x : V} {us : List Value} (r : Vals [x] us) : ∃ u,us = [u] /\ RelV x u:=by
 cases r with
 | cons r1 r2=>cases r2; exact ⟨_,rfl,r1⟩
theorem vals2 {x y : V} {us : List Value} (r : Vals [x,y] us) : ∃ u w',us = [u,w'] /\ RelV x u /\ RelV y w':=by
 cases r with
 | cons r1 r2 =>
  cases r2 with
  | cons r3 r4=>cases r4; exact ⟨_,_,rfl,r1,r3⟩
theorem call_abs : CallR X (.builtin "abs") (fun xs H Q=>∃ i,xs = [.int i] /\ Q (.int (if i < 0 then -i else i)) H):=by
 intro pins s σ H xs us Q I r h
 obtain ⟨i,rfl,q⟩:=h
 obtain ⟨u,rfl,t,rfl⟩:=vals1 r
 exact call_abs_int fun u tk=>⟨.int (if i < 0 then -i else i),H,I.tok _,⟨_,rfl⟩,q⟩
end
end L2
namespace L2
open PySem PySem.Spec PyProof.Rows
structure ObjM (h : Heap) (x dx C : Addr) (mA : Str -> Option Value) : Prop where
 obj : h.get? x = some (PySem.W.instObj C dx)
 ns : h.Ns1 dx mA
 ne : dx ≠ x
theorem lookIn_ns {h : Heap} {dx : Addr} {mA : Str -> Option Value} (n : h.Ns1 dx mA) : ∃ od,h.get? dx = some od /\ ∀ name,PySem.W.lookIn name od = some (mA name):=by
 obtain ⟨o,es,ep,ho,hd,hk,_,hm⟩:=n
 refine ⟨o,ho,fun name=>?_⟩
 have e:=hm name
 unfold nsFind findBy at e
 rw [← Array.find?_toList] at e
 unfold PySem.W.lookIn
 rw [hd]
 dsimp only
 split
 ·rename_i y q
  rw [q] at e
  exact congrArg some e
 ·rename_i q
  rw [q] at e
  have a : es.toList.any (·.refKey) = false:=by
   rw [List.any_eq_false]
   intro y hy
   obtain ⟨z,t,hkey⟩:=hk y (Array.mem_toList_iff.mp hy)
   simp [DictEntry.refKey,hkey]
  have a' : ¬ es.toList.any (·.refKey) = true:=by rw [a]; exact Bool.false_ne_true
  rw [if_neg a']
  exact congrArg some e
theorem ObjM.look {h : Heap} {x dx C : Addr} {mA : Str -> Option Value} (I : ObjM h x dx C mA) : ∃ od,PySem.W.InstAt h x (PySem.W.instObj C dx) C (some od) /\ ∀ name,PySem.W.lookIn name od = some (mA name) :=
 let ⟨od,ho,hl⟩:=lookIn_ns I.ns
 ⟨od,⟨I.obj,rfl,rfl,ho⟩,hl⟩
section
variable {prog : Program} {w : World} {A : Around} {E : Value -> Shared -> Prop} {s : Shared} {K : PySem.W.Frag} {x dx C f : Addr} {mA : Str -> Option Value} {name : Str} {v : Value}
end
section
variable {P : Program} {w : World} {H H' : Hp} {h h' : Heap} {a C dx : Addr} {fs fs' : List (Str × V)}
theorem ins_get (hok : HOk P w H h) (e : H a = some (.ins C dx fs)) : ∃ mA,ObjM h a dx C mA /\ (∀ f,RelO (fs.lookup f) (mA f)) /\ PySem.Within mA (fs.map (·.1)) /\ fs.length <= 1000 /\ H dx = some (.own a):=by
 obtain ⟨d,z,ne,ob,mA,n,r,q⟩:=(show ObjOk P w H h a (.ins C dx fs) from hok a _ e)
 exact ⟨mA,⟨ob,n,ne⟩,r,q,z,d⟩
end
structure Cls (K : PySem.W.Frag) (C : Addr) : Prop where
 pg : PySem.W.plainGet K C Str.empty = true
 hd : PySem.W.hasDictIn K C = true
 po : PySem.W.plainOver K C = true
 sa : PySem.W.findIn K (.ref C) "__setattr__" = some (some (.builtin "object.__setattr__"))
theorem Cls.get {K : PySem.W.Frag} {C : Addr} (c : Cls K C) (f : Str) : PySem.W.plainGet K C f = true:=c.pg
structure Con (K : PySem.W.Frag) (C : Addr) (f : Str) (v : V) (u : Value) : Prop where
 at_ : PySem.W.findIn K (.ref C) f = some (some u)
 rel : RelV v u
 get : PySem.W.specialIn K u "__get__" = some none
 cp : PySem.W.copiedNames.contains f = false
section
variable {X : Cx} {pins : List (Addr × Obj)} {σ : St} {H : Hp} {s : Shared} {a C dx : Addr} {fs : List (Str × V)} {f : Str} {v : V} {A : Around} {E : Value -> Shared -> Prop}
end
section
variable {X : Cx} {o e value : Expr} {f : Str} {pos pos' tpos : Pos} {ta tv : TE}
end
section
variable {X : Cx} {pins : List (Addr × Obj)} {σ : St} {H : Hp} {s : Shared} {A : Around} {E : Value -> Shared -> Prop} {Q : Value -> Shared -> Prop} {c : Value} {b : Bool}
inductive TyOf (K : PySem.W.Frag) (H : Hp) : V -> Value -> Prop where
 | non : TyOf K H .non (.type "NoneType")
 | bl (x : Bool) : TyOf K H (.bl x) (.type "bool")
 | int (i : Int) : TyOf K H (.int i) (.type "int")
 | str (x : Str) : TyOf K H (.str x) (.type "str")
 | flt (x : UInt64) : TyOf K H (.flt x) (.type "float")
 | lst {a : Addr} {xs : List V} (e : H a = some (.lst xs)) : TyOf K H (.ref a) (.type "list")
 | frz {a : Addr} {o : Obj} {xs : List V} (e : H a = some (.frz o (.lst xs))) : TyOf K H (.ref a) (.type "list")
 | tup {a : Addr} {xs : List V} (e : H a = some (.tup xs)) : TyOf K H (.ref a) (.type "tuple")
 | dK {a : Addr} {kvs : List (Key × V)} (e : H a = some (.dK kvs)) : TyOf K H (.ref a) (.type "dict")
 | dT {a : Addr} {kvs : List (List Key × V)} (e : H a = some (.dT kvs)) : TyOf K H (.ref a) (.type "dict")
 | ins {a C dx : Addr} {fs : List (Str × V)} (e : H a = some (.ins C dx fs)) (cl : Cls K C) (ha : PySem.W.findIn K (.ref C) "__class__" = some (some (.builtin "object.__class__")))
   (hn : PySem.W.specialIn K (.builtin "object.__class__") "__get__" = some (some (.builtin "getset_descriptor.__get__"))) (htk : PySem.W.takesIn K (.builtin "object.__class__") = some true)
   (hm : PySem.W.mroIn K C (.type "object") = some true) : TyOf K H (.ref a) (.ref C)
theorem isinst_ok {x : V} {u t : Value} (I : Inv X pins σ H s) (rx : RelV x u) (ty : TyOf X.K H x t) (e : PySem.W.kitOne X.K t c = some b) (h : ∀ tk,Q (.bool b) { s with toks:=tk }) :
  wpAny (model X.prog X.w) A (call (.builtin "isinstance") [u,c]) Q E s:=by
 cases ty with
 | non=>cases (show u = Value.none from rx); exact PySem.W.kia_one PySem.W.kitx_none I.kIn True.intro e (fun z=>nomatch z) h
 | bl y=>cases (show u = Value.bool y from rx); exact PySem.W.kia_one PySem.W.kitx_bool I.kIn True.intro e (fun z=>nomatch z) h
 | int i=>obtain ⟨t,q⟩:=(show ∃ t,u = Value.int i t from rx); cases q; exact PySem.W.kia_one PySem.W.kitx_int I.kIn True.intro e (fun z=>nomatch z) h
 | str y=>obtain ⟨t,q⟩:=(show ∃ t,u = Value.str y t from rx); cases q; exact PySem.W.kia_one PySem.W.kitx_str I.kIn True.intro e (fun z=>nomatch z) h
 | flt y=>obtain ⟨t,q⟩:=(show ∃ t,u = Value.float y t from rx); cases q; exact PySem.W.kia_one PySem.W.kitx_float I.kIn True.intro e (fun z=>nomatch z) h
 | @lst a xs ea =>
  cases (show u = Value.ref a from rx)
  obtain ⟨_,_,n,_,h1⟩:=(show ObjOk X.prog X.w H s.heap a (.lst xs) from I.hok a _ ea)
  exact PySem.W.kia_one PySem.W.kitx_list I.kIn ⟨_,h1,rfl⟩ e (fun z=>nomatch z) h
 | @frz a ob xs ea =>
  cases (show u = Value.ref a from rx)
  obtain ⟨_,_,_,n,_,h1⟩:=(show ObjOk X.prog X.w H s.heap a (.frz ob (.lst xs)) from I.hok a _ ea)
  exact PySem.W.kia_one PySem.W.kitx_list I.kIn ⟨_,h1,rfl⟩ e (fun z=>nomatch z) h
 | @tup a xs ea =>
  cases (show u = Value.ref a from rx)
  obtain ⟨_,_,_,p⟩:=(show ObjOk X.prog X.w H s.heap a (.tup xs) from I.hok a _ ea)
  obtain ⟨o,h1,h2,_⟩:=p
  exact PySem.W.kia_one PySem.W.kitx_tuple I.kIn ⟨o,h1,h2⟩ e (fun z=>nomatch z) h
 | @dK a kvs ea =>
  cases (show u = Value.ref a from rx)
  obtain ⟨_,_,vs,_,p⟩:=(show ObjOk X.prog X.w H s.heap a (.dK kvs) from I.hok a _ ea)
  obtain ⟨o,es,ep,h1,h2,_⟩:=p
  exact PySem.W.kia_one PySem.W.kitx_dict I.kIn ⟨o,h1,h2.1⟩ e (fun z=>nomatch z) h
 | @dT a kvs ea =>
  cases (show u = Value.ref a from rx)
  obtain ⟨_,_,xs,_,o,es,ep,h1,h2,_⟩:=(show ObjOk X.prog X.w H s.heap a (.dT kvs) from I.hok a _ ea)
  exact PySem.W.kia_one PySem.W.kitx_dict I.kIn ⟨o,h1,h2.1⟩ e (fun z=>nomatch z) h
 | @ins a C dx fs ea cl ha hn htk hm =>
  cases (show u = Value.ref a from rx)
  obtain ⟨mA,O,_⟩:=ins_get I.hok ea
  obtain ⟨od,J,_⟩:=O.look
  exact PySem.W.kia_one (PySem.W.kitx_own (cl.get _) cl.hd ha hn htk hm) I.kIn J e (fun z=>nomatch z) h
end
end L2
namespace L2
open PySem PySem.Spec PyProof.Rows
structure Room (k : Nat) (A : Around) : Prop where
 hd : A.handled = none
 dp : A.depth + 3 * k + 5 < recursionLimit
 un : A.units + 16 * k + 200 < cLine
theorem Room.mono {j k : Nat} {A : Around} (r : Room k A) (h : j <= k) : Room j A:=⟨r.hd,by have:=r.dp; omega,by have:=r.un; omega⟩
theorem Room.deeper {k : Nat} {A : Around} (r : Room (k + 1) A) (env : Env) : Room k (A.deeper env) :=
 ⟨r.hd,by have:=r.dp; show A.depth + 1 + 3 * k + 5 < _; omega,by have:=r.un; show A.units + 3 + 16 * k + 200 < _; omega⟩
theorem Room.depth {k : Nat} {A : Around} (r : Room k A) : A.depth < recursionLimit:=by have:=r.dp; omega
theorem Room.units {k : Nat} {A : Around} (r : Room k A) : A.units + 64 < cLine:=by have:=r.un; omega
def tNil : TA:=fun _ H Q=>Q [] H
def tCons (ta : TE) (tr : TA) : TA:=fun σ H Q=>ta σ H fun x H1=>tr σ H1 fun xs H2=>Q (x :: xs) H2
section
variable {X : Cx} {e : Expr} {es : List Expr} {te : TE} {t : TA} {pos : Pos}
theorem pa_nil : PA X [] tNil:=fun _ _ _ _ H Q I h=>Calls.spliced_nil ⟨[],H,I,.nil,h⟩
theorem pa_cons (ha : PE X e te) (hr : PA X es t) (hs : starEach (e :: es) X.env = (false,eval e X.env) :: starEach es X.env:=by rfl) : PA X (e :: es) (tCons te t):=by
 intro pos pins s σ H Q I h
 rw [hs]
 show wpAny _ _ (spliced ((false,eval e X.env) :: backTo pos (starEach es X.env))) _ _ s
 refine Calls.spliced_cons (thn (ha pins s σ H _ I h) fun u s1 ⟨x,H1,I1,r1,q1⟩=>?_)
 exact thn (hr pos pins s1 σ H1 _ I1 q1) fun us s2 ⟨xs,H2,I2,r2,q2⟩=>⟨x :: xs,H2,I2,.cons r1 r2,q2⟩
def tTup (t : TA) : TE:=fun σ H Q=>t σ H fun xs H1=>xs.length <= sizeLine /\ ∀ p,H1 p = none -> Q (.ref p) (upd H1 p (.tup xs))
def tLst (t : TA) : TE:=fun σ H Q=>t σ H fun xs H1=>xs.length <= sizeLine /\ ∀ p,H1 p = none -> Q (.ref p) (upd H1 p (.lst xs))
theorem pe_tup {x1} (h : PA X es t) : PE X (.Tuple es x1 pos) (tTup t):=by
 intro pins s σ H Q I hq
 refine wpAny_Tuple_spliced (thn (h pos pins s σ H _ I hq) fun us s1 ⟨xs,H1,I1,r,z,q⟩=>⟨by rw [← r.length]; exact z,?_⟩)
 have hf : H1 s1.heap.objs.size = none:=I1.hok.fresh (Nat.le_refl _)
 refine ⟨.ref s1.heap.objs.size,upd H1 s1.heap.objs.size (.tup xs),I1.laid (t':=s1.toks) (fun b u e=>Heap.get?_push_of_some _ e) (Nat.le_refl _) ?_,rfl,q _ hf⟩
 exact ⟨z,us,r,⟨_,Heap.get?_push_size _ rfl,rfl,_,rfl⟩⟩
theorem pe_lst (h : PA X es t) : PE X (.List es pos) (tLst t):=by
 intro pins s σ H Q I hq
 refine wpAny_List_spliced (thn (h pos pins s σ H _ I hq) fun us s1 ⟨xs,H1,I1,r,z,q⟩=>⟨by rw [← r.length]; exact z,?_⟩)
 have hf : H1 s1.heap.objs.size = none:=I1.hok.fresh (Nat.le_refl _)
 refine ⟨.ref s1.heap.objs.size,upd H1 s1.heap.objs.size (.lst xs),I1.laid (t':=s1.toks) (fun b u e=>Heap.get?_push_of_some _ e) (Nat.le_refl _) ?_,rfl,q _ hf⟩
 exact ⟨z,us,0,r,Heap.get?_push_size _ rfl⟩
end
abbrev Sp:=List V -> Hp -> VK -> XK -> Prop
abbrev CXT:=List Env -> Hp -> Shared -> XK -> Value -> Shared -> Prop
structure Env0 (P : Program) (w : World) (K : PySem.W.Frag) (mg : Str -> Option Value) (base : Heap) (A : Around) (outer : List Env) (s : Shared) (H : Hp) : Prop where
 frames : A.frames = some outer
 mod : Mod K mg base
 bs : ∀ b o,base.get? b = some o -> s.heap.get? b = some o /\ H b = none
 bsz : base.objs.size <= s.heap.objs.size
 funs : s.heap.FunFrames base outer
 frf : ∀ b ∈ frs outer,H b = none
 hok : HOk P w H s.heap
 bare : AllBare s.gens
def CE (outer : List Env) (P : Program) (w : World) (H : Hp) (s : Shared) (Q : VK) (u : Value) (s' : Shared) : Prop :=
 ∃ v H',s'.os = s.os /\ AllBare s'.gens /\ Un (frs outer) [] H H' s.heap s'.heap /\ HOk P w H' s'.heap /\ RelV v u /\ Q v H'
def CR (CX : CXT) (outer : List Env) (P : Program) (w : World) (H : Hp) (s : Shared) (Q : VK) (E : XK) (r : Result) (s' : Shared) : Prop :=
 match r with
 | .ok (.ret u)=>CE outer P w H s Q u s'
 | .ok _=>False
 | .error e=>CX outer H s E e s'
structure FnOk (P : Program) (w : World) (K : PySem.W.Frag) (mg : Str -> Option Value) (base : Heap) (CX : CXT) (k : Nat) (f : Addr) (fd : FuncData) (ps : List Str) (sp : Sp) : Prop where
 len : ∀ vs H Q E,sp vs H Q E -> vs.length = ps.length
 run : ∀ (A : Around) (outer : List Env) (s : Shared) (H : Hp) (args : Args) (us : List Value) (vs : List V) (Q : VK) (E : XK),Room k A -> Env0 P w K mg base A outer s H -> BindsTo s fd args (ps.zip us) -> Vals vs us -> sp vs H Q E →
  codeAny (model P w) A (.call (.ref f) args) (CR CX outer P w H s Q E) s
section
variable {X : Cx} {pins : List (Addr × Obj)} {σ : St} {H : Hp} {s s' : Shared}
theorem Inv.env0 (I : Inv X pins σ H s) : Env0 X.prog X.w X.K X.mg X.base X.A X.stack s H :=
 ⟨I.ok.frames,I.ok.mod,I.bs,Nat.le_trans I.ok.bsz I.sz,I.stack,I.stkFree,I.hok,I.bare⟩
theorem Inv.after {Q : VK} {u : Value} (I : Inv X pins σ H s) (h : CE X.stack X.prog X.w H s Q u s') : EP X pins σ Q u s':=by
 obtain ⟨v,H',os,bare,un,hok,r,q⟩:=h
 obtain ⟨hh,g,d,t,os'⟩:=s'
 obtain rfl : os' = s.os:=os
 exact ⟨v,H',I.call (h':=hh) (g':=g) (d':=d) (t':=t) (ch:=[]) un hok bare (fun b z=>absurd z (by simp)),r,q⟩
end
def tCall (sp : Sp) (dvs : List V) (E : XK) (t : TA) : TE:=fun σ H Q=>t σ H fun vs H1=>sp (vs ++ dvs) H1 Q E
def Binds (K : PySem.W.Frag) (fd : FuncData) (ps : List Str) (ds : List Value) : Prop :=
 ∀ (s : Shared) (us : List Value),K.In s.heap -> (us ++ ds).length = ps.length -> BindsTo s fd ⟨us,[]⟩ (ps.zip (us ++ ds))
theorem Binds.all {K : PySem.W.Frag} {fd : FuncData} {ps : List Str} (h : ∀ us : List Value,us.length = ps.length -> bindArgs fd ⟨us,[]⟩ = pure (ps.zip us)) : Binds K fd ps []:=fun s us _ hl=>by
 rw [List.append_nil] at hl ⊢
 exact .of_eq (h us hl)
def Passes (CX : CXT) (X : Cx) (E : XK) : Prop:=∀ (pins : List (Addr × Obj)) (σ : St) (H : Hp) (s : Shared) (e : Value) (s' : Shared),Inv X pins σ H s -> CX X.stack H s E e s' -> X.xe e s'
section
variable {X : Cx} {CX : CXT} {k : Nat} {f C : Addr} {fd : FuncData} {ps : List Str} {sp : Sp} {dvs : List V} {ds : List Value} {E : XK} {x m : Str} {p pos apos : Pos} {e o : Expr} {es : List Expr} {ta : TE} {t : TA}
theorem run_fn {pins : List (Addr × Obj)} {σ : St} {H : Hp} {s : Shared} {Q : VK} {us : List Value} {vs : List V} (F : FnOk X.prog X.w X.K X.mg X.base CX k f fd ps sp) (hr : Room k X.A) (hb : Binds X.K fd ps ds) (hd : Vals dvs ds) (hx : Passes CX X E)
  (I : Inv X pins σ H s) (r : Vals vs us) (h : sp (vs ++ dvs) H Q E) : wpAny (model X.prog X.w) X.A (call (.ref f) us) (EP X pins σ Q) X.xe s:=by
 have r2 : Vals (vs ++ dvs) (us ++ ds):=r.append hd
 have hl : (us ++ ds).length = ps.length:=by rw [← r2.length]; exact F.len _ _ _ _ h
 refine wpAny_call (codeAny_mono (F.run X.A X.stack s H ⟨us,[]⟩ (us ++ ds) (vs ++ dvs) Q E hr I.env0 (hb s us I.kIn hl) r2 h) fun r s' hq=>?_)
 cases r with
 | error e=>exact hx pins σ H s e s' I hq
 | ok fl =>
  cases fl with
  | ret u=>exact I.after hq
  | next=>exact False.elim hq
  | brk=>exact False.elim hq
  | cont=>exact False.elim hq
theorem pe_call (F : FnOk X.prog X.w X.K X.mg X.base CX k f fd ps sp) (hr : Room k X.A) (hg : Gl X x) (hm : X.mg x = some (.ref f)) (hk : PySem.W.keepIn X.K (.ref f) = true) (hb : Binds X.K fd ps ds) (hd : Vals dvs ds) (hx : Passes CX X E)
  (ha : PA X (e :: es) t) (hdb : (x == ("__debug__" : Str)) = false:=by decide) (he : starEach (e :: es) X.env = (false,eval e X.env) :: starEach es X.env:=by rfl) (hpl : (backTo pos (starEach es X.env)).any (·.1) = false:=by rfl) :
  PE X (.Call (.Name x p) (e :: es) [] pos) (tCall sp dvs E t):=by
 intro pins s σ H Q I h
 refine wpAny_Call_Name_kw (ld_glob I hg hm ?_ hdb)
 refine PySem.W.callWith_K (h₀:=X.base) I.ok.mod.kin hk (thn (ha pos pins s σ H _ I h) fun us s1 ⟨vs,H1,I1,r,q⟩=>⟨I1.kIn,?_⟩) he hpl
 exact run_fn F hr hb hd hx I1 r q
end
section
variable {X : Cx} {CX : CXT} {k : Nat} {f C : Addr} {fd : FuncData} {ps ks : List Str} {sp : Sp} {E : XK} {x m : Str} {p pos apos kpos : Pos} {e o : Expr} {es : List Expr} {kws : List Keyword} {te ta : TE} {t tk : TA} {nm : Option Str}
variable {g : List Value -> List Value -> List Value} {gV : List V -> List V -> List V}
end
structure FnScope (N P : List Str) (sc : Scope) : Prop where
 kind : sc.kind = .function
 co : sc.isCoroutine = false
 gen : sc.isGenerator = false
 nd : N.Nodup
 pre : N.take P.length = P
 par : ∀ x ∈ P,sc.names.lookup x = some .local \/ sc.names.lookup x = some .cell
 nofree : ∀ y ∈ sc.names,y.2 ≠ .free
theorem bindL_out {kindOf : Str -> Option NameKind} {x : Str} : ∀ {binds : List (Str × Value)} {m : Str -> Option Value},(∀ v,(x,v) ∉ binds) -> bindL kindOf binds m x = m x
 | [],_,_=>rfl
 | (n,v) :: r,m,h=>by
  unfold bindL
  rw [bindL_out fun w hw=>h w (List.mem_cons_of_mem _ hw)]
  split
  ·have : x ≠ n:=by rintro rfl; exact h v List.mem_cons_self
   simp [this]
  ·rfl
theorem bindC_out {kindOf : Str -> Option NameKind} {x : Str} : ∀ {binds : List (Str × Value)} {m : Str -> Option Value},(∀ v,(x,v) ∉ binds) -> bindC kindOf binds m x = m x
 | [],_,_=>rfl
 | (n,v) :: r,m,h=>by
  unfold bindC
  rw [bindC_out fun w hw=>h w (List.mem_cons_of_mem _ hw)]
  split
  ·rfl
  ·have : x ≠ n:=by rintro rfl; exact h v List.mem_cons_self
   simp [this]
theorem bindL_get {kindOf : Str -> Option NameKind} {x : Str} {v : Value} : ∀ {P : List Str} {vs : List Value} {i : Nat} {m : Str -> Option Value},P.Nodup -> P[i]? = some x -> vs[i]? = some v -> kindOf x = some .local →
  bindL kindOf (P.zip vs) m x = some v
 | [],_,_,_,_,h,_,_=>by simp at h
 | _ :: _,[],_,_,_,_,h,_=>by simp at h
 | p :: P,w :: vs,0,m,nd,h1,h2,hk=>by
  simp at h1 h2; subst h1; subst h2
  show bindL kindOf ((p,w) :: P.zip vs) m p = _
  unfold bindL
  rw [bindL_out fun v hv=>(List.nodup_cons.mp nd).1 (List.of_mem_zip hv).1,if_pos hk]
  simp
 | p :: P,w :: vs,i + 1,m,nd,h1,h2,hk=>by
  show bindL kindOf ((p,w) :: P.zip vs) m x = _
  unfold bindL
  exact bindL_get (i:=i) (List.nodup_cons.mp nd).2 (by simpa using h1) (by simpa using h2) hk
theorem bindC_get {kindOf : Str -> Option NameKind} {x : Str} {v : Value} : ∀ {P : List Str} {vs : List Value} {i : Nat} {m : Str -> Option Value},P.Nodup -> P[i]? = some x -> vs[i]? = some v -> kindOf x ≠ some .local →
  bindC kindOf (P.zip vs) m x = some v
 | [],_,_,_,_,h,_,_=>by simp at h
 | _ :: _,[],_,_,_,_,h,_=>by simp at h
 | p :: P,w :: vs,0,m,nd,h1,h2,hk=>by
  simp at h1 h2; subst h1; subst h2
  show bindC kindOf ((p,w) :: P.zip vs) m p = _
  unfold bindC
  rw [bindC_out fun v hv=>(List.nodup_cons.mp nd).1 (List.of_mem_zip hv).1,if_neg hk]
  simp
 | p :: P,w :: vs,i + 1,m,nd,h1,h2,hk=>by
  show bindC kindOf ((p,w) :: P.zip vs) m x = _
  unfold bindC
  exact bindC_get (i:=i) (List.nodup_cons.mp nd).2 (by simpa using h1) (by simpa using h2) hk
def start (N : List Str) (vs : List V) : St:=vs.map some ++ List.replicate (N.length - vs.length) none
def cxOf (CX : CXT) (P : Program) (w : World) (K : PySem.W.Frag) (mg : Str -> Option Value) (base : Heap) (N : List Str) (qual : Str) (scope : Scope) (f : Addr) (cd : Value) (A : Around) (outer : List Env) (s : Shared) (H : Hp) (E : XK) : Cx where
 prog:=P
 w:=w
 K:=K
 mg:=mg
 base:=base
 A:=A.deeper (envOfC qual scope s.heap.objs.size f cd)
 N:=N
 s₀:=s
 H₀:=H
 env:=envOfC qual scope s.heap.objs.size f cd
 outer:=outer
 stack:=envOfC qual scope s.heap.objs.size f cd :: outer
 ex:=[]
 calm:=true
 fn:=fun _=>true
 pn:=[]
 xe:=fun e s'=>wpAny (model P w) (A.deeper (envOfC qual scope s.heap.objs.size f cd)) (leaving (envOfC qual scope s.heap.objs.size f cd) e) (fun _ s''=>CX outer H s E e s'') (fun e' s''=>CX outer H s E e' s'') s'
theorem cell_has {sc : Scope} {n : Nat} {x : Str} (h : sc.names.lookup x = some .cell) : ∃ c,(cellsFrom n sc.names []).lookup x = some c:=by
 have q:=PySem.W.cellsFrom_some sc.names n [] (.inl h)
 exact Option.isSome_iff_exists.mp q
theorem inv_start {CX : CXT} {P : Program} {w : World} {K : PySem.W.Frag} {mg : Str -> Option Value} {base : Heap} {N ps : List Str} {qual : Str} {scope : Scope} {f : Addr} {cd : Value} {A : Around} {outer : List Env} {s s1 : Shared} {H : Hp} {E : XK} {us : List Value} {vs : List V}
  (S : FnScope N ps scope) (hd : A.handled = none) (e0 : Env0 P w K mg base A outer s H) (hl : vs.length = ps.length) (r : Vals vs us)
  (x : InCallC s s.heap.objs.size (bindL (envOfC qual scope s.heap.objs.size f cd).kindOf (ps.zip us) fun _=>none) (cellsFrom (s.heap.objs.size + 1) scope.names []) (bindC (envOfC qual scope s.heap.objs.size f cd).kindOf (ps.zip us) fun _=>none) s1) :
  Inv (cxOf CX P w K mg base N qual scope f cd A outer s H E) [] (start N vs) H s1:=by
 have hpl : ps.length <= N.length:=by have:=congrArg List.length S.pre; rw [List.length_take] at this; omega
 obtain ⟨h1,tk,rfl,hk⟩:=x.done
 have noA : ∀ b : Addr,b ∉ (cxOf CX P w K mg base N qual scope f cd A outer s H E).ex:=fun b z=>absurd (show b ∈ ([] : List Addr) from z) (by simp)
 refine ⟨⟨e0.mod,S.kind,rfl,rfl,Nat.le_refl _,fun y z c h1 h2=>?_,fun y hy=>?_,fun y c _ h=>?_,fun _=>hd,Around.frames_deeper e0.frames,.inr ⟨rfl,rfl⟩,fun b z=>absurd z (noA b),e0.bs,e0.bsz,fun b _ _=>noA b,fun b z=>absurd z (noA b),e0.funs,e0.frf⟩,
  rfl,e0.bare,Un.kept hk,⟨_,x.toInCall.ns,fun i y v h1 h2 h3=>?_⟩,fun y c h=>⟨_,x.cell y c h⟩,e0.hok.fresh (Nat.le_refl _),fun y c h=>?_,fun p hp=>absurd (show p ∈ ([] : List (Addr × Obj)) from hp) (by simp),e0.hok.kept hk,?_⟩
 ·exact name_of_addr x.apart (PySem.mem_of_lookup h1) (PySem.mem_of_lookup h2)
 ·have hy : scope.names.lookup y = some .cell \/ scope.names.lookup y = some .free:=hy
  rcases hy with hy | hy
  ·exact cell_has hy
  ·exact absurd rfl (S.nofree _ (PySem.mem_of_lookup hy))
 ·exact Nat.le_of_lt (x.above y c (PySem.mem_of_lookup h))
 ·have hi : i < vs.length:=by
   unfold start at h2
   by_cases hi : i < vs.length
   ·exact hi
   ·rw [List.getElem?_append_right (by simpa using hi)] at h2
    rw [List.getElem?_replicate] at h2
    split at h2 <;> cases h2
  have ha : vs[i]? = some v:=by
   unfold start at h2
   rw [List.getElem?_append_left (by simpa using hi),List.getElem?_map] at h2
   cases e : vs[i]? with
   | none=>rw [e] at h2; cases h2
   | some a=>rw [e] at h2; cases h2; rfl
  obtain ⟨u,hu,rv⟩:=r.get ha
  have hp : ps[i]? = some y:=by
   rw [← S.pre,List.getElem?_take_of_lt (by omega)]; exact h1
  have ndP : ps.Nodup:=by rw [← S.pre]; exact S.nd.sublist (List.take_sublist _ _)
  refine ⟨u,rv,?_⟩
  rcases S.par y (List.mem_of_getElem? hp) with k | k
  ·exact .inl ⟨k,bindL_get ndP hp hu k⟩
  ·obtain ⟨c,e⟩:=cell_has (n:=s.heap.objs.size + 1) k
   refine .inr ⟨.inl k,c,e,?_⟩
   have q:=x.cell y c e
   rw [bindC_get ndP hp hu (by show scope.names.lookup y ≠ _; rw [k]; decide)] at q
   exact q
 ·exact e0.hok.fresh (Nat.le_of_lt (x.above y c (PySem.mem_of_lookup h)))
 ·unfold start
  show _ = N.length
  rw [List.length_append,List.length_map,List.length_replicate]
  omega
theorem fn_of {CX : CXT} {P : Program} {w : World} {K : PySem.W.Frag} {mg : Str -> Option Value} {base : Heap} {k : Nat} {f : Addr} {name qual : Str} {params : Arguments} {body : List Stmt} {scope : Scope} {dV kV doc pm cdv ct oc : Value} {an od : Option Addr}
  {osl : Array (Option Value)} {N ps : List Str} {sp : Sp} (lk : K.lookup f = some ⟨oc,od,.func (PySem.W.fnOf name qual params body scope dV kV doc pm an cdv ct),osl⟩) (hcd : PySem.W.codeIn K cdv qual = true) (S : FnScope N ps scope)
  (len : ∀ vs H Q E,sp vs H Q E -> vs.length = ps.length)
  (hbody : ∀ (A : Around) (outer : List Env) (s : Shared) (H : Hp) (vs : List V) (Q : VK) (E : XK),Room k (A.deeper (envOfC qual scope s.heap.objs.size f cdv)) -> sp vs H Q E →
   ∃ t,PSs (cxOf CX P w K mg base N qual scope f cdv A outer s H E) body t /\ t { nx:=fun _ H'=>Q .non H',rt:=Q } (start N vs) H) :
  FnOk P w K mg base CX (k + 1) f (PySem.W.fnOf name qual params body scope dV kV doc pm an cdv ct) ps sp:=by
 refine ⟨len,fun A outer s H args us vs Q E hr e0 hb r hsp=>?_⟩
 have hl:=len _ _ _ _ hsp
 have KX : K.In s.heap:=e0.mod.kin.keeps fun b o e=>(e0.bs b o e).1
 have lim : s.heap.NoLimit:=e0.mod.nolimit.keeps fun b o e=>(e0.bs b o e).1
 have hkind : ∀ y ∈ ps.zip us,scope.names.lookup y.1 = some .local \/ (scope.names.lookup y.1 = some .cell /\ ((cellsFrom (s.heap.objs.size + 1) scope.names []).lookup y.1).isSome = true):=fun ⟨n,v⟩ hy=>by
  rcases S.par n (List.of_mem_zip hy).1 with q | q
  ·exact .inl q
  ·exact .inr ⟨q,PySem.W.cellsFrom_some _ _ _ (.inl q)⟩
 refine codeAny_call_function hr.depth (KX _ _ lk) rfl S.co S.gen rfl (PySem.W.codeRec_of KX hcd) (hb _ _ _ _ ?_)
 refine wpAny_newFunctionEnv_cells S.kind hkind fun env he s1 x=>?_
 subst he
 refine ⟨lim.keeps x.toInCall.keep,codeAny_func ?_⟩
 obtain ⟨t,ht,hq⟩:=hbody A outer s H vs Q E (hr.deeper _) hsp
 have I : Inv (cxOf CX P w K mg base N qual scope f cdv A outer s H E) [] (start N vs) H s1:=inv_start S hr.hd e0 hl r x
 refine wpAny_mono (ht [] s1 (start N vs) H _ I hq) (fun fl s' hs=>?_) fun e s' hs=>hs
 have fin : ∀ {σ' : St} {H' : Hp} {v : V} {u : Value},Inv (cxOf CX P w K mg base N qual scope f cdv A outer s H E) [] σ' H' s' -> RelV v u -> Q v H' -> CE outer P w H s Q u s' :=
  fun {σ' H' v u} J rv q=>⟨v,H',J.os,J.bare,J.base,J.hok,rv,q⟩
 cases fl with
 | ret u =>
  obtain ⟨v,σ',H',J,rv,q⟩:=hs
  exact fin J rv q
 | next =>
  obtain ⟨σ',H',J,q⟩:=hs
  exact fin (v:=V.non) (u:=Value.none) J rfl q
 | brk =>
  obtain ⟨_,_,_,q⟩:=hs
  exact False.elim q
 | cont =>
  obtain ⟨_,_,_,q⟩:=hs
  exact False.elim q
end L2
namespace L2
open PySem PySem.Spec PyProof.Rows
section
variable {X : Cx} {x : Str} {p pos : Pos} {e : Expr} {es : List Expr} {t : TA} {id T : String} {r : List V -> Hp -> VK -> Prop}
def tCB (r : List V -> Hp -> VK -> Prop) (t : TA) : TE:=fun σ H Q=>t σ H fun vs H1=>r vs H1 Q
theorem pe_callB (hc : CallR X (.builtin id) r) (hg : Gl X x) (hm : X.mg x = none) (hv : bootBuiltins x = some (.builtin id)) (ha : PA X (e :: es) t) (hn : x ≠ "__name__":=by decide) (hdb : (x == ("__debug__" : Str)) = false:=by decide)
  (he : starEach (e :: es) X.env = (false,eval e X.env) :: starEach es X.env:=by rfl) (hpl : (backTo pos (starEach es X.env)).any (·.1) = false:=by rfl) : PE X (.Call (.Name x p) (e :: es) [] pos) (tCB r t):=by
 intro pins s σ H Q I h
 refine wpAny_Call_Name_kw (ld_blt I hg hm hv ?_ hn hdb)
 exact PyProof.Rows.callWith_builtin1 (thn (ha pos pins s σ H _ I h) fun us s1 ⟨vs,H1,I1,r1,q1⟩=>hc pins s1 σ H1 vs us Q I1 r1 q1) he hpl
theorem pe_callTy (hc : CallR X (.type T) r) (hg : Gl X x) (hm : X.mg x = none) (hv : bootBuiltins x = some (.type T)) (ha : PA X (e :: es) t) (hn : x ≠ "__name__":=by decide) (hdb : (x == ("__debug__" : Str)) = false:=by decide)
  (he : starEach (e :: es) X.env = (false,eval e X.env) :: starEach es X.env:=by rfl) (hpl : (backTo pos (starEach es X.env)).any (·.1) = false:=by rfl) : PE X (.Call (.Name x p) (e :: es) [] pos) (tCB r t):=by
 intro pins s σ H Q I h
 refine wpAny_Call_Name_kw (ld_blt I hg hm hv ?_ hn hdb)
 exact PyProof.Rows.callWith_type1 (thn (ha pos pins s σ H _ I h) fun us s1 ⟨vs,H1,I1,r1,q1⟩=>hc pins s1 σ H1 vs us Q I1 r1 q1) he hpl
end
end L2
namespace HT
open PySem PyProof.Rows
section
open PySem.SeqAt
open PySem.AutoSeq1 (wpAny_loadPart')
open PySem.MeetsSeq PySem.MeetsSeq2 PySem.MeetsSeq3
end
section
variable {prog : Program} {w : World} {A : Around} {E : Value -> Shared -> Prop} {s : Shared}
end
end HT
namespace L2
open PySem PySem.Spec PyProof.Rows
abbrev TO:=St -> Hp -> (Option Int -> Hp -> Prop) -> Prop
theorem intsAre_of {ns : List Int} : ∀ {us : List Value},Vals (ns.map V.int) us -> IntsAre us ns:=by
 induction ns with
 | nil=>intro us r; rw [List.map_nil] at r; cases r; exact .nil
 | cons n ns ih =>
  intro us r
  rw [List.map_cons] at r
  cases r with
  | cons r1 r2 =>
   obtain ⟨t,e⟩:=r1
   subst e
   exact .cons n t (ih r2)
section
variable {X : Cx} {e : Expr} {te : TE} {lo hi : Option Expr} {tl th : TO} {pos p2 : Pos}
end
end L2
namespace L2
open PySem PySem.Spec PyProof.Rows
def ixN (n : Nat) (i : Int) : Option Nat:=if 0 <= i then (if i < n then some i.toNat else none) else if -(n : Int) <= i then some (i + n).toNat else none
def atI {α : Type} (xs : List α) (i : Int) : Option α:=(ixN xs.length i).bind fun j=>xs[j]?
theorem ixN_seq {n : Nat} {i : Int} {j : Nat} (h : ixN n i = some j) : seqIndex? i n = some j /\ j < n /\ -(n : Int) <= i /\ i < n:=by
 unfold ixN at h
 by_cases h0 : 0 <= i
 ·rw [if_pos h0] at h
  by_cases h1 : i < n
  ·rw [if_pos h1] at h
   have e : i.toNat = j:=Option.some.inj h
   exact ⟨by rw [seqIndex_of h0 h1,e],by omega,by omega,h1⟩
  ·rw [if_neg h1] at h; cases h
 ·rw [if_neg h0] at h
  by_cases h1 : -(n : Int) <= i
  ·rw [if_pos h1] at h
   have e : (i + n).toNat = j:=Option.some.inj h
   exact ⟨by rw [seqIndex_neg (by omega) h1,e],by omega,h1,by omega⟩
  ·rw [if_neg h1] at h; cases h
theorem atI_get {α : Type} {xs : List α} {i : Int} {v : α} (h : atI xs i = some v) : ∃ j,seqIndex? i xs.length = some j /\ xs[j]? = some v /\ j < xs.length /\ -(xs.length : Int) <= i /\ i < xs.length:=by
 unfold atI at h
 cases e : ixN xs.length i with
 | none=>rw [e] at h; cases h
 | some j =>
  rw [e] at h
  obtain ⟨h1,h2,h3,h4⟩:=ixN_seq e
  exact ⟨j,h1,h,h2,h3,h4⟩
theorem atI_nat {α : Type} {xs : List α} {j : Nat} {v : α} (h : xs[j]? = some v) : atI xs (j : Int) = some v:=by
 have hj : j < xs.length:=(List.getElem?_eq_some_iff.mp h).1
 have e : ixN xs.length (j : Int) = some j:=by
  unfold ixN
  rw [if_pos (by omega),if_pos (by omega)]; simp
 unfold atI; rw [e]; exact h
def PlainIx (b : Expr) : Prop:=∀ o i,subscripted b false o i = operate [o,i] (getItem o i)
def IxR (X : Cx) (r : R2) : Prop :=
 ∀ (value slice : Expr) (pins : List (Addr × Obj)) (s : Shared) (σ : St) (H : Hp) (x y : V) (v u : Value) (Q : VK),Inv X pins σ H s -> RelV x v -> RelV y u -> r x y H Q →
  subscripted slice false v u = operate [v,u] (getItem v u) -> wpAny (model X.prog X.w) X.A (subscriptTail value slice v u) (EP X pins σ Q) X.xe s
def MtR (X : Cx) (id : String) (r : V -> List V -> Hp -> VK -> Prop) : Prop :=
 ∀ (pins : List (Addr × Obj)) (s : Shared) (σ : St) (H : Hp) (x : V) (xs : List V) (v : Value) (us : List Value) (Q : VK),Inv X pins σ H s -> RelV x v -> Vals xs us -> r x xs H Q →
  wpAny (model X.prog X.w) X.A (call (.builtin id) (v :: us)) (EP X pins σ Q) X.xe s
section
variable {X : Cx} {a b : Expr} {ta tb : TE} {pos : Pos}
theorem pe_ix {r : R2} (hr : IxR X r) (ha : PE X a ta) (hb : PE X b tb) (hs : PlainIx b) : PE X (.Subscript a b pos) (tOp r ta tb):=by
 intro pins s σ H Q I h
 exact Subscript_ (binT ha hb I h fun v u s2 x y H2 I2 rx ry q=>hr a b pins s2 σ H2 x y v u Q I2 rx ry q (hs _ _))
def rIxL (K : PySem.W.Frag) : R2:=fun x y H Q=>∃ p xs i v,x = .ref p /\ y = .int i /\ SqL K H p xs /\ atI xs i = some v /\ Q v H
def rIxT (K : PySem.W.Frag) : R2:=fun x y H Q=>∃ p xs i v,x = .ref p /\ y = .int i /\ SqT K H p xs /\ atI xs i = some v /\ Q v H
theorem ix_list : IxR X (rIxL X.K):=by
 intro value slice pins s σ H x y v u Q I rx ry h hs
 obtain ⟨p,xs,i,z,rfl,rfl,hq,he,q⟩:=h
 cases rx
 obtain ⟨t,rfl⟩:=ry
 obtain ⟨its,r,pl,hz⟩:=I.list hq
 obtain ⟨j,h1,h2,h3,h4,h5⟩:=atI_get he
 obtain ⟨w,ew,rw'⟩:=r.get h2
 have hl:=r.length
 have hn:=line63
 have fin : EP X pins σ Q w s:=⟨z,H,I,rw',q⟩
 by_cases h0 : 0 <= i
 ·have hj : i.toNat = j:=by
   rw [seqIndex_of h0 h5] at h1
   exact Option.some.inj h1
  exact item_listR pl.isList h0 (by omega) (by rw [hj]; simpa using ew) fin hs
 ·have hj : (i + (its.toArray.size : Int)).toNat = j:=by
   rw [seqIndex_neg (by omega) h4] at h1
   rw [List.size_toArray,← hl]
   exact Option.some.inj h1
  exact subscriptTail_builtinR (x:=w) pl.isList.typeIs slot_list_getitem.lookup
   (wpAny_getItem_list_neg (Q:=fun r s'=>r = w /\ EP X pins σ Q r s') pl.isList (by omega) (by rw [List.size_toArray] <;> omega) (by omega) (by rw [hj]; simpa using ew) ⟨rfl,fin⟩) hs
theorem ix_tup : IxR X (rIxT X.K):=by
 intro value slice pins s σ H x y v u Q I rx ry h hs
 obtain ⟨p,xs,i,z,rfl,rfl,hq,he,q⟩:=h
 cases rx
 obtain ⟨t,rfl⟩:=ry
 obtain ⟨its,r,pl,hz⟩:=I.tuple hq
 obtain ⟨j,h1,h2,h3,h4,h5⟩:=atI_get he
 obtain ⟨w,ew,rw'⟩:=r.get h2
 have hl:=r.length
 have hn:=line63
 have fin : EP X pins σ Q w s:=⟨z,H,I,rw',q⟩
 exact subscriptTail_builtinR (x:=w) pl.typeIs slot_tuple_getitem.lookup
  (getItem_tuple (j:=j) (Q:=fun r s'=>r = w /\ EP X pins σ Q r s') pl (by omega) (by omega) (by rw [List.size_toArray,← hl]; exact h1) (by simpa using ew) ⟨rfl,fin⟩) hs
theorem mapSeq_set (its : List Value) (n j : Nat) (u : Value) : Obj.mapSeq (·.setIfInBounds j u) { cls:=.type "list",data:=.seq its.toArray n } = { cls:=.type "list",data:=.seq (its.set j u).toArray n }:=by
 simp [Obj.mapSeq]
theorem Inv.lst {pins : List (Addr × Obj)} {σ : St} {H : Hp} {s : Shared} {p : Addr} {xs : List V} (I : Inv X pins σ H s) (h : H p = some (.lst xs)) :
  ∃ (its : List Value) (n : Nat),Vals xs its /\ s.heap.get? p = some { cls:=.type "list",data:=.seq its.toArray n } /\ xs.length <= sizeLine:=by
 obtain ⟨z,its,n,r,e⟩:=I.hok p _ h
 exact ⟨its,n,r,e,z⟩
theorem Inv.lstUpd {pins : List (Addr × Obj)} {σ : St} {H : Hp} {s : Shared} {p : Addr} {xs ys : List V} {its its' : List Value} {n n' : Nat} {f : Obj -> Obj} (I : Inv X pins σ H s) (h : H p = some (.lst xs))
  (ho : s.heap.get? p = some { cls:=.type "list",data:=.seq its.toArray n }) (hf : f { cls:=.type "list",data:=.seq its.toArray n } = { cls:=.type "list",data:=.seq its'.toArray n' }) (r : Vals ys its') (hz : ys.length <= sizeLine) (t : Nat) :
  Inv X pins σ (upd H p (.lst ys)) { s with heap:=s.heap.update p f,toks:=t }:=by
 have e : (s.heap.update p f).get? p = some { cls:=.type "list",data:=.seq its'.toArray n' }:=by
  rw [Heap.get?_update_self f ho (by rw [hf] <;> rfl),hf]
 refine I.write (x:=p) (e:=p) (by rw [h]; trivial) (.inl rfl) (fun b u hb q=>(Heap.get?_update_other _ _ (Ne.symm hb)).trans q) ⟨_,e⟩ ?_
 exact ⟨hz,its',n',r,e⟩
def rSetL : V -> V -> V -> Hp -> (Hp -> Prop) -> Prop:=fun o i v H Q=>∃ p xs k j,o = .ref p /\ i = .int k /\ H p = some (.lst xs) /\ ixN xs.length k = some j /\ Q (upd H p (.lst (xs.set j v)))
theorem set_list : PSet X rSetL:=by
 intro pins s σ H o i v ov iv u Q I ro ri rv h
 obtain ⟨p,xs,k,j,rfl,rfl,hp,hj,q⟩:=h
 cases ro
 obtain ⟨t,rfl⟩:=ri
 obtain ⟨its,n,r,ho,hz⟩:=I.lst hp
 obtain ⟨h1,h2,h3,h4⟩:=ixN_seq hj
 have hl:=r.length
 have hn:=line63
 have I' : Inv X pins σ (upd H p (.lst (xs.set j v))) { s with heap:=s.heap.update p (Obj.mapSeq (·.setIfInBounds j u)) } :=
  I.lstUpd hp ho (mapSeq_set its n j u) (r.set rv j) (by rw [List.length_set]; exact hz) s.toks
 by_cases h0 : 0 <= k
 ·have hk : k.toNat = j:=by
   rw [seqIndex_of h0 h4] at h1
   exact Option.some.inj h1
  exact PySem.W.ki_setAt ho h0 (by omega) (by rw [List.size_toArray,← hl]; exact h4) (by rw [hk]; exact ⟨_,I',q⟩)
 ·have hk : (k + (its.toArray.size : Int)).toNat = j:=by
   rw [seqIndex_neg (by omega) h3] at h1
   rw [List.size_toArray,← hl]
   exact Option.some.inj h1
  exact PySem.W.ki_setBack ho (by omega) (by rw [List.size_toArray,← hl]; exact h3) (by omega) (by rw [hk]; exact ⟨_,I',q⟩)
def flatV : V -> Bool
 | .non=>true
 | .bl _=>true
 | .int _=>true
 | .str _=>true
 | _=>false
def eqV : V -> V -> Bool
 | .non,.non=>true
 | .bl a,.bl b=>a == b
 | .bl a,.int b=>(if a then 1 else 0) == b
 | .int a,.bl b=>a == (if b then 1 else 0)
 | .int a,.int b=>a == b
 | .str a,.str b=>a == b
 | _,_=>false
theorem eqAt_V {A : Around} {s : Shared} {y x : V} {u v : Value} (ry : RelV y u) (rx : RelV x v) (fy : flatV y = true) (fx : flatV x = true) : SeqAt.EqAt A s u v (eqV y x):=by
 cases y with
 | non =>
  cases ry
  cases x with
  | non=>cases rx; exact SeqAt.EqAt.same _
  | bl b=>cases rx; exact SeqAt.EqAt.none_bool b
  | int b=>obtain ⟨t,rfl⟩:=rx; exact SeqAt.EqAt.none_int b t
  | str b=>obtain ⟨t,rfl⟩:=rx; exact SeqAt.EqAt.none_str b t
  | _=>exact absurd (show false = true from fx) Bool.false_ne_true
 | bl a =>
  cases ry
  cases x with
  | non=>cases rx; exact SeqAt.EqAt.bool_none a
  | bl b=>cases rx; exact SeqAt.EqAt.bool_bool a b
  | int b=>obtain ⟨t,rfl⟩:=rx; exact SeqAt.EqAt.bool_int a b t
  | str b=>obtain ⟨t,rfl⟩:=rx; exact SeqAt.EqAt.bool_str a b t
  | _=>exact absurd (show false = true from fx) Bool.false_ne_true
 | int a =>
  obtain ⟨t',rfl⟩:=ry
  cases x with
  | non=>cases rx; exact SeqAt.EqAt.int_none a t'
  | bl b=>cases rx; exact SeqAt.EqAt.int_bool a t' b
  | int b=>obtain ⟨t,rfl⟩:=rx; exact SeqAt.EqAt.int_int a t' b t
  | str b=>obtain ⟨t,rfl⟩:=rx; exact SeqAt.EqAt.int_str a t' b t
  | _=>exact absurd (show false = true from fx) Bool.false_ne_true
 | str a =>
  obtain ⟨t',rfl⟩:=ry
  cases x with
  | non=>cases rx; exact SeqAt.EqAt.str_none a t'
  | bl b=>cases rx; exact SeqAt.EqAt.str_bool a t' b
  | int b=>obtain ⟨t,rfl⟩:=rx; exact SeqAt.EqAt.str_int a t' b t
  | str b=>obtain ⟨t,rfl⟩:=rx; exact SeqAt.EqAt.str_str a t' b t
  | _=>exact absurd (show false = true from fx) Bool.false_ne_true
 | _=>exact absurd (show false = true from fy) Bool.false_ne_true
def eqU (x : V) (u : Value) : Bool:=match u with
 | .none=>eqV .non x
 | .bool b=>eqV (.bl b) x
 | .int i _=>eqV (.int i) x
 | .str z _=>eqV (.str z) x
 | _=>false
theorem eqU_of {x y : V} {u : Value} (r : RelV y u) (f : flatV y = true) : eqU x u = eqV y x:=by
 cases y with
 | non=>cases r; rfl
 | bl b=>cases r; rfl
 | int i=>obtain ⟨t,rfl⟩:=r; rfl
 | str z=>obtain ⟨t,rfl⟩:=r; rfl
 | _=>exact absurd (show false = true from f) Bool.false_ne_true
theorem any_eqU {x : V} : ∀ {xs : List V} {us : List Value},Vals xs us -> xs.all flatV = true -> us.any (eqU x) = xs.any fun y=>eqV y x
 | _,_,.nil,_=>rfl
 | y :: xs,u :: us,.cons r t,f=>by
  rw [List.all_cons,Bool.and_eq_true] at f
  rw [List.any_cons,List.any_cons,eqU_of r f.1,any_eqU t f.2]
theorem mem_eqAt {A : Around} {s : Shared} {x : V} {v : Value} (rx : RelV x v) (fx : flatV x = true) : ∀ {xs : List V} {us : List Value},Vals xs us -> xs.all flatV = true -> ∀ u ∈ us,SeqAt.EqAt A s u v (eqU x u)
 | _,_,.nil,_=>fun u hu=>by cases hu
 | y :: xs,u :: us,.cons r t,f=>fun u' hu=>by
  rw [List.all_cons,Bool.and_eq_true] at f
  rcases List.mem_cons.mp hu with rfl | hu
  ·rw [eqU_of r f.1]; exact eqAt_V r rx f.1 fx
  ·exact mem_eqAt rx fx t f.2 u' hu
def inV (x : V) (xs : List V) : Bool:=xs.any fun y=>eqV y x
def rIn (K : PySem.W.Frag) (neg : Bool) : R2:=fun x y H Q=>∃ p xs,y = .ref p /\ (SqL K H p xs \/ SqT K H p xs) /\ flatV x = true /\ xs.all flatV = true /\ Q (.bl (if neg then !inV x xs else inV x xs)) H
theorem op_in_seq : OpR X (compareOp .In) (rIn X.K false):=by
 intro pins s σ H x y v u Q I rx ry h
 obtain ⟨p,xs,rfl,hq,fx,fs,q⟩:=h
 cases ry
 rcases hq with hq | hq
 ·obtain ⟨its,r,pl,hz⟩:=I.list hq
  refine SeqAt.in_listAt (eqU x) pl.isList (fun w hw=>mem_eqAt rx fx r fs w (by simpa using hw)) ⟨.bl _,H,I,rfl,?_⟩
  rw [show its.toArray.any (eqU x) = its.any (eqU x) by simp,any_eqU r fs]
  exact q
 ·obtain ⟨its,r,pl,hz⟩:=I.tuple hq
  refine SeqAt.in_tupleAt (eqU x) pl (fun w hw=>mem_eqAt rx fx r fs w (by simpa using hw)) ⟨.bl _,H,I,rfl,?_⟩
  rw [show its.toArray.any (eqU x) = its.any (eqU x) by simp,any_eqU r fs]
  exact q
theorem call_len_seq : CallR X (.builtin "len") (fun xs H Q=>∃ p ys,xs = [.ref p] /\ (SqL X.K H p ys \/ SqT X.K H p ys) /\ Q (.int ys.length) H):=by
 intro pins s σ H xs us Q I r h
 obtain ⟨p,ys,rfl,hq,q⟩:=h
 obtain ⟨u,rfl,rx⟩:=vals1 r
 cases rx
 have hn:=line63
 rcases hq with hq | hq
 ·obtain ⟨its,r',pl,hz⟩:=I.list hq
  have hlen:=r'.length
  exact Calls.call_len_list pl.isList (by simp only [List.size_toArray] <;> omega) ⟨.int ys.length,H,I.tok _,⟨s.toks + 1,by rw [List.size_toArray,hlen]⟩,q⟩
 ·obtain ⟨its,r',pl,hz⟩:=I.tuple hq
  have hlen:=r'.length
  exact len_tuple pl (by simp only [List.size_toArray] <;> omega) ⟨.int ys.length,H,I.tok _,⟨s.toks + 1,by rw [List.size_toArray,hlen]⟩,q⟩
theorem call_list_of : CallR X (.type "list") (fun xs H Q=>∃ p ys,xs = [.ref p] /\ (SqL X.K H p ys \/ SqT X.K H p ys) /\ ∀ l,H l = none -> Q (.ref l) (upd H l (.lst ys))):=by
 intro pins s σ H xs us Q I r h
 obtain ⟨p,ys,rfl,hq,q⟩:=h
 obtain ⟨u,rfl,rx⟩:=vals1 r
 cases rx
 have fin : ∀ (its : List Value),Vals ys its -> ys.length <= sizeLine -> ∀ (h' : Heap) (c' : Nat),(∀ b o',s.heap.get? b = some o' -> h'.get? b = some o') →
   h'.get? s.heap.objs.size = some { cls:=.type "list",dict:=none,data:=.seq its.toArray c',slots:=#[] } -> EP X pins σ Q (.ref s.heap.objs.size) { s with heap:=h' }:=fun its r' hz h' c' kp e =>
  ⟨.ref s.heap.objs.size,_,I.laid (t':=s.toks) kp (Nat.le_refl _) (show ObjOk X.prog X.w _ h' _ (.lst ys) from ⟨hz,its,c',r',e⟩),rfl,q _ (I.hok.fresh (Nat.le_refl _))⟩
 rcases hq with hq | hq
 ·obtain ⟨its,r',pl,hz⟩:=I.list hq
  have hlen:=r'.length
  obtain ⟨o,ho,hc,n,hd⟩:=pl.isList
  exact call_list_seq p (.inl rfl) ho hc hd (fun h' c' kp e=>fin its r' hz h' c' kp e) (by simp only [List.size_toArray] <;> omega)
 ·obtain ⟨its,r',pl,hz⟩:=I.tuple hq
  have hlen:=r'.length
  obtain ⟨o,ho,hc,n,hd⟩:=pl
  exact call_list_seq p (.inr rfl) ho hc hd (fun h' c' kp e=>fin its r' hz h' c' kp e) (by simp only [List.size_toArray] <;> omega)
theorem call_tuple_of : CallR X (.type "tuple") (fun xs H Q=>∃ p ys,xs = [.ref p] /\ ((SqL X.K H p ys /\ ∀ l,H l = none -> Q (.ref l) (upd H l (.tup ys))) \/ (SqT X.K H p ys /\ Q (.ref p) H))):=by
 intro pins s σ H xs us Q I r h
 obtain ⟨p,ys,rfl,h⟩:=h
 obtain ⟨u,rfl,rx⟩:=vals1 r
 cases rx
 rcases h with ⟨hq,q⟩ | ⟨hq,q⟩
 ·obtain ⟨its,r',pl,hz⟩:=I.list hq
  have hlen:=r'.length
  refine call_tuple_list pl.isList (fun h' kp=>?_) (by simp only [List.size_toArray] <;> omega)
  have I1 : Inv X pins σ H { s with heap:=h' }:=I.kept (t':=s.toks) kp
  have I2 : Inv X pins σ (upd H h'.objs.size (.tup ys)) { s with heap:=h'.push { cls:=.type "tuple",data:=.seq its.toArray } } :=
   I1.laid (t':=s.toks) (fun b o e=>Heap.get?_push_of_some _ e) (Nat.le_refl _) (show ObjOk X.prog X.w _ _ _ (.tup ys) from ⟨hz,its,r',IsTup.new _ _⟩)
  exact ⟨.ref h'.objs.size,_,I2,rfl,q _ (I1.hok.fresh (Nat.le_refl _))⟩
 ·obtain ⟨its,r',pl,hz⟩:=I.tuple hq
  exact call_tuple_same pl ⟨.ref p,H,I,rfl,q⟩
def tyV (K : PySem.W.Frag) (T : String) (x : V) (H : Hp) : Prop:=match x with
 | .str _=>T = "str"
 | .int _=>T = "int"
 | .ref p=>(T = "list" /\ ∃ xs,SqL K H p xs) \/ (T = "tuple" /\ ∃ o,K.lookup p = some o /\ o.cls = .type "tuple" /\ o.dict = none) ∨
   (T = "dict" /\ ((∃ kvs,H p = some (.dK kvs)) \/ ∃ kvs,H p = some (.dT kvs))) \/ (T = "set" /\ ∃ S n,H p = some (.set S n))
 | _=>False
theorem tyV_is {pins : List (Addr × Obj)} {σ : St} {H : Hp} {s : Shared} {T : String} {x : V} {v : Value} (I : Inv X pins σ H s) (r : RelV x v) (ty : tyV X.K T x H) :
  s.TypeIs v T /\ ∀ a,v = .ref a -> ∃ ob,s.heap.get? a = some ob /\ ob.dict = none:=by
 cases x with
 | str z =>
  obtain ⟨t,rfl⟩:=r
  cases (show T = "str" from ty)
  exact ⟨typeIs_str s z t,fun _ e=>nomatch e⟩
 | int i =>
  obtain ⟨t,rfl⟩:=r
  cases (show T = "int" from ty)
  exact ⟨typeIs_int s i t,fun _ e=>nomatch e⟩
 | ref p =>
  cases r
  rcases ty with ⟨rfl,xs,hq⟩ | ⟨rfl,o,hk,hc,hd⟩ | ⟨rfl,hk⟩ | ⟨rfl,S,n,hk⟩
  ·obtain ⟨its,_,pl,_⟩:=I.list hq
   refine ⟨pl.isList.typeIs,fun a e=>?_⟩
   cases e
   obtain ⟨o,n,e,c,hd,_⟩:=pl
   exact ⟨o,e,hd⟩
  ·refine ⟨⟨o,I.kIn p o hk,hc⟩,fun a e=>?_⟩
   cases e
   exact ⟨o,I.kIn _ o hk,hd⟩
  ·have z : ∃ o,s.heap.get? p = some o /\ o.ExactDict:=by
    rcases hk with ⟨kvs,hk⟩ | ⟨kvs,hk⟩
    ·obtain ⟨_,_,_,_,o,_,_,e,ex,_⟩:=I.hok p _ hk
     exact ⟨o,e,ex⟩
    ·obtain ⟨_,_,_,_,o,_,_,e,ex,_⟩:=I.hok p _ hk
     exact ⟨o,e,ex⟩
   obtain ⟨o,e,ex⟩:=z
   refine ⟨⟨o,e,ex.1⟩,fun a e2=>?_⟩
   cases e2
   exact ⟨o,e,ex.2.1⟩
  ·obtain ⟨o,_,_,_,e,ex,_⟩:=I.hok p _ hk
   refine ⟨⟨o,e,ex.1⟩,fun a e2=>?_⟩
   cases e2
   exact ⟨o,e,ex.2.1⟩
 | _=>exact False.elim ty
def tBM0 (K : PySem.W.Frag) (T : String) (r : V -> List V -> Hp -> VK -> Prop) (to : TE) : TE:=fun σ H Q=>to σ H fun x H1=>tyV K T x H1 /\ r x [] H1 Q
def tBM (K : PySem.W.Frag) (T : String) (r : V -> List V -> Hp -> VK -> Prop) (to : TE) (t : TA) : TE:=fun σ H Q=>to σ H fun x H1=>tyV K T x H1 /\ t σ H1 fun xs H2=>r x xs H2 Q
variable {o e : Expr} {es : List Expr} {to : TE} {t : TA} {name : Str} {apos cpos : Pos} {T id : String} {r : V -> List V -> Hp -> VK -> Prop}
theorem pe_bm0 (pa : PlainAttrs T) (slot : Slot T name id) (hty : typeOf (.builtin id) = pure (.type "method_descriptor")) (hm : MtR X id r) (ho : PE X o to)
  (hbase : attributeBase o name X.env (eval o X.env) = eval o X.env:=by rfl) (hline : (apos.endLine == cpos.line) = true:=by rfl) : PE X (.Call (.Attribute o name apos) [] [] cpos) (tBM0 X.K T r to):=by
 intro pins s σ H Q I h
 refine wpAny_Call_method0_late hbase hline (thn (ho pins s σ H _ I h) fun v s1 ⟨x,H1,I1,r1,ty,q1⟩=>?_)
 obtain ⟨h1,h2⟩:=tyV_is I1 r1 ty
 exact ⟨T,id,pa,slot,hty,h1,h2,Calls.callWith_builtin rfl (PySem.evalArgs_none (hm pins s1 σ H1 x [] v [] Q I1 r1 .nil q1))⟩
theorem pe_bm (pa : PlainAttrs T) (slot : Slot T name id) (hty : typeOf (.builtin id) = pure (.type "method_descriptor")) (hm : MtR X id r) (ho : PE X o to) (ha : PA X (e :: es) t)
  (hbase : attributeBase o name X.env (eval o X.env) = eval o X.env:=by rfl)
  (hfew : ((backTo cpos (starEach (e :: es) X.env)).all (fun x=>!x.1) && (backToKw cpos (keywordEach [] X.env)).all (fun x=>x.1.isSome)
   && decide ((e :: es).length + ([] : List Keyword).length + (if ([] : List Keyword).isEmpty then 0 else 1) < 30)) = true:=by rfl)
  (hline : (apos.endLine == cpos.line) = true:=by rfl) (hs : starEach (e :: es) X.env = (false,eval e X.env) :: starEach es X.env:=by rfl) (hplain : (backTo cpos (starEach es X.env)).any (·.1) = false:=by rfl) :
  PE X (.Call (.Attribute o name apos) (e :: es) [] cpos) (tBM X.K T r to t):=by
 intro pins s σ H Q I h
 refine wpAny_Call_method_late hbase hfew hline rfl (thn (ho pins s σ H _ I h) fun v s1 ⟨x,H1,I1,r1,ty,q1⟩=>?_)
 obtain ⟨h1,h2⟩:=tyV_is I1 r1 ty
 refine ⟨T,id,pa,slot,hty,h1,h2,?_⟩
 have hA:=ha cpos pins s1 σ H1 _ I1 q1
 rw [hs] at hA ⊢
 refine Calls.callWith_builtin (by show (false || (backTo cpos (starEach es X.env)).any (·.1)) = false; rw [hplain] <;> rfl) (Calls.evalArgs_plain ?_)
 exact thn hA fun us s2 ⟨vs,H2,I2,r2,q2⟩=>hm pins s2 σ H2 x vs v us Q I2 r1 r2 q2
end
end L2
namespace L2
open PySem PySem.Spec PyProof.Rows
def MtM (X : Cx) (id : String) (r : V -> List V -> Hp -> VK -> Prop) : Prop :=
 ∀ (pins : List (Addr × Obj)) (s : Shared) (σ : St) (H : Hp) (x : V) (xs : List V) (v : Value) (us : List Value) (Q : VK),Inv X pins σ H s -> RelV x v -> Vals xs us -> r x xs H Q →
  wpAny (model X.prog X.w) X.A (call (.builtin id) (v :: us)) (EP X pins σ Q) X.xe s
theorem Vals.one : ∀ {x : V} {us : List Value},Vals [x] us -> ∃ u,us = [u] /\ RelV x u
 | _,_,.cons r .nil=>⟨_,rfl,r⟩
theorem Vals.zero : ∀ {us : List Value},Vals [] us -> us = []
 | _,.nil=>rfl
section
variable {X : Cx} {pins : List (Addr × Obj)} {σ : St} {H : Hp} {s : Shared} {l b : Addr} {xs ys zs : List V}
theorem Inv.lset {its its' : List Value} {n : Nat} {f : Array Value -> Array Value} {t' : Nat} (I : Inv X pins σ H s) (hH : H l = some (.lst xs))
  (e : s.heap.get? l = some { cls:=.type "list",data:=.seq its.toArray n }) (hf : f its.toArray = its'.toArray) (hv : Vals ys its') (hz : ys.length <= sizeLine) :
  Inv X pins σ (upd H l (.lst ys)) { s with heap:=s.heap.update l (Obj.mapSeq f),toks:=t' }:=by
 have q:=PySem.IsL.update e f
 rw [hf] at q
 refine I.write (x:=l) (e:=l) (by rw [hH]; exact trivial) (.inl rfl) (fun b' u hb hu=>(Heap.get?_update_other s.heap (Obj.mapSeq f) (Ne.symm hb)).trans hu) ⟨_,q⟩ ?_
 exact ⟨hz,its',_,hv,q⟩
theorem Inv.lnew {its : List Value} {t' : Nat} (I : Inv X pins σ H s) (hv : Vals ys its) (hz : ys.length <= sizeLine) :
  Inv X pins σ (upd H s.heap.objs.size (.lst ys)) { s with heap:=s.heap.push { cls:=.type "list",data:=.seq its.toArray },toks:=t' } :=
 I.laid (fun _ _ q=>Heap.get?_push_of_some _ q) (Nat.le_refl _) ⟨hz,its,0,hv,Heap.get?_push_size _ rfl⟩
theorem Inv.fresh (I : Inv X pins σ H s) : H s.heap.objs.size = none:=I.hok.fresh (Nat.le_refl _)
theorem Inv.lstM (I : Inv X pins σ H s) (hH : H l = some (.lst xs)) : xs.length <= sizeLine /\ ∃ (its : List Value) (n : Nat),Vals xs its /\ xs.length = its.length /\ s.heap.get? l = some { cls:=.type "list",data:=.seq its.toArray n }:=by
 obtain ⟨z,its,n,r,e⟩:=I.hok l _ hH
 exact ⟨z,its,n,r,r.length,e⟩
theorem notLongL {n : Nat} (h : n <= sizeLine) : Builtin.List.listTooLong n = false:=by
 unfold Builtin.List.listTooLong
 exact decide_eq_false (by omega)
end
section
variable {X : Cx}
def rAppend : V -> List V -> Hp -> VK -> Prop:=fun x vs H Q=>∃ l xs y,x = .ref l /\ vs = [y] /\ H l = some (.lst xs) /\ xs.length < sizeLine /\ Q .non (upd H l (.lst (xs ++ [y])))
theorem mt_append : MtM X "list.append" rAppend:=by
 intro pins s σ H x vs v us Q I rx rv h
 obtain ⟨l,xs,y,rfl,rfl,hH,hz,q⟩:=h
 cases rx
 obtain ⟨u,rfl,ru⟩:=rv.one
 obtain ⟨z,its,n,r,hl,e⟩:=I.lstM hH
 refine call_meets F.slot_list_append ⟨_,e,rfl⟩ F.entry_list_append (F.args_list_append_2 _ _) (PySem.list_append l its.toArray n u (by rw [List.size_toArray]; omega)) ⟨e,?_⟩
 refine ⟨.non,_,I.lset (its':=its ++ [u]) hH e (by simp) (r.append (.cons ru .nil)) ?_,rfl,q⟩
 rw [List.length_append,List.length_singleton]
 omega
def rExtend : V -> List V -> Hp -> VK -> Prop:=fun x vs H Q=>∃ l b xs zs,x = .ref l /\ vs = [.ref b] /\ H l = some (.lst xs) /\ H b = some (.lst zs) /\ xs.length + zs.length <= sizeLine /\ Q .non (upd H l (.lst (xs ++ zs)))
theorem mt_extend : MtM X "list.extend" rExtend:=by
 intro pins s σ H x vs v us Q I rx rv h
 obtain ⟨l,b,xs,zs,rfl,rfl,hH,hB,hz,q⟩:=h
 cases rx
 obtain ⟨u,rfl,ru⟩:=rv.one
 cases ru
 obtain ⟨z,its,n,r,hl,e⟩:=I.lstM hH
 obtain ⟨z2,its2,n2,r2,hl2,e2⟩:=I.lstM hB
 have hsz : its.toArray.size + its2.toArray.size <= sizeLine:=by rw [List.size_toArray,List.size_toArray]; omega
 have hlong : ¬ (!its.toArray.isEmpty && Builtin.List.listTooLong (its.toArray.size + its2.toArray.size)) = true:=by
  rw [notLongL hsz,Bool.and_false]
  exact Bool.false_ne_true
 refine call_meets F.slot_list_extend ⟨_,e,rfl⟩ F.entry_list_extend (F.args_list_extend_2 _ _)
  (AutoSeq1.list_extend_list_list_0 l its.toArray n b its2.toArray n2 hlong (by rw [List.size_toArray]; omega) (by omega)) ⟨e,e2,?_⟩
 refine ⟨.non,_,I.lset (its':=its ++ its2) hH e (by simp) (r.append r2) ?_,rfl,q⟩
 rw [List.length_append]
 omega
def rClear : V -> List V -> Hp -> VK -> Prop:=fun x vs H Q=>∃ l xs,x = .ref l /\ vs = [] /\ H l = some (.lst xs) /\ Q .non (upd H l (.lst []))
theorem mt_clear : MtM X "list.clear" rClear:=by
 intro pins s σ H x vs v us Q I rx rv h
 obtain ⟨l,xs,rfl,rfl,hH,q⟩:=h
 cases rx
 have hus:=rv.zero
 subst hus
 obtain ⟨z,its,n,r,hl,e⟩:=I.lstM hH
 refine call_meets F.slot_list_clear ⟨_,e,rfl⟩ F.entry_list_clear (F.args_list_clear_1 _) (AutoSeq1.list_clear_list_0 l its.toArray n (by rw [List.size_toArray]; omega)) ⟨e,?_⟩
 exact ⟨.non,_,I.lset (its':=[]) (ys:=[]) hH e rfl .nil (Nat.zero_le _),rfl,q⟩
end
section
variable {prog : Program} {w : World} {A : Around} {E : Value -> Shared -> Prop} {s : Shared}
end
section
variable {X : Cx}
end
end L2
namespace Att
open PySem PySem.W PySem.Calls PyProof.Rows
theorem ints_of_wellAll {P : Params} {h : Heap} : ∀ (ns : List Int) (vs : List Value),WellAll P h vs (ns.map WData.int) -> IntsAre vs ns:=by
 intro ns
 induction ns with
 | nil =>
  intro vs w
  rw [List.map_nil] at w
  cases w
  exact .nil
 | cons n ns ih =>
  intro vs w
  rw [List.map_cons] at w
  cases w with
  | cons a b =>
   cases a
   exact .cons _ _ (ih _ b)
theorem script_of {l : OpenLaw} {n : Nat} (hn : l.most = some n) {P : Params} {h : Heap} {args : List WData} {vals : List Value}
  (hpre : l.row.toRowW.claim.pre args = true) (hwl : WellAll P h vals args) :
  ∃ a vs ns,vals = [Value.ref a] /\ args = [WData.list (ns.map WData.int)] /\ h.get? a = some { cls:=.type "list",data:=.seq vs.toArray } /\ IntsAre vs ns /\ ns.length <= n:=by
 have hsh : WShape.hasAll [] args [.list .int] = true:=(pre_splitW hpre).1
 have hc : l.pre.holds [] { args:=args } = true:=(pre_splitW hpre).2
 obtain ⟨d,r,rfl,h1,h2⟩:=hasAllW_cons hsh
 obtain rfl:=hasAllW_nil h2
 obtain ⟨xs,rfl,h3⟩:=hasW_list h1
 obtain ⟨ns,rfl⟩:=items_int h3
 have hlen : ns.length <= n:=by
  unfold OpenLaw.pre at hc
  have h4 : (WTm.not (.lt (.lit (.int (n : Int))) (.len (.arg 0)))).holds [] { args:=[.list (ns.map .int)] } = true:=by
   have h4:=(holds_andW hc).1
   rw [hn] at h4
   exact h4
  have h5:=condW_of h4 (w_not (w_lt w_lit (w_len_list (w_arg rfl))))
  rw [List.length_map] at h5
  refine Nat.le_of_not_lt fun q=>?_
  have q' : (n : Int) < ((ns.length : Nat) : Int):=by omega
  first
   | (rw [decide_eq_true q'] at h5; exact absurd h5 (by decide))
   | (simp at h5; omega)
 cases hwl with
 | cons w1 w2 =>
  cases w2
  cases w1 with
  | list ho hall=>exact ⟨_,_,ns,rfl,rfl,ho,ints_of_wellAll ns _ hall,hlen⟩
theorem post_true (l : OpenLaw) (args : List WData) : l.row.toRowW.claim.post args (.bool true) args = true :=
 postW_of (r:=l.row.toRowW) (X:=(true == true))
  (show WShape.has [] (.bool true) .bool = true by first | rfl | decide | simp [WShape.has,WShape.arms,WShape.armsAll])
  (show (WTm.eq .res (.lit (.bool true))).value [] { args:=args,res:=some (.bool true),after:=args } = some (.bool (true == true)) from w_eq_bool (w_res rfl) w_lit) rfl
theorem attach_call {l : OpenLaw} {n : Nat} {q : Program} {loose : List Str} {XP : (Str -> Option Value) -> Heap -> Prop} {YP : World -> Heap -> Prop} {d : DefRec}
  (hn : l.most = some n) (hdf : d.params.defaults = [])
  (call : ∀ (w : World) (s₀ s₁ : Shared) (mg mb : Str -> Option Value) (fa : Addr) (o : Obj) (pm cd doc : Value) (a : Addr) (vs : List Value) (ns : List Int),
   Ground q loose [] XP w s₀ mg mb s₁.heap -> YP w s₁.heap →
   s₁.heap.get? fa = some o -> o.data = .func (docDef d.name d.params d.body d.scope pm cd doc) -> s₁.heap.CodeRec cd d.name -> mg d.name = some (.ref fa) →
   s₁.heap.get? a = some { cls:=.type "list",data:=.seq vs.toArray } -> IntsAre vs ns -> ns.length <= n -> s₁.gens = #[] →
   codeAny (model l.prog w) callerA (.call (.ref fa) ⟨[.ref a],[]⟩) (fun r s'=>r = .ok (.ret (.bool true)) /\ OldK s₁.heap s'.heap /\ s'.os = s₁.os /\ AllBare s'.gens) s₁) :
  WalkO q loose XP YP l.row.toRowW d [] (fun f vs=>PySem.call f vs):=by
 intro w s₀ s₁ mg mb G Y fa o pm cd doc dV kV ho hd hcd hD hmg hg args vals as hpre hlay hrd hwl hlo
 obtain rfl : dV = .none:=Dflts.none hD hdf
 obtain rfl : kV = .none:=Dflts.noKw hD
 obtain ⟨a,vs,ns,rfl,rfl,hobj,hints,hlen⟩:=script_of hn hpre hwl
 refine enter_call (codeAny_mono (call w s₀ s₁ mg mb fa o pm cd doc a vs ns G Y ho (fd_plain hd) hcd hmg hobj hints hlen hg) fun r s' hq=>?_)
 obtain ⟨rfl,h2,h3,h4⟩:=hq
 exact ⟨.inl ⟨.bool true,.bool true,[],rfl,fun _=>rfl,.bool true,post_true l _,fun _=>⟨List.Pairwise.nil,fun _ hm=>(nomatch hm)⟩⟩,h2,h3,h4⟩
section
variable {prog : Program} {w : World} {A : Around} {E : Value -> Shared -> Prop} {s : Shared} {K : Frag}
def ledger (h : Heap) (L d : Addr) : List (Addr × Obj):=(List.range h.objs.size).filterMap fun a=>if a = L \/ a = d then none else (h.get? a).map fun o=>(a,o)
end
end Att
namespace L2
open PySem PySem.Spec PyProof.Rows
theorem vals_ints : ∀ {vs : List Value} {ns : List Int},IntsAre vs ns -> Vals (ns.map V.int) vs
 | _,_,.nil=>.nil
 | _,_,.cons n t h=>.cons ⟨t,rfl⟩ (vals_ints h)
def Only (H : Hp) : Prop:=∀ b,H b = none \/ ∃ o xs,H b = some (.frz o (.lst xs))
theorem law_call {P : Program} {w : World} {K : PySem.W.Frag} {mg mb : Str -> Option Value} {CX : CXT} {k : Nat} {fa a : Addr} {fd : FuncData} {x : Str} {sp : Sp} {s₁ : Shared} {vs : List Value} {ns : List Int}
  (KX : K.In s₁.heap) (hns : s₁.heap.Ns mainGlobals mg) (hb : s₁.heap.Ns builtinsNs mb) (hbb : ∀ x : Str,x ≠ "__name__" -> mb x = bootBuiltins x) (hlim : s₁.heap.NoLimit) (hg : s₁.gens = #[])
  (ha : s₁.heap.get? a = some { cls:=.type "list",data:=.seq vs.toArray }) (hi : IntsAre vs ns) (hl : ns.length <= sizeLine) (hr : Room k callerA)
  (F : ∀ base : Heap,K.In base -> base.Ns mainGlobals mg -> FnOk P w K mg base CX k fa fd [x] sp) (hbind : ∀ (s : Shared) (u : Value),BindsTo s fd ⟨[u],[]⟩ [(x,u)])
  (hsp : ∀ H : Hp,Only H -> SqL K H a (ns.map V.int) -> sp [.ref a] H (fun v _=>v = .bl true) fun _ _ _=>False)
  (hCX : ∀ H e s',CX [] H s₁ (fun _ _ _=>False) e s' -> False) :
  codeAny (model P w) callerA (.call (.ref fa) ⟨[.ref a],[]⟩) (fun r s'=>r = .ok (.ret (.bool true)) /\ OldK s₁.heap s'.heap /\ s'.os = s₁.os /\ AllBare s'.gens) s₁:=by
 have rv:=vals_ints hi
 have lenV:=hi.length
 have core : ∀ H : Hp,Only H -> SqL K H a (ns.map V.int) -> HOk P w H s₁.heap -> (∀ b,H b ≠ none -> b = a) -> (H a ≠ none -> K.lookup a = none) →
   codeAny (model P w) callerA (.call (.ref fa) ⟨[.ref a],[]⟩) (fun r s'=>r = .ok (.ret (.bool true)) /\ OldK s₁.heap s'.heap /\ s'.os = s₁.os /\ AllBare s'.gens) s₁:=by
  intro H hO hS hok hA hK
  have base_of : ∀ {b : Addr} {o : Obj},s₁.heap.get? b = some o -> H b = none -> (hidT s₁.heap H).get? b = some o:=fun e n=>hidT_get e n
  have noA : ∀ {b : Addr} {o : Obj} {es : Array DictEntry} {ep : Nat},s₁.heap.get? b = some o -> o.data = .dict es ep -> H b = none:=fun {b o es ep} e d=>by
   cases q : H b with
   | none=>rfl
   | some u =>
    have e' : b = a:=hA b (by rw [q]; simp)
    subst e'
    rw [ha] at e; cases e
    have d' : Data.seq vs.toArray _ = Data.dict es ep:=d
    cases d'
  have nsK : ∀ {b : Addr} {m : Str -> Option Value},s₁.heap.Ns b m -> (hidT s₁.heap H).Ns b m:=fun {b m} ⟨o,es,ep,e,d,r⟩=>⟨o,es,ep,base_of e (noA e d),d,r⟩
  have hKb : K.In (hidT s₁.heap H):=fun b o e=>base_of (KX b o e) (by
   cases q : H b with
   | none=>rfl
   | some u =>
    have e' : b = a:=hA b (by rw [q]; simp)
    subst e'
    rw [hK (by rw [q]; simp)] at e; cases e)
  have hM : Mod K mg (hidT s₁.heap H):=⟨hKb,nsK hns,⟨mb,nsK hb,hbb⟩,let ⟨mc,h1,h2⟩:=hlim; ⟨mc,nsK h1,h2⟩⟩
  have e0 : Env0 P w K mg (hidT s₁.heap H) callerA [] s₁ H:=⟨rfl,hM,fun b o e=>of_hidT e,Nat.le_of_eq (hidT_size _ _),trivial,fun b hb=>absurd (show b ∈ ([] : List Addr) from hb) (by simp),hok,.of_eq hg⟩
  refine codeAny_mono ((F _ hKb (nsK hns)).run callerA [] s₁ H ⟨[.ref a],[]⟩ [.ref a] [.ref a] _ _ hr e0 (hbind s₁ (.ref a)) (.cons rfl .nil) (hsp H hO hS)) fun r s' h=>?_
  cases r with
  | error e=>exact (hCX H e s' h).elim
  | ok fl =>
   cases fl with
   | next=>exact False.elim h
   | brk=>exact False.elim h
   | cont=>exact False.elim h
   | ret u =>
    obtain ⟨v,H',os,bare,un,hok',r',q⟩:=h
    have q' : v = .bl true:=q
    subst q'
    obtain rfl : u = Value.bool true:=r'
    refine ⟨rfl,OldK.of_keep fun b o e=>?_,os,bare⟩
    cases q : H b with
    | none=>exact un.keep b o e q (by intro z; exact absurd (show b ∈ ([] : List Addr) from z) (by simp)) (by simp)
    | some u =>
     rcases hO b with z | ⟨ob,xs,z⟩
     ·rw [q] at z; cases z
     ·have z2:=un.frzs b ob _ z
      obtain ⟨e1,_⟩:=hok b _ z
      obtain ⟨e2,_⟩:=hok' b _ z2
      rw [e] at e1; cases e1
      exact e2
 cases hk : K.lookup a with
 | some o =>
  have e:=KX a o hk
  rw [ha] at e
  cases e
  refine core (fun _=>none) (fun _=>.inl rfl) (.inr ⟨_,vs.toArray,_,hk,rfl,rfl,rfl,by rw [List.size_toArray,lenV]; exact hl,by simpa using rv⟩) (fun b u z=>by have z' : (none : Option HO) = some u:=z; cases z') (fun b z=>absurd rfl z) fun z=>absurd rfl z
 | none =>
  refine core (fun b=>if b = a then some (.frz { cls:=.type "list",data:=.seq vs.toArray } (.lst (ns.map V.int))) else none) (fun b=>?_) (.inl (.inr ⟨{ cls:=.type "list",data:=.seq vs.toArray },if_pos rfl⟩)) (fun b u z=>?_) (fun b z=>?_) fun _=>hk
  ·by_cases hb : b = a
   ·exact .inr ⟨_,_,if_pos hb⟩
   ·exact .inl (if_neg hb)
  ·by_cases hb : b = a
   ·have z':=(if_pos hb).symm.trans z
    cases z'
    subst hb
    exact ⟨ha,by rw [List.length_map]; exact hl,vs,_,rv,ha⟩
   ·have z':=(if_neg hb).symm.trans z
    cases z'
  ·by_cases hb : b = a
   ·exact hb
   ·exact absurd (if_neg hb) z
end L2
namespace L2
open PySem PySem.Spec PyProof.Rows
abbrev KOf {K : PySem.W.Frag} {h : Heap} (_ : K.In h) : PySem.W.Frag:=K
theorem walk_of {l : PySem.W.OpenLaw} {n k : Nat} {q : Program} {loose : List Str} {XP : (Str -> Option Value) -> Heap -> Prop} {YP : World -> Heap -> Prop} {d : DefRec} {K : Params -> PySem.W.Frag} {CX : World -> CXT} {sp : World -> Sp} {x : Str}
  (hn : l.most = some n) (hn2 : n <= sizeLine) (hdf : d.params.defaults = []) (hr : Room k callerA)
  (hY : ∀ (w : World) (h : Heap),YP w h -> (K w.params).In h)
  (F : ∀ (w : World) (mg : Str -> Option Value) (fa : Addr) (h : Heap),(K w.params).In h -> h.Ns mainGlobals mg -> mg d.name = some (.ref fa) →
   ∃ fd : FuncData,(∀ (s : Shared) (u : Value),BindsTo s fd ⟨[u],[]⟩ [(x,u)]) ∧
    ∀ base : Heap,(K w.params).In base -> base.Ns mainGlobals mg -> FnOk l.prog w (K w.params) mg base (CX w) k fa fd [x] (sp w))
  (hsp : ∀ (w : World) (H : Hp) (a : Addr) (ns : List Int),ns.length <= n -> Only H -> SqL (K w.params) H a (ns.map V.int) -> sp w [.ref a] H (fun v _=>v = .bl true) fun _ _ _=>False)
  (hCX : ∀ (w : World) (H : Hp) (s : Shared) (e : Value) (s' : Shared),CX w [] H s (fun _ _ _=>False) e s' -> False) :
  PySem.W.WalkO q loose XP YP l.row.toRowW d [] (fun f vs=>PySem.call f vs):=by
 refine Att.attach_call hn hdf fun w s₀ s₁ mg mb fa o pm cd doc a vs ns G Y ho hd hcd hmg hobj hints hlen hg=>?_
 have KX:=hY w _ Y
 obtain ⟨fd,hb,hF⟩:=F w mg fa _ KX G.T.g hmg
 exact law_call KX G.T.g G.T.b G.T.builtins G.T.nolimit hg hobj hints (Nat.le_trans hlen hn2) hr hF hb (fun H hO hS=>hsp w H a ns hlen hO hS) fun H e s'=>hCX w H s₁ e s'
theorem walk_ofK {l : PySem.W.OpenLaw} {n k : Nat} {q : Program} {loose : List Str} {XP : (Str -> Option Value) -> Heap -> Prop} {YP : World -> Heap -> Prop} {d : DefRec} {K : Params -> PySem.W.Frag} {CX : CXT} {sp : PySem.W.Frag -> Sp} {x : Str}
  (hn : l.most = some n) (hn2 : n <= sizeLine) (hdf : d.params.defaults = []) (hr : Room k callerA)
  (hY : ∀ (w : World) (h : Heap),YP w h -> (K w.params).In h)
  (F : ∀ (w : World) (mg : Str -> Option Value) (fa : Addr) (h : Heap),(K w.params).In h -> h.Ns mainGlobals mg -> mg d.name = some (.ref fa) →
   ∃ fd : FuncData,(∀ (s : Shared) (u : Value),BindsTo s fd ⟨[u],[]⟩ [(x,u)]) ∧
    ∀ base : Heap,(K w.params).In base -> base.Ns mainGlobals mg -> FnOk l.prog w (K w.params) mg base CX k fa fd [x] (sp (K w.params)))
  (hsp : ∀ (K : PySem.W.Frag) (H : Hp) (a : Addr) (ns : List Int),ns.length <= n -> Only H -> SqL K H a (ns.map V.int) -> sp K [.ref a] H (fun v _=>v = .bl true) fun _ _ _=>False)
  (hCX : ∀ (H : Hp) (s : Shared) (e : Value) (s' : Shared),CX [] H s (fun _ _ _=>False) e s' -> False) :
  PySem.W.WalkO q loose XP YP l.row.toRowW d [] (fun f vs=>PySem.call f vs) :=
 walk_of (K:=K) (CX:=fun _=>CX) (sp:=fun w=>sp (K w.params)) hn hn2 hdf hr hY F (fun w H a ns h1 h2 h3=>hsp (K w.params) H a ns h1 h2 h3) fun _ H s e s'=>hCX H s e s'
end L2
namespace L2
open PySem PySem.Spec PyProof.Rows
def defArgs (s : Stmt) : Arguments:=match s with
 | .FunctionDef _ a _ _ _ _ _ _ _ _=>a
 | _=>{ posonlyargs:=[],args:=[],vararg:=none,kwonlyargs:=[],kw_defaults:=[],kwarg:=none,defaults:=[] }
def defBody (s : Stmt) : List Stmt:=match s with
 | .FunctionDef _ _ b _ _ _ _ _ _ _=>b
 | _=>[]
def defScope (s : Stmt) : Scope:=match s with
 | .FunctionDef _ _ _ _ _ _ sc _ _ _=>sc
 | _=>{ kind:=.function,names:=[],isGenerator:=false,isCoroutine:=false }
abbrev CX0 : CXT:=fun _ _ _ _ _ _=>False
abbrev E0 : XK:=fun _ _ _=>False
theorem pass0 {X : Cx} : Passes CX0 X E0:=fun _ _ _ _ _ _ _ h=>h.elim
structure Fun (K : PySem.W.Frag) (x qual : Str) (st : Stmt) (f : Addr) (fd : FuncData) : Prop where
 ex : ∃ (oc : Value) (od : Option Addr) (kV doc pm : Value) (an : Option Addr) (cdv ct : Value) (osl : Array (Option Value)),
  fd = PySem.W.fnOf x qual (defArgs st) (defBody st) (defScope st) .none kV doc pm an cdv ct /\ K.lookup f = some ⟨oc,od,.func fd,osl⟩ /\ PySem.W.codeIn K cdv qual = true
 kp : PySem.W.keepIn K (.ref f) = true
section
variable {P : Program} {w : World} {K : PySem.W.Frag} {mg : Str -> Option Value} {base : Heap}
theorem Fun.ok {x qual : Str} {st : Stmt} {f : Addr} {fd : FuncData} {N ps : List Str} {k : Nat} {sp : Sp} (F : Fun K x qual st f fd) (S : FnScope N ps (defScope st)) (len : ∀ vs H Q E,sp vs H Q E -> vs.length = ps.length)
  (hbody : ∀ (cdv : Value) (A : Around) (outer : List Env) (s : Shared) (H : Hp) (vs : List V) (Q : VK) (E : XK),Room k (A.deeper (envOfC qual (defScope st) s.heap.objs.size f cdv)) -> sp vs H Q E →
   ∃ t,PSs (cxOf CX0 P w K mg base N qual (defScope st) f cdv A outer s H E).nox (defBody st) t /\ t { nx:=fun _ H'=>Q .non H',rt:=Q } (start N vs) H) : FnOk P w K mg base CX0 (k + 1) f fd ps sp:=by
 obtain ⟨oc,od,kV,doc,pm,an,cdv,ct,osl,rfl,lk,hcd⟩:=F.ex
 refine fn_of lk hcd S len fun A outer s H vs Q E hr hsp=>?_
 obtain ⟨t,h,q⟩:=hbody cdv A outer s H vs Q E hr hsp
 exact ⟨t,h.nox,q⟩
theorem Fun.binds {x qual : Str} {st : Stmt} {f : Addr} {fd : FuncData} {ps : List Str} (F : Fun K x qual st f fd)
  (h : ∀ (kV doc pm : Value) (an : Option Addr) (cdv ct : Value) (us : List Value),us.length = ps.length -> bindArgs (PySem.W.fnOf x qual (defArgs st) (defBody st) (defScope st) .none kV doc pm an cdv ct) ⟨us,[]⟩ = pure (ps.zip us)) : Binds K fd ps []:=by
 obtain ⟨oc,od,kV,doc,pm,an,cdv,ct,osl,rfl,lk,hcd⟩:=F.ex
 exact .all (h kV doc pm an cdv ct)
theorem fun_mk {x qual : Str} {st : Stmt} {f : Addr} {oc : Value} {od an : Option Addr} {osl : Array (Option Value)} {kV doc pm cdv ct : Value} (l : K.lookup f = some ⟨oc,od,.func (PySem.W.fnOf x qual (defArgs st) (defBody st) (defScope st) .none kV doc pm an cdv ct),osl⟩)
  (c : PySem.W.codeIn K cdv qual = true) (k : PySem.W.keepIn K (.ref f) = true) : Fun K x qual st f (PySem.W.fnOf x qual (defArgs st) (defBody st) (defScope st) .none kV doc pm an cdv ct):=⟨⟨oc,od,kV,doc,pm,an,cdv,ct,osl,rfl,l,c⟩,k⟩
end
theorem small1000 {n : Nat} (h : n <= 1000) : n < sizeLine:=Nat.lt_of_le_of_lt h (by decide)
section
variable {X : Cx}
theorem pv (i : Nat) {x : Str} {pos : Pos} (hN : X.N[i]? = some x:=by rfl) (hv : Vis X.env.scope x:=by first | exact Or.inl rfl | exact Or.inr (Or.inl rfl) | exact Or.inr (Or.inr rfl)) (hd : (x == ("__debug__" : Str)) = false:=by decide)
  (hcd : (x == ("__classdict__" : Str)) = false:=by decide) : PE X (.Name x pos) (tVar i):=pe_var hN hv hd hcd
end
theorem iteF {A B : Prop} (h : B) : if false = true then A else B:=by
 rw [if_neg Bool.false_ne_true]
 exact h
theorem iteT {A B : Prop} (h : A) : if true = true then A else B:=by
 rw [if_pos rfl]
 exact h
theorem ite2 {c A B : Prop} [Decidable c] (h1 : c -> A) (h2 : ¬ c -> B) : if c then A else B:=by
 by_cases h : c
 ·rw [if_pos h]
  exact h1 h
 ·rw [if_neg h]
  exact h2 h
theorem iteNS {c A B : Prop} [Decidable c] (hc : c) (h : B) : if (!decide c) = true then A else B:=by
 rw [decide_eq_true hc]
 exact iteF h
def Same (H H' : Hp) : Prop:=∀ b o,H b = some o -> H' b = some o
theorem Same.refl (H : Hp) : Same H H:=fun _ _ h=>h
theorem Same.trans {H H1 H2 : Hp} (a : Same H H1) (b : Same H1 H2) : Same H H2:=fun c o h=>b c o (a c o h)
end L2
namespace Sb
def Bd (n : Nat) (x : Int) : Prop:=x.natAbs < 2 ^ n
theorem Bd.mono {m n : Nat} {x : Int} (h : Bd m x) (k : m <= n) : Bd n x:=Nat.lt_of_lt_of_le h (Nat.pow_le_pow_right (by decide) k)
theorem Bd.mul {m n : Nat} {x y : Int} (h : Bd m x) (k : Bd n y) : Bd (m + n) (x * y):=by
 unfold Bd at *
 rw [Int.natAbs_mul,Nat.pow_add]
 exact Nat.mul_lt_mul'' h k
theorem Bd.sub {n : Nat} {x y : Int} (h : Bd n x) (k : Bd n y) : Bd (n + 1) (x - y):=by
 unfold Bd at *
 rw [Nat.pow_succ]
 omega
theorem Bd.of_le' {n : Nat} {x y : Int} (k : Bd n y) (h : x.natAbs <= y.natAbs) : Bd n x:=Nat.lt_of_le_of_lt h k
theorem Bd.log {n : Nat} {x : Int} (h : Bd n x) (k : n < 9000) : x.natAbs.log2 < 9000:=by
 rcases Nat.eq_zero_or_pos x.natAbs with h0 | hp
 ·rw [h0]; decide
 ·have:=(Nat.log2_lt (Nat.ne_of_gt hp)).mpr h
  omega
def gI (p q : Int) : Int:=(Int.gcd p q : Int)
def sg (p q : Int) : Int:=if q < 0 then -(gI p q) else gI p q
def nT (p q : Int) : Int:=p.fdiv (sg p q)
def nB (p q : Int) : Int:=q.fdiv (sg p q)
theorem gI_pos {p q : Int} (h : q ≠ 0) : 0 < gI p q:=by
 have:=Int.gcd_pos_of_ne_zero_right p h
 unfold gI; omega
theorem sg_ne {p q : Int} (h : q ≠ 0) : sg p q ≠ 0:=by
 have:=gI_pos (p:=p) h
 unfold sg; split <;> omega
theorem sg_dvd_top (p q : Int) : sg p q ∣ p:=by
 unfold sg gI; split
 ·exact Int.neg_dvd.mpr (Int.gcd_dvd_left ..)
 ·exact Int.gcd_dvd_left ..
theorem sg_dvd_bot (p q : Int) : sg p q ∣ q:=by
 unfold sg gI; split
 ·exact Int.neg_dvd.mpr (Int.gcd_dvd_right ..)
 ·exact Int.gcd_dvd_right ..
theorem fdiv_exact {a b : Int} (h : b ∣ a) : a.fdiv b * b = a:=by
 rw [Int.fdiv_eq_ediv_of_dvd h]
 exact Int.ediv_mul_cancel h
theorem nT_mul (p q : Int) : nT p q * sg p q = p:=fdiv_exact (sg_dvd_top p q)
theorem nB_mul (p q : Int) : nB p q * sg p q = q:=fdiv_exact (sg_dvd_bot p q)
theorem nB_pos {p q : Int} (h : q ≠ 0) : 0 < nB p q:=by
 have e:=nB_mul p q
 have g:=gI_pos (p:=p) h
 by_cases hq : q < 0
 ·have s : sg p q = -(gI p q):=by unfold sg; rw [if_pos hq]
  rw [s] at e
  rcases Int.lt_trichotomy 0 (nB p q) with k | k | k
  ·exact k
  ·rw [← k] at e; simp at e; omega
  ·have:=Int.mul_pos_of_neg_of_neg k (show -(gI p q) < 0 by omega); omega
 ·have s : sg p q = gI p q:=by unfold sg; rw [if_neg hq]
  rw [s] at e
  rcases Int.lt_trichotomy 0 (nB p q) with k | k | k
  ·exact k
  ·rw [← k] at e; simp at e; omega
  ·have:=Int.mul_neg_of_neg_of_pos k g; omega
theorem n_cross (p q : Int) : nT p q * q = p * nB p q:=by
 have h1:=nT_mul p q
 have h2:=nB_mul p q
 calc nT p q * q = nT p q * (nB p q * sg p q):=by rw [h2]
  _ = (nT p q * sg p q) * nB p q:=by rw [Int.mul_comm (nB p q),Int.mul_assoc]
  _ = p * nB p q:=by rw [h1]
theorem n_gcd {p q : Int} (h : q ≠ 0) : Int.gcd (nT p q) (nB p q) = 1:=by
 have g:=gI_pos (p:=p) h
 have e1:=nT_mul p q
 have e2:=nB_mul p q
 have e : Int.gcd p q = Int.gcd (nT p q) (nB p q) * (sg p q).natAbs:=by
  have z:=Int.gcd_mul_right (nT p q) (sg p q) (nB p q)
  rw [e1,e2] at z
  exact z
 have s : (sg p q).natAbs = Int.gcd p q:=by
  unfold sg gI; split <;> simp
 rw [s] at e
 have gp : 0 < Int.gcd p q:=by unfold gI at g; omega
 have e' : 1 * Int.gcd p q = Int.gcd (nT p q) (nB p q) * Int.gcd p q:=by omega
 exact (Nat.eq_of_mul_eq_mul_right gp e').symm
theorem sg_abs {p q : Int} (h : q ≠ 0) : 1 <= (sg p q).natAbs:=by
 have:=sg_ne (p:=p) h
 omega
theorem le_of_mul {a b c : Int} (h : a * b = c) (hb : 1 <= b.natAbs) : a.natAbs <= c.natAbs:=by
 rw [← h,Int.natAbs_mul]
 exact Nat.le_mul_of_pos_right _ hb
theorem nT_le {p q : Int} (h : q ≠ 0) : (nT p q).natAbs <= p.natAbs:=le_of_mul (nT_mul p q) (sg_abs h)
theorem nB_le {p q : Int} (h : q ≠ 0) : (nB p q).natAbs <= q.natAbs:=le_of_mul (nB_mul p q) (sg_abs h)
theorem sg_le {p q : Int} (h : q ≠ 0) : (sg p q).natAbs <= q.natAbs:=by
 have e:=nB_mul p q
 rw [Int.mul_comm] at e
 have:=nB_pos (p:=p) h
 exact le_of_mul e (by omega)
theorem gcd_step {a b : Int} : Int.gcd b (a % b) = Int.gcd a b:=by
 rw [Int.gcd_comm b,Int.emod_def]
 rw [Int.gcd_sub_mul_left_left]
theorem gcd_fstep (a b : Int) : Int.gcd b (a.fmod b) = Int.gcd a b:=by
 rw [Int.gcd_comm b,Int.fmod_def]
 rw [Int.gcd_sub_mul_left_left]
theorem fmod_abs (a : Int) {b : Int} (h : b ≠ 0) : (a.fmod b).natAbs < b.natAbs:=by
 rcases Int.lt_or_gt_of_ne h with k | k
 ·have h0:=Int.neg_fmod_neg a b
  have h1:=Int.fmod_nonneg_of_pos (-a) (show 0 < -b by omega)
  have h2:=Int.fmod_lt_of_pos (-a) (show 0 < -b by omega)
  omega
 ·have h1:=Int.fmod_nonneg_of_pos a k
  have h2:=Int.fmod_lt_of_pos a k
  omega
theorem gcd_nn (a b : Int) (ha : 0 <= a) (h : b = 0) : a = (Int.gcd a b : Int):=by
 subst h
 simp
 omega
end Sb
namespace Sb
open PySem PySem.Spec PyProof.Rows L2
theorem Bd.bits {n : Nat} {x : Int} (h : Bd n x) : Builtin.Int.intBits x <= n:=by
 unfold Builtin.Int.intBits
 split
 ·exact Nat.zero_le _
 ·rename_i h0
  have hn : x.natAbs ≠ 0:=by
   intro z
   have : x = 0:=by omega
   exact h0 (by simp [this])
  have:=(Nat.log2_lt hn).mpr h
  omega
theorem Bd.mulOk {m n : Nat} {x y : Int} (h : Bd m x) (k : Bd n y) (hm : m <= 1048576) (hn : n <= 1048576) : IntMulOk x y :=
 IntMulOk.of_bits (Nat.le_trans h.bits (Nat.le_trans hm (by decide))) (Nat.le_trans k.bits (Nat.le_trans hn (by decide)))
theorem mulL {x y : Int} (h1 : -(2 ^ 64) < x) (h2 : x < 2 ^ 64) : IntMulOk x y:=IntMulOk.of_left (intBits_le_64 h1 h2)
theorem mulR {x y : Int} (h1 : -(2 ^ 64) < y) (h2 : y < 2 ^ 64) : IntMulOk x y:=IntMulOk.of_right (intBits_le_64 h1 h2)
section
variable {X : Cx}
theorem op_mulB : OpR X (binaryOp .Mult) (rI IntMulOk fun i j=>.int (i * j)):=opI fun _ _ _ _ _ _ _ hc q=>mul_int q hc
def DivOk (_ j : Int) : Prop:=j ≠ 0 /\ j.natAbs.log2 < 9000
theorem op_divB : OpR X (binaryOp .FloorDiv) (rI DivOk fun i j=>.int (i.fdiv j)):=opI fun _ _ _ _ _ _ _ hc q=>floordiv_int hc.1 q (.inl (PyProof.noPylong_of_log2 hc.2))
def rP0 (K : PySem.W.Frag) : R2:=fun x y H Q=>∃ p u v,x = .ref p /\ y = .int 0 /\ SqT K H p [u,v] /\ Q u H
def rP1 (K : PySem.W.Frag) : R2:=fun x y H Q=>∃ p u v,x = .ref p /\ y = .int 1 /\ SqT K H p [u,v] /\ Q v H
def rL0 (K : PySem.W.Frag) : R2:=fun x y H Q=>∃ p u v,x = .ref p /\ y = .int 0 /\ SqL K H p [u,v] /\ Q u H
def rL1 (K : PySem.W.Frag) : R2:=fun x y H Q=>∃ p u v,x = .ref p /\ y = .int 1 /\ SqL K H p [u,v] /\ Q v H
theorem at0 {α : Type} (x : α) (xs : List α) : atI (x :: xs) 0 = some x:=atI_nat (j:=0) rfl
theorem at1 {α : Type} (x y : α) (xs : List α) : atI (x :: y :: xs) 1 = some y:=atI_nat (j:=1) rfl
theorem ix_p0 : IxR X (rP0 X.K):=fun vl sl pins s σ H x y v u Q I rx ry ⟨p,a,b,e1,e2,h,q⟩ hs=>ix_tup vl sl pins s σ H x y v u Q I rx ry ⟨p,_,_,_,e1,e2,h,at0 _ _,q⟩ hs
theorem ix_p1 : IxR X (rP1 X.K):=fun vl sl pins s σ H x y v u Q I rx ry ⟨p,a,b,e1,e2,h,q⟩ hs=>ix_tup vl sl pins s σ H x y v u Q I rx ry ⟨p,_,_,_,e1,e2,h,at1 _ _ _,q⟩ hs
theorem ix_l0 : IxR X (rL0 X.K):=fun vl sl pins s σ H x y v u Q I rx ry ⟨p,a,b,e1,e2,h,q⟩ hs=>ix_list vl sl pins s σ H x y v u Q I rx ry ⟨p,_,_,_,e1,e2,h,at0 _ _,q⟩ hs
theorem ix_l1 : IxR X (rL1 X.K):=fun vl sl pins s σ H x y v u Q I rx ry ⟨p,a,b,e1,e2,h,q⟩ hs=>ix_list vl sl pins s σ H x y v u Q I rx ry ⟨p,_,_,_,e1,e2,h,at1 _ _ _,q⟩ hs
theorem pe_ty {x : Str} {T : String} {pos : Pos} (hm : X.mg x = none) (hv : bootBuiltins x = some (.type T)) (hg : Gl X x:=by rfl) (hn : x ≠ "__name__":=by decide) (hd : (x == ("__debug__" : Str)) = false:=by decide) : PE X (.Name x pos) (tC (.ty T)) :=
 pe_bltn hg hm hv rfl hn hd
theorem call_isinst : CallR X (.builtin "isinstance") (fun xs H Q=>∃ x T t b,xs = [x,.ty T] /\ TyOf X.K H x t /\ PySem.W.kitOne X.K t (.type T) = some b /\ Q (.bl b) H):=by
 intro pins s σ H xs us Q I r h
 obtain ⟨x,T,t,b,rfl,ty,k,q⟩:=h
 obtain ⟨u,w',rfl,rx,ry⟩:=vals2 r
 cases (show w' = Value.type T from ry)
 exact isinst_ok I rx ty k fun tk=>⟨.bl b,H,I.tok tk,rfl,q⟩
theorem call_isinstT : CallR X (.builtin "isinstance") (fun xs H Q=>∃ a ys T b,xs = [.ref a,.ty T] /\ SqT X.K H a ys /\ PySem.W.kitOne X.K (.type "tuple") (.type T) = some b /\ Q (.bl b) H):=by
 intro pins s σ H xs us Q I r h
 obtain ⟨a,ys,T,b,rfl,hs,k,q⟩:=h
 obtain ⟨u,w',rfl,rx,ry⟩:=vals2 r
 cases (show w' = Value.type T from ry)
 cases (show u = Value.ref a from rx)
 obtain ⟨its,_,tup,_⟩:=I.tuple hs
 obtain ⟨o,h1,h2,_⟩:=tup
 exact PySem.W.kia_one PySem.W.kitx_tuple I.kIn ⟨o,h1,h2⟩ k (fun z=>nomatch z) fun tk=>⟨.bl b,H,I.tok tk,rfl,q⟩
end
theorem kit_same {K : PySem.W.Frag} {T : String} : PySem.W.kitOne K (.type T) (.type T) = some true:=by
 unfold PySem.W.kitOne
 rw [if_pos (by simp)]
theorem kit_int_bool {K : PySem.W.Frag} : PySem.W.kitOne K (.type "int") (.type "bool") = some false:=by
 show (if (Value.type "int" == Value.type "bool") = true then some true else (if PySem.W.kitMeta "bool" = true then (fastBuiltinMro "int").map (·.contains (Value.type "bool")) else none)) = some false
 decide +kernel
def Has (P : Program) (w : World) (K : PySem.W.Frag) (mg : Str -> Option Value) (base : Heap) (k : Nat) (x : Str) (ps : List Str) (sp : Sp) : Prop :=
 ∃ (f : Addr) (fd : FuncData),FnOk P w K mg base CX0 k f fd ps sp /\ mg x = some (.ref f) /\ PySem.W.keepIn K (.ref f) = true /\ Binds K fd ps []
def Def (K : PySem.W.Frag) (mg : Str -> Option Value) (x : Str) (st : Stmt) (ps : List Str) : Prop :=
 ∃ (f : Addr) (fd : FuncData),Fun K x x st f fd /\ mg x = some (.ref f) /\ Binds K fd ps []
theorem Def.has {P : Program} {w : World} {K : PySem.W.Frag} {mg : Str -> Option Value} {base : Heap} {k : Nat} {x : Str} {st : Stmt} {ps : List Str} {sp : Sp} (D : Def K mg x st ps)
  (h : ∀ (f : Addr) (fd : FuncData),Fun K x x st f fd -> FnOk P w K mg base CX0 k f fd ps sp) : Has P w K mg base k x ps sp:=by
 obtain ⟨f,fd,F,hm,b⟩:=D
 exact ⟨f,fd,h f fd F,hm,F.kp,b⟩
section
variable {X : Cx} {k : Nat} {x : Str} {ps : List Str} {sp : Sp} {e : Expr} {es : List Expr} {t : TA} {p pos : Pos}
theorem pe_use (h : Has X.prog X.w X.K X.mg X.base k x ps sp) (hr : Room k X.A) (hg : Gl X x) (ha : PA X (e :: es) t) (hdb : (x == ("__debug__" : Str)) = false:=by decide)
  (he : starEach (e :: es) X.env = (false,eval e X.env) :: starEach es X.env:=by rfl) (hpl : (backTo pos (starEach es X.env)).any (·.1) = false:=by rfl) : PE X (.Call (.Name x p) (e :: es) [] pos) (tCall sp [] E0 t):=by
 obtain ⟨f,fd,F,hm,hk,hb⟩:=h
 exact pe_call F hr hg hm hk hb .nil pass0 ha hdb he hpl
end
section
variable {X : Cx} {st : Stmt} {t : TS} {e : Expr} {te : TE} {tt : TT}
def tJ (t : TS) : TS:=fun D σ H=>∃ J : L2.St -> Hp -> Prop,t { D with nx:=J } σ H /\ ∀ σ' H',J σ' H' -> D.nx σ' H'
theorem ps_join (h : PS X st t) : PS X st (tJ t):=by
 intro pins s σ H D I ⟨J,a,b⟩
 refine thn (h pins s σ H _ I a) fun f s' q=>?_
 cases f with
 | next=>obtain ⟨σ',H',I',q⟩:=q; exact ⟨σ',H',I',b _ _ q⟩
 | brk=>exact q
 | cont=>exact q
 | ret v=>exact q
def tJT (t : TT) : TT:=fun σ H Q=>∃ J : Bool -> Hp -> Prop,t σ H J /\ ∀ v H',J v H' -> Q v H'
theorem pt_join (h : PT X e tt) : PT X e (tJT tt):=by
 intro pins s σ H Q I ⟨J,a,b⟩
 exact thn (h pins s σ H _ I a) fun u s' ⟨H',I',q⟩=>⟨H',I',b _ _ q⟩
end
def SameX (a : Addr) (H H' : Hp) : Prop:=∀ b o,H b = some o -> b ≠ a -> H' b = some o
theorem SameX.trans {a : Addr} {H H1 H2 : Hp} (x : SameX a H H1) (y : SameX a H1 H2) : SameX a H H2:=fun b o h n=>y b o (x b o h n) n
theorem SameX.of {a : Addr} {H H' : Hp} (x : Same H H') : SameX a H H':=fun b o h _=>x b o h
theorem SameX.upd (a : Addr) (H : Hp) (o : HO) : SameX a H (upd H a o):=fun b u h n=>by rw [upd_ne n]; exact h
theorem Same.new {H : Hp} {a : Addr} {o : HO} (h : H a = none) : Same H (upd H a o):=fun b u e=>by rw [upd_ne (ne_of_none e h)]; exact e
theorem sameT {K : PySem.W.Frag} {H H' : Hp} {a : Addr} {xs : List V} (e : Same H H') (h : SqT K H a xs) : SqT K H' a xs:=by
 rcases h with (h | ⟨o,h⟩) | h
 ·exact .inl (.inl (e _ _ h))
 ·exact .inl (.inr ⟨o,e _ _ h⟩)
 ·exact .inr h
def BagAt (H : Hp) (a : Addr) (n : Nat) : Prop:=∃ x y : Int,H a = some (.lst [.int x,.int y]) /\ 0 <= y /\ y <= n
theorem BagAt.mono {H : Hp} {a : Addr} {m n : Nat} (h : BagAt H a m) (k : m <= n) : BagAt H a n:=by
 obtain ⟨x,y,e,h1,h2⟩:=h
 exact ⟨x,y,e,h1,by omega⟩
theorem BagAt.same {H H' : Hp} {a : Addr} {n : Nat} (h : BagAt H a n) (x : Same H H') : BagAt H' a n:=by
 obtain ⟨p,q,e,r⟩:=h
 exact ⟨p,q,x _ _ e,r⟩
theorem BagAt.upd {H : Hp} {a l : Addr} {o : HO} {n : Nat} (h : BagAt H a n) (k : a ≠ l) : BagAt (L2.upd H l o) a n:=by
 obtain ⟨p,q,e,r⟩:=h
 exact ⟨p,q,by rw [upd_ne k]; exact e,r⟩
theorem BagAt.lst {H : Hp} {a : Addr} {n : Nat} (h : BagAt H a n) : ∃ ys,H a = some (.lst ys):=by
 obtain ⟨x,y,e,_⟩:=h
 exact ⟨_,e⟩
theorem def_mk {K : PySem.W.Frag} {h : Heap} {mg : Str -> Option Value} {x : Str} {st : Stmt} {ps : List Str} {f : Addr} {oc : Value} {od an : Option Addr} {sl : Array (Option Value)} {kV dc pm cd ct : Value} (X : K.In h) (G : h.Ns mainGlobals mg)
  (a : PySem.W.nsIn K mainGlobals x = some (some (.ref f))) (l : K.lookup f = some ⟨oc,od,.func (PySem.W.fnOf x x (defArgs st) (defBody st) (defScope st) .none kV dc pm an cd ct),sl⟩) (c : PySem.W.codeIn K cd x = true) (k : PySem.W.keepIn K (.ref f) = true)
  (b : ∀ (kV doc pm : Value) (an : Option Addr) (cdv ct : Value) (us : List Value),us.length = ps.length -> bindArgs (PySem.W.fnOf x x (defArgs st) (defBody st) (defScope st) .none kV doc pm an cdv ct) ⟨us,[]⟩ = pure (ps.zip us)) : Def K mg x st ps :=
 ⟨f,_,fun_mk l c k,PySem.W.mg_of X G a,(fun_mk l c k).binds b⟩
theorem law_mk {P : Program} {w : World} {K : PySem.W.Frag} {h : Heap} {mg : Str -> Option Value} {x : Str} {st : Stmt} {fa f : Addr} {oc : Value} {od an : Option Addr} {sl : Array (Option Value)} {kV dc pm cd ct : Value} {n : Nat} {sp : Sp} (X : K.In h) (G : h.Ns mainGlobals mg) (hfa : mg "law" = some (.ref fa))
  (a : PySem.W.nsIn K mainGlobals "law" = some (some (.ref f))) (l : K.lookup f = some ⟨oc,od,.func (PySem.W.fnOf "law" "law" (defArgs st) (defBody st) (defScope st) .none kV dc pm an cd ct),sl⟩) (c : PySem.W.codeIn K cd "law" = true) (k : PySem.W.keepIn K (.ref f) = true)
  (b : ∀ (s : Shared) (v : Value),BindsTo s (PySem.W.fnOf "law" "law" (defArgs st) (defBody st) (defScope st) .none kV dc pm an cd ct) ⟨[v],[]⟩ [(x,v)])
  (ok : ∀ (fd : FuncData) (base : Heap),Fun K "law" "law" st fa fd -> FnOk P w K mg base CX0 n fa fd [x] sp) :
  ∃ fd : FuncData,(∀ (s : Shared) (v : Value),BindsTo s fd ⟨[v],[]⟩ [(x,v)]) /\ ∀ base : Heap,K.In base -> base.Ns mainGlobals mg -> FnOk P w K mg base CX0 n fa fd [x] sp:=by
 have e:=hfa.symm.trans (PySem.W.mg_of X G a)
 cases e
 exact ⟨_,b,fun base _ _=>ok _ base (fun_mk l c k)⟩
end Sb
namespace Sb
open PySem PySem.Spec PyProof.Rows L2
theorem closure_ok (env : Env) : ∀ (ns : List (Str × NameKind)) (cs : List (Str × Addr)),(∀ y ∈ ns,y.2 = .free -> ∃ c,env.cells.lookup y.1 = some c) -> (∀ y c,cs.lookup y = some c -> env.cells.lookup y = some c) →
  ∃ cl,(forIn ns cs (fun (x : Str × NameKind) (r : List (Str × Addr))=>(if (x.2 == .free) = true then do let a ← cellOf env x.1; pure (ForInStep.yield ((x.1,a) :: r)) else pure (ForInStep.yield r) : Sem (ForInStep (List (Str × Addr)))))) = pure cl ∧
   (∀ y c,cl.lookup y = some c -> env.cells.lookup y = some c) /\ (∀ y c,cs.lookup y = some c -> ∃ c',cl.lookup y = some c') /\ ∀ y ∈ ns,y.2 = .free -> ∃ c,cl.lookup y.1 = some c
 | [],cs,_,hs=>⟨cs,by simp,hs,fun y c e=>⟨c,e⟩,fun y hy=>nomatch hy⟩
 | (n,k) :: r,cs,hf,hs=>by
  have hr : ∀ y ∈ r,y.2 = .free -> ∃ c,env.cells.lookup y.1 = some c:=fun y hy=>hf y (List.mem_cons_of_mem _ hy)
  by_cases hk : k = .free
  ·subst hk
   obtain ⟨c,hc⟩:=hf (n,.free) List.mem_cons_self rfl
   have hc' : env.cells.lookup n = some c:=hc
   have hs' : ∀ y d,((n,c) :: cs).lookup y = some d -> env.cells.lookup y = some d:=fun y d e=>by
    by_cases hy : y = n
    ·subst hy
     simp only [List.lookup_cons,beq_self_eq_true] at e
     cases e
     exact hc'
    ·have hb : (y == n) = false:=beq_eq_false_iff_ne.mpr hy
     simp only [List.lookup_cons,hb] at e
     exact hs y d e
   obtain ⟨cl,h1,h2,h3,h4⟩:=closure_ok env r ((n,c) :: cs) hr hs'
   have up : ∃ c',cl.lookup n = some c':=h3 n c (by simp [List.lookup_cons])
   refine ⟨cl,?_,h2,fun y d e=>?_,fun y hy hyf=>?_⟩
   ·have e : cellOf env n = pure c:=by unfold cellOf; rw [hc']
    simp only [List.forIn_cons,beq_self_eq_true,if_true,e]
    exact h1
   ·by_cases hy : y = n
    ·subst hy; exact up
    ·have hb : (y == n) = false:=beq_eq_false_iff_ne.mpr hy
     exact h3 y d (by simp only [List.lookup_cons,hb]; exact e)
   ·rcases List.mem_cons.mp hy with z | z
    ·subst z; exact up
    ·exact h4 y z hyf
  ·obtain ⟨cl,h1,h2,h3,h4⟩:=closure_ok env r cs hr hs
   refine ⟨cl,?_,h2,h3,fun y hy hyf=>?_⟩
   ·have hb : (k == NameKind.free) = false:=beq_eq_false_iff_ne.mpr hk
    simp only [List.forIn_cons,hb,Bool.false_eq_true,if_false]
    exact h1
   ·rcases List.mem_cons.mp hy with z | z
    ·subst z; exact absurd hyf hk
    ·exact h4 y z hyf
theorem closureFor_ok {env : Env} {scope : Scope} (hf : ∀ y ∈ scope.names,y.2 = .free -> ∃ c,env.cells.lookup y.1 = some c) :
  ∃ cl,closureFor scope env = pure cl /\ (∀ y c,cl.lookup y = some c -> env.cells.lookup y = some c) /\ ∀ y ∈ scope.names,y.2 = .free -> ∃ c,cl.lookup y.1 = some c:=by
 obtain ⟨cl,h1,h2,_,h4⟩:=closure_ok env scope.names [] hf (fun y c e=>by simp at e)
 refine ⟨cl,?_,h2,h4⟩
 have e : closureFor scope env = ((forIn scope.names ([] : List (Str × Addr)) (fun (x : Str × NameKind) (r : List (Str × Addr))=>(if (x.2 == .free) = true then do let a ← cellOf env x.1; pure (ForInStep.yield ((x.1,a) :: r)) else pure (ForInStep.yield r) : Sem (ForInStep (List (Str × Addr)))))) >>= fun r=>pure r):=by
  unfold closureFor
  congr 1
 rw [e,h1]
 rfl
end Sb
namespace Sb
open PySem PySem.Spec PyProof.Rows L2
theorem mem_lookup {l : List (Str × NameKind)} {x : Str} {q : NameKind} (h : l.lookup x = some q) : (x,q) ∈ l:=by
 obtain ⟨a,b,e,_⟩:=List.lookup_eq_some_iff.mp h
 rw [e]
 simp
theorem relabel_cell {env : Env} (hf : env.scope.kind = .function) : ∀ {names : List (Str × NameKind)} {x : Str},names.lookup x = some .free -> env.kindOf x = some .cell →
  (names.map fun (n,k)=>if (k == .free && env.scope.kind == .function && env.kindOf n == some .cell) then (n,NameKind.cell) else (n,k)).lookup x = some .cell
 | [],_,h,_=>by simp at h
 | (n,k) :: r,x,h,hx=>by
  by_cases e : x = n
  ·subst e
   simp only [List.lookup_cons,beq_self_eq_true] at h
   cases h
   simp [List.lookup_cons,hf,hx]
  ·have hb : (x == n) = false:=beq_eq_false_iff_ne.mpr e
   simp only [List.lookup_cons,hb] at h
   have ih:=relabel_cell hf h hx
   show List.lookup x ((if (k == .free && env.scope.kind == .function && env.kindOf n == some .cell) = true then (n,NameKind.cell) else (n,k)) :: _) = _
   by_cases c : (k == .free && env.scope.kind == .function && env.kindOf n == some .cell) = true
   ·rw [if_pos c]; simp only [List.lookup_cons,hb]; exact ih
   ·rw [if_neg c]; simp only [List.lookup_cons,hb]; exact ih
theorem relabel_back {env : Env} : ∀ {names : List (Str × NameKind)} {x : Str} {q : NameKind},(q = .cell \/ q = .free) →
  (names.map fun (n,k)=>if (k == .free && env.scope.kind == .function && env.kindOf n == some .cell) then (n,NameKind.cell) else (n,k)).lookup x = some q →
  ∃ y ∈ names,y.1 = x /\ (y.2 = .free \/ y.2 = .cell)
 | [],_,_,_,h=>by simp at h
 | (n,k) :: r,x,q,hq,h=>by
  by_cases e : x = n
  ·subst e
   refine ⟨(x,k),List.mem_cons_self,rfl,?_⟩
   replace h : List.lookup x ((if (k == .free && env.scope.kind == .function && env.kindOf x == some .cell) = true then (x,NameKind.cell) else (x,k)) :: _) = some q:=h
   by_cases c : (k == .free && env.scope.kind == .function && env.kindOf x == some .cell) = true
   ·have : k = .free:=by
     rw [Bool.and_eq_true,Bool.and_eq_true] at c
     exact beq_iff_eq.mp c.1.1
    exact .inl this
   ·rw [if_neg c] at h
    simp only [List.lookup_cons,beq_self_eq_true] at h
    cases h
    rcases hq with z | z
    ·exact .inr z
    ·exact .inl z
  ·have hb : (x == n) = false:=beq_eq_false_iff_ne.mpr e
   replace h : List.lookup x ((if (k == .free && env.scope.kind == .function && env.kindOf n == some .cell) = true then (n,NameKind.cell) else (n,k)) :: _) = some q:=h
   have h' : (r.map fun (n,k)=>if (k == .free && env.scope.kind == .function && env.kindOf n == some .cell) then (n,NameKind.cell) else (n,k)).lookup x = some q:=by
    by_cases c : (k == .free && env.scope.kind == .function && env.kindOf n == some .cell) = true
    ·rw [if_pos c] at h; simp only [List.lookup_cons,hb] at h; exact h
    ·rw [if_neg c] at h; simp only [List.lookup_cons,hb] at h; exact h
   obtain ⟨y,hy,z⟩:=relabel_back hq h'
   exact ⟨y,List.mem_cons_of_mem _ hy,z⟩
section
variable {prog : Program} {w : World} {A : Around} {R : Result -> Shared -> Prop} {s : Shared}
abbrev noX : Value -> Shared -> Prop:=fun _ _=>False
theorem comp_loop {elt tg iter : Expr} {ifs : List Expr} {scope : Scope} {pos : Pos} {it acc : Value} {env : Env} (J : Nat -> Shared -> Prop)
  (turn : ∀ n s,J n s -> wpAny (model prog w) A (pyNext it) (fun r s1=>match r with
   | none=>R (.ok .next) s1
   | some v=>wpAny (model prog w) A (letOwnedTupleGo tg it v) (fun _ s2=>wpAny (model prog w) A (assign tg env v) (fun _ s3 =>
     wpAny (model prog w) A (forIn ifs true fun c r=>if r = true then do let ok ← isTrue c env (eval c env); pure (ForInStep.yield ok) else pure (ForInStep.yield r)) (fun ok s4 =>
      if ok = true then wpAny (model prog w) A (eval elt env) (fun x s5=>wpAny (model prog w) A (call (.builtin "list.append") [acc,x]) (fun _ s6=>∃ m,m < n /\ J m s6) noX s5) noX s4
      else ∃ m,m < n /\ J m s4) noX s3) noX s2) noX s1) noX s)
  (n : Nat) (h : J n s) : codeAny (model prog w) A (.compLoop (.ListComp elt [⟨tg,iter,ifs,0⟩] scope pos) 0 it acc env) R s:=by
 have no : ∀ {Z : Value -> Shared -> Prop} (a : Value) (b : Shared),noX a b -> Z a b:=fun _ _ f=>f.elim
 refine codeAny_loop rfl J (fun n s hJ=>?_) n h
 show wpAny _ A ((compTurn (.ListComp elt [⟨tg,iter,ifs,0⟩] scope pos) 0 it acc env).onRaise (fun x=>do noteFrame x env; theTreesLotGoes x)) _ _ s
 refine wpAny_noted ?_
 rw [compTurn_list]
 refine wpAny_bind (wpAny_standAt (wpAny_bind (wpAny_mono (turn n s hJ) (fun r s1 h1=>?_) no)))
 cases r with
 | none=>exact wpAny_pure h1
 | some v =>
  refine wpAny_bind (wpAny_mono h1 (fun _ s2 h2=>wpAny_bind (wpAny_mono h2 (fun _ s3 h3=>wpAny_bind (wpAny_mono h3 (fun ok s4 h4=>?_) no)) no)) no)
  cases ok with
  | false=>exact wpAny_pure ⟨rfl,h4⟩
  | true=>exact wpAny_bind (wpAny_bind (wpAny_mono h4 (fun x s5 h5=>wpAny_bind (wpAny_mono h5 (fun _ s6 h6=>wpAny_pure (wpAny_pure ⟨rfl,h6⟩)) no)) no))
end
def compCx (X : Cx) (N : List Str) (scope : Scope) (cl : List (Str × Addr)) (C : Addr) (fp : List Addr) (s : Shared) (H : Hp) : Cx where
 prog:=X.prog
 w:=X.w
 K:=X.K
 mg:=X.mg
 base:=X.base
 A:=X.A
 N:=N
 s₀:=s
 H₀:=H
 env:=compEnvC scope cl C X.env
 outer:=X.stack
 stack:=X.stack
 ex:=fp
 fn:=fun _=>false
 calm:=true
 pn:=[]
 xe:=noX
def comp0 (k : Nat) (fv : List Nat) (σ : L2.St) : L2.St:=List.replicate k none ++ fv.map fun j=>σ.getD j none
def PTs (X : Cx) (ifs : List Expr) (t : TT) : Prop :=
 ∀ (pins : List (Addr × Obj)) (s : Shared) (σ : L2.St) (H : Hp) (Q : Bool -> Hp -> Prop),Inv X pins σ H s -> t σ H Q →
  wpAny (model X.prog X.w) X.A (forIn ifs true fun c r=>if r = true then do let ok ← isTrue c X.env (eval c X.env); pure (ForInStep.yield ok) else pure (ForInStep.yield r)) (TP X pins σ Q) X.xe s
def tYes : TT:=fun _ H Q=>Q true H
theorem pts_nil {X : Cx} : PTs X [] tYes:=fun _ _ _ H _ I h=>wpAny_tests_nil ⟨H,I,h⟩
theorem pts_one {X : Cx} {c : Expr} {t : TT} (h : PT X c t) : PTs X [c] t:=fun pins s σ H Q I q=>wpAny_tests_one (h pins s σ H Q I q)
def Weaker (σ4 σ0 : L2.St) : Prop:=σ0.length = σ4.length /\ ∀ (i : Nat) (v : V),σ0[i]? = some (some v) -> σ4[i]? = some (some v)
def tComp (wi : TI) (g : TG) (tt : TT) (te : TE) (k : Nat) (fv : List Nat) : TE:=fun σ H Q=>wi σ H fun J H1=>∀ d,H1 d = none -> ∃ (n : Nat) (W : Nat -> List V -> Hp -> Prop),n <= sizeLine /\ W 0 [] (upd H1 d (.lst [])) ∧
 (∀ i ys H2,i < n -> W i ys H2 -> H2 d = some (.lst ys) -> J.go i H2 /\ ∀ x H3,J.yld i H2 x H3 -> g x (comp0 k fv σ) H3 fun σ4 H4=>tt σ4 H4 fun b H5 =>
  if b = true then te σ4 H5 fun y H6=>H6 d = some (.lst ys) /\ W (i + 1) (ys ++ [y]) (upd H6 d (.lst (ys ++ [y]))) else H5 d = some (.lst ys) /\ W (i + 1) ys H5) ∧
 (∀ ys H2,W n ys H2 -> H2 d = some (.lst ys) -> J.stop n H2 /\ Q (.ref d) H2)
theorem hok_but {P : Program} {w : World} {H : Hp} {h h' : Heap} {C : Addr} (x : HOk P w H h) (hn : H C = none) (k : ∀ b,b ≠ C -> h'.get? b = h.get? b) : HOk P w H h':=fun a o e =>
 (x a o e).stay (fun b u hb q=>by
  rw [k b]
  ·exact q
  ·rintro rfl
   rcases hb with rfl | hb
   ·rw [hn] at e; cases e
   ·rw [hn] at hb; cases hb) (fun _ q=>q) fun _ _ q=>q
theorem un_but {fs ex : List Addr} {H H' : Hp} {h h1 h2 : Heap} {C : Addr} (u : Un fs ex H H' h h1) (hC : h.get? C = none) (k : ∀ b,b ≠ C -> h2.get? b = h1.get? b) : Un fs ex H H' h h2:=by
 have ne : ∀ b o,h.get? b = some o -> b ≠ C:=fun b o e z=>by rw [z,hC] at e; cases e
 exact ⟨fun b o e n hf hx=>by rw [k b (ne b o e)]; exact u.keep b o e n hf hx,fun b o e n hf hx=>by rw [k b (ne b o e)]; exact u.slot b o e n hf hx,u.free,fun b o e hx=>by rw [k b (ne b o e)]; exact u.there b o e hx,u.tups,u.frzs,u.tbls⟩
section
variable {X : Cx} {pins : List (Addr × Obj)} {σ : L2.St} {H : Hp} {s : Shared} {N : List Str} {scope : Scope} {cl : List (Str × Addr)} {fp : List Addr} {k : Nat} {fv : List Nat}
theorem comp_ok (I : Inv X pins σ H s) (hc : X.calm = true) (hf : ∀ b ∈ fp,FpOk X pins H b) (hl : ∀ b ∈ fp,b < s.heap.objs.size) (hkind : scope.kind = .function) (hcell : ∀ y ∈ scope.names,y.2 ≠ .cell)
  (h1 : ∀ y c,cl.lookup y = some c -> X.env.cells.lookup y = some c) (h2 : ∀ y ∈ scope.names,y.2 = .free -> ∃ c,cl.lookup y.1 = some c) : (compCx X N scope cl s.heap.objs.size fp s H).Ok where
 mod:=I.ok.mod
 kind:=hkind
 glob:=I.ok.glob
 blt:=I.ok.blt
 above:=Nat.le_refl _
 inj:=fun x y c a b=>I.ok.inj x y c (h1 x c a) (h1 y c b)
 has:=fun x hx=>by
  have : ∃ y ∈ scope.names,y.1 = x /\ (y.2 = .free \/ y.2 = .cell):=by
   rcases hx with z | z
   ·exact relabel_back (.inl rfl) z
   ·exact relabel_back (.inr rfl) z
  obtain ⟨y,hy,e,z⟩:=this
  rcases z with z | z
  ·obtain ⟨c,hcl⟩:=h2 y hy z
   exact ⟨c,by rw [← e]; exact hcl⟩
  ·exact absurd z (hcell y hy)
 cab:=fun x c z=>by cases z
 hd:=fun _=>I.ok.hd hc
 frames:=I.ok.frames
 stk:=.inl rfl
 exf:=fun b hb=>⟨Nat.ne_of_lt (hl b hb),fun x c e=>(hf b hb).2.2.2.2.1 x c (h1 x c e)⟩
 bs:=I.bs
 bsz:=Nat.le_trans I.ok.bsz I.sz
 noex:=fun b o e hb=>by
  rcases (hf b hb).2.2.2.1 with z | z
  ·exact I.ok.noex b o e z
  ·exact absurd (Nat.lt_of_lt_of_le (Heap.lt_size (I.ok.bs b o e).1) z) (Nat.lt_irrefl _)
 exfs:=fun b hb z=>(List.mem_cons.mp (I.stkSub b z)).elim (fun e=>(hf b hb).2.1 e) fun e=>(hf b hb).2.2.1 e
 funs:=I.stack
 frf:=I.stkFree
theorem comp_inv (I : Inv X pins σ H s) (hc : X.calm = true) (hf : ∀ b ∈ fp,FpOk X pins H b) (hl : ∀ b ∈ fp,b < s.heap.objs.size) (hkind : scope.kind = .function) (hcell : ∀ y ∈ scope.names,y.2 ≠ .cell)
  (h1 : ∀ y c,cl.lookup y = some c -> X.env.cells.lookup y = some c) (h2 : ∀ y ∈ scope.names,y.2 = .free -> ∃ c,cl.lookup y.1 = some c)
  (hN : N.length = k + fv.length) (hfv : fv.map (fun j=>X.N[j]?) = (N.drop k).map some) (hk : (N.drop k).map X.env.kindOf = (N.drop k).map fun _=>some .cell) (hfl : ∀ y ∈ N.drop k,scope.names.lookup y = some .free)
  {h' : Heap} {tk : Nat} (hn : h'.Ns s.heap.objs.size fun _=>none) (hb : ∀ b o,s.heap.get? b = some o -> h'.get? b = some o) :
  Inv (compCx X N scope cl s.heap.objs.size fp s H) [] (comp0 k fv σ) H { s with heap:=h',toks:=tk } where
 ok:=comp_ok I hc hf hl hkind hcell h1 h2
 os:=rfl
 bare:=I.bare
 base:=Un.kept hb
 loc:=⟨_,hn,fun i x v e1 e2 e3=>by
  have hik : k <= i:=by
   apply Nat.le_of_not_lt
   intro z
   have : (comp0 k fv σ)[i]? = some none:=by
    unfold comp0
    rw [List.getElem?_append_left (by simpa using z)]
    simp [z]
   rw [this] at e2
   cases e2
  obtain ⟨j,rfl⟩ : ∃ j,i = k + j:=⟨i - k,by omega⟩
  have e2' : (fv.map fun j=>σ.getD j none)[j]? = some (some v):=by
   have : (comp0 k fv σ)[k + j]? = (fv.map fun j=>σ.getD j none)[j]?:=by
    unfold comp0
    rw [List.getElem?_append_right (by simp)]
    simp
   rw [← this]
   exact e2
  rw [List.getElem?_map] at e2'
  cases hj : fv[j]? with
  | none=>rw [hj] at e2'; cases e2'
  | some m =>
   rw [hj] at e2'
   have e4 : σ.getD m none = some v:=Option.some.inj e2'
   have e5 : (N.drop k)[j]? = some x:=by rw [List.getElem?_drop]; exact e1
   have e6 : X.N[m]? = some x:=by
    have a:=congrArg (fun l=>l[j]?) hfv
    simp only [List.getElem?_map,hj,e5,Option.map_some] at a
    exact Option.some.inj a
   have e7 : X.env.kindOf x = some .cell:=by
    have a:=congrArg (fun l=>l[j]?) hk
    simp only [List.getElem?_map,e5,Option.map_some] at a
    exact Option.some.inj a
   have e8 : σ[m]? = some (some v):=by
    cases q : σ[m]? with
    | none=>rw [List.getD,q] at e4; cases e4
    | some o=>rw [List.getD,q] at e4; rw [show o = some v from e4]
   obtain ⟨m0,hm0,hl0⟩:=I.loc
   obtain ⟨u,ru,lk⟩:=hl0 m x v e6 e8 (.inr (.inl e7))
   refine ⟨u,ru,?_⟩
   rcases lk with ⟨z,_⟩ | ⟨_,c,hcc,ic⟩
   ·rw [e7] at z; cases z
   ·have mem : x ∈ N.drop k:=List.mem_of_getElem? e5
    have fr:=hfl x mem
    obtain ⟨c',hc'⟩:=h2 (x,.free) (mem_lookup fr) rfl
    have ec:=h1 x c' hc'
    rw [hcc] at ec
    cases ec
    refine .inr ⟨.inl (relabel_cell I.ok.kind fr e7),c,hc',?_⟩
    obtain ⟨o,ho,hd⟩:=ic
    exact ⟨o,hb _ _ ho,hd⟩⟩
 cell:=fun x c e=>by
  obtain ⟨v,o,ho,hd⟩:=I.cell x c (h1 x c e)
  exact ⟨v,o,hb _ _ ho,hd⟩
 free:=I.hok.fresh (Nat.le_refl _)
 freeC:=fun x c e=>I.freeC x c (h1 x c e)
 pin:=fun p hp=>nomatch hp
 hok:=I.hok.kept hb
 len:=by
  show (comp0 k fv σ).length = N.length
  unfold comp0
  simp [hN]
end
end Sb
namespace Sb
open PySem PySem.Spec PyProof.Rows L2
section
variable {X : Cx}
set_option maxHeartbeats 1000000 in
theorem comp_block {elt iter tg : Expr} {ifs : List Expr} {scope : Scope} {pos : Pos} {g : TG} {tt : TT} {te : TE} {N : List Str} {k : Nat} {fv : List Nat} {cl : List (Str × Addr)}
  {pins : List (Addr × Obj)} {σ : L2.St} {H : Hp} {s : Shared} {it : Addr} {fp : List Addr} {tn : Nat -> Heap -> Prop} {J : It} {Q : VK} {RR : Value -> Addr -> Result -> Shared -> Prop} {E : Value -> Shared -> Prop}
  (hc : X.calm = true) (hg : ∀ cl C fp s H,PG (compCx X N scope cl C fp s H) tg g) (ht : ∀ cl C fp s H,PTs (compCx X N scope cl C fp s H) ifs tt) (he : ∀ cl C fp s H,PE (compCx X N scope cl C fp s H) elt te)
  (hw : ∀ r x H Q,g x (List.replicate k none ++ r) H Q -> g x (List.replicate k none ++ r) H fun σ4 H4=>Q σ4 H4 /\ Weaker σ4 (List.replicate k none ++ r))
  (hN : N.length = k + fv.length) (hfv : fv.map (fun j=>X.N[j]?) = (N.drop k).map some) (hk : (N.drop k).map X.env.kindOf = (N.drop k).map fun _=>some .cell) (hfl : ∀ y ∈ N.drop k,scope.names.lookup y = some .free)
  (hcell : ∀ y ∈ scope.names,y.2 ≠ .cell) (hkind : scope.kind = .function) (h1 : ∀ y c,cl.lookup y = some c -> X.env.cells.lookup y = some c) (h2 : ∀ y ∈ scope.names,y.2 = .free -> ∃ c,cl.lookup y.1 = some c)
  (I : Inv X pins σ H s) (T : Turn X.prog X.w X.K tg J fp it tn) (st : tn 0 s.heap) (f : ∀ b ∈ fp,FpOk X pins H b)
  (body : ∀ d,H d = none -> ∃ (n : Nat) (W : Nat -> List V -> Hp -> Prop),n <= sizeLine /\ W 0 [] (upd H d (.lst [])) ∧
   (∀ i ys H2,i < n -> W i ys H2 -> H2 d = some (.lst ys) -> J.go i H2 /\ ∀ x H3,J.yld i H2 x H3 -> g x (comp0 k fv σ) H3 fun σ4 H4=>tt σ4 H4 fun b H5 =>
    if b = true then te σ4 H5 fun y H6=>H6 d = some (.lst ys) /\ W (i + 1) (ys ++ [y]) (upd H6 d (.lst (ys ++ [y]))) else H5 d = some (.lst ys) /\ W (i + 1) ys H5) ∧
   (∀ ys H2,W n ys H2 -> H2 d = some (.lst ys) -> J.stop n H2 /\ Q (.ref d) H2))
  (hR : ∀ (D C : Addr) (H' : Hp) (s' : Shared),(∃ m,s'.heap.Ns C m) -> FpOk X pins H' C -> Q (.ref D) H' -> (∀ h',Heap.SameBut C s'.heap h' -> Inv X pins σ H' { s' with heap:=h' }) -> RR (.ref D) C (.ok .next) s') :
  wpAny (model X.prog X.w) X.A (newList []) (fun acc s3=>wpAny (model X.prog X.w) X.A (newFunctionEnv scope X.env.globals cl [] X.env.qual none .none (some X.env)) (fun cenv s4 =>
   codeAny (model X.prog X.w) X.A (.compStart (.ListComp elt [⟨tg,iter,ifs,0⟩] scope pos) 0 (.ref it) acc { cenv with scope:=relabel scope X.env }) (RR acc cenv.locals) s4) E s3) E s:=by
 refine wpAny_newObj_type ?_
 have I3:=I.lnew (its:=[]) (ys:=[]) (t':=s.toks) .nil (Nat.zero_le _)
 have fresh:=I.fresh
 generalize hD : s.heap.objs.size = D at I3 fresh ⊢
 have f3 : ∀ b ∈ fp,FpOk X pins (upd H D (.lst [])) b:=fun b hb=>by
  refine ⟨?_,(f b hb).2⟩
  have hne : b ≠ D:=by
   obtain ⟨o,e,_⟩:=T.obj 0 _ st b hb
   rw [← hD]
   exact Nat.ne_of_lt (Heap.lt_size e)
  rw [upd_ne hne]
  exact (f b hb).1
 have up3 : ∀ b o,s.heap.get? b = some o -> (s.heap.push { cls:=.type "list",data:=.seq ([] : List Value).toArray }).get? b = some o:=fun b o e=>Heap.get?_push_of_some _ e
 have st3 : tn 0 (s.heap.push { cls:=.type "list",data:=.seq ([] : List Value).toArray }):=T.keep 0 _ _ st fun b _ o e=>up3 b o e
 have hl3 : ∀ b ∈ fp,b < (s.heap.push { cls:=.type "list",data:=.seq ([] : List Value).toArray }).objs.size:=fun b hb=>by
  obtain ⟨o,e,_⟩:=T.obj 0 _ st3 b hb
  exact Heap.lt_size e
 obtain ⟨n,W,hn,w0,step,fin⟩:=body D fresh
 generalize hS3 : ({ s with heap:=s.heap.push { cls:=.type "list",data:=.seq ([] : List Value).toArray },toks:=s.toks } : Shared) = s3 at I3
 have eS3 : s3.heap = s.heap.push { cls:=.type "list",data:=.seq ([] : List Value).toArray }:=by rw [← hS3]
 rw [← eS3] at st3 hl3
 refine wpAny_newFunctionEnv hcell (fun y hy=>nomatch hy) (fun h4 hns hsb=>?_) hkind
 have old : ∀ b o,s3.heap.get? b = some o -> h4.get? b = some o:=fun b o e=>(hsb.2 b (Nat.ne_of_lt (Heap.lt_size e))).trans (Heap.get?_push_of_some _ e)
 have I4:=comp_inv (N:=N) (tk:=s3.toks + ([] : List (Str × Value)).length) I3 hc f3 hl3 hkind hcell h1 h2 hN hfv hk hfl (h':=h4) hns old
 have st4 : tn 0 h4:=T.keep 0 _ _ st3 fun b _ o e=>old b o e
 have hCn : s3.heap.get? s3.heap.objs.size = none:=by
  cases e : s3.heap.get? s3.heap.objs.size with
  | none=>rfl
  | some o=>exact absurd (Heap.lt_size e) (Nat.lt_irrefl _)
 generalize hC : s3.heap.objs.size = C at I4 hCn ⊢
 have stat : ∀ {H' : Hp} {ps : List (Addr × Obj)},(∀ b ∈ fp,H' b = none) -> (∀ p ∈ ps,p.1 ∉ fp) -> ∀ b ∈ fp,FpOk (compCx X N scope cl C fp s3 (upd H D (.lst []))) ps H' b:=fun {H' ps} hn hp b hb =>
  ⟨hn b hb,by rw [← hC]; exact Nat.ne_of_lt (hl3 b hb),fun z=>(List.mem_cons.mp (I3.stkSub b z)).elim (fun e=>(f3 b hb).2.1 e) fun e=>(f3 b hb).2.2.1 e,.inl hb,fun x c e=>(f3 b hb).2.2.2.2.1 x c (h1 x c e),fun p q z=>hp p q (by rw [z]; exact hb)⟩
 have loop : ∀ s4 : Shared,s4 = { s3 with heap:=h4,toks:=s3.toks + ([] : List (Str × Value)).length } →
   codeAny (model X.prog X.w) X.A (.compLoop (.ListComp elt [⟨tg,iter,ifs,0⟩] scope pos) 0 (.ref it) (.ref D) (compEnvC scope cl C X.env)) (RR (.ref D) C) s4:=by
  rintro s4 rfl
  refine comp_loop (fun m s'=>∃ i ys H',Inv (compCx X N scope cl C fp s3 (upd H D (.lst []))) [] (comp0 k fv σ) H' s' /\ tn i s'.heap /\ (∀ b ∈ fp,H' b = none) /\ i <= n /\ m = n + 1 - i /\ ys.length <= i /\ H' D = some (.lst ys) /\ W i ys H') ?_ (n + 1)
   ⟨0,[],_,I4,st4,fun b hb=>(f3 b hb).1,Nat.zero_le _,rfl,Nat.le_refl _,upd_same,w0⟩
  rintro m s5 ⟨i,ys,H5,I5,st5,fr5,hi,rfl,hys,hD5,w5⟩
  by_cases hlt : i < n
  ·obtain ⟨go,stp⟩:=step i ys H5 hlt w5 hD5
   refine thn (T.item (compCx X N scope cl C fp s3 (upd H D (.lst []))) rfl rfl rfl rfl i [] s5 _ H5 noX I5 (stat fr5 (by simp)) st5 go) fun r s6 ⟨u,er,h6⟩=>?_
   subst er
   refine thn h6 fun _ s7 ⟨x,H7,I7,r7,y7,st7,fr7⟩=>?_
   have I7':=I7.pinned (stat fr7 (by simp)) (T.obj _ _ st7)
   refine thn (hg cl C fp s3 _ _ s7 _ H7 x u _ I7' r7 (hw _ x H7 _ (stp x H7 y7))) fun _ s8 ⟨σ8,H8,I8,q8,wk⟩=>?_
   refine thn (ht cl C fp s3 _ _ s8 σ8 H8 _ I8 q8) fun ok s9 ⟨H9,I9,q9⟩=>?_
   have back : ∀ {σ' : L2.St} {H' : Hp} {s' : Shared},Inv (compCx X N scope cl C fp s3 (upd H D (.lst []))) ([] ++ pinsAt fp s7.heap) σ' H' s' -> Weaker σ' (comp0 k fv σ) →
     Inv (compCx X N scope cl C fp s3 (upd H D (.lst []))) [] (comp0 k fv σ) H' s' /\ tn (i + 1) s'.heap /\ ∀ b ∈ fp,H' b = none:=fun {σ' H' s'} I' wk'=>by
    refine ⟨I'.unpinned.weak wk'.1 wk'.2,T.keep _ _ _ st7 fun b hb o e=>(I'.pin (b,o) (List.mem_append_right _ (List.mem_append_right _ (mem_pinsAt hb e)))).1,fun b hb=>?_⟩
    obtain ⟨o,e,_⟩:=T.obj _ _ st7 b hb
    exact (I'.pin (b,o) (List.mem_append_right _ (List.mem_append_right _ (mem_pinsAt hb e)))).2.1
   cases ok with
   | false =>
    rw [if_neg Bool.false_ne_true] at q9 ⊢
    obtain ⟨hD9,w9⟩:=q9
    obtain ⟨a1,a2,a3⟩:=back I9 wk
    exact ⟨n + 1 - (i + 1),by omega,i + 1,ys,H9,a1,a2,a3,hlt,rfl,Nat.le_succ_of_le hys,hD9,w9⟩
   | true =>
    rw [if_pos rfl] at q9 ⊢
    refine thn (he cl C fp s3 _ _ s9 σ8 H9 _ I9 q9) fun y s10 ⟨yv,H10,I10,r10,hD10,w10⟩=>?_
    refine thn (mt_append _ s10 σ8 H10 (.ref D) [yv] (.ref D) [y] (fun _ H'=>H' = upd H10 D (.lst (ys ++ [yv]))) I10 rfl (.cons r10 .nil) ⟨D,ys,yv,rfl,rfl,hD10,Nat.lt_of_le_of_lt hys (Nat.lt_of_lt_of_le hlt hn),rfl⟩) fun _ s11 ⟨_,H11,I11,_,e11⟩=>?_
    subst e11
    obtain ⟨a1,a2,a3⟩:=back I11 wk
    exact ⟨n + 1 - (i + 1),by omega,i + 1,ys ++ [yv],_,a1,a2,a3,hlt,rfl,by rw [List.length_append]; show ys.length + 1 <= i + 1; omega,upd_same,w10⟩
  ·obtain rfl : i = n:=Nat.le_antisymm hi (Nat.not_lt.mp hlt)
   obtain ⟨stop,q⟩:=fin ys H5 w5 hD5
   refine thn (T.done (compCx X N scope cl C fp s3 (upd H D (.lst []))) rfl rfl rfl rfl i [] s5 _ H5 noX I5 (stat fr5 (by simp)) st5 stop) fun r s6 ⟨er,I6⟩=>?_
   subst er
   refine hR D C H5 s6 ?_ (I3.fpOk (by rw [hC]; exact Nat.le_refl _) I6.free) q fun h' hs'=>?_
   ·obtain ⟨m,hm,_⟩:=I6.loc
    exact ⟨m,hm⟩
   ·have hs2 : ∀ b,b ≠ C -> h'.get? b = s6.heap.get? b:=fun b hb=>hs'.2 b hb
    refine I3.call' (s':={ s6 with heap:=h' }) (ch:=fp) ?_ (un_but I6.base hCn hs2) (hok_but I6.hok I6.free hs2) I6.bare fun b hb=>?_
    ·exact I6.os
    ·exact ⟨(f3 b hb).2.2.2.1,(f3 b hb).2.1,(f3 b hb).2.2.2.2.1,(f3 b hb).2.2.2.2.2⟩
 exact codeAny_compStart_list (loop _ rfl) (T.self _ 0 _ _ _ st4 (loop _ rfl))
theorem pe_comp {elt iter tg : Expr} {ifs : List Expr} {scope : Scope} {pos : Pos} {wi : TI} {g : TG} {tt : TT} {te : TE} {N : List Str} {k : Nat} {fv : List Nat}
  (hc : X.calm = true) (hi : PI X tg iter wi) (hg : ∀ cl C fp s H,PG (compCx X N scope cl C fp s H) tg g) (ht : ∀ cl C fp s H,PTs (compCx X N scope cl C fp s H) ifs tt) (he : ∀ cl C fp s H,PE (compCx X N scope cl C fp s H) elt te)
  (hw : ∀ r x H Q,g x (List.replicate k none ++ r) H Q -> g x (List.replicate k none ++ r) H fun σ4 H4=>Q σ4 H4 /\ Weaker σ4 (List.replicate k none ++ r))
  (hN : N.length = k + fv.length:=by rfl) (hfv : fv.map (fun j=>X.N[j]?) = (N.drop k).map some:=by rfl) (hk : (N.drop k).map X.env.kindOf = (N.drop k).map (fun _=>some .cell):=by rfl)
  (hfl : ∀ y ∈ N.drop k,scope.names.lookup y = some .free:=by decide +kernel) (hfr : ∀ y ∈ scope.names,y.2 = .free -> y.1 ∈ N.drop k:=by decide +kernel)
  (hcell : ∀ y ∈ scope.names,y.2 ≠ .cell:=by decide +kernel) (hkind : scope.kind = .function:=by rfl) (hnames : ∀ y ∈ scope.names,y.2 = .local -> scope.names.lookup y.1 = some .local:=by decide +kernel)
  (hs : ∀ x,foldedSetIterable iter X.env x = pure x:=by intro _; rfl) : PE X (.ListComp elt [⟨tg,iter,ifs,0⟩] scope pos) (tComp wi g tt te k fv):=by
 intro pins s σ H Q I h
 have kc : ∀ y ∈ N.drop k,X.env.kindOf y = some .cell:=fun y hy=>by
  obtain ⟨j,hj⟩:=List.getElem?_of_mem hy
  have a:=congrArg (fun l=>l[j]?) hk
  simp only [List.getElem?_map,hj,Option.map_some] at a
  exact Option.some.inj a
 obtain ⟨cl,hclos,h1,h2⟩:=closureFor_ok (env:=X.env) (scope:=scope) fun y hy hf=>I.ok.has y.1 (.inl (kc y.1 (hfr y hy hf)))
 rw [eval_ListComp]
 refine wpAny_comprehension_free (use:=none) rfl hs hclos hkind hnames (thn (hi pins s σ H _ I h) fun xv s1 h1'=>thn h1' fun itv s2 h2'=>?_)
 obtain ⟨it,fp,tn,J,H2,e,I2,T,st2,f2,body⟩:=h2'
 subst e
 exact comp_block (RR:=fun acc C=>compPost (model X.prog X.w) X.A X.xe none (EP X pins σ Q) acc C) hc hg ht he hw hN hfv hk hfl hcell hkind h1 h2 I2 T st2 f2 body fun D C H' s' ⟨m,hm⟩ _ q iv=>⟨m,hm,fun h' hs'=>⟨.ref D,H',iv h' hs',rfl,q⟩⟩
theorem weak_name : ∀ (r : L2.St) (x : V) (H : Hp) (Q : L2.St -> Hp -> Prop),gName 0 x (List.replicate 1 none ++ r) H Q -> gName 0 x (List.replicate 1 none ++ r) H fun σ4 H4=>Q σ4 H4 /\ Weaker σ4 (List.replicate 1 none ++ r):=fun r x H Q h =>
 ⟨h,by simp,fun i v e=>by
  cases i with
  | zero=>cases e
  | succ j=>exact e⟩
theorem weak_pair {K : PySem.W.Frag} : ∀ (r : L2.St) (x : V) (H : Hp) (Q : L2.St -> Hp -> Prop),gTup K 2 (gCons (gName 0) (gCons (gName 1) gNil)) x (List.replicate 2 none ++ r) H Q →
  gTup K 2 (gCons (gName 0) (gCons (gName 1) gNil)) x (List.replicate 2 none ++ r) H fun σ4 H4=>Q σ4 H4 /\ Weaker σ4 (List.replicate 2 none ++ r):=by
 rintro r x H Q ⟨a,xs,e1,hq,hl,v,t,e2,v',t',e3,e4,q⟩
 refine ⟨a,xs,e1,hq,hl,v,t,e2,v',t',e3,e4,q,by simp,fun i z e=>?_⟩
 cases i with
 | zero=>cases e
 | succ j =>
  cases j with
  | zero=>cases e
  | succ j=>exact e
end
theorem nameyes {x : V} {σ : L2.St} {H : Hp} {A B : L2.St -> Hp -> Prop} (h : A (σ.set 0 (some x)) H) : gName 0 x σ H fun σ4 H4=>tYes σ4 H4 fun b H5=>if b = true then A σ4 H5 else B σ4 H5:=by
 show if true = true then A (σ.set 0 (some x)) H else B (σ.set 0 (some x)) H
 exact iteT h
end Sb
namespace Sb
open PySem PySem.Spec PyProof.Rows L2
section
variable {X : Cx}
def rIxA (K : PySem.W.Frag) : R2:=fun x y H Q=>∃ p xs i v,x = .ref p /\ y = .int i /\ (SqL K H p xs \/ SqT K H p xs) /\ atI xs i = some v /\ Q v H
theorem ix_any : IxR X (rIxA X.K):=fun vl sl pins s σ H x y v u Q I rx ry ⟨p,xs,i,z,e1,e2,h,ea,q⟩ hs=>by
 rcases h with h | h
 ·exact ix_list vl sl pins s σ H x y v u Q I rx ry ⟨p,xs,i,z,e1,e2,h,ea,q⟩ hs
 ·exact ix_tup vl sl pins s σ H x y v u Q I rx ry ⟨p,xs,i,z,e1,e2,h,ea,q⟩ hs
end
section
variable {X : Cx} {K : PySem.W.Frag}
theorem ix_tK (h : X.K = K:=by rfl) : IxR X (rIxT K):=h ▸ ix_tup
theorem ix_lK (h : X.K = K:=by rfl) : IxR X (rIxL K):=h ▸ ix_list
theorem ix_aK (h : X.K = K:=by rfl) : IxR X (rIxA K):=h ▸ ix_any
theorem ix_p0K (h : X.K = K:=by rfl) : IxR X (rP0 K):=h ▸ ix_p0
theorem ix_p1K (h : X.K = K:=by rfl) : IxR X (rP1 K):=h ▸ ix_p1
end
theorem nameyes0 {x : V} {σ : L2.St} {H : Hp} {A B : L2.St -> Hp -> Prop} {t : TT} (h : t (σ.set 0 (some x)) H fun b H5=>if b = true then A (σ.set 0 (some x)) H5 else B (σ.set 0 (some x)) H5) :
  gName 0 x σ H fun σ4 H4=>t σ4 H4 fun b H5=>if b = true then A σ4 H5 else B σ4 H5:=h
theorem pairyes {K : PySem.W.Frag} {p : Addr} {u v : V} {σ : L2.St} {H : Hp} {A B : L2.St -> Hp -> Prop} (hp : SqT K H p [u,v]) (h : A ((σ.set 0 (some u)).set 1 (some v)) H) :
  gTup K 2 (gCons (gName 0) (gCons (gName 1) gNil)) (.ref p) σ H fun σ4 H4=>tYes σ4 H4 fun b H5=>if b = true then A σ4 H5 else B σ4 H5:=by
 refine ⟨p,[u,v],rfl,hp,rfl,u,[v],rfl,v,[],rfl,rfl,?_⟩
 show if true = true then A ((σ.set 0 (some u)).set 1 (some v)) H else B ((σ.set 0 (some u)).set 1 (some v)) H
 exact iteT h
end Sb
namespace Sb
open PySem PySem.Spec PyProof.Rows L2
section
variable {X : Cx}
end
end Sb
namespace Sb
open PySem PySem.Builtin.SmallTypes
section
variable {prog : Program} {w : World} {A : Around} {E : Value -> Shared -> Prop} {s : Shared}
theorem next_tup {it t : Addr} {j : Nat} {ys : Array Value} {y : Value} {Q : Value -> Shared -> Prop} (ti : s.heap.IsTupleIter it t j) (tt : s.heap.IsTuple t ys) (ey : ys[j]? = some y)
  (hQ : ∀ h',h'.IsTupleIter it t (j + 1) -> Heap.SameBut it s.heap h' -> Q y { s with heap:=h' }) : wpAny (model prog w) A (nextOf (.ref it)) Q E s:=by
 obtain ⟨oi,ei,ci,di⟩:=id ti
 obtain ⟨ot,et,_,nt,dt⟩:=tt
 unfold nextOf
 refine wpAny_bind (wpAny_callSpecial?_slot (name:=Str.ofString "__next__") ti.typeIs F.slot_tuple_iterator_next (wpAny_call_entry F.slot_tuple_iterator_next ti.typeIs F.entry_tuple_iterator_next ?_ (F.args_tuple_iterator_next_1 _)))
 show wpAny _ _ (field (.ref it) 0 >>= _) _ _ _
 refine wpAny_bind (wpAny_field ei di (x:=.ref t) rfl ?_)
 show wpAny _ _ (if (Value.ref t == Value.none) = true then _ else _) _ _ _
 rw [if_neg (show ¬ ((Value.ref t == Value.none) = true) from fun q=>Bool.false_ne_true q)]
 show wpAny _ _ (field (.ref it) 1 >>= _) _ _ _
 refine wpAny_bind (wpAny_field ei di (x:=.int j 0) rfl ?_)
 show wpAny _ _ (seqItems? (.ref t) >>= _) _ _ _
 refine wpAny_bind (wpAny_seqItems et dt ?_)
 simp only [Int.toNat_natCast,ey]
 refine wpAny_bind (wpAny_setField ei di (by simp) (wpAny_pure ⟨y,rfl,wpAny_pure (hQ _ ?_ (Heap.SameBut.update ..))⟩))
 refine ⟨_,Heap.get?_update_self _ ei (Obj.isFreed_of_fields (Obj.data_mapFields di _)),(Obj.cls_mapFields ..).trans ci,?_⟩
 rw [Obj.data_mapFields di]
 simp [rawInt]
theorem next_tup_end {it t : Addr} {j : Nat} {ys : Array Value} {Q : Value -> Shared -> Prop} (hh : A.handled = none) (ti : s.heap.IsTupleIter it t j) (tt : s.heap.IsTuple t ys) (ey : ys[j]? = none)
  (hE : ∀ h' e,Heap.ExtBut it s.heap h' -> (∃ o,h'.get? e = some o /\ o.cls = .type "StopIteration") -> E (.ref e) { s with heap:=h' }) : wpAny (model prog w) A (nextOf (.ref it)) Q E s:=by
 obtain ⟨oi,ei,ci,di⟩:=id ti
 obtain ⟨ot,et,_,nt,dt⟩:=tt
 unfold nextOf
 refine wpAny_bind (wpAny_callSpecial?_slot (name:=Str.ofString "__next__") ti.typeIs F.slot_tuple_iterator_next (wpAny_call_entry F.slot_tuple_iterator_next ti.typeIs F.entry_tuple_iterator_next ?_ (F.args_tuple_iterator_next_1 _)))
 show wpAny _ _ (field (.ref it) 0 >>= _) _ _ _
 refine wpAny_bind (wpAny_field ei di (x:=.ref t) rfl ?_)
 show wpAny _ _ (if (Value.ref t == Value.none) = true then _ else _) _ _ _
 rw [if_neg (show ¬ ((Value.ref t == Value.none) = true) from fun q=>Bool.false_ne_true q)]
 show wpAny _ _ (field (.ref it) 1 >>= _) _ _ _
 refine wpAny_bind (wpAny_field ei di (x:=.int j 0) rfl ?_)
 show wpAny _ _ (seqItems? (.ref t) >>= _) _ _ _
 refine wpAny_bind (wpAny_seqItems et dt ?_)
 simp only [Int.toNat_natCast,ey]
 refine wpAny_bind (wpAny_rule (wpAny_bind (wpAny_setField ei di (by simp) ?_)))
 show wpAny _ _ (newExc (.type "StopIteration") [] >>= _) _ _ _
 refine wpAny_bind ?_
 simp only [newExc,newTuple]
 refine wpAny_bind (wpAny_newObj_type ?_ (by size_fits))
 refine wpAny_bind (m:=firstArgMember _ _) (wpAny_of_eq (a:=Value.none) (by first | rfl | simp only [firstArgMember]) ?_)
 refine wpAny_newObj_type ?_ (by size_fits)
 simp only [raiseNew]
 refine wpAny_bind (wpAny_handled ?_)
 first | rw [show A.in1.handled = none from hh] | rw [hh]
 exact wpAny_bind (wpAny_pure (wpAny_throw (hE _ _ (((Heap.SameBut.update ..).extBut.push _).push _) ⟨_,Heap.get?_push_size _ rfl,rfl⟩)))
theorem draws_tup (hh : A.handled = none) (it t : Addr) (ne : t ≠ it) (ys : Array Value) :
  Draws prog w A it [it,t] ys.size (fun i x=>ys[i]? = some x) (fun i h=>h.IsTupleIter it t i /\ h.IsTuple t ys) where
 live:=fun i h st=>by
  obtain ⟨⟨o,e,_⟩,_⟩:=st
  exact ⟨o,e⟩
 frame:=fun i h h' st k=>by
  obtain ⟨⟨o,e,r⟩,⟨o',e',r'⟩⟩:=st
  exact ⟨⟨o,k it (by simp) o e,r⟩,⟨o',k t (by simp) o' e',r'⟩⟩
 item:=fun i s Q E lt st hQ=>next_tup st.1 st.2 (Array.getElem?_eq_getElem lt) fun h' a b=>hQ _ h' s.toks (Array.getElem?_eq_getElem lt) ⟨a,st.2.extBut b.extBut ne⟩ b
 done:=fun s Q E st hE=>next_tup_end hh st.1 st.2 (Array.getElem?_eq_none (Nat.le_refl _)) hE
end
structure Off (z TI TO i1 i2 : Addr) (f1 f2 : List Addr) : Prop where
 a1 : TI ≠ z
 a2 : TO ≠ z
 a3 : i1 ≠ z
 a4 : i2 ≠ z
 a5 : TI ≠ TO
 a6 : TI ≠ i1
 a7 : TI ≠ i2
 a8 : TO ≠ i1
 a9 : TO ≠ i2
 b1 : i1 ≠ i2
 z1 : z ∉ f1
 o1 : TO ∉ f1
 n1 : i2 ∉ f1
 z2 : z ∉ f2
 o2 : TO ∉ f2
 n2 : i1 ∉ f2
section
variable {prog : Program} {w : World} {A : Around} {E : Value -> Shared -> Prop} {s : Shared} {z TI TO i1 i2 : Addr} {f1 f2 : List Addr} {n1 n2 : Nat} {P1 P2 : Nat -> Value -> Prop} {S1 S2 : Nat -> Heap -> Prop}
set_option maxHeartbeats 1000000 in
theorem zipD_next {k : Nat} {a b : Value} {Q : Value -> Shared -> Prop} (D : Off z TI TO i1 i2 f1 f2) (D1 : Draws prog w A i1 f1 n1 P1 S1) (D2 : Draws prog w A i2 f2 n2 P2 S2)
  (hz : IsZip s.heap z TI TO .none) (hTI : IsPair s.heap TI (.ref i1) (.ref i2)) (hTO : IsPair s.heap TO a b) (c1 : S1 k s.heap) (c2 : S2 k s.heap) (l1 : k < n1) (l2 : k < n2)
  (hQ : ∀ x y h' tk,P1 k x -> P2 k y -> IsZip h' z TI TO (rawInt s.heap.objs.size) -> IsPair h' TO x y -> S1 (k + 1) h' -> S2 (k + 1) h' -> IsPair h' s.heap.objs.size x y -> h'.objs.size = s.heap.objs.size + 1 →
   (∀ c o,c ≠ z -> c ≠ TO -> c ≠ i1 -> c ≠ i2 -> s.heap.get? c = some o -> h'.get? c = some o) -> Q (.ref s.heap.objs.size) { s with heap:=h',toks:=tk }) :
  wpAny (model prog w) A (Builtin.«zip.__next__» ⟨[.ref z],[]⟩) (fun fin s'=>∃ v,fin = .done (.ret v) /\ Q v s') E s:=by
 show wpAny _ _ (field (.ref z) 2 >>= _) _ _ _
 refine wpAny_bind (wpAny_field hz rfl (x:=.bool false) rfl ?_)
 show wpAny _ _ (field (.ref z) 3 >>= _) _ _ _
 refine wpAny_bind (wpAny_field hz rfl (x:=.ref TI) rfl ?_)
 refine wpAny_bind (wpAny_seqItems hTI rfl ?_)
 show wpAny _ _ (ownedTupleIsFree (.ref z) >>= _) _ _ _
 refine wpAny_bind ?_
 unfold ownedTupleIsFree
 refine wpAny_bind (wpAny_field hz rfl (x:=.none) rfl (wpAny_pure ?_))
 simp only [if_true]
 refine wpAny_bind (wpAny_rule ?_)
 refine wpAny_bind (wpAny_field hz rfl (x:=.ref TO) rfl ?_)
 refine wpAny_bind (wpAny_setField_rec hz (by simp) fun g1 z1 s1=>?_)
 replace z1 : IsZip g1 z TI TO .ellipsis:=z1
 refine wpAny_bind ?_
 simp only [List.zipIdx_cons,List.zipIdx_nil,List.forIn_cons,List.forIn_nil]
 refine wpAny_bind (wpAny_bind (wpAny_onRaise ?_))
 show wpAny _ _ (nextOf (.ref i1) >>= _) _ _ _
 have c11 : S1 k g1:=D1.frame _ _ _ c1 fun b hb o e=>s1.extBut b o (fun q=>D.z1 (q ▸ hb)) e
 refine wpAny_bind (D1.item k _ _ _ l1 c11 fun x g2 tk2 p1 c12 s2=>wpAny_pure ?_)
 replace s2 : Heap.SameBut i1 g1 g2:=s2
 have t2 : IsPair g2 TO a b:=s2.extBut _ _ D.a8 (s1.extBut _ _ D.a2 hTO)
 refine wpAny_bind (wpAny_seqItems t2 rfl ?_)
 refine wpAny_bind (wpAny_updateSeq_pair t2 fun g3 t3 s3=>?_)
 replace t3 : IsPair g3 TO x b:=t3
 replace s3 : Heap.SameBut TO g2 g3:=s3
 refine wpAny_bind (wpAny_letGo (wpAny_pure ?_))
 refine wpAny_bind (wpAny_bind (wpAny_onRaise ?_))
 show wpAny _ _ (nextOf (.ref i2) >>= _) _ _ _
 have c23 : S2 k g3:=D2.frame _ _ _ c2 fun b hb o e=>s3.extBut b o (fun q=>D.o2 (q ▸ hb)) (s2.extBut b o (fun q=>D.n2 (q ▸ hb)) (s1.extBut b o (fun q=>D.z2 (q ▸ hb)) e))
 have c13 : S1 (k + 1) g3:=D1.frame _ _ _ c12 fun b hb o e=>s3.extBut b o (fun q=>D.o1 (q ▸ hb)) e
 refine wpAny_bind (D2.item k _ _ _ l2 c23 fun y g4 tk4 p2 c24 s4=>wpAny_pure ?_)
 replace s4 : Heap.SameBut i2 g3 g4:=s4
 have t4 : IsPair g4 TO x b:=s4.extBut _ _ D.a9 t3
 refine wpAny_bind (wpAny_seqItems t4 rfl ?_)
 refine wpAny_bind (wpAny_updateSeq_pair t4 fun g5 t5 s5=>?_)
 replace t5 : IsPair g5 TO x y:=t5
 replace s5 : Heap.SameBut TO g4 g5:=s5
 refine wpAny_bind (wpAny_letGo (wpAny_pure (wpAny_pure ?_)))
 refine wpAny_bind (wpAny_seqItems t5 rfl ?_)
 refine wpAny_bind (wpAny_newTuple ?_)
 have sz : g5.objs.size = s.heap.objs.size:=by rw [s5.1,s4.1,s3.1,s2.1,s1.1]
 have z5 : IsZip g5 z TI TO .ellipsis:=s5.extBut _ _ D.a2.symm (s4.extBut _ _ D.a4.symm (s3.extBut _ _ D.a2.symm (s2.extBut _ _ D.a3.symm z1)))
 have k5 : ∀ c o,c ≠ z -> c ≠ TO -> c ≠ i1 -> c ≠ i2 -> s.heap.get? c = some o -> g5.get? c = some o:=fun c o q1 q2 q3 q4 e =>
  s5.extBut _ _ q2 (s4.extBut _ _ q4 (s3.extBut _ _ q2 (s2.extBut _ _ q3 (s1.extBut _ _ q1 e))))
 have c15 : S1 (k + 1) g5:=D1.frame _ _ _ c13 fun b hb o e=>s5.extBut b o (fun q=>D.o1 (q ▸ hb)) (s4.extBut b o (fun q=>D.n1 (q ▸ hb)) e)
 have c25 : S2 (k + 1) g5:=D2.frame _ _ _ c24 fun b hb o e=>s5.extBut b o (fun q=>D.o2 (q ▸ hb)) e
 have zlt : z < g5.objs.size:=Heap.lt_size z5
 show wpAny _ _ (ownedTupleHandOut (.ref z) (.ref g5.objs.size) >>= _) _ _ _
 refine wpAny_bind ?_
 unfold ownedTupleHandOut
 have z6 : IsZip (g5.push { cls:=.type "tuple",data:=.seq #[x,y] }) z TI TO .ellipsis:=Heap.get?_push_of_some _ z5
 refine wpAny_bind (wpAny_setField_rec z6 (by simp) fun g7 z7 s7=>?_)
 replace z7 : IsZip g7 z TI TO (rawInt g5.objs.size):=z7
 refine wpAny_setField_rec z7 (by simp) fun g8 z8 s8=>?_
 replace z8 : IsZip g8 z TI TO (rawInt g5.objs.size):=z8
 have up : ∀ c o,c ≠ z -> g5.get? c = some o -> g8.get? c = some o:=fun c o q e=>s8.extBut _ _ q (s7.extBut _ _ q (Heap.get?_push_of_some _ e))
 have t8 : IsPair g8 g5.objs.size x y:=s8.extBut _ _ (Nat.ne_of_gt zlt) (s7.extBut _ _ (Nat.ne_of_gt zlt) (Heap.get?_push_size _ rfl))
 have sz8 : g8.objs.size = g5.objs.size + 1:=by rw [s8.1,s7.1,Heap.size_push]
 rw [sz] at z8 t8 sz8
 refine wpAny_pure ⟨_,rfl,?_⟩
 show Q (.ref g5.objs.size) _
 rw [sz]
 exact hQ x y g8 tk4 p1 p2 z8 (up _ _ D.a2 t5) (D1.frame _ _ _ c15 fun b hb o e=>up b o (fun q=>D.z1 (q ▸ hb)) e) (D2.frame _ _ _ c25 fun b hb o e=>up b o (fun q=>D.z2 (q ▸ hb)) e) t8 sz8
  fun c o q1 q2 q3 q4 e=>up c o q1 (k5 c o q1 q2 q3 q4 e)
theorem zipD_stop {k : Nat} {a b : Value} {Q : Fin -> Shared -> Prop} (D : Off z TI TO i1 i2 f1 f2) (D1 : Draws prog w A i1 f1 n1 P1 S1) (hz : IsZip s.heap z TI TO .none) (hTI : IsPair s.heap TI (.ref i1) (.ref i2)) (c1 : S1 n1 s.heap)
  (hE : ∀ h' e,(∀ c o,c ≠ z -> c ≠ i1 -> s.heap.get? c = some o -> h'.get? c = some o) -> (∃ o,h'.get? e = some o /\ o.cls = .type "StopIteration") -> E (.ref e) { s with heap:=h' }) :
  wpAny (model prog w) A (Builtin.«zip.__next__» ⟨[.ref z],[]⟩) Q E s:=by
 show wpAny _ _ (field (.ref z) 2 >>= _) _ _ _
 refine wpAny_bind (wpAny_field hz rfl (x:=.bool false) rfl ?_)
 show wpAny _ _ (field (.ref z) 3 >>= _) _ _ _
 refine wpAny_bind (wpAny_field hz rfl (x:=.ref TI) rfl ?_)
 refine wpAny_bind (wpAny_seqItems hTI rfl ?_)
 show wpAny _ _ (ownedTupleIsFree (.ref z) >>= _) _ _ _
 refine wpAny_bind ?_
 unfold ownedTupleIsFree
 refine wpAny_bind (wpAny_field hz rfl (x:=.none) rfl (wpAny_pure ?_))
 simp only [if_true]
 refine wpAny_bind (wpAny_rule ?_)
 refine wpAny_bind (wpAny_field hz rfl (x:=.ref TO) rfl ?_)
 refine wpAny_bind (wpAny_setField_rec hz (by simp) fun g1 z1 s1=>?_)
 replace z1 : IsZip g1 z TI TO .ellipsis:=z1
 refine wpAny_bind ?_
 simp only [List.zipIdx_cons,List.zipIdx_nil,List.forIn_cons,List.forIn_nil]
 refine wpAny_bind (wpAny_bind (wpAny_onRaise ?_))
 show wpAny _ _ (nextOf (.ref i1) >>= _) _ _ _
 have c11 : S1 n1 g1:=D1.frame _ _ _ c1 fun b hb o e=>s1.extBut b o (fun q=>D.z1 (q ▸ hb)) e
 refine wpAny_bind (D1.done _ _ _ c11 fun g2 e s2 he=>?_)
 obtain ⟨oe,eo,ce⟩:=he
 replace s2 : Heap.ExtBut i1 g1 g2:=s2
 have z2 : IsZip g2 z TI TO .ellipsis:=s2 _ _ D.a3.symm z1
 have ez : e ≠ z:=fun q=>by
  subst q
  rw [z2] at eo
  cases eo
  simp at ce
 exact wpAny_setField_rec z2 (by simp) fun g3 _ s3=>hE g3 e (fun c o q1 q3 h=>s3.extBut _ _ q1 (s2 _ _ q3 (s1.extBut _ _ q1 h))) ⟨oe,s3.extBut _ _ ez eo,ce⟩
theorem pyNext_zipD {k : Nat} {a b : Value} {Q : Option Value -> Shared -> Prop} (D : Off z TI TO i1 i2 f1 f2) (D1 : Draws prog w A.in1 i1 f1 n1 P1 S1) (D2 : Draws prog w A.in1 i2 f2 n2 P2 S2)
  (hz : IsZip s.heap z TI TO .none) (hTI : IsPair s.heap TI (.ref i1) (.ref i2)) (hTO : IsPair s.heap TO a b) (c1 : S1 k s.heap) (c2 : S2 k s.heap) (l1 : k < n1) (l2 : k < n2)
  (hQ : ∀ x y h' tk,P1 k x -> P2 k y -> IsZip h' z TI TO (rawInt s.heap.objs.size) -> IsPair h' TO x y -> S1 (k + 1) h' -> S2 (k + 1) h' -> IsPair h' s.heap.objs.size x y -> h'.objs.size = s.heap.objs.size + 1 →
   (∀ c o,c ≠ z -> c ≠ TO -> c ≠ i1 -> c ≠ i2 -> s.heap.get? c = some o -> h'.get? c = some o) -> Q (some (.ref s.heap.objs.size)) { s with heap:=h',toks:=tk }) : wpAny (model prog w) A (pyNext (.ref z)) Q E s:=by
 have hT : s.TypeIs (.ref z) "zip":=⟨_,hz,rfl⟩
 unfold pyNext
 exact wpAny_bind (wpAny_attempt (wpAny_callSpecial?_slot (name:=Str.ofString "__next__") hT F.slot_zip_next (wpAny_call_entry F.slot_zip_next hT F.entry_zip_next
   (zipD_next D D1 D2 hz hTI hTO c1 c2 l1 l2 fun x y h' tk p1 p2 q1 q2 q3 q4 q5 q6 q7=>wpAny_pure (hQ x y h' tk p1 p2 q1 q2 q3 q4 q5 q6 q7)) (F.args_zip_next_1 _))))
theorem pyNext_zipD_end {Q : Option Value -> Shared -> Prop} (D : Off z TI TO i1 i2 f1 f2) (D1 : Draws prog w A.in1 i1 f1 n1 P1 S1) (hz : IsZip s.heap z TI TO .none) (hTI : IsPair s.heap TI (.ref i1) (.ref i2)) (c1 : S1 n1 s.heap)
  (hQ : ∀ h',(∀ c o,c ≠ z -> c ≠ i1 -> s.heap.get? c = some o -> h'.get? c = some o) -> Q none { s with heap:=h' }) : wpAny (model prog w) A (pyNext (.ref z)) Q E s:=by
 have hT : s.TypeIs (.ref z) "zip":=⟨_,hz,rfl⟩
 unfold pyNext
 refine wpAny_bind (wpAny_attempt (wpAny_callSpecial?_slot (name:=Str.ofString "__next__") hT F.slot_zip_next (wpAny_call_entry F.slot_zip_next hT F.entry_zip_next
  (zipD_stop (k:=0) (a:=.none) (b:=.none) D D1 hz hTI c1 fun h' e hk he=>?_) (F.args_zip_next_1 _))))
 obtain ⟨o,ho,hc⟩:=he
 exact wpAny_bind (wpAny_isInstance (T:="StopIteration") (b:=true) ⟨o,ho,hc⟩ isSubtype_stop (wpAny_pure (hQ _ hk)))
end
abbrev zH1 (h : Heap) (t : Addr) : Heap:=h.push { cls:=.type "tuple_iterator",data:=.fields #[.ref t,.int 0 0] }
theorem meets_enumT (t : Addr) (ys : Array Value) (n : Nat) (dd : Option Addr) (sl : Array (Option Value)) : Meets (Builtin.«enumerate.__new__» ⟨[.type "enumerate",.ref t],[]⟩) (fun _ R s=>s.heap.get? t = some { cls:=.type "tuple",dict:=dd,data:=.seq ys n,slots:=sl } ∧
  R (.ok (.ret (.ref (zH1 s.heap t).objs.size))) { s with heap:=(zH1 s.heap t).push { cls:=.type "enumerate",data:=.fields #[.none,.bool false,.ref s.heap.objs.size,rawInt 0,.none,.none] } }) :=
 .of_wp fun prog w A R s h=>by
  obtain ⟨hp,g,d,tk,os⟩:=s
  obtain ⟨hl,h⟩:=h
  have hsub:=sub_enumerate
  have hL : Heap.IsTuple (Shared.heap ⟨hp,g,d,tk,os⟩) t ys:=⟨_,hl,rfl,n,rfl⟩
  wp_walk using wpAny_loadPart' hl
  refine wpAny_stack_any fun st=>wpAny_pure ?_
  split
  ·rename_i c _ _ _ _ _
   cases (c == Value.type "enumerate")
   ·wp_walk using wpAny_loadPart' hl,wpAny_pyIter_tuple hL
    exact ⟨_,rfl,h⟩
   ·wp_walk using wpAny_loadPart' hl,wpAny_pyIter_tuple hL
    exact ⟨_,rfl,h⟩
  ·wp_walk using wpAny_loadPart' hl,wpAny_pyIter_tuple hL
   exact ⟨_,rfl,h⟩
theorem call_enumT {prog : Program} {w : World} {A : Around} {E : Value -> Shared -> Prop} {s : Shared} {t : Addr} {ys : Array Value} {Q : Value -> Shared -> Prop} (ht : s.heap.IsTuple t ys)
  (h : ∀ h',IsEnum h' (s.heap.objs.size + 1) s.heap.objs.size 0 .none -> h'.IsTupleIter s.heap.objs.size t 0 -> h'.objs.size = s.heap.objs.size + 2 -> (∀ b o,s.heap.get? b = some o -> h'.get? b = some o) -> Q (.ref (s.heap.objs.size + 1)) { s with heap:=h' }) :
  wpAny (model prog w) A (call (.type "enumerate") [.ref t]) Q E s:=by
 obtain ⟨⟨c,dd,dt,sl⟩,e,c1,n,d1⟩:=ht
 cases c1
 cases d1
 refine callType_new F.called_enumerate (by decide) (F.typeCall_enumerate_1 _) (F.newCall_enumerate_1 _) (fun obj=>F.args_object_init_2 obj _) F.entry_enumerate_new (meets_enumT t ys n dd sl) ⟨e,?_⟩
 have hz : (zH1 s.heap t).objs.size = s.heap.objs.size + 1:=Heap.size_push ..
 show _ /\ _
 rw [hz]
 have he : IsEnum ((zH1 s.heap t).push { cls:=.type "enumerate",data:=.fields #[.none,.bool false,.ref s.heap.objs.size,rawInt 0,.none,.none] }) (s.heap.objs.size + 1) s.heap.objs.size 0 .none:=by
  have q:=Heap.get?_push_size (zH1 s.heap t) (o:={ cls:=.type "enumerate",data:=.fields #[.none,.bool false,.ref s.heap.objs.size,rawInt 0,.none,.none] }) rfl
  rw [hz] at q
  exact q
 exact ⟨⟨_,he,rfl⟩,h _ he ⟨_,Heap.get?_push_of_some _ (Heap.get?_push_size _ rfl),rfl,rfl⟩ (by rw [Heap.size_push,hz]) fun b o x=>Heap.get?_push_of_some _ (Heap.get?_push_of_some _ x)⟩
end Sb
namespace Sb
open PySem PySem.Spec PyProof.Rows L2
section
variable {X : Cx} {pins : List (Addr × Obj)} {σ : L2.St} {H : Hp} {s : Shared} {h' : Heap} {t' : Nat} {ch : List Addr}
theorem hok_recs (I : Inv X pins σ H s) (hn : ∀ b ∈ ch,H b = none) (k : ∀ b o,b ∉ ch -> s.heap.get? b = some o -> h'.get? b = some o) : HOk X.prog X.w H h':=fun a o e =>
 (I.hok a o e).stay (fun b u hb q=>k b u (fun z=>by
  have n:=hn b z
  rcases hb with rfl | hb
  ·rw [n] at e; cases e
  ·rw [n] at hb; cases hb) q) (fun _ q=>q) fun _ _ q=>q
theorem inv_recs (I : Inv X pins σ H s) (hf : ∀ b ∈ ch,FpOk X pins H b) (k : ∀ b o,b ∉ ch -> s.heap.get? b = some o -> h'.get? b = some o) : Inv X pins σ H { s with heap:=h',toks:=t' }:=by
 refine I.step (g':=s.gens) (d':=s.drawn) (ch:=ch) (fun b hb=>?_) (fun b o _ _ hc e _=>k b o hc e) (fun b o _ _ hc e _=>⟨o.slots,k b o hc e⟩) (fun _ _ _ _ n=>n) (fun b o hc e=>⟨o,k b o hc e⟩) (fun _ _ e=>e) (fun _ _ _ e=>e)
  (fun b ps e=>⟨#[],by rw [e]; simp⟩) (fun m hm=>?_) (hok_recs I (fun b hb=>(hf b hb).1) k) I.bare
 ·exact ⟨(hf b hb).2.2.2.1,(hf b hb).2.1,(hf b hb).2.2.2.2.1,(hf b hb).2.2.2.2.2⟩
 ·obtain ⟨o,es,ep,ho,r⟩:=hm
  exact ⟨o,es,ep,k _ o (fun z=>(hf _ z).2.1 rfl) ho,r⟩
theorem inv_recs_new {p : Addr} {u : HO} (I : Inv X pins σ H s) (hf : ∀ b ∈ ch,FpOk X pins H b) (k : ∀ b o,b ∉ ch -> s.heap.get? b = some o -> h'.get? b = some o) (hp : s.heap.objs.size <= p) (new : ObjOk X.prog X.w (upd H p u) h' p u) :
  Inv X pins σ (upd H p u) { s with heap:=h',toks:=t' }:=by
 have lt : ∀ b o,s.heap.get? b = some o -> b ≠ p:=fun b o e z=>absurd (Nat.lt_of_lt_of_le (Heap.lt_size e) hp) (by rw [z]; exact Nat.lt_irrefl _)
 have ltH : ∀ b o,H b = some o -> b ≠ p:=fun b o e z=>absurd (Nat.lt_of_lt_of_le (I.hok.lt e) hp) (by rw [z]; exact Nat.lt_irrefl _)
 have hk:=hok_recs I (fun b hb=>(hf b hb).1) k
 refine I.step (g':=s.gens) (d':=s.drawn) (ch:=ch) (fun b hb=>?_) (fun b o _ _ hc e _=>k b o hc e) (fun b o _ _ hc e _=>⟨o.slots,k b o hc e⟩) (fun b o _ e n=>by rw [upd_ne (lt b o e)]; exact n) (fun b o hc e=>⟨o,k b o hc e⟩)
  (fun b _ e=>by rw [upd_ne (ltH b _ e)]; exact e) (fun b _ _ e=>by rw [upd_ne (ltH b _ e)]; exact e) (fun b ps e=>⟨#[],by rw [upd_ne (ltH b _ e),e]; simp⟩) (fun m hm=>?_) (fun b o e=>?_) I.bare
 ·exact ⟨(hf b hb).2.2.2.1,(hf b hb).2.1,(hf b hb).2.2.2.2.1,(hf b hb).2.2.2.2.2⟩
 ·obtain ⟨o,es,ep,ho,r⟩:=hm
  exact ⟨o,es,ep,k _ o (fun z=>(hf _ z).2.1 rfl) ho,r⟩
 ·by_cases hb : b = p
  ·subst hb
   rw [upd_same] at e
   cases e
   exact new
  ·rw [upd_ne hb] at e
   exact (hk b o e).stay (fun _ _ _ q=>q) (fun c q=>by rw [upd_ne (ltH c _ q)]; exact q) fun c xs q=>by rw [upd_ne (ltH c _ q)]; exact q
theorem tup_ne {b t : Addr} {xs : List V} (I : Inv X pins σ H s) (hf : FpOk X pins H b) (h : SqT X.K H t xs) : t ≠ b:=by
 rintro rfl
 rcases h with (h | ⟨o,h⟩) | ⟨o,its,n,h,_⟩
 ·rw [hf.1] at h; cases h
 ·rw [hf.1] at h; cases h
 ·have e:=I.ok.mod.kin _ _ h
  rcases hf.2.2.2.1 with z | z
  ·exact I.ok.noex _ _ e z
  ·exact absurd (Nat.lt_of_lt_of_le (Heap.lt_size (I.ok.bs _ _ e).1) z) (Nat.lt_irrefl _)
end
structure ZOff (z TI TO i1 i2 : Addr) : Prop where
 a1 : TI ≠ z
 a2 : TO ≠ z
 a3 : i1 ≠ z
 a4 : i2 ≠ z
 a5 : TI ≠ TO
 a6 : TI ≠ i1
 a7 : TI ≠ i2
 a8 : TO ≠ i1
 a9 : TO ≠ i2
 b1 : i1 ≠ i2
section
variable {X : Cx}
end
end Sb
namespace Sb
open PySem PySem.Spec PyProof.Rows L2
def Ite (K : PySem.W.Frag) (t : Addr) : It :=
 ⟨fun i H=>∃ xs,SqT K H t xs /\ i < xs.length,
   fun i H v H'=>∃ p x,v = .ref p /\ H p = none /\ H' = upd H p (.tup [.int (i : Int),x]) /\ ∀ xs,SqT K H t xs -> xs[i]? = some x,
   fun i H=>∃ xs,SqT K H t xs /\ i = xs.length⟩
theorem turn_enum {P : Program} {w : World} {K : PySem.W.Frag} {es : List Expr} {kk : Nat} {tp : Pos} {e it : Addr} (O : e ≠ it) (t : Addr) :
  Turn P w K (.Tuple es kk tp) (Ite K t) [e,it] e (fun i h=>(∃ old,IsEnum h e it (i : Int) old) /\ h.IsTupleIter it t i) where
 mem:=by simp
 obj:=fun i h ⟨⟨old,he⟩,⟨o1,e1,_,d1⟩⟩ b hb=>by
  simp only [List.mem_cons,List.not_mem_nil,or_false] at hb
  rcases hb with rfl | rfl
  ·exact ⟨_,he,fun v q=>by have q' : Data.fields _ = Data.cell v:=q; cases q'⟩
  ·exact ⟨_,e1,fun v q=>by rw [d1] at q; cases q⟩
 keep:=fun i h h' ⟨⟨old,he⟩,⟨o1,e1,r1⟩⟩ k=>⟨⟨old,k e (by simp) _ he⟩,⟨o1,k it (by simp) _ e1,r1⟩⟩
 item:=by
  intro X hP hw hK hc i pins s σ H E I hf st hg
  subst hP hw hK
  obtain ⟨xs,hx,lx⟩:=hg
  obtain ⟨⟨old,he⟩,c1⟩:=st
  obtain ⟨u1,v1,p1,_⟩:=I.tuple hx
  have n1:=v1.length
  have ne : ∀ b ∈ [e,it],t ≠ b:=fun b hb=>tup_ne I (hf b hb) hx
  have hh : X.A.in1.handled = none:=I.ok.hd hc
  have D1:=draws_tup (prog:=X.prog) (w:=X.w) hh it t (ne it (by simp)) u1.toArray
  refine wpAny_pyNext_enum_itemD D1 he ⟨c1,p1⟩ (by simp; omega) O (by simp [O,(ne e (by simp)).symm]) fun x g tk px out s1 pr sz kp=>?_
  refine ⟨_,rfl,wpAny_letOwnedTupleGo_enum out fun g2 z2 sb=>?_⟩
  obtain ⟨x0,ex⟩ : ∃ x0,xs[i]? = some x0:=⟨xs[i],by simp [lx]⟩
  obtain ⟨x1,ex1,rx⟩:=v1.get ex
  have qx : x1 = x:=by
   have : u1.toArray[i]? = some x:=px
   rw [List.getElem?_toArray,ex1] at this
   exact Option.some.inj this
  subst qx
  have elt : e < s.heap.objs.size:=Heap.lt_size he
  have pe : s.heap.objs.size ≠ e:=Nat.ne_of_gt elt
  have sb2 : ∀ b,b ≠ e -> g2.get? b = g.get? b:=fun b hb=>sb.2 b hb
  have keep : ∀ b o,b ∉ [e,it] -> s.heap.get? b = some o -> g2.get? b = some o:=fun b o hb q=>by
   simp only [List.mem_cons,List.not_mem_nil,or_false,not_or] at hb
   rw [sb2 b hb.1]
   exact kp b o hb.1 hb.2 q
  have new : ObjOk X.prog X.w (upd H s.heap.objs.size (.tup [.int (i : Int),x0])) g2 s.heap.objs.size (.tup [.int (i : Int),x0]) :=
   ⟨by show 2 <= sizeLine; decide,[.int (i : Int) tk,x1],.cons ⟨tk,rfl⟩ (.cons rx .nil),⟨_,by rw [sb2 _ pe]; exact pr,rfl,0,rfl⟩⟩
  have I2:=inv_recs_new (t':=tk + 1) I hf keep (Nat.le_refl _) new
  have nn : ∀ b ∈ [e,it],upd H s.heap.objs.size (.tup [.int (i : Int),x0]) b = none:=fun b hb=>by
   have : b ≠ s.heap.objs.size:=by
    have ob : ∃ o,s.heap.get? b = some o:=by
     simp only [List.mem_cons,List.not_mem_nil,or_false] at hb
     obtain ⟨o1,e1,_⟩:=c1
     rcases hb with rfl | rfl
     ·exact ⟨_,he⟩
     ·exact ⟨_,e1⟩
    obtain ⟨o,q⟩:=ob
    exact Nat.ne_of_lt (Heap.lt_size q)
   rw [upd_ne this]
   exact (hf b hb).1
  refine ⟨.ref s.heap.objs.size,_,I2,rfl,⟨_,x0,rfl,I.fresh,rfl,fun xs' h1=>by rw [I.tuple_inj h1 hx]; exact ex⟩,⟨⟨x1,?_⟩,?_⟩,nn⟩
  ·exact z2
  ·exact s1.1.extBut sb.extBut O.symm
 done:=by
  intro X hP hw hK hc i pins s σ H E I hf st hg
  subst hP hw hK
  obtain ⟨xs,hx,rfl⟩:=hg
  obtain ⟨⟨old,he⟩,c1⟩:=st
  obtain ⟨u1,v1,p1,_⟩:=I.tuple hx
  have n1:=v1.length
  have ne : ∀ b ∈ [e,it],t ≠ b:=fun b hb=>tup_ne I (hf b hb) hx
  have hh : X.A.in1.handled = none:=I.ok.hd hc
  have D1:=draws_tup (prog:=X.prog) (w:=X.w) hh it t (ne it (by simp)) u1.toArray
  have c1' : s.heap.IsTupleIter it t u1.toArray.size:=by
   rw [List.size_toArray,← n1]
   exact c1
  refine wpAny_pyNext_enum_endD D1 he ⟨c1',p1⟩ fun g kp=>⟨rfl,?_⟩
  exact inv_recs (t':=s.toks) I hf fun b o hb q=>by
   simp only [List.mem_cons,List.not_mem_nil,or_false,not_or] at hb
   exact kp b o hb.2 q
 self:=fun _ _ _ _ _ st h=>by
  obtain ⟨⟨old,he⟩,_⟩:=st
  exact wpAny_pyIter_enum he h
section
variable {X : Cx}
def iEnum (K : PySem.W.Frag) (ta : TA) : TI:=fun σ H R=>ta σ H fun vs H1=>∃ t,vs = [.ref t] /\ (∃ xs,SqT K H1 t xs) /\ R (Ite K t) H1
theorem pi_enum {a : Expr} {ta : TA} {p pos : Pos} {es : List Expr} {kk : Nat} {tp : Pos} (hg : Gl X "enumerate") (hm : X.mg "enumerate" = none) (ha : PA X [a] ta) (hs : starEach [a] X.env = [(false,eval a X.env)]:=by rfl) :
  PI X (.Tuple es kk tp) (.Call (.Name "enumerate" p) [a] [] pos) (iEnum X.K ta):=by
 intro pins s σ H R I h
 refine Call_ (ld_blt I hg hm boot_enumerate (PyProof.Rows.callWith_type1 (thn (ha pos pins s σ H _ I h) fun us s1 ⟨vs,H1,I1,r1,q1⟩=>?_) hs rfl))
 obtain ⟨t,e,⟨xs,hx⟩,q⟩:=q1
 subst e
 obtain ⟨t0,e0,rt⟩:=vals1 r1
 cases (show t0 = Value.ref t from rt)
 subst e0
 obtain ⟨u1,v1,p1,_⟩:=I1.tuple hx
 refine call_enumT (ys:=u1.toArray) p1 fun g z0 i1 sz kp=>?_
 refine wpAny_pyIter_enum z0 ?_
 have I2 : Inv X pins σ H1 { s1 with heap:=g }:=I1.kept (t':=s1.toks) kp
 refine ⟨s1.heap.objs.size + 1,[s1.heap.objs.size + 1,s1.heap.objs.size],_,Ite X.K t,H1,rfl,I2,turn_enum (O:=?_) t,⟨⟨_,z0⟩,i1⟩,fun b hb=>?_,q⟩
 ·show @Ne Nat _ _
  omega
 ·have hb' : s1.heap.objs.size <= b:=by
   simp only [List.mem_cons,List.not_mem_nil,or_false] at hb
   rcases hb with rfl | rfl
   ·exact Nat.le_add_right _ _
   ·exact Nat.le_refl _
  exact I1.fpOk hb' (I1.hok.fresh hb')
end
end Sb
namespace Sb
open PySem L2
structure Ext (H H' : Hp) : Prop where
 tup : ∀ b xs,H b = some (.tup xs) -> H' b = some (.tup xs)
 frz : ∀ b o u,H b = some (.frz o u) -> H' b = some (.frz o u)
theorem Ext.trans {H H1 H2 : Hp} (a : Ext H H1) (b : Ext H1 H2) : Ext H H2:=⟨fun c xs h=>b.tup c xs (a.tup c xs h),fun c o u h=>b.frz c o u (a.frz c o u h)⟩
theorem Ext.same {H H' : Hp} (x : Same H H') : Ext H H':=⟨fun b _ h=>x b _ h,fun b _ _ h=>x b _ h⟩
theorem Ext.x {a : Addr} {H H' : Hp} {ys : List V} (x : SameX a H H') (ha : H a = some (.lst ys)) : Ext H H' :=
 ⟨fun b _ h=>x b _ h (ne_of h ha (by intro z; cases z)),fun b _ _ h=>x b _ h (ne_of h ha (by intro z; cases z))⟩
theorem Ext.bag {a : Addr} {n : Nat} {H H' : Hp} (x : SameX a H H') (ha : BagAt H a n) : Ext H H':=by
 obtain ⟨ys,e⟩:=ha.lst
 exact Ext.x x e
theorem Ext.upd {l : Addr} {H : Hp} {ys : List V} {o : HO} (hl : H l = some (.lst ys)) : Ext H (L2.upd H l o):=Ext.x (SameX.upd l H o) hl
theorem Ext.new {l : Addr} {H : Hp} {o : HO} (hl : H l = none) : Ext H (L2.upd H l o):=Ext.same (Same.new hl)
theorem Ext.sq {K : PySem.W.Frag} {H H' : Hp} {a : Addr} {xs : List V} (e : Ext H H') (h : SqT K H a xs) : SqT K H' a xs:=by
 rcases h with (h | ⟨o,h⟩) | h
 ·exact .inl (.inl (e.tup _ _ h))
 ·exact .inl (.inr ⟨o,e.frz _ _ _ h⟩)
 ·exact .inr h
abbrev Rat:=Int × Int
def IsR (K : PySem.W.Frag) (H : Hp) (r : Rat) (v : V) : Prop:=∃ b,v = .ref b /\ SqT K H b [.int r.1,.int r.2]
theorem IsR.ext {K : PySem.W.Frag} {H H' : Hp} {r : Rat} {v : V} (h : IsR K H r v) (e : Ext H H') : IsR K H' r v:=by
 obtain ⟨b,q,h⟩:=h
 exact ⟨b,q,e.sq h⟩
def Rs (K : PySem.W.Frag) (H : Hp) (rs : List Rat) (xs : List V) : Prop:=Paired (IsR K H) rs xs
theorem Rs.ext {K : PySem.W.Frag} {H H' : Hp} {rs : List Rat} {xs : List V} (h : Rs K H rs xs) (e : Ext H H') : Rs K H' rs xs:=Paired.mapP h fun _ _ q=>q.ext e
theorem Rs.snoc {K : PySem.W.Frag} {H : Hp} {rs : List Rat} {xs : List V} {r : Rat} {v : V} (h : Rs K H rs xs) (q : IsR K H r v) : Rs K H (rs ++ [r]) (xs ++ [v]):=Paired.snoc h q
theorem Rs.len {K : PySem.W.Frag} {H : Hp} {rs : List Rat} {xs : List V} (h : Rs K H rs xs) : rs.length = xs.length:=Paired.length h
theorem Rs.at {K : PySem.W.Frag} {H : Hp} : ∀ {rs : List Rat} {xs : List V} {i : Nat} {r : Rat},Rs K H rs xs -> rs[i]? = some r -> ∃ v,xs[i]? = some v /\ IsR K H r v
 | _,_,_,_,.nil,e=>by simp at e
 | _,_,0,_,.cons q _,e=>by
  simp at e
  subst e
  exact ⟨_,rfl,q⟩
 | _,_,i + 1,r,.cons _ t,e=>by
  obtain ⟨v,h1,h2⟩:=Rs.at (i:=i) (r:=r) t (by simpa using e)
  exact ⟨v,by simpa using h1,h2⟩
theorem Rs.back {K : PySem.W.Frag} {H : Hp} {rs : List Rat} {xs : List V} {i : Nat} {v : V} (h : Rs K H rs xs) (e : xs[i]? = some v) : ∃ r,rs[i]? = some r /\ IsR K H r v:=by
 have hi : i < xs.length:=(List.getElem?_eq_some_iff.mp e).1
 have hr : i < rs.length:=by rw [h.len]; exact hi
 obtain ⟨w,h1,h2⟩:=h.at (i:=i) (r:=rs[i]) (by simp [hr])
 rw [e] at h1
 cases h1
 exact ⟨_,by simp [hr],h2⟩
def RowAt (K : PySem.W.Frag) (H : Hp) (a : Addr) (rs : List Rat) : Prop:=∃ xs,SqT K H a xs /\ Rs K H rs xs
theorem RowAt.ext {K : PySem.W.Frag} {H H' : Hp} {a : Addr} {rs : List Rat} (h : RowAt K H a rs) (e : Ext H H') : RowAt K H' a rs:=by
 obtain ⟨xs,h1,h2⟩:=h
 exact ⟨xs,e.sq h1,h2.ext e⟩
structure Good (n : Nat) (r : Rat) : Prop where
 b1 : Bd n r.1
 b2 : Bd n r.2
 pos : 0 < r.2
 cop : Int.gcd r.1 r.2 = 1
theorem Good.mono {m n : Nat} {r : Rat} (h : Good m r) (k : m <= n) : Good n r:=⟨h.b1.mono k,h.b2.mono k,h.pos,h.cop⟩
def nrm (p q : Int) : Rat:=(nT p q,nB p q)
theorem nrm_good {n : Nat} {p q : Int} (hp : Bd n p) (hq : Bd n q) (h : q ≠ 0) : Good n (nrm p q):=⟨hp.of_le' (nT_le h),hq.of_le' (nB_le h),nB_pos h,n_gcd h⟩
def addR (r s : Rat) : Rat:=nrm (r.1 * s.2 + s.1 * r.2) (r.2 * s.2)
def subR (r s : Rat) : Rat:=nrm (r.1 * s.2 - s.1 * r.2) (r.2 * s.2)
def mulR' (r s : Rat) : Rat:=nrm (r.1 * s.1) (r.2 * s.2)
theorem mul_ne {a b : Int} (ha : 0 < a) (hb : 0 < b) : a * b ≠ 0:=by
 have:=Int.mul_pos ha hb
 omega
theorem subR_good {m n : Nat} {r s : Rat} (hr : Good m r) (hs : Good n s) : Good (m + n + 1) (subR r s):=by
 refine nrm_good ?_ ((hr.b2.mul hs.b2).mono (by omega)) (mul_ne hr.pos hs.pos)
 have a:=hr.b1.mul hs.b2
 have b:=hs.b1.mul hr.b2
 rw [Nat.add_comm n m] at b
 exact a.sub b
end Sb
namespace Sb
open PySem PySem.Spec PyProof.Rows L2
set_option maxRecDepth 100000
section
variable {X : Cx} {K : PySem.W.Frag}
end
theorem inV_ints (i : Int) (ns : List Int) : inV (.int i) (ns.map V.int) = decide (i ∈ ns):=by
 unfold inV
 rw [List.any_map,Bool.eq_iff_iff]
 simp only [List.any_eq_true,decide_eq_true_eq,Function.comp]
 constructor
 ·rintro ⟨x,hx,e⟩
  have : x = i:=by simpa [eqV] using e
  exact this ▸ hx
 ·intro h
  exact ⟨i,h,by simp [eqV]⟩
theorem flat_ints (ns : List Int) : (ns.map V.int).all flatV = true:=by
 rw [List.all_map,List.all_eq_true]
 intro x _
 rfl
end Sb
namespace Sb
open PySem L2
def Con (K : PySem.W.Frag) (mg : Str -> Option Value) (x : Str) (r : Rat) : Prop:=∃ a : Addr,mg x = some (.ref a) /\ ∀ H,SqT K H a [.int r.1,.int r.2]
theorem con_mk {K : PySem.W.Frag} {h : Heap} {mg : Str -> Option Value} {x : Str} {a : Addr} {i j : Int} {t1 t2 : Tok} {n : Nat} {dd : Option Addr} {sl : Array (Option Value)} (X : K.In h) (G : h.Ns mainGlobals mg)
  (e : PySem.W.nsIn K mainGlobals x = some (some (.ref a))) (l : K.lookup a = some ⟨.type "tuple",dd,.seq #[.int i t1,.int j t2] n,sl⟩) : Con K mg x (i,j) :=
 ⟨a,PySem.W.mg_of X G e,fun H=>.inr ⟨_,_,_,l,rfl,rfl,(by show 2 <= sizeLine; decide),.cons ⟨_,rfl⟩ (.cons ⟨_,rfl⟩ .nil)⟩⟩
def evI (c : Nat) (p : Nat -> Bool) : List Int:=((List.range c).filter p).map fun (w : Nat)=>(w : Int)
def EvAt (K : PySem.W.Frag) (H : Hp) (c : Nat) (o : Option (Nat -> Bool)) (v : V) : Prop:=match o with
 | none=>v = .non
 | some p=>∃ a,v = .ref a /\ SqT K H a ((evI c p).map V.int)
theorem EvAt.ext {K : PySem.W.Frag} {H H' : Hp} {c : Nat} {o : Option (Nat -> Bool)} {v : V} (h : EvAt K H c o v) (e : Ext H H') : EvAt K H' c o v:=by
 cases o with
 | none=>exact h
 | some p=>obtain ⟨a,q,h⟩:=h; exact ⟨a,q,e.sq h⟩
theorem EvAt.same {K : PySem.W.Frag} {H H' : Hp} {c : Nat} {o : Option (Nat -> Bool)} {v : V} (h : EvAt K H c o v) (e : Same H H') : EvAt K H' c o v:=h.ext (Ext.same e)
def inE (o : Option (Nat -> Bool)) (i : Nat) : Bool:=match o with
 | none=>true
 | some p=>p i
theorem mem_evI {c : Nat} {p : Nat -> Bool} {i : Nat} : ((i : Int) ∈ evI c p) ↔ i < c /\ p i = true:=by
 unfold evI
 simp only [List.mem_map,List.mem_filter,List.mem_range]
 constructor
 ·rintro ⟨j,h,e⟩
  have : j = i:=by omega
  exact this ▸ h
 ·intro h
  exact ⟨i,h,rfl⟩
theorem evI_succ (c : Nat) (p : Nat -> Bool) : evI (c + 1) p = evI c p ++ if p c then [(c : Int)] else []:=by
 unfold evI
 rw [List.range_succ,List.filter_append,List.map_append]
 congr 1
 cases h : p c <;> simp [h]
theorem evI_congr {c : Nat} {p q : Nat -> Bool} (h : ∀ i,i < c -> p i = q i) : evI c p = evI c q:=by
 unfold evI
 congr 1
 apply List.filter_congr
 intro x hx
 exact h x (List.mem_range.mp hx)
theorem iteD1 {c A B : Prop} [Decidable c] (hc : c) (h : A) : if decide c = true then A else B:=by rw [decide_eq_true hc]; exact iteT h
theorem iteD0 {c A B : Prop} [Decidable c] (hc : ¬ c) (h : B) : if decide c = true then A else B:=by rw [decide_eq_false hc]; exact iteF h
theorem iteB {b : Bool} {A B : Prop} (h1 : b = true -> A) (h0 : b = false -> B) : if b = true then A else B:=by
 cases b with
 | true=>exact iteT (h1 rfl)
 | false=>exact iteF (h0 rfl)
theorem take_snoc {α : Type} {l : List α} {i : Nat} {x : α} (h : l[i]? = some x) : l.take (i + 1) = l.take i ++ [x]:=by rw [List.take_add_one,h]; rfl
def cutR (o : Option (Nat -> Bool)) (rs : List Rat) : List Rat:=rs.mapIdx fun i r=>if inE o i then r else (0,1)
theorem cutR_at {o : Option (Nat -> Bool)} {rs : List Rat} {i : Nat} {r : Rat} (h : rs[i]? = some r) : (cutR o rs)[i]? = some (if inE o i then r else (0,1)):=by
 unfold cutR
 rw [List.getElem?_mapIdx,h]
 rfl
theorem cutR_len (o : Option (Nat -> Bool)) (rs : List Rat) : (cutR o rs).length = rs.length:=by unfold cutR; simp
theorem g01 (n : Nat) (h : 1 <= n) : Good n (0,1):=by
 have : 2 ^ 1 <= 2 ^ n:=Nat.pow_le_pow_right (by decide) h
 exact ⟨by show (0 : Int).natAbs < _; simp; omega,by show (1 : Int).natAbs < _; simp; omega,by decide,by decide⟩
theorem cutR_all {o : Option (Nat -> Bool)} {rs : List Rat} {P : Rat -> Prop} (h : ∀ r ∈ rs,P r) (h0 : P (0,1)) : ∀ r ∈ cutR o rs,P r:=fun r hr=>by
 obtain ⟨i,hi⟩:=List.getElem?_of_mem hr
 have hl : i < rs.length:=by
  have:=(List.getElem?_eq_some_iff.mp hi).1
  rw [cutR_len] at this
  exact this
 rw [cutR_at (r:=rs[i]) (by simp [hl])] at hi
 cases hi
 split
 ·exact h _ (List.getElem_mem hl)
 ·exact h0
end Sb
namespace Sb
open PySem L2
end Sb
namespace Sb
open PySem L2
theorem alike {n : Nat} {fs : List Rat} (h : ∀ f ∈ fs,Good n f) : ∀ (i : Nat) (f d : Rat),fs[i]? = some f -> fs[i]? = some d -> Good n f /\ Bd n d.1 /\ Bd n d.2 /\ f.1 * d.2 = d.1 * f.2:=fun i f d e1 e2=>by
 rw [e1] at e2
 cases e2
 have g:=h f (List.mem_of_getElem? e1)
 exact ⟨g,g.b1,g.b2,rfl⟩
end Sb
namespace Sb
open PySem PySem.Spec PyProof.Rows L2
section
variable {X : Cx} {tg : Expr} {K : PySem.W.Frag}
def iSeq (K : PySem.W.Frag) (tl : TE) : TI:=fun σ H R=>tl σ H fun x H1=>∃ a,x = .ref a /\ (((∃ xs,SqL K H1 a xs) /\ R (Itl K a) H1) \/ ((∃ xs,SqT K H1 a xs) /\ R (Itt K a) H1))
theorem pi_seq {l : Expr} {tl : TE} (hl : PE X l tl) : PI X tg l (iSeq X.K tl):=by
 intro pins s σ H R I h
 refine thn (hl pins s σ H _ I h) fun v s1 ⟨x,H1,I1,r1,q1⟩=>?_
 obtain ⟨a,e,⟨⟨xs,hq⟩,q⟩ | ⟨⟨xs,hq⟩,q⟩⟩:=q1
 ·subst e
  cases r1
  obtain ⟨its,rv,p,hz⟩:=I1.list hq
  refine wpAny_pyIter_list p.isList ?_
  refine ⟨s1.heap.objs.size,[s1.heap.objs.size],_,_,H1,rfl,I1.kept (t':=s1.toks) fun b o e=>Heap.get?_push_of_some _ e,turn_list a _,⟨_,Heap.get?_push_size _ rfl,rfl,rfl⟩,fun b hb=>?_,q⟩
  have e : b = s1.heap.objs.size:=by simpa using hb
  subst e
  exact I1.fpOk (Nat.le_refl _) (I1.hok.fresh (Nat.le_refl _))
 ·subst e
  cases r1
  obtain ⟨its,rv,p,hz⟩:=I1.tuple hq
  refine wpAny_pyIter_tuple (show s1.heap.IsTuple a its.toArray from p) ?_
  refine ⟨s1.heap.objs.size,[s1.heap.objs.size],_,_,H1,rfl,I1.kept (t':=s1.toks) fun b o e=>Heap.get?_push_of_some _ e,turn_tuple a _,⟨_,Heap.get?_push_size _ rfl,rfl,rfl⟩,fun b hb=>?_,q⟩
  have e : b = s1.heap.objs.size:=by simpa using hb
  subst e
  exact I1.fpOk (Nat.le_refl _) (I1.hok.fresh (Nat.le_refl _))
theorem for_seq {a : Addr} {xs : List V} {g : TG} {tb : TS} {D : Ends} {σ : L2.St} {H : Hp} (Pv : Nat -> L2.St -> Hp -> Prop) (hx : SqL K H a xs \/ SqT K H a xs) (h0 : Pv 0 σ H) (hS : ∀ i σ H',i <= xs.length -> Pv i σ H' -> Same H H')
  (hs : ∀ i x σ H,xs[i]? = some x -> Pv i σ H -> g x σ H fun σ2 H2=>tb { D with nx:=Pv (i + 1),ct:=Pv (i + 1),bk:=D.nx } σ2 H2) (hd : ∀ σ H,Pv xs.length σ H -> D.nx σ H) :
  ∃ b,V.ref a = .ref b /\ (((∃ xs,SqL K H b xs) /\ ∃ W : Nat -> Nat -> L2.St -> Hp -> Prop,(∃ m,W 0 m σ H) /\ ∀ i m σ H,W i m σ H →
   ((Itl K b).stop i H /\ D.nx σ H) \/ ((Itl K b).go i H /\ ∃ N : L2.St -> Hp -> Prop,(∀ σ' H',N σ' H' -> ∃ m',m' < m /\ W (i + 1) m' σ' H') /\ ∀ x H',(Itl K b).yld i H x H' -> g x σ H' fun σ2 H2=>tb { D with nx:=N,ct:=N,bk:=D.nx } σ2 H2)) ∨
   ((∃ xs,SqT K H b xs) /\ ∃ W : Nat -> Nat -> L2.St -> Hp -> Prop,(∃ m,W 0 m σ H) /\ ∀ i m σ H,W i m σ H →
   ((Itt K b).stop i H /\ D.nx σ H) \/ ((Itt K b).go i H /\ ∃ N : L2.St -> Hp -> Prop,(∀ σ' H',N σ' H' -> ∃ m',m' < m /\ W (i + 1) m' σ' H') /\ ∀ x H',(Itt K b).yld i H x H' -> g x σ H' fun σ2 H2=>tb { D with nx:=N,ct:=N,bk:=D.nx } σ2 H2))):=by
 refine ⟨a,rfl,?_⟩
 rcases hx with hx | hx
 ·exact .inl ⟨⟨_,hx⟩,for_list (K:=K) (a:=a) (xs:=xs) Pv h0 (fun i σ H' hi p=>by
   rcases hx with (z | ⟨o,z⟩) | z
   ·exact .inl (.inl (hS i σ H' hi p _ _ z))
   ·exact .inl (.inr ⟨o,hS i σ H' hi p _ _ z⟩)
   ·exact .inr z) hs hd⟩
 ·exact .inr ⟨⟨_,hx⟩,for_tup (K:=K) (a:=a) (xs:=xs) Pv h0 (fun i σ H' hi p=>sameT (hS i σ H' hi p) hx) hs hd⟩
theorem call_sumL (hc : X.calm = true) (hK : X.K = K:=by rfl) : CallR X (.builtin "sum") (fun xs H Q=>∃ (p : Addr) (ns : List Int),xs = [.ref p] /\ SqL K H p (ns.map V.int) /\ Q (.int ns.sum) H):=by
 subst hK
 intro pins s σ H xs us Q I r h
 obtain ⟨p,ns,rfl,hs,q⟩:=h
 obtain ⟨u,e0,rx⟩:=vals1 r
 cases (show u = Value.ref p from rx)
 subst e0
 obtain ⟨its,rv,pl,hz⟩:=I.list hs
 have hi : IntsAre its ns:=intsAre_of rv
 have hh : X.A.handled = none:=I.ok.hd hc
 obtain ⟨ys,ey⟩:=hi.allInts.items
 have en : (numsOf its.toArray.toList) = ns:=hi.numsOf
 have lp : s.heap.IsList p (intItems ys):=by rw [← ey]; exact pl.isList
 rw [ey,nums_intItems] at en
 refine sum_intListG hh lp fun h' tk t' hk=>⟨.int ns.sum,H,I.kept (t':=tk) hk,⟨t',?_⟩,q⟩
 rw [preSum_eq,List.take_of_length_le (by simp),en]
end
end Sb
namespace Sb
open PySem L2
theorem sameL {K : PySem.W.Frag} {H H' : Hp} {a : Addr} {xs : List V} (e : Same H H') (h : SqL K H a xs) : SqL K H' a xs:=by
 rcases h with (h | ⟨o,h⟩) | h
 ·exact .inl (.inl (e _ _ h))
 ·exact .inl (.inr ⟨o,e _ _ h⟩)
 ·exact .inr h
end Sb
namespace Sb
open PySem PySem.Spec PyProof.Rows L2
def flatE : V -> Bool
 | .non | .bl _ | .int _ | .str _ | .ref _=>true
 | _=>false
def EqU (K : PySem.W.Frag) (H : Hp) : Nat -> V -> V -> Prop
 | 0,x,y=>x = y /\ flatE x = true
 | n + 1,x,y=>(x = y /\ flatE x = true) \/ ∃ (a b : Addr) (xs ys : List V),x = .ref a /\ y = .ref b /\ ((SqL K H a xs /\ SqL K H b ys) \/ (SqT K H a xs /\ SqT K H b ys)) /\ Paired (EqU K H n) xs ys
theorem EqU.flat {K : PySem.W.Frag} {H : Hp} {n : Nat} {x : V} (h : flatE x = true) : EqU K H n x x:=by
 cases n with
 | zero=>exact ⟨rfl,h⟩
 | succ n=>exact .inl ⟨rfl,h⟩
theorem Paired.getB {α β : Type} {R : α -> β -> Prop} : ∀ {xs : List α} {ys : List β} {i : Nat} {x : α} {y : β},Paired R xs ys -> xs[i]? = some x -> ys[i]? = some y -> R x y
 | _,_,_,_,_,.nil,e,_=>by simp at e
 | _,_,0,_,_,.cons q _,e,e'=>by
  simp at e e'
  subst e e'
  exact q
 | _,_,i + 1,x,y,.cons _ t,e,e'=>Paired.getB (i:=i) t (by simpa using e) (by simpa using e')
section
variable {X : Cx} {pins : List (Addr × Obj)} {σ : L2.St} {H : Hp} {s : Shared} {K : PySem.W.Frag}
theorem eqAt_flat {A : Around} {x : V} {u v : Value} (h : flatE x = true) (ru : RelV x u) (rv : RelV x v) : SeqAt.EqAt A s u v true:=by
 cases x with
 | non=>cases ru; cases rv; exact SeqAt.EqAt.same _
 | bl b=>cases ru; cases rv; exact SeqAt.EqAt.same _
 | int i =>
  obtain ⟨t,rfl⟩:=ru
  obtain ⟨t',rfl⟩:=rv
  have:=SeqAt.EqAt.int_int (A:=A) (s:=s) i t i t'
  rwa [beq_self_eq_true] at this
 | str z =>
  obtain ⟨t,rfl⟩:=ru
  obtain ⟨t',rfl⟩:=rv
  have:=SeqAt.EqAt.str_str (A:=A) (s:=s) z t z t'
  rwa [beq_self_eq_true] at this
 | ref a=>cases ru; cases rv; exact SeqAt.EqAt.same _
 | byt b=>cases h
 | flt b=>cases h
 | ty b=>cases h
theorem all_true (n : Nat) : (List.range n).all (fun _=>true) = true:=by simp
theorem eqU_at (I : Inv X pins σ H s) : ∀ (n : Nat) (A : Around) (x y : V) (u v : Value),A.units + n < cLine -> EqU X.K H n x y -> RelV x u -> RelV y v -> SeqAt.EqAt A s u v true
 | 0,A,x,y,u,v,_,⟨e,h⟩,ru,rv=>by
  subst e
  exact eqAt_flat h ru rv
 | n + 1,A,x,y,u,v,hu,h,ru,rv=>by
  rcases h with ⟨e,h⟩ | ⟨a,b,xs,ys,rfl,rfl,h,p⟩
  ·subst e
   exact eqAt_flat h ru rv
  ·cases ru
   cases rv
   by_cases hab : a = b
   ·subst hab
    exact SeqAt.EqAt.same _
   ·refine SeqAt.EqAt.of_refs hab ?_
    have lp:=Paired.length p
    rcases h with ⟨h1,h2⟩ | ⟨h1,h2⟩
    ·obtain ⟨i1,r1,p1,_⟩:=I.list h1
     obtain ⟨i2,r2,p2,_⟩:=I.list h2
     have l1:=r1.length
     have l2:=r2.length
     have:=SeqAt.RcAt.lists (A:=A) (e:=fun _=>true) p1.isList p2.isList (by simp; omega) (by omega) fun j h1 h2=>by
      have h1' : j < i1.length:=by simpa using h1
      have h2' : j < i2.length:=by simpa using h2
      obtain ⟨w1,e1,q1⟩:=r1.get (i:=j) (x:=xs[j]'(by omega)) (by simp)
      obtain ⟨w2,e2,q2⟩:=r2.get (i:=j) (x:=ys[j]'(by omega)) (by simp)
      have g1 : i1.toArray[j] = w1:=by
       have : i1[j]? = some i1[j]:=by simp [h1']
       rw [this] at e1
       simpa using Option.some.inj e1
      have g2 : i2.toArray[j] = w2:=by
       have : i2[j]? = some i2[j]:=by simp [h2']
       rw [this] at e2
       simpa using Option.some.inj e2
      rw [g1,g2]
      exact eqU_at I n A.in1 _ _ _ _ (by show A.units + 1 + n < cLine; omega) (Paired.getB p (i:=j) (by simp) (by simp)) q1 q2
     rwa [all_true] at this
    ·obtain ⟨i1,r1,p1,_⟩:=I.tuple h1
     obtain ⟨i2,r2,p2,_⟩:=I.tuple h2
     have l1:=r1.length
     have l2:=r2.length
     have:=SeqAt.RcAt.tuples (A:=A) (e:=fun _=>true) p1 p2 (by omega) fun j h1 h2=>by
      have h1' : j < i1.length:=by simpa using h1
      have h2' : j < i2.length:=by simpa using h2
      obtain ⟨w1,e1,q1⟩:=r1.get (i:=j) (x:=xs[j]'(by omega)) (by simp)
      obtain ⟨w2,e2,q2⟩:=r2.get (i:=j) (x:=ys[j]'(by omega)) (by simp)
      have g1 : i1.toArray[j] = w1:=by
       have : i1[j]? = some i1[j]:=by simp [h1']
       rw [this] at e1
       simpa using Option.some.inj e1
      have g2 : i2.toArray[j] = w2:=by
       have : i2[j]? = some i2[j]:=by simp [h2']
       rw [this] at e2
       simpa using Option.some.inj e2
      rw [g1,g2]
      exact eqU_at I n A.in1 _ _ _ _ (by show A.units + 1 + n < cLine; omega) (Paired.getB p (i:=j) (by simp) (by simp)) q1 q2
     rw [all_true] at this
     have e : (i1.toArray.size == i2.toArray.size) = true:=by simp; omega
     rw [e] at this
     exact this
def rAlike (K : PySem.W.Frag) (ans : Bool) : R2:=fun x y H Q=>∃ (n : Nat) (a b : Addr) (xs ys : List V),x = .ref a /\ y = .ref b /\ n <= 60 /\ ((SqL K H a xs /\ SqL K H b ys) \/ (SqT K H a xs /\ SqT K H b ys)) /\ Paired (EqU K H n) xs ys /\ Q (.bl ans) H
theorem alike_items (I : Inv X pins σ H s) {n : Nat} {A : Around} {xs ys : List V} {i1 i2 : List Value} (hu : A.units + n < cLine) (p : Paired (EqU X.K H n) xs ys) (r1 : Vals xs i1) (r2 : Vals ys i2) (j : Nat) (h1 : j < i1.toArray.size) (h2 : j < i2.toArray.size) : SeqAt.EqAt A s i1.toArray[j] i2.toArray[j] true:=by
 have l1:=r1.length
 have l2:=r2.length
 have h1' : j < i1.length:=by simpa using h1
 have h2' : j < i2.length:=by simpa using h2
 obtain ⟨w1,e1,q1⟩:=r1.get (i:=j) (x:=xs[j]'(by omega)) (by simp)
 obtain ⟨w2,e2,q2⟩:=r2.get (i:=j) (x:=ys[j]'(by omega)) (by simp)
 have g1 : i1.toArray[j] = w1:=by
  have : i1[j]? = some i1[j]:=by simp [h1']
  rw [this] at e1
  simpa using Option.some.inj e1
 have g2 : i2.toArray[j] = w2:=by
  have : i2[j]? = some i2[j]:=by simp [h2']
  rw [this] at e2
  simpa using Option.some.inj e2
 rw [g1,g2]
 exact eqU_at I n A _ _ _ _ hu (Paired.getB p (i:=j) (by simp) (by simp)) q1 q2
theorem op_neU (hu : X.A.units + 64 < cLine) (hK : X.K = K:=by rfl) : OpR X (compareOp .NotEq) (rAlike K false):=by
 subst hK
 intro pins s σ H x y v u Q I rx ry h
 obtain ⟨n,a,b,xs,ys,rfl,rfl,hn,h,p,q⟩:=h
 cases rx
 cases ry
 have lp:=Paired.length p
 rcases h with ⟨h1,h2⟩ | ⟨h1,h2⟩
 ·obtain ⟨i1,r1,p1,_⟩:=I.list h1
  obtain ⟨i2,r2,p2,_⟩:=I.list h2
  have l1:=r1.length
  have l2:=r2.length
  refine SeqAt.RcNeAt.lists (A:=X.A) (e:=fun _=>true) p1.isList p2.isList (by simp; omega) (by omega) (fun j h1 h2=>alike_items I (by show X.A.units + 1 + n < cLine; omega) p r1 r2 j h1 h2) _ _ _ _ ?_
  rw [all_true]
  exact ⟨.bl false,H,I,rfl,q⟩
 ·obtain ⟨i1,r1,p1,_⟩:=I.tuple h1
  obtain ⟨i2,r2,p2,_⟩:=I.tuple h2
  have l1:=r1.length
  have l2:=r2.length
  refine SeqAt.RcNeAt.tuples (A:=X.A) (e:=fun _=>true) p1 p2 (by omega) (fun j h1 h2=>alike_items I (by show X.A.units + 1 + n < cLine; omega) p r1 r2 j h1 h2) _ _ _ _ ?_
  have e : (i1.toArray.size == i2.toArray.size) = true:=by simp; omega
  rw [all_true,e]
  exact ⟨.bl false,H,I,rfl,q⟩
end
end Sb
namespace Sb
open PySem PySem.Builtin.SmallTypes
abbrev yH1 (h : Heap) (t : Addr) : Heap:=h.push { cls:=.type "list_iterator",data:=.fields #[.ref t,.int 0 0] }
abbrev yH2 (h : Heap) (t u : Addr) : Heap:=(yH1 h t).push { cls:=.type "list_iterator",data:=.fields #[.ref u,.int 0 0] }
abbrev yH3 (h : Heap) (t u : Addr) : Heap:=(yH2 h t u).push { cls:=.type "tuple",data:=.seq #[.ref h.objs.size,.ref (yH1 h t).objs.size] }
abbrev yH4 (h : Heap) (t u : Addr) : Heap:=(yH3 h t u).push { cls:=.type "tuple",data:=.seq #[.none,.none] }
abbrev yH5 (h : Heap) (t u : Addr) : Heap:=(yH4 h t u).push { cls:=.type "zip",data:=.fields #[.none,.bool false,.bool false,.ref (yH2 h t u).objs.size,.ref (yH3 h t u).objs.size] }
theorem meets_zipL (t u : Addr) (xs ys : Array Value) : Meets (Builtin.«zip.__new__» ⟨[.type "zip",.ref t,.ref u],[]⟩) (fun _ R s=>s.heap.IsList t xs /\ s.heap.IsList u ys ∧
  R (.ok (.ret (.ref (yH4 s.heap t u).objs.size))) { s with heap:=yH5 s.heap t u }) :=
 .of_wp fun prog w A R s h=>by
  obtain ⟨hp,g,d,tk,os⟩:=s
  obtain ⟨h1,h2,h⟩:=h
  have hsub:=sub_zip
  have T1 : Heap.IsList (Shared.heap ⟨hp,g,d,tk,os⟩) t xs:=h1
  have T2 : Heap.IsList (Shared.heap ⟨hp.push { cls:=.type "list_iterator",data:=.fields #[.ref t,.int 0 0] },g,d,tk,os⟩) u ys:=Heap.IsList.push h2 _
  wp_walk using wpAny_pyIter_list T1,wpAny_pyIter_list T2
  exact ⟨_,rfl,h⟩
theorem call_zipL {prog : Program} {w : World} {A : Around} {E : Value -> Shared -> Prop} {s : Shared} {t u : Addr} {xs ys : Array Value} {Q : Value -> Shared -> Prop} (h1 : s.heap.IsList t xs) (h2 : s.heap.IsList u ys)
  (h : ∀ h',IsZip h' (s.heap.objs.size + 4) (s.heap.objs.size + 2) (s.heap.objs.size + 3) .none -> IsPair h' (s.heap.objs.size + 2) (.ref s.heap.objs.size) (.ref (s.heap.objs.size + 1)) -> IsPair h' (s.heap.objs.size + 3) .none .none →
   h'.IsListIter s.heap.objs.size t 0 -> h'.IsListIter (s.heap.objs.size + 1) u 0 -> h'.objs.size = s.heap.objs.size + 5 -> (∀ c o,s.heap.get? c = some o -> h'.get? c = some o) -> Q (.ref (s.heap.objs.size + 4)) { s with heap:=h' }) :
  wpAny (model prog w) A (call (.type "zip") [.ref t,.ref u]) Q E s:=by
 refine callType_new F.called_zip (by decide) (F.typeCall_zip_2 _ _) (F.newCall_zip_2 _ _) (fun obj=>F.args_object_init_3 obj _ _) F.entry_zip_new (meets_zipL t u xs ys) ⟨h1,h2,?_⟩
 have e1 : (yH1 s.heap t).objs.size = s.heap.objs.size + 1:=Heap.size_push ..
 have e2 : (yH2 s.heap t u).objs.size = s.heap.objs.size + 2:=by rw [Heap.size_push,e1]
 have e3 : (yH3 s.heap t u).objs.size = s.heap.objs.size + 3:=by rw [Heap.size_push,e2]
 have e4 : (yH4 s.heap t u).objs.size = s.heap.objs.size + 4:=by rw [Heap.size_push,e3]
 have e5 : (yH5 s.heap t u).objs.size = s.heap.objs.size + 5:=by rw [Heap.size_push,e4]
 have p5 : (yH5 s.heap t u).get? (yH4 s.heap t u).objs.size = some _:=Heap.get?_push_size _ rfl
 have p4 : (yH5 s.heap t u).get? (yH3 s.heap t u).objs.size = some _:=Heap.get?_push_of_some _ (Heap.get?_push_size _ rfl)
 have p3 : (yH5 s.heap t u).get? (yH2 s.heap t u).objs.size = some _:=Heap.get?_push_of_some _ (Heap.get?_push_of_some _ (Heap.get?_push_size _ rfl))
 have p2 : (yH5 s.heap t u).get? (yH1 s.heap t).objs.size = some _:=Heap.get?_push_of_some _ (Heap.get?_push_of_some _ (Heap.get?_push_of_some _ (Heap.get?_push_size _ rfl)))
 have p1 : (yH5 s.heap t u).get? s.heap.objs.size = some _:=Heap.get?_push_of_some _ (Heap.get?_push_of_some _ (Heap.get?_push_of_some _ (Heap.get?_push_of_some _ (Heap.get?_push_size _ rfl))))
 show _ /\ _
 rw [e2,e3,e4] at p5
 rw [e1,e2] at p3
 rw [e3] at p4
 rw [e1] at p2
 rw [e4]
 refine ⟨⟨_,p5,rfl⟩,h _ p5 p3 p4 ⟨_,p1,rfl,rfl⟩ ⟨_,p2,rfl,rfl⟩ e5 fun c o x=>?_⟩
 exact Heap.get?_push_of_some _ (Heap.get?_push_of_some _ (Heap.get?_push_of_some _ (Heap.get?_push_of_some _ (Heap.get?_push_of_some _ x))))
theorem meets_enumL (t : Addr) (ys : Array Value) (n : Nat) (dd : Option Addr) (sl : Array (Option Value)) : Meets (Builtin.«enumerate.__new__» ⟨[.type "enumerate",.ref t],[]⟩) (fun _ R s=>s.heap.get? t = some { cls:=.type "list",dict:=dd,data:=.seq ys n,slots:=sl } ∧
  R (.ok (.ret (.ref (yH1 s.heap t).objs.size))) { s with heap:=(yH1 s.heap t).push { cls:=.type "enumerate",data:=.fields #[.none,.bool false,.ref s.heap.objs.size,rawInt 0,.none,.none] } }) :=
 .of_wp fun prog w A R s h=>by
  obtain ⟨hp,g,d,tk,os⟩:=s
  obtain ⟨hl,h⟩:=h
  have hsub:=sub_enumerate
  have hL : Heap.IsList (Shared.heap ⟨hp,g,d,tk,os⟩) t ys:=⟨_,hl,rfl,n,rfl⟩
  wp_walk using wpAny_loadPart' hl
  refine wpAny_stack_any fun st=>wpAny_pure ?_
  split
  ·rename_i c _ _ _ _ _
   cases (c == Value.type "enumerate")
   ·wp_walk using wpAny_loadPart' hl,wpAny_pyIter_list hL
    exact ⟨_,rfl,h⟩
   ·wp_walk using wpAny_loadPart' hl,wpAny_pyIter_list hL
    exact ⟨_,rfl,h⟩
  ·wp_walk using wpAny_loadPart' hl,wpAny_pyIter_list hL
   exact ⟨_,rfl,h⟩
theorem call_enumL {prog : Program} {w : World} {A : Around} {E : Value -> Shared -> Prop} {s : Shared} {t : Addr} {ys : Array Value} {Q : Value -> Shared -> Prop} (ht : s.heap.IsList t ys)
  (h : ∀ h',IsEnum h' (s.heap.objs.size + 1) s.heap.objs.size 0 .none -> h'.IsListIter s.heap.objs.size t 0 -> h'.objs.size = s.heap.objs.size + 2 -> (∀ b o,s.heap.get? b = some o -> h'.get? b = some o) -> Q (.ref (s.heap.objs.size + 1)) { s with heap:=h' }) :
  wpAny (model prog w) A (call (.type "enumerate") [.ref t]) Q E s:=by
 obtain ⟨⟨c,dd,dt,sl⟩,e,c1,n,d1⟩:=ht
 cases c1
 cases d1
 refine callType_new F.called_enumerate (by decide) (F.typeCall_enumerate_1 _) (F.newCall_enumerate_1 _) (fun obj=>F.args_object_init_2 obj _) F.entry_enumerate_new (meets_enumL t ys n dd sl) ⟨e,?_⟩
 have hz : (yH1 s.heap t).objs.size = s.heap.objs.size + 1:=Heap.size_push ..
 show _ /\ _
 rw [hz]
 have he : IsEnum ((yH1 s.heap t).push { cls:=.type "enumerate",data:=.fields #[.none,.bool false,.ref s.heap.objs.size,rawInt 0,.none,.none] }) (s.heap.objs.size + 1) s.heap.objs.size 0 .none:=by
  have q:=Heap.get?_push_size (yH1 s.heap t) (o:={ cls:=.type "enumerate",data:=.fields #[.none,.bool false,.ref s.heap.objs.size,rawInt 0,.none,.none] }) rfl
  rw [hz] at q
  exact q
 exact ⟨⟨_,he,rfl⟩,h _ he ⟨_,Heap.get?_push_of_some _ (Heap.get?_push_size _ rfl),rfl,rfl⟩ (by rw [Heap.size_push,hz]) fun b o x=>Heap.get?_push_of_some _ (Heap.get?_push_of_some _ x)⟩
end Sb
namespace Sb
open PySem PySem.Spec PyProof.Rows L2
section
variable {X : Cx} {pins : List (Addr × Obj)} {σ : L2.St} {H : Hp} {s : Shared}
theorem lst_ne {b t : Addr} {xs : List V} (I : Inv X pins σ H s) (hf : FpOk X pins H b) (h : SqL X.K H t xs) : t ≠ b:=by
 rintro rfl
 rcases h with (h | ⟨o,h⟩) | ⟨o,its,n,h,_⟩
 ·rw [hf.1] at h; cases h
 ·rw [hf.1] at h; cases h
 ·have e:=I.ok.mod.kin _ _ h
  rcases hf.2.2.2.1 with z | z
  ·exact I.ok.noex _ _ e z
  ·exact absurd (Nat.lt_of_lt_of_le (Heap.lt_size (I.ok.bs _ _ e).1) z) (Nat.lt_irrefl _)
end
def ItzL (K : PySem.W.Frag) (t u : Addr) : It :=
 ⟨fun i H=>∃ xs ys,SqL K H t xs /\ SqL K H u ys /\ i < xs.length /\ i < ys.length,
   fun i H v H'=>∃ p x y,v = .ref p /\ H p = none /\ H' = upd H p (.tup [x,y]) /\ (∀ xs,SqL K H t xs -> xs[i]? = some x) /\ ∀ ys,SqL K H u ys -> ys[i]? = some y,
   fun i H=>∃ xs ys,SqL K H t xs /\ SqL K H u ys /\ i = xs.length⟩
theorem turn_zipL {P : Program} {w : World} {K : PySem.W.Frag} {es : List Expr} {kk : Nat} {tp : Pos} {z TI TO i1 i2 : Addr} (O : ZOff z TI TO i1 i2) (t u : Addr) :
  Turn P w K (.Tuple es kk tp) (ItzL K t u) [z,TI,TO,i1,i2] z (fun i h=>IsZip h z TI TO .none /\ IsPair h TI (.ref i1) (.ref i2) /\ (∃ a b,IsPair h TO a b) /\ h.IsListIter i1 t i /\ h.IsListIter i2 u i) where
 mem:=by simp
 obj:=fun i h ⟨hz,hTI,⟨a,b,hTO⟩,⟨o1,e1,_,d1⟩,⟨o2,e2,_,d2⟩⟩ b hb=>by
  simp only [List.mem_cons,List.not_mem_nil,or_false] at hb
  rcases hb with rfl | rfl | rfl | rfl | rfl
  ·exact ⟨_,hz,fun v q=>by have q' : Data.fields _ = Data.cell v:=q; cases q'⟩
  ·exact ⟨_,hTI,fun v q=>by have q' : Data.seq _ _ = Data.cell v:=q; cases q'⟩
  ·exact ⟨_,hTO,fun v q=>by have q' : Data.seq _ _ = Data.cell v:=q; cases q'⟩
  ·exact ⟨_,e1,fun v q=>by rw [d1] at q; cases q⟩
  ·exact ⟨_,e2,fun v q=>by rw [d2] at q; cases q⟩
 keep:=fun i h h' ⟨hz,hTI,⟨a,b,hTO⟩,⟨o1,e1,r1⟩,⟨o2,e2,r2⟩⟩ k=>⟨k z (by simp) _ hz,k TI (by simp) _ hTI,⟨a,b,k TO (by simp) _ hTO⟩,⟨o1,k i1 (by simp) _ e1,r1⟩,⟨o2,k i2 (by simp) _ e2,r2⟩⟩
 item:=by
  intro X hP hw hK hc i pins s σ H E I hf st hg
  subst hP hw hK
  obtain ⟨xs,ys,hx,hy,lx,ly⟩:=hg
  obtain ⟨hz,hTI,⟨a,b,hTO⟩,c1,c2⟩:=st
  obtain ⟨u1,v1,p1',_⟩:=I.list hx
  have p1:=p1'.isList
  obtain ⟨u2,v2,p2',_⟩:=I.list hy
  have p2:=p2'.isList
  have n1:=v1.length
  have n2:=v2.length
  have ne : ∀ b ∈ [z,TI,TO,i1,i2],t ≠ b /\ u ≠ b:=fun b hb=>⟨lst_ne I (hf b hb) hx,lst_ne I (hf b hb) hy⟩
  have D : Off z TI TO i1 i2 [i1,t] [i2,u]:=⟨O.a1,O.a2,O.a3,O.a4,O.a5,O.a6,O.a7,O.a8,O.a9,O.b1,
   by simp [O.a3.symm,(ne z (by simp)).1.symm],by simp [O.a8,(ne TO (by simp)).1.symm],by simp [O.b1.symm,(ne i2 (by simp)).1.symm],
   by simp [O.a4.symm,(ne z (by simp)).2.symm],by simp [O.a9,(ne TO (by simp)).2.symm],by simp [O.b1,(ne i1 (by simp)).2.symm]⟩
  have hh : X.A.in1.handled = none:=I.ok.hd hc
  have D1:=Draws.list (prog:=X.prog) (w:=X.w) hh i1 t (ne i1 (by simp)).1 u1.toArray
  have D2:=Draws.list (prog:=X.prog) (w:=X.w) hh i2 u (ne i2 (by simp)).2 u2.toArray
  refine pyNext_zipD D D1 D2 hz hTI hTO ⟨c1,p1⟩ ⟨c2,p2⟩ (by simp; omega) (by simp; omega) fun x y g tk px py z' to' s1 s2 pr sz kp=>?_
  refine ⟨_,rfl,wpAny_letOwnedTupleGo_zip z' fun g2 z2 sb=>?_⟩
  obtain ⟨x0,ex⟩ : ∃ x0,xs[i]? = some x0:=⟨xs[i],by simp [lx]⟩
  obtain ⟨y0,ey⟩ : ∃ y0,ys[i]? = some y0:=⟨ys[i],by simp [ly]⟩
  obtain ⟨x1,ex1,rx⟩:=v1.get ex
  obtain ⟨y1,ey1,ry⟩:=v2.get ey
  have qx : x1 = x:=by
   have : u1.toArray[i]? = some x:=px
   rw [List.getElem?_toArray,ex1] at this
   exact Option.some.inj this
  have qy : y1 = y:=by
   have : u2.toArray[i]? = some y:=py
   rw [List.getElem?_toArray,ey1] at this
   exact Option.some.inj this
  subst qx qy
  have zlt : z < s.heap.objs.size:=Heap.lt_size hz
  have pz : s.heap.objs.size ≠ z:=Nat.ne_of_gt zlt
  have sb2 : ∀ b,b ≠ z -> g2.get? b = g.get? b:=fun b hb=>sb.2 b hb
  have keep : ∀ b o,b ∉ [z,TI,TO,i1,i2] -> s.heap.get? b = some o -> g2.get? b = some o:=fun b o hb e=>by
   simp only [List.mem_cons,List.not_mem_nil,or_false,not_or] at hb
   rw [sb2 b hb.1]
   exact kp b o hb.1 hb.2.2.1 hb.2.2.2.1 hb.2.2.2.2 e
  have new : ObjOk X.prog X.w (upd H s.heap.objs.size (.tup [x0,y0])) g2 s.heap.objs.size (.tup [x0,y0]) :=
   ⟨by show 2 <= sizeLine; decide,[x1,y1],.cons rx (.cons ry .nil),⟨_,by rw [sb2 _ pz]; exact pr,rfl,0,rfl⟩⟩
  have I2:=inv_recs_new (t':=tk) I hf keep (Nat.le_refl _) new
  have nn : ∀ b ∈ [z,TI,TO,i1,i2],upd H s.heap.objs.size (.tup [x0,y0]) b = none:=fun b hb=>by
   have : b ≠ s.heap.objs.size:=by
    have ob : ∃ o,s.heap.get? b = some o:=by
     simp only [List.mem_cons,List.not_mem_nil,or_false] at hb
     obtain ⟨o1,e1,_⟩:=c1
     obtain ⟨o2,e2,_⟩:=c2
     rcases hb with rfl | rfl | rfl | rfl | rfl
     ·exact ⟨_,hz⟩
     ·exact ⟨_,hTI⟩
     ·exact ⟨_,hTO⟩
     ·exact ⟨_,e1⟩
     ·exact ⟨_,e2⟩
    obtain ⟨o,e⟩:=ob
    exact Nat.ne_of_lt (Heap.lt_size e)
   rw [upd_ne this]
   exact (hf b hb).1
  refine ⟨.ref s.heap.objs.size,_,I2,rfl,⟨_,x0,y0,rfl,I.fresh,rfl,fun xs' h1=>by rw [I.list_inj h1 hx]; exact ex,fun ys' h2=>by rw [I.list_inj h2 hy]; exact ey⟩,⟨z2,?_,⟨x1,y1,?_⟩,?_,?_⟩,nn⟩
  ·exact (sb2 TI O.a1).trans (kp _ _ O.a1 O.a5 O.a6 O.a7 hTI)
  ·exact (sb2 TO O.a2).trans to'
  ·exact s1.1.extBut sb.extBut O.a3
  ·exact s2.1.extBut sb.extBut O.a4
 done:=by
  intro X hP hw hK hc i pins s σ H E I hf st hg
  subst hP hw hK
  obtain ⟨xs,ys,hx,hy,rfl⟩:=hg
  obtain ⟨hz,hTI,⟨a,b,hTO⟩,c1,c2⟩:=st
  obtain ⟨u1,v1,p1',_⟩:=I.list hx
  have p1:=p1'.isList
  have n1:=v1.length
  have ne : ∀ b ∈ [z,TI,TO,i1,i2],t ≠ b /\ u ≠ b:=fun b hb=>⟨lst_ne I (hf b hb) hx,lst_ne I (hf b hb) hy⟩
  have D : Off z TI TO i1 i2 [i1,t] [i2,u]:=⟨O.a1,O.a2,O.a3,O.a4,O.a5,O.a6,O.a7,O.a8,O.a9,O.b1,
   by simp [O.a3.symm,(ne z (by simp)).1.symm],by simp [O.a8,(ne TO (by simp)).1.symm],by simp [O.b1.symm,(ne i2 (by simp)).1.symm],
   by simp [O.a4.symm,(ne z (by simp)).2.symm],by simp [O.a9,(ne TO (by simp)).2.symm],by simp [O.b1,(ne i1 (by simp)).2.symm]⟩
  have hh : X.A.in1.handled = none:=I.ok.hd hc
  have D1:=Draws.list (prog:=X.prog) (w:=X.w) hh i1 t (ne i1 (by simp)).1 u1.toArray
  have c1' : s.heap.IsListIter i1 t u1.toArray.size:=by
   rw [List.size_toArray,← n1]
   exact c1
  refine pyNext_zipD_end D D1 hz hTI ⟨c1',p1⟩ fun g kp=>⟨rfl,?_⟩
  exact inv_recs (t':=s.toks) I hf fun b o hb e=>by
   simp only [List.mem_cons,List.not_mem_nil,or_false,not_or] at hb
   exact kp b o hb.1 hb.2.2.2.1 e
 self:=fun _ _ _ _ _ st h=>wpAny_pyIter_zip st.1 h
section
variable {X : Cx}
def iZipL (K : PySem.W.Frag) (ta : TA) : TI:=fun σ H R=>ta σ H fun vs H1=>∃ t u,vs = [.ref t,.ref u] /\ (∃ xs,SqL K H1 t xs) /\ (∃ ys,SqL K H1 u ys) /\ R (ItzL K t u) H1
theorem pi_zipL {a b : Expr} {ta : TA} {p pos : Pos} {es : List Expr} {kk : Nat} {tp : Pos} (hg : Gl X "zip") (hm : X.mg "zip" = none) (ha : PA X [a,b] ta) (hs : starEach [a,b] X.env = [(false,eval a X.env),(false,eval b X.env)]:=by rfl)
  (hs2 : starEach [b] X.env = [(false,eval b X.env)]:=by rfl) : PI X (.Tuple es kk tp) (.Call (.Name "zip" p) [a,b] [] pos) (iZipL X.K ta):=by
 intro pins s σ H R I h
 refine Call_ (ld_blt I hg hm boot_zip (PyProof.Rows.callWith_type1 (thn (ha pos pins s σ H _ I h) fun us s1 ⟨vs,H1,I1,r1,q1⟩=>?_) (by rw [hs,hs2]) (by rw [hs2]; rfl)))
 obtain ⟨t,u,e,⟨xs,hx⟩,⟨ys,hy⟩,q⟩:=q1
 subst e
 obtain ⟨t0,u0,e0,rt,ru⟩:=vals2 r1
 cases (show t0 = Value.ref t from rt)
 cases (show u0 = Value.ref u from ru)
 subst e0
 obtain ⟨u1,v1,p1',_⟩:=I1.list hx
 have p1:=p1'.isList
 obtain ⟨u2,v2,p2',_⟩:=I1.list hy
 have p2:=p2'.isList
 refine call_zipL (xs:=u1.toArray) (ys:=u2.toArray) p1 p2 fun g z0 ti to i1 i2 sz kp=>?_
 refine wpAny_pyIter_zip z0 ?_
 have I2 : Inv X pins σ H1 { s1 with heap:=g }:=I1.kept (t':=s1.toks) kp
 refine ⟨s1.heap.objs.size + 4,[s1.heap.objs.size + 4,s1.heap.objs.size + 2,s1.heap.objs.size + 3,s1.heap.objs.size,s1.heap.objs.size + 1],_,ItzL X.K t u,H1,rfl,I2,turn_zipL (O:=?_) t u,⟨z0,ti,⟨_,_,to⟩,i1,i2⟩,fun b hb=>?_,q⟩
 ·refine ⟨?_,?_,?_,?_,?_,?_,?_,?_,?_,?_⟩ <;> (show @Ne Nat _ _; omega)
 ·have hb' : s1.heap.objs.size <= b:=by
   simp only [List.mem_cons,List.not_mem_nil,or_false] at hb
   rcases hb with rfl | rfl | rfl | rfl | rfl
   ·exact Nat.le_add_right _ _
   ·exact Nat.le_add_right _ _
   ·exact Nat.le_add_right _ _
   ·exact Nat.le_refl _
   ·exact Nat.le_add_right _ _
  exact I1.fpOk hb' (I1.hok.fresh hb')
end
end Sb
namespace Sb
open PySem PySem.Spec PyProof.Rows L2
def IteL (K : PySem.W.Frag) (t : Addr) : It :=
 ⟨fun i H=>∃ xs,SqL K H t xs /\ i < xs.length,
   fun i H v H'=>∃ p x,v = .ref p /\ H p = none /\ H' = upd H p (.tup [.int (i : Int),x]) /\ ∀ xs,SqL K H t xs -> xs[i]? = some x,
   fun i H=>∃ xs,SqL K H t xs /\ i = xs.length⟩
theorem turn_enumL {P : Program} {w : World} {K : PySem.W.Frag} {es : List Expr} {kk : Nat} {tp : Pos} {e it : Addr} (O : e ≠ it) (t : Addr) :
  Turn P w K (.Tuple es kk tp) (IteL K t) [e,it] e (fun i h=>(∃ old,IsEnum h e it (i : Int) old) /\ h.IsListIter it t i) where
 mem:=by simp
 obj:=fun i h ⟨⟨old,he⟩,⟨o1,e1,_,d1⟩⟩ b hb=>by
  simp only [List.mem_cons,List.not_mem_nil,or_false] at hb
  rcases hb with rfl | rfl
  ·exact ⟨_,he,fun v q=>by have q' : Data.fields _ = Data.cell v:=q; cases q'⟩
  ·exact ⟨_,e1,fun v q=>by rw [d1] at q; cases q⟩
 keep:=fun i h h' ⟨⟨old,he⟩,⟨o1,e1,r1⟩⟩ k=>⟨⟨old,k e (by simp) _ he⟩,⟨o1,k it (by simp) _ e1,r1⟩⟩
 item:=by
  intro X hP hw hK hc i pins s σ H E I hf st hg
  subst hP hw hK
  obtain ⟨xs,hx,lx⟩:=hg
  obtain ⟨⟨old,he⟩,c1⟩:=st
  obtain ⟨u1,v1,p1',_⟩:=I.list hx
  have p1:=p1'.isList
  have n1:=v1.length
  have ne : ∀ b ∈ [e,it],t ≠ b:=fun b hb=>lst_ne I (hf b hb) hx
  have hh : X.A.in1.handled = none:=I.ok.hd hc
  have D1:=Draws.list (prog:=X.prog) (w:=X.w) hh it t (ne it (by simp)) u1.toArray
  refine wpAny_pyNext_enum_itemD D1 he ⟨c1,p1⟩ (by simp; omega) O (by simp [O,(ne e (by simp)).symm]) fun x g tk px out s1 pr sz kp=>?_
  refine ⟨_,rfl,wpAny_letOwnedTupleGo_enum out fun g2 z2 sb=>?_⟩
  obtain ⟨x0,ex⟩ : ∃ x0,xs[i]? = some x0:=⟨xs[i],by simp [lx]⟩
  obtain ⟨x1,ex1,rx⟩:=v1.get ex
  have qx : x1 = x:=by
   have : u1.toArray[i]? = some x:=px
   rw [List.getElem?_toArray,ex1] at this
   exact Option.some.inj this
  subst qx
  have elt : e < s.heap.objs.size:=Heap.lt_size he
  have pe : s.heap.objs.size ≠ e:=Nat.ne_of_gt elt
  have sb2 : ∀ b,b ≠ e -> g2.get? b = g.get? b:=fun b hb=>sb.2 b hb
  have keep : ∀ b o,b ∉ [e,it] -> s.heap.get? b = some o -> g2.get? b = some o:=fun b o hb q=>by
   simp only [List.mem_cons,List.not_mem_nil,or_false,not_or] at hb
   rw [sb2 b hb.1]
   exact kp b o hb.1 hb.2 q
  have new : ObjOk X.prog X.w (upd H s.heap.objs.size (.tup [.int (i : Int),x0])) g2 s.heap.objs.size (.tup [.int (i : Int),x0]) :=
   ⟨by show 2 <= sizeLine; decide,[.int (i : Int) tk,x1],.cons ⟨tk,rfl⟩ (.cons rx .nil),⟨_,by rw [sb2 _ pe]; exact pr,rfl,0,rfl⟩⟩
  have I2:=inv_recs_new (t':=tk + 1) I hf keep (Nat.le_refl _) new
  have nn : ∀ b ∈ [e,it],upd H s.heap.objs.size (.tup [.int (i : Int),x0]) b = none:=fun b hb=>by
   have : b ≠ s.heap.objs.size:=by
    have ob : ∃ o,s.heap.get? b = some o:=by
     simp only [List.mem_cons,List.not_mem_nil,or_false] at hb
     obtain ⟨o1,e1,_⟩:=c1
     rcases hb with rfl | rfl
     ·exact ⟨_,he⟩
     ·exact ⟨_,e1⟩
    obtain ⟨o,q⟩:=ob
    exact Nat.ne_of_lt (Heap.lt_size q)
   rw [upd_ne this]
   exact (hf b hb).1
  refine ⟨.ref s.heap.objs.size,_,I2,rfl,⟨_,x0,rfl,I.fresh,rfl,fun xs' h1=>by rw [I.list_inj h1 hx]; exact ex⟩,⟨⟨x1,?_⟩,?_⟩,nn⟩
  ·exact z2
  ·exact s1.1.extBut sb.extBut O.symm
 done:=by
  intro X hP hw hK hc i pins s σ H E I hf st hg
  subst hP hw hK
  obtain ⟨xs,hx,rfl⟩:=hg
  obtain ⟨⟨old,he⟩,c1⟩:=st
  obtain ⟨u1,v1,p1',_⟩:=I.list hx
  have p1:=p1'.isList
  have n1:=v1.length
  have ne : ∀ b ∈ [e,it],t ≠ b:=fun b hb=>lst_ne I (hf b hb) hx
  have hh : X.A.in1.handled = none:=I.ok.hd hc
  have D1:=Draws.list (prog:=X.prog) (w:=X.w) hh it t (ne it (by simp)) u1.toArray
  have c1' : s.heap.IsListIter it t u1.toArray.size:=by
   rw [List.size_toArray,← n1]
   exact c1
  refine wpAny_pyNext_enum_endD D1 he ⟨c1',p1⟩ fun g kp=>⟨rfl,?_⟩
  exact inv_recs (t':=s.toks) I hf fun b o hb q=>by
   simp only [List.mem_cons,List.not_mem_nil,or_false,not_or] at hb
   exact kp b o hb.2 q
 self:=fun _ _ _ _ _ st h=>by
  obtain ⟨⟨old,he⟩,_⟩:=st
  exact wpAny_pyIter_enum he h
section
variable {X : Cx}
def iEnumL (K : PySem.W.Frag) (ta : TA) : TI:=fun σ H R=>ta σ H fun vs H1=>∃ t,vs = [.ref t] /\ (∃ xs,SqL K H1 t xs) /\ R (IteL K t) H1
theorem pi_enumL {a : Expr} {ta : TA} {p pos : Pos} {es : List Expr} {kk : Nat} {tp : Pos} (hg : Gl X "enumerate") (hm : X.mg "enumerate" = none) (ha : PA X [a] ta) (hs : starEach [a] X.env = [(false,eval a X.env)]:=by rfl) :
  PI X (.Tuple es kk tp) (.Call (.Name "enumerate" p) [a] [] pos) (iEnumL X.K ta):=by
 intro pins s σ H R I h
 refine Call_ (ld_blt I hg hm boot_enumerate (PyProof.Rows.callWith_type1 (thn (ha pos pins s σ H _ I h) fun us s1 ⟨vs,H1,I1,r1,q1⟩=>?_) hs rfl))
 obtain ⟨t,e,⟨xs,hx⟩,q⟩:=q1
 subst e
 obtain ⟨t0,e0,rt⟩:=vals1 r1
 cases (show t0 = Value.ref t from rt)
 subst e0
 obtain ⟨u1,v1,p1',_⟩:=I1.list hx
 have p1:=p1'.isList
 refine call_enumL (ys:=u1.toArray) p1 fun g z0 i1 sz kp=>?_
 refine wpAny_pyIter_enum z0 ?_
 have I2 : Inv X pins σ H1 { s1 with heap:=g }:=I1.kept (t':=s1.toks) kp
 refine ⟨s1.heap.objs.size + 1,[s1.heap.objs.size + 1,s1.heap.objs.size],_,IteL X.K t,H1,rfl,I2,turn_enumL (O:=?_) t,⟨⟨_,z0⟩,i1⟩,fun b hb=>?_,q⟩
 ·show @Ne Nat _ _
  omega
 ·have hb' : s1.heap.objs.size <= b:=by
   simp only [List.mem_cons,List.not_mem_nil,or_false] at hb
   rcases hb with rfl | rfl
   ·exact Nat.le_add_right _ _
   ·exact Nat.le_refl _
  exact I1.fpOk hb' (I1.hok.fresh hb')
end
end Sb
namespace Sv
def sm : Nat -> (Nat -> Int) -> Int
 | 0,_=>0
 | n + 1,f=>sm n f + f n
theorem sm_congr {n : Nat} {f g : Nat -> Int} (h : ∀ i,i < n -> f i = g i) : sm n f = sm n g:=by
 induction n with
 | zero=>rfl
 | succ n ih =>
  show sm n f + f n = sm n g + g n
  rw [ih fun i hi=>h i (by omega),h n (by omega)]
theorem sm_add (n : Nat) (f g : Nat -> Int) : sm n (fun i=>f i + g i) = sm n f + sm n g:=by
 induction n with
 | zero=>rfl
 | succ n ih=>show sm n _ + (f n + g n) = (sm n f + f n) + (sm n g + g n); rw [ih]; omega
theorem sm_mul (a : Int) (n : Nat) (f : Nat -> Int) : sm n (fun i=>a * f i) = a * sm n f:=by
 induction n with
 | zero=>show (0 : Int) = a * 0; simp
 | succ n ih=>show sm n _ + _ = a * (sm n f + f n); rw [ih,Int.mul_add]
theorem sm_zero {n : Nat} {f : Nat -> Int} (h : ∀ i,i < n -> f i = 0) : sm n f = 0:=by
 induction n with
 | zero=>rfl
 | succ n ih=>show sm n f + f n = 0; rw [ih fun i hi=>h i (by omega),h n (by omega)]; rfl
theorem sm_split {n k : Nat} {f : Nat -> Int} (hk : k < n) : sm n f = f k + sm n (fun i=>if i = k then 0 else f i):=by
 induction n with
 | zero=>omega
 | succ n ih =>
  show sm n f + f n = f k + (sm n (fun i=>if i = k then 0 else f i) + if n = k then 0 else f n)
  by_cases e : n = k
  ·subst e
   rw [if_pos rfl,sm_congr (f:=fun i=>if i = n then 0 else f i) (g:=f) fun i hi=>if_neg (by omega)]
   omega
  ·rw [if_neg e,ih (by omega)]
   omega
theorem sm_nonneg {n : Nat} {f : Nat -> Int} (h : ∀ i,i < n -> 0 <= f i) : 0 <= sm n f:=by
 induction n with
 | zero=>exact Int.le_refl _
 | succ n ih =>
  show 0 <= sm n f + f n
  have:=ih fun i hi=>h i (by omega)
  have:=h n (by omega)
  omega
theorem sm_le {n : Nat} {f g : Nat -> Int} (h : ∀ i,i < n -> f i <= g i) : sm n f <= sm n g:=by
 induction n with
 | zero=>exact Int.le_refl _
 | succ n ih =>
  show sm n f + f n <= sm n g + g n
  have:=ih fun i hi=>h i (by omega)
  have:=h n (by omega)
  omega
abbrev Vec:=Nat -> Int
abbrev Mat:=Nat -> Vec
def put (v : Mat) (c : Nat) (x : Vec) : Mat:=fun i=>if i = c then x else v i
end Sv
namespace Sb
theorem dvd_cop {a b c : Int} (h : a ∣ b * c) (g : Int.gcd a b = 1) : a ∣ c:=by
 have h1 : a.natAbs ∣ b.natAbs * c.natAbs:=by
  rw [← Int.natAbs_mul]
  exact Int.natAbs_dvd_natAbs.mpr h
 exact Int.natAbs_dvd_natAbs.mp (Nat.Coprime.dvd_of_dvd_mul_left g h1)
theorem rat_unique {r s : Rat} (hr : 0 < r.2) (hs : 0 < s.2) (cr : Int.gcd r.1 r.2 = 1) (cs : Int.gcd s.1 s.2 = 1) (h : r.1 * s.2 = s.1 * r.2) : r = s:=by
 have d1 : r.2 ∣ s.2:=by
  have : r.2 ∣ r.1 * s.2:=⟨s.1,by rw [h,Int.mul_comm]⟩
  exact dvd_cop this (by rw [Int.gcd_comm]; exact cr)
 have d2 : s.2 ∣ r.2:=by
  have : s.2 ∣ s.1 * r.2:=⟨r.1,by rw [← h,Int.mul_comm]⟩
  exact dvd_cop this (by rw [Int.gcd_comm]; exact cs)
 have e : r.2 = s.2:=Int.dvd_antisymm (by omega) (by omega) d1 d2
 have e1 : r.1 = s.1:=by
  rw [e] at h
  exact Int.eq_of_mul_eq_mul_right (by omega) h
 obtain ⟨a,b⟩:=r
 obtain ⟨c,d⟩:=s
 simp only at e e1
 rw [e,e1]
theorem dvd_of_rep {r : Rat} {D W : Int} (hr : 0 < r.2) (cr : Int.gcd r.1 r.2 = 1) (h : r.1 * D = W * r.2) : r.2 ∣ D :=
 dvd_cop (show r.2 ∣ r.1 * D from ⟨W,by rw [h,Int.mul_comm]⟩) (by rw [Int.gcd_comm]; exact cr)
theorem le_of_dvd_pos {a b : Int} (hb : 0 < b) (h : a ∣ b) : a.natAbs <= b.natAbs:=by
 have:=Int.natAbs_dvd_natAbs.mpr h
 exact Nat.le_of_dvd (by omega) this
theorem rep_le {r : Rat} {D W : Int} (hD : 0 < D) (hr : 0 < r.2) (cr : Int.gcd r.1 r.2 = 1) (h : r.1 * D = W * r.2) : r.1.natAbs <= W.natAbs /\ r.2.natAbs <= D.natAbs:=by
 have d:=dvd_of_rep hr cr h
 refine ⟨?_,le_of_dvd_pos hD d⟩
 obtain ⟨k,e⟩:=d
 have : W = r.1 * k:=by
  rw [e] at h
  have : (r.1 * k) * r.2 = W * r.2:=by rw [← h]; rw [Int.mul_assoc,Int.mul_comm k]
  exact (Int.eq_of_mul_eq_mul_right (by omega) this).symm
 rw [this,Int.natAbs_mul]
 refine Nat.le_mul_of_pos_right _ ?_
 have : k ≠ 0:=by
  intro z
  rw [z] at e
  simp at e
  omega
 omega
theorem good_of_rep {n : Nat} {r : Rat} {D W : Int} (hD : 0 < D) (hr : 0 < r.2) (cr : Int.gcd r.1 r.2 = 1) (h : r.1 * D = W * r.2) (bD : Bd n D) (bW : Bd n W) : Good n r :=
 ⟨bW.of_le' (rep_le hD hr cr h).1,bD.of_le' (rep_le hD hr cr h).2,hr,cr⟩
theorem rep_nrm {p q : Int} (_ : q ≠ 0) : (nrm p q).1 * q = p * (nrm p q).2:=n_cross p q
theorem rep_mul {r s : Rat} {D1 D2 W1 W2 : Int} (hr : 0 < r.2) (hs : 0 < s.2) (h1 : r.1 * D1 = W1 * r.2) (h2 : s.1 * D2 = W2 * s.2) : (mulR' r s).1 * (D1 * D2) = (W1 * W2) * (mulR' r s).2:=by
 have h3 : (mulR' r s).1 * (r.2 * s.2) = (r.1 * s.1) * (mulR' r s).2:=n_cross _ _
 generalize mulR' r s = m at *
 have : (r.2 * s.2) * (m.1 * (D1 * D2)) = (r.2 * s.2) * (W1 * W2 * m.2):=by grind
 exact Int.eq_of_mul_eq_mul_left (mul_ne hr hs) this
theorem rep_add {r s : Rat} {D W1 W2 : Int} (hr : 0 < r.2) (hs : 0 < s.2) (h1 : r.1 * D = W1 * r.2) (h2 : s.1 * D = W2 * s.2) : (addR r s).1 * D = (W1 + W2) * (addR r s).2:=by
 have h3 : (addR r s).1 * (r.2 * s.2) = (r.1 * s.2 + s.1 * r.2) * (addR r s).2:=n_cross _ _
 generalize addR r s = m at *
 have : (r.2 * s.2) * (m.1 * D) = (r.2 * s.2) * ((W1 + W2) * m.2):=by grind
 exact Int.eq_of_mul_eq_mul_left (mul_ne hr hs) this
structure Low (r : Rat) : Prop where
 pos : 0 < r.2
 cop : Int.gcd r.1 r.2 = 1
theorem Good.low {n : Nat} {r : Rat} (h : Good n r) : Low r:=⟨h.pos,h.cop⟩
theorem low_nrm {p q : Int} (h : q ≠ 0) : Low (nrm p q):=⟨nB_pos h,n_gcd h⟩
theorem low_add {r s : Rat} (hr : Low r) (hs : Low s) : Low (addR r s):=low_nrm (mul_ne hr.pos hs.pos)
theorem low_mul {r s : Rat} (hr : Low r) (hs : Low s) : Low (mulR' r s):=low_nrm (mul_ne hr.pos hs.pos)
theorem low01 : Low (0,1):=⟨by decide,by decide⟩
structure RepL (n : Nat) (D : Int) (Ws : List Int) (rs : List Rat) : Prop where
 pos : 0 < D
 bD : Bd n D
 len : Ws.length = rs.length
 at_ : ∀ (i : Nat) (W : Int) (r : Rat),Ws[i]? = some W -> rs[i]? = some r -> r.1 * D = W * r.2 /\ Bd n W /\ Low r
theorem RepL.good {n : Nat} {D : Int} {Ws : List Int} {rs : List Rat} (h : RepL n D Ws rs) : ∀ r ∈ rs,Good n r:=fun r hr=>by
 obtain ⟨i,hi⟩:=List.getElem?_of_mem hr
 have hl : i < rs.length:=(List.getElem?_eq_some_iff.mp hi).1
 have hw : i < Ws.length:=by rw [h.len]; exact hl
 obtain ⟨e,b,l⟩:=h.at_ i Ws[i] r (by simp [hw]) hi
 exact good_of_rep h.pos l.pos l.cop e h.bD b
def lcm1 (l b : Int) : Int:=(l * b).fdiv (Int.gcd l b)
theorem lcm1_spec {l b : Int} (hl : 0 < l) (hb : 0 < b) : 0 < lcm1 l b /\ l ∣ lcm1 l b /\ b ∣ lcm1 l b /\ ∀ D,l ∣ D -> b ∣ D -> lcm1 l b ∣ D:=by
 have hg : 0 < (Int.gcd l b : Int):=by
  have:=Int.gcd_pos_of_ne_zero_left b (show l ≠ 0 by omega)
  omega
 obtain ⟨x,ex⟩:=Int.gcd_dvd_left (a:=l) (b:=b)
 obtain ⟨y,ey⟩:=Int.gcd_dvd_right (a:=l) (b:=b)
 have e1 : lcm1 l b = x * b:=by
  unfold lcm1
  have : l * b = (x * b) * (Int.gcd l b : Int):=by
   conv=>lhs; rw [ex]
   rw [Int.mul_comm (Int.gcd l b : Int),Int.mul_assoc,Int.mul_comm (Int.gcd l b : Int),← Int.mul_assoc]
  rw [this,Int.mul_fdiv_cancel _ (by omega)]
 have e2 : lcm1 l b = l * y:=by
  unfold lcm1
  have : l * b = (l * y) * (Int.gcd l b : Int):=by
   conv=>lhs; rw [ey]
   rw [Int.mul_comm (Int.gcd l b : Int),Int.mul_assoc]
  rw [this,Int.mul_fdiv_cancel _ (by omega)]
 have hx : 0 < x:=by
  apply Classical.byContradiction
  intro z
  have : (Int.gcd l b : Int) * x <= 0:=Int.mul_nonpos_of_nonneg_of_nonpos (by omega) (by omega)
  omega
 refine ⟨by rw [e1]; exact Int.mul_pos hx hb,⟨y,e2⟩,⟨x,by rw [e1,Int.mul_comm]⟩,fun D h1 h2=>?_⟩
 have : (lcm1 l b).natAbs ∣ D.natAbs:=by
  have e3 : (lcm1 l b).natAbs = Nat.lcm l.natAbs b.natAbs:=by
   unfold Nat.lcm
   have g : Nat.gcd l.natAbs b.natAbs = Int.gcd l b:=rfl
   rw [g]
   have e4 : (lcm1 l b).natAbs * Int.gcd l b = l.natAbs * b.natAbs:=by
    rw [← Int.natAbs_mul,e1]
    have : ((x * b).natAbs) * Int.gcd l b = (x * b * (Int.gcd l b : Int)).natAbs:=by
     rw [Int.natAbs_mul (x * b)]
     rfl
    rw [this]
    congr 1
    conv=>rhs; rw [ex]
    rw [Int.mul_assoc,Int.mul_comm b,← Int.mul_assoc,Int.mul_comm x]
   rw [← e4]
   exact (Nat.mul_div_cancel _ (by omega)).symm
  rw [e3]
  exact Nat.lcm_dvd (Int.natAbs_dvd_natAbs.mpr h1) (Int.natAbs_dvd_natAbs.mpr h2)
 exact Int.natAbs_dvd_natAbs.mp this
def lcmB (rs : List Rat) : Int:=rs.foldl (fun l r=>lcm1 l r.2) 1
theorem lcmB_snoc (rs : List Rat) (r : Rat) : lcmB (rs ++ [r]) = lcm1 (lcmB rs) r.2:=by
 unfold lcmB
 rw [List.foldl_append]
 rfl
theorem lcmB_take {rs : List Rat} {i : Nat} {r : Rat} (h : rs[i]? = some r) : lcmB (rs.take (i + 1)) = lcm1 (lcmB (rs.take i)) r.2:=by rw [take_snoc h,lcmB_snoc]
theorem fold_lcm : ∀ (rs : List Rat) (l : Int),0 < l -> (∀ r ∈ rs,0 < r.2) -> 0 < rs.foldl (fun l r=>lcm1 l r.2) l /\ l ∣ rs.foldl (fun l r=>lcm1 l r.2) l /\ (∀ r ∈ rs,r.2 ∣ rs.foldl (fun l r=>lcm1 l r.2) l) /\ ∀ D,l ∣ D -> (∀ r ∈ rs,r.2 ∣ D) -> rs.foldl (fun l r=>lcm1 l r.2) l ∣ D
 | [],l,hl,_=>⟨hl,Int.dvd_refl _,(fun _ h=>nomatch h),fun D h _=>h⟩
 | r :: t,l,hl,h=>by
  obtain ⟨p,d1,d2,m⟩:=lcm1_spec hl (h r List.mem_cons_self)
  obtain ⟨p',d1',d2',m'⟩:=fold_lcm t (lcm1 l r.2) p fun x hx=>h x (List.mem_cons_of_mem _ hx)
  refine ⟨p',Int.dvd_trans d1 d1',fun x hx=>?_,fun D h1 h2=>m' D (m D h1 (h2 r List.mem_cons_self)) fun x hx=>h2 x (List.mem_cons_of_mem _ hx)⟩
  rcases List.mem_cons.mp hx with rfl | hx
  ·exact Int.dvd_trans d2 d1'
  ·exact d2' x hx
theorem lcmB_spec {rs : List Rat} (h : ∀ r ∈ rs,0 < r.2) : 0 < lcmB rs /\ (∀ r ∈ rs,r.2 ∣ lcmB rs) /\ ∀ D,(∀ r ∈ rs,r.2 ∣ D) -> lcmB rs ∣ D:=by
 obtain ⟨p,_,d,m⟩:=fold_lcm rs 1 (by decide) h
 exact ⟨p,d,fun D hD=>m D (Int.one_dvd _) hD⟩
def wholeB (rs : List Rat) (D : Int) : List Int:=rs.map fun r=>r.1 * D.fdiv r.2
theorem wholeB_rep {r : Rat} {D : Int} (h : r.2 ∣ D) : r.1 * D = (r.1 * D.fdiv r.2) * r.2:=by
 have:=fdiv_exact h
 rw [Int.mul_assoc,this]
theorem RepL.least {n : Nat} {D : Int} {Ws : List Int} {rs : List Rat} (h : RepL n D Ws rs) : RepL n (lcmB rs) (wholeB rs (lcmB rs)) rs:=by
 have low : ∀ r ∈ rs,Low r:=fun r hr=>(h.good r hr).low
 obtain ⟨p,d,m⟩:=lcmB_spec fun r hr=>(low r hr).pos
 have dD : ∀ r ∈ rs,r.2 ∣ D:=fun r hr=>by
  obtain ⟨i,hi⟩:=List.getElem?_of_mem hr
  have hl : i < rs.length:=(List.getElem?_eq_some_iff.mp hi).1
  have hw : i < Ws.length:=by rw [h.len]; exact hl
  obtain ⟨e,b,l⟩:=h.at_ i Ws[i] r (by simp [hw]) hi
  exact dvd_of_rep l.pos l.cop e
 have hd:=m D dD
 refine ⟨p,h.bD.of_le' (le_of_dvd_pos h.pos hd),by unfold wholeB; rw [List.length_map],fun i W r hW hr=>?_⟩
 have hrm:=List.mem_of_getElem? hr
 have hl : i < rs.length:=(List.getElem?_eq_some_iff.mp hr).1
 have hw : i < Ws.length:=by rw [h.len]; exact hl
 obtain ⟨e,b,l⟩:=h.at_ i Ws[i] r (by simp [hw]) hr
 unfold wholeB at hW
 rw [List.getElem?_map,hr] at hW
 cases hW
 refine ⟨wholeB_rep (d r hrm),?_,l⟩
 obtain ⟨k,ek⟩:=hd
 have e1:=wholeB_rep (D:=lcmB rs) (d r hrm)
 have hk : Ws[i] = (r.1 * (lcmB rs).fdiv r.2) * k:=by
  have : (r.1 * (lcmB rs).fdiv r.2 * k) * r.2 = Ws[i] * r.2:=by
   rw [← e,ek,← Int.mul_assoc,e1]
   grind
  exact (Int.eq_of_mul_eq_mul_right (by have:=l.pos; omega) this).symm
 have hk0 : k ≠ 0:=by
  intro z
  rw [z,Int.mul_zero] at ek
  have:=h.pos
  omega
 refine b.of_le' ?_
 rw [hk,Int.natAbs_mul _ k]
 exact Nat.le_mul_of_pos_right _ (by omega)
theorem fdiv_le {a b : Int} (ha : 0 < a) (hb : 0 < b) : (a.fdiv b).natAbs <= a.natAbs:=by
 rw [Int.fdiv_eq_ediv_of_nonneg _ (by omega)]
 have h1:=Int.ediv_nonneg (show 0 <= a by omega) (show 0 <= b by omega)
 have h2:=Int.ediv_le_self b (show 0 <= a by omega)
 omega
theorem bd_sum {n : Nat} : ∀ (xs : List Int),(∀ x ∈ xs,Bd n x) -> ∀ k,xs.length <= 2 ^ k -> Bd (n + k) xs.sum:=fun xs h k hk=>by
 have key : ∀ (xs : List Int),(∀ x ∈ xs,Bd n x) -> xs.sum.natAbs <= xs.length * (2 ^ n - 1):=fun xs=>by
  induction xs with
  | nil=>intro _; simp
  | cons a t ih =>
   intro h
   have h1:=ih fun x hx=>h x (List.mem_cons_of_mem _ hx)
   have h2 : a.natAbs < 2 ^ n:=h a List.mem_cons_self
   rw [List.sum_cons,List.length_cons,Nat.succ_mul]
   omega
 have h1:=key xs h
 unfold Bd
 have h2 : xs.length * (2 ^ n - 1) <= 2 ^ k * (2 ^ n - 1):=Nat.mul_le_mul_right _ hk
 have h3 : 2 ^ k * (2 ^ n - 1) < 2 ^ (n + k):=by
  rw [Nat.pow_add,Nat.mul_comm (2 ^ n)]
  have : 0 < 2 ^ n:=Nat.pow_pos (by decide)
  exact Nat.mul_lt_mul_of_pos_left (by omega) (Nat.pow_pos (by decide))
 omega
theorem rep_sum {D : Int} (hD : 0 < D) : ∀ (Ns : List Int) (zs : List Rat),Ns.length = zs.length -> (∀ (i : Nat) (N : Int) (z : Rat),Ns[i]? = some N -> zs[i]? = some z -> z.1 * D = N * z.2 /\ Low z) -> ∀ (a : Rat) (A : Int),Low a -> a.1 * D = A * a.2 -> (zs.foldl addR a).1 * D = (A + Ns.sum) * (zs.foldl addR a).2 /\ Low (zs.foldl addR a)
 | [],[],_,_,a,A,la,ha=>⟨by simpa using ha,la⟩
 | [],_ :: _,h,_,_,_,_,_=>by simp at h
 | _ :: _,[],h,_,_,_,_,_=>by simp at h
 | N :: Ns,z :: zs,h,hz,a,A,la,ha=>by
  obtain ⟨e,lz⟩:=hz 0 N z rfl rfl
  obtain ⟨h1,h2⟩:=rep_sum hD Ns zs (by simpa using h) (fun i N' z' e1 e2=>hz (i + 1) N' z' (by simpa using e1) (by simpa using e2)) (addR a z) (A + N) (low_add la lz) (rep_add la.pos lz.pos ha e)
  refine ⟨?_,h2⟩
  rw [List.sum_cons,← Int.add_assoc]
  exact h1
theorem RepL.mul {n n' : Nat} {D D' : Int} {Ws Rs : List Int} {ws rs : List Rat} (h : RepL n D Ws ws) (h' : RepL n' D' Rs rs) (hl : ws.length = rs.length) : RepL (n + n') (D * D') (List.zipWith (· * ·) Ws Rs) (List.zipWith mulR' ws rs):=by
 refine ⟨Int.mul_pos h.pos h'.pos,h.bD.mul h'.bD,by rw [List.length_zipWith,List.length_zipWith,h.len,h'.len],fun i W r hW hr=>?_⟩
 rw [List.getElem?_zipWith] at hW hr
 cases e1 : Ws[i]? with
 | none=>rw [e1] at hW; cases hW
 | some x =>
  cases e2 : Rs[i]? with
  | none=>rw [e1,e2] at hW; cases hW
  | some y =>
   cases e3 : ws[i]? with
   | none=>rw [e3] at hr; cases hr
   | some u =>
    cases e4 : rs[i]? with
    | none=>rw [e3,e4] at hr; cases hr
    | some v =>
     rw [e1,e2] at hW
     rw [e3,e4] at hr
     cases hW
     cases hr
     obtain ⟨a1,b1,l1⟩:=h.at_ i x u e1 e3
     obtain ⟨a2,b2,l2⟩:=h'.at_ i y v e2 e4
     exact ⟨rep_mul l1.pos l2.pos a1 a2,b1.mul b2,low_mul l1 l2⟩
theorem RepL.sum {n : Nat} {D : Int} {Ns : List Int} {zs : List Rat} (h : RepL n D Ns zs) : (zs.foldl addR (0,1)).1 * D = Ns.sum * (zs.foldl addR (0,1)).2 /\ Low (zs.foldl addR (0,1)):=by
 have:=rep_sum h.pos Ns zs h.len (fun i N z e1 e2=>⟨(h.at_ i N z e1 e2).1,(h.at_ i N z e1 e2).2.2⟩) (0,1) 0 low01 (by simp)
 rwa [Int.zero_add] at this
theorem RepL.take {n : Nat} {D : Int} {Ns : List Int} {zs : List Rat} (h : RepL n D Ns zs) (i : Nat) : RepL n D (Ns.take i) (zs.take i):=by
 refine ⟨h.pos,h.bD,by rw [List.length_take,List.length_take,h.len],fun j W r hW hr=>?_⟩
 rw [List.getElem?_take] at hW hr
 split at hW
 ·rename_i q
  rw [if_pos q] at hr
  exact h.at_ j W r hW hr
 ·cases hW
theorem RepL.sumGood {n k : Nat} {D : Int} {Ns : List Int} {zs : List Rat} (h : RepL n D Ns zs) (hk : zs.length <= 2 ^ k) : Good (n + k) (zs.foldl addR (0,1)):=by
 obtain ⟨e,l⟩:=h.sum
 refine good_of_rep h.pos l.pos l.cop e (h.bD.mono (by omega)) (bd_sum Ns (fun x hx=>?_) k (by rw [h.len]; exact hk))
 obtain ⟨i,hi⟩:=List.getElem?_of_mem hx
 have hl : i < Ns.length:=(List.getElem?_eq_some_iff.mp hi).1
 have hz : i < zs.length:=by rw [← h.len]; exact hl
 exact (h.at_ i x zs[i] hi (by simp [hz])).2.1
theorem mean_eq {n n' : Nat} {D D' : Int} {Ws Rs : List Int} {ws rs : List Rat} (h : RepL n D Ws ws) (h' : RepL n' D' Rs rs) (hl : ws.length = rs.length) :
  nrm (List.zipWith (· * ·) Ws Rs).sum (D * D') = (List.zipWith mulR' ws rs).foldl addR (0,1):=by
 have m:=h.mul h' hl
 obtain ⟨e,l⟩:=m.sum
 have hne : D * D' ≠ 0:=by have:=m.pos; omega
 have l':=low_nrm (p:=(List.zipWith (· * ·) Ws Rs).sum) hne
 have e':=rep_nrm (p:=(List.zipWith (· * ·) Ws Rs).sum) hne
 refine rat_unique l'.pos l.pos l'.cop l.cop ?_
 generalize (List.zipWith mulR' ws rs).foldl addR (0,1) = u at *
 generalize nrm (List.zipWith (· * ·) Ws Rs).sum (D * D') = v at *
 generalize (List.zipWith (· * ·) Ws Rs).sum = N at *
 generalize D * D' = E at *
 have : E * (v.1 * u.2) = E * (u.1 * v.2):=by grind
 exact Int.eq_of_mul_eq_mul_left hne this
end Sb
namespace Sb
open PySem L2
def sumR (rs : List Rat) : Rat:=rs.foldl addR (0,1)
theorem sumR_snoc (rs : List Rat) (r : Rat) : sumR (rs ++ [r]) = addR (sumR rs) r:=by
 unfold sumR
 rw [List.foldl_append]
 rfl
theorem sumR_take {rs : List Rat} {i : Nat} {r : Rat} (h : rs[i]? = some r) : sumR (rs.take (i + 1)) = addR (sumR (rs.take i)) r:=by rw [take_snoc h,sumR_snoc]
end Sb
namespace Sb
theorem take_map {α β : Type} (f : α -> β) {l : List α} {i : Nat} {x : α} (h : l[i]? = some x) : (l.map f).take (i + 1) = (l.map f).take i ++ [f x]:=take_snoc (by rw [List.getElem?_map,h]; rfl)
open Sv (sm sm_congr sm_add sm_mul sm_zero sm_nonneg sm_split sm_le)
theorem RepL.mono {m n : Nat} {D : Int} {Zs : List Int} {rs : List Rat} (h : RepL m D Zs rs) (k : m <= n) : RepL n D Zs rs :=
 ⟨h.pos,h.bD.mono k,h.len,fun i W r hW hr=>⟨(h.at_ i W r hW hr).1,(h.at_ i W r hW hr).2.1.mono k,(h.at_ i W r hW hr).2.2⟩⟩
section
variable {c : Nat} {Ws Ro : List Int} {o : Option (Nat -> Bool)}
end
end Sb
namespace Sb
open PySem L2
structure Goes (J : It) (H : Hp) (xs : List V) : Prop where
 go : ∀ (i : Nat) (H' : Hp),Same H H' -> i < xs.length -> J.go i H'
 yld : ∀ (i : Nat) (H' : Hp) (x : V) (H'' : Hp),Same H H' -> J.yld i H' x H'' -> H'' = H' /\ xs[i]? = some x
 stop : ∀ H' : Hp,Same H H' -> J.stop xs.length H'
theorem goesL {K : PySem.W.Frag} {H : Hp} {a : Addr} {xs : List V} (h : SqL K H a xs) : Goes (Itl K a) H xs :=
 ⟨fun i H' S hi=>⟨xs,xs[i],sameL S h,by simp [hi]⟩,fun _ _ _ _ S ⟨e,f⟩=>⟨e,f xs (sameL S h)⟩,fun _ S=>⟨xs,sameL S h,Nat.le_refl _⟩⟩
theorem goesT {K : PySem.W.Frag} {H : Hp} {a : Addr} {xs : List V} (h : SqT K H a xs) : Goes (Itt K a) H xs :=
 ⟨fun i H' S hi=>⟨xs,xs[i],sameT S h,by simp [hi]⟩,fun _ _ _ _ S ⟨e,f⟩=>⟨e,f xs (sameT S h)⟩,fun _ S=>⟨xs,sameT S h,Nat.le_refl _⟩⟩
section
open PySem.Spec PyProof.Rows
variable {X : Cx} {tg : Expr}
def iAny (K : PySem.W.Frag) (tl : TE) : TI:=fun σ H R=>tl σ H fun x H1=>∃ (a : Addr) (xs : List V),x = .ref a /\ (SqL K H1 a xs \/ SqT K H1 a xs) /\ ∀ J : It,Goes J H1 xs -> R J H1
theorem pi_any {l : Expr} {tl : TE} (hl : PE X l tl) : PI X tg l (iAny X.K tl):=by
 intro pins s σ H R I h
 refine thn (hl pins s σ H _ I h) fun v s1 ⟨x,H1,I1,r1,q1⟩=>?_
 obtain ⟨a,xs,e,hq | hq,q⟩:=q1
 ·subst e
  cases r1
  obtain ⟨its,rv,p,hz⟩:=I1.list hq
  refine wpAny_pyIter_list p.isList ?_
  refine ⟨s1.heap.objs.size,[s1.heap.objs.size],_,_,H1,rfl,I1.kept (t':=s1.toks) fun b o e=>Heap.get?_push_of_some _ e,turn_list a _,⟨_,Heap.get?_push_size _ rfl,rfl,rfl⟩,fun b hb=>?_,q _ (goesL hq)⟩
  have e : b = s1.heap.objs.size:=by simpa using hb
  subst e
  exact I1.fpOk (Nat.le_refl _) (I1.hok.fresh (Nat.le_refl _))
 ·subst e
  cases r1
  obtain ⟨its,rv,p,hz⟩:=I1.tuple hq
  refine wpAny_pyIter_tuple (show s1.heap.IsTuple a its.toArray from p) ?_
  refine ⟨s1.heap.objs.size,[s1.heap.objs.size],_,_,H1,rfl,I1.kept (t':=s1.toks) fun b o e=>Heap.get?_push_of_some _ e,turn_tuple a _,⟨_,Heap.get?_push_size _ rfl,rfl,rfl⟩,fun b hb=>?_,q _ (goesT hq)⟩
  have e : b = s1.heap.objs.size:=by simpa using hb
  subst e
  exact I1.fpOk (Nat.le_refl _) (I1.hok.fresh (Nat.le_refl _))
end
end Sb
namespace Sb
open PySem PySem.Spec PyProof.Rows L2
section
variable {X : Cx}
theorem ps_setC {i : Nat} {x : Str} {pos' spos : Pos} {elt iter tg : Expr} {ifs : List Expr} {scope : Scope} {pos : Pos} {wi : TI} {g : TG} {tt : TT} {te : TE} {N : List Str} {k : Nat} {fv : List Nat}
  (hXN : X.N.Nodup) (hix : X.N[i]? = some x) (hx : Loc X.env.scope x)
  (hc : X.calm = true) (hi : PI X tg iter wi) (hg : ∀ cl C fp s H,PG (compCx X N scope cl C fp s H) tg g) (ht : ∀ cl C fp s H,PTs (compCx X N scope cl C fp s H) ifs tt) (he : ∀ cl C fp s H,PE (compCx X N scope cl C fp s H) elt te)
  (hw : ∀ r x H Q,g x (List.replicate k none ++ r) H Q -> g x (List.replicate k none ++ r) H fun σ4 H4=>Q σ4 H4 /\ Weaker σ4 (List.replicate k none ++ r))
  (hN : N.length = k + fv.length:=by rfl) (hfv : fv.map (fun j=>X.N[j]?) = (N.drop k).map some:=by rfl) (hk : (N.drop k).map X.env.kindOf = (N.drop k).map (fun _=>some .cell):=by rfl)
  (hfl : ∀ y ∈ N.drop k,scope.names.lookup y = some .free:=by decide +kernel) (hfr : ∀ y ∈ scope.names,y.2 = .free -> y.1 ∈ N.drop k:=by decide +kernel)
  (hcell : ∀ y ∈ scope.names,y.2 ≠ .cell:=by decide +kernel) (hkind : scope.kind = .function:=by rfl) (hnames : ∀ y ∈ scope.names,y.2 = .local -> scope.names.lookup y.1 = some .local:=by decide +kernel)
  (hs : ∀ x,foldedSetIterable iter X.env x = pure x:=by intro _; rfl)
  (hsw : swapsWith (.ListComp elt [⟨tg,iter,ifs,0⟩] scope pos) (some (.Name x pos')) spos.line X.env = pure true:=by rfl)
  (hf : X.fn x = true \/ X.env.scope.names.lookup x = some .local:=by first | exact .inl rfl | exact .inr rfl | assumption) :
  PS X (.Assign [.Name x pos'] (.ListComp elt [⟨tg,iter,ifs,0⟩] scope pos) spos) (tAsg (tComp wi g tt te k fv) (gName i)):=by
 intro pins s σ H D I h
 have kc : ∀ y ∈ N.drop k,X.env.kindOf y = some .cell:=fun y hy=>by
  obtain ⟨j,hj⟩:=List.getElem?_of_mem hy
  have a:=congrArg (fun l=>l[j]?) hk
  simp only [List.getElem?_map,hj,Option.map_some] at a
  exact Option.some.inj a
 obtain ⟨cl,hclos,h1,h2⟩:=closureFor_ok (env:=X.env) (scope:=scope) fun y hy hf=>I.ok.has y.1 (.inl (kc y.1 (hfr y hy hf)))
 rw [exec_Assign_Name_used _ _ _ _ hsw]
 refine wpAny_bind (wpAny_standAt (wpAny_bind ?_))
 unfold evalThenUse
 refine wpAny_bind (wpAny_comprehension_free (use:=some (assign (.Name x pos') X.env)) rfl hs hclos hkind hnames (thn (hi pins s σ H _ I h) fun xv s1 h1'=>thn h1' fun itv s2 h2'=>?_))
 obtain ⟨it,fp,tn,J,H2,e,I2,T,st2,f2,body⟩:=h2'
 subst e
 refine comp_block (Q:=fun v H1=>gName i v σ H1 D.nx) (RR:=fun acc C=>compPost (model X.prog X.w) X.A X.xe (some (assign (.Name x pos') X.env)) _ acc C) hc hg ht he hw hN hfv hk hfl hcell hkind h1 h2 I2 T st2 f2 body fun Dd C H' s' ⟨m,hm⟩ fpC q iv=>?_
 show wpAny _ _ (assign (.Name x pos') X.env (.ref Dd)) _ _ s'
 have I' : Inv X pins σ H' s':=iv s'.heap ⟨rfl,fun _ _=>rfl⟩
 refine wpAny_assign_Name (store_ok2 I' hXN hix hx (v:=.ref Dd) rfl (fun s3 I3 ⟨a,sb,ha⟩=>⟨m,?_,fun h' hs'=>?_⟩) hf)
 ·have hne : C ≠ a:=by
   rcases ha with rfl | ha
   ·exact fpC.2.1
   ·exact fun z=>fpC.2.2.2.2.1 x a ha z.symm
  obtain ⟨o,es,ep,ho,r⟩:=hm
  exact ⟨o,es,ep,by rw [sb.2 C hne]; exact ho,r⟩
 ·refine wpAny_pure (wpAny_pure ?_)
  have I4:=inv_recs (ch:=[C]) (h':=h') (t':=s3.toks) I3 (fun b hb=>by rw [List.mem_singleton.mp hb]; exact fpC) fun b o hb e=>by
   rw [hs'.2 b (fun z=>hb (by rw [z]; exact List.mem_singleton.mpr rfl))]
   exact e
  exact ⟨_,H',I4,q⟩
end
end Sb
namespace Sb
open PySem L2
theorem for_enumL {K : PySem.W.Frag} {a : Addr} {xs : List V} {g : TG} {tb : TS} {D : Ends} {σ : L2.St} {H : Hp} (Pv : Nat -> L2.St -> Hp -> Prop) (h0 : Pv 0 σ H) (hl : ∀ i σ H,i <= xs.length -> Pv i σ H -> SqL K H a xs)
  (hs : ∀ i x σ H p,xs[i]? = some x -> Pv i σ H -> H p = none -> g (.ref p) σ (upd H p (.tup [.int (i : Int),x])) fun σ2 H2=>tb { D with nx:=Pv (i + 1),ct:=Pv (i + 1),bk:=D.nx } σ2 H2) (hd : ∀ σ H,Pv xs.length σ H -> D.nx σ H) :
  ∃ W : Nat -> Nat -> L2.St -> Hp -> Prop,(∃ m,W 0 m σ H) /\ ∀ i m σ H,W i m σ H →
   ((IteL K a).stop i H /\ D.nx σ H) \/ ((IteL K a).go i H /\ ∃ N : L2.St -> Hp -> Prop,(∀ σ' H',N σ' H' -> ∃ m',m' < m /\ W (i + 1) m' σ' H') /\ ∀ x H',(IteL K a).yld i H x H' -> g x σ H' fun σ2 H2=>tb { D with nx:=N,ct:=N,bk:=D.nx } σ2 H2):=by
 refine ⟨fun i m σ H=>m = xs.length - i /\ i <= xs.length /\ Pv i σ H,⟨xs.length,by simp,Nat.zero_le _,h0⟩,?_⟩
 rintro i m σ H ⟨rfl,hi,p⟩
 have q:=hl i σ H hi p
 by_cases hlt : i < xs.length
 ·refine .inr ⟨⟨xs,q,hlt⟩,Pv (i + 1),fun σ' H' p'=>⟨xs.length - (i + 1),by omega,rfl,hlt,p'⟩,fun x H' y=>?_⟩
  obtain ⟨pp,x0,rfl,hp,rfl,fx⟩:=y
  exact hs i x0 σ H pp (fx xs q) p hp
 ·have e : i = xs.length:=by omega
  subst e
  exact .inl ⟨⟨xs,q,rfl⟩,hd σ H p⟩
end Sb
namespace Sb
open PySem L2
theorem Paired.appP {α β : Type} {R : α -> β -> Prop} : ∀ {xs xs' : List α} {ys ys' : List β},Paired R xs ys -> Paired R xs' ys' -> Paired R (xs ++ xs') (ys ++ ys')
 | _,_,_,_,.nil,s=>s
 | _,_,_,_,.cons r t,s=>.cons r (Paired.appP t s)
section
variable {K : PySem.W.Frag}
def RowsAt (K : PySem.W.Frag) (H : Hp) (l : Addr) (rss : List (List Rat)) : Prop:=∃ as : List Addr,H l = some (.lst (as.map V.ref)) /\ Paired (RowAt K H) as rss
theorem rows_ext {H H' : Hp} {as : List Addr} {rss : List (List Rat)} (h : Paired (RowAt K H) as rss) (x : Ext H H') : Paired (RowAt K H') as rss:=Paired.mapP h fun _ _ q=>q.ext x
end
theorem iteNT {c A B : Prop} [Decidable c] (hc : ¬ c) (h : A) : if (!decide c) = true then A else B:=by
 rw [decide_eq_false hc]
 exact iteT h
end Sb
namespace Sb
open PySem PySem.Spec PyProof.Rows L2
theorem cells_none : ∀ (names : List (Str × NameKind)) (n : Nat) (acc : List (Str × Addr)) (h : Heap),(names.filter fun y=>y.2 == .cell) = [] -> cellsFrom n names acc = acc /\ pushCells h names = h
 | [],_,_,_,_=>⟨rfl,rfl⟩
 | (m,k) :: r,n,acc,h,e=>by
  by_cases hk : (k == NameKind.cell) = true
  ·rw [List.filter_cons_of_pos (a:=(m,k)) (l:=r) (p:=fun y : Str × NameKind=>y.2 == .cell) hk] at e
   cases e
  ·rw [List.filter_cons_of_neg (a:=(m,k)) (l:=r) (p:=fun y : Str × NameKind=>y.2 == .cell) hk] at e
   unfold cellsFrom pushCells
   rw [if_neg hk,if_neg hk]
   exact cells_none r n acc h e
theorem cells_one {x : Str} : ∀ (names : List (Str × NameKind)) (n : Nat) (acc : List (Str × Addr)) (h : Heap),(names.filter fun y=>y.2 == .cell) = [(x,.cell)] -> cellsFrom n names acc = (x,n) :: acc /\ pushCells h names = h.push { cls:=.type "cell",data:=.cell none }
 | [],_,_,_,e=>by cases e
 | (m,k) :: r,n,acc,h,e=>by
  by_cases hk : (k == NameKind.cell) = true
  ·rw [List.filter_cons_of_pos (a:=(m,k)) (l:=r) (p:=fun y : Str × NameKind=>y.2 == .cell) hk] at e
   injection e with e1 e2
   cases e1
   unfold cellsFrom pushCells
   rw [if_pos hk,if_pos hk]
   exact cells_none r _ _ _ e2
  ·rw [List.filter_cons_of_neg (a:=(m,k)) (l:=r) (p:=fun y : Str × NameKind=>y.2 == .cell) hk] at e
   unfold cellsFrom pushCells
   rw [if_neg hk,if_neg hk]
   exact cells_one r n acc h e
theorem nfe_cell {M : Model} {A : Around} {E : Value -> Shared -> Prop} {s : Shared} {scope : Scope} {globals : Addr} {cl : List (Str × Addr)} {qual : Str} {func : Option Addr} {code : Value} {outer : Env} {builtins : Addr} {Q : Env -> Shared -> Prop} {x : Str}
  (hone : (scope.names.filter fun y=>y.2 == .cell) = [(x,.cell)])
  (hQ : ∀ h',h' = (s.heap.push { cls:=.type "dict",data:=.dict #[] }).push { cls:=.type "cell",data:=.cell none } -> Q (newEnv scope s.heap.objs.size globals ((x,s.heap.objs.size + 1) :: cl) qual func code (some outer) builtins) { s with heap:=h' }) :
  wpAny M A (newFunctionEnv scope globals cl [] qual func code (some outer) builtins) Q E s:=by
 simp only [newFunctionEnv,Option.isSome_some,if_true]
 refine wpAny_bind (wpAny_alloc ?_)
 refine wpAny_bind (wpAny_layCells _ (fun name kind cells=>by cases hkc : kind == NameKind.cell <;> simp [hkc]) _ _ _ _ ?_)
 rw [show ({ s with heap:=s.heap.push { cls:=.type "dict",data:=.dict #[] } } : Shared).heap.objs.size = s.heap.objs.size + 1 from Heap.size_push ..]
 rw [(cells_one scope.names (s.heap.objs.size + 1) cl (s.heap.push { cls:=.type "dict",data:=.dict #[] }) hone).1,(cells_one scope.names (s.heap.objs.size + 1) cl (s.heap.push { cls:=.type "dict",data:=.dict #[] }) hone).2]
 refine wpAny_bind ?_
 rw [List.forIn_nil]
 exact wpAny_pure (wpAny_pure (hQ _ rfl))
theorem lk_cons {x : Str} {n : Addr} {cl : List (Str × Addr)} {y : Str} {c : Addr} (h : ((x,n) :: cl).lookup y = some c) : (y = x /\ c = n) \/ (y ≠ x /\ cl.lookup y = some c):=by
 rw [List.lookup_cons] at h
 cases hb : y == x with
 | true=>rw [hb] at h; cases h; exact .inl ⟨beq_iff_eq.mp hb,rfl⟩
 | false=>rw [hb] at h; exact .inr ⟨beq_eq_false_iff_ne.mp hb,h⟩
theorem lk_ne {x : Str} {n : Addr} {cl : List (Str × Addr)} {y : Str} (h : y ≠ x) : ((x,n) :: cl).lookup y = cl.lookup y:=by
 rw [List.lookup_cons,beq_eq_false_iff_ne.mpr h]
theorem lk_self {x : Str} {n : Addr} {cl : List (Str × Addr)} : ((x,n) :: cl).lookup x = some n:=by
 rw [List.lookup_cons,beq_self_eq_true]
def compCxC (X : Cx) (N : List Str) (scope : Scope) (x : Str) (cl : List (Str × Addr)) (C : Addr) (fp : List Addr) (s : Shared) (H : Hp) : Cx :=
 { compCx X N scope ((x,C + 1) :: cl) C fp s H with fn:=fun y=>y == x }
section
variable {X : Cx} {pins : List (Addr × Obj)} {σ : L2.St} {H : Hp} {s : Shared} {N : List Str} {scope : Scope} {cl : List (Str × Addr)} {fp : List Addr} {k : Nat} {fv : List Nat} {x : Str}
theorem one_cell (hone : (scope.names.filter fun y=>y.2 == .cell) = [(x,.cell)]) {y : Str × NameKind} (hy : y ∈ scope.names) (hc : y.2 = .cell) : y.1 = x:=by
 have : y ∈ scope.names.filter fun y=>y.2 == .cell:=List.mem_filter.mpr ⟨hy,by rw [hc]; rfl⟩
 rw [hone] at this
 rw [List.mem_singleton.mp this]
theorem comp_okC (I : Inv X pins σ H s) (hc : X.calm = true) (hf : ∀ b ∈ fp,FpOk X pins H b) (hl : ∀ b ∈ fp,b < s.heap.objs.size) (hkind : scope.kind = .function) (hone : (scope.names.filter fun y=>y.2 == .cell) = [(x,.cell)])
  (h1 : ∀ y c,cl.lookup y = some c -> X.env.cells.lookup y = some c) (h2 : ∀ y ∈ scope.names,y.2 = .free -> ∃ c,cl.lookup y.1 = some c) : (compCxC X N scope x cl s.heap.objs.size fp s H).Ok where
 mod:=I.ok.mod
 kind:=hkind
 glob:=I.ok.glob
 blt:=I.ok.blt
 above:=Nat.le_refl _
 inj:=fun y z c a b=>by
  have old : ∀ {n : Str} {d : Addr},cl.lookup n = some d -> d < s.heap.objs.size:=fun {n d} e=>by
   obtain ⟨v,ic⟩:=I.cell n d (h1 n d e)
   exact ic.lt
  rcases lk_cons a with ⟨ey,ec⟩ | ⟨ny,a'⟩
  ·rcases lk_cons b with ⟨ez,_⟩ | ⟨nz,b'⟩
   ·rw [ey,ez]
   ·have:=old b'; rw [ec] at this; exact absurd this (Nat.not_lt.mpr (Nat.le_succ _))
  ·rcases lk_cons b with ⟨ez,ec⟩ | ⟨nz,b'⟩
   ·have:=old a'; rw [ec] at this; exact absurd this (Nat.not_lt.mpr (Nat.le_succ _))
   ·exact I.ok.inj y z c (h1 y c a') (h1 z c b')
 has:=fun z hz=>by
  have : ∃ y ∈ scope.names,y.1 = z /\ (y.2 = .free \/ y.2 = .cell):=by
   rcases hz with q | q
   ·exact relabel_back (.inl rfl) q
   ·exact relabel_back (.inr rfl) q
  obtain ⟨y,hy,e,q⟩:=this
  by_cases hx : z = x
  ·exact ⟨_,by rw [hx]; exact lk_self⟩
  ·rcases q with q | q
   ·obtain ⟨c,hcl⟩:=h2 y hy q
    exact ⟨c,(lk_ne hx).trans (by rw [← e]; exact hcl)⟩
   ·exact absurd (e.symm.trans (one_cell hone hy q)) hx
 cab:=fun y c z e=>by
  have hy : y = x:=beq_iff_eq.mp z
  subst hy
  have e' : ((y,s.heap.objs.size + 1) :: cl).lookup y = some c:=e
  rw [lk_self] at e'
  cases e'
  exact Nat.le_succ _
 hd:=fun _=>I.ok.hd hc
 frames:=I.ok.frames
 stk:=.inl rfl
 exf:=fun b hb=>⟨Nat.ne_of_lt (hl b hb),fun y c e=>by
  rcases lk_cons e with ⟨_,rfl⟩ | ⟨_,e⟩
  ·exact fun z=>absurd (hl b hb) (Nat.not_lt.mpr (by rw [← z]; exact Nat.le_succ _))
  ·exact (hf b hb).2.2.2.2.1 y c (h1 y c e)⟩
 bs:=I.bs
 bsz:=Nat.le_trans I.ok.bsz I.sz
 noex:=fun b o e hb=>by
  rcases (hf b hb).2.2.2.1 with z | z
  ·exact I.ok.noex b o e z
  ·exact absurd (Nat.lt_of_lt_of_le (Heap.lt_size (I.ok.bs b o e).1) z) (Nat.lt_irrefl _)
 exfs:=fun b hb z=>(List.mem_cons.mp (I.stkSub b z)).elim (fun e=>(hf b hb).2.1 e) fun e=>(hf b hb).2.2.1 e
 funs:=I.stack
 frf:=I.stkFree
theorem comp_invC (I : Inv X pins σ H s) (hc : X.calm = true) (hf : ∀ b ∈ fp,FpOk X pins H b) (hl : ∀ b ∈ fp,b < s.heap.objs.size) (hkind : scope.kind = .function) (hone : (scope.names.filter fun y=>y.2 == .cell) = [(x,.cell)]) (hx : scope.names.lookup x = some .cell)
  (h1 : ∀ y c,cl.lookup y = some c -> X.env.cells.lookup y = some c) (h2 : ∀ y ∈ scope.names,y.2 = .free -> ∃ c,cl.lookup y.1 = some c)
  (hN : N.length = k + fv.length) (hfv : fv.map (fun j=>X.N[j]?) = (N.drop k).map some) (hk : (N.drop k).map X.env.kindOf = (N.drop k).map fun _=>some .cell) (hfl : ∀ y ∈ N.drop k,scope.names.lookup y = some .free)
  {h' : Heap} {tk : Nat} (hn : h'.Ns s.heap.objs.size fun _=>none) (hcn : h'.IsCell (s.heap.objs.size + 1) none) (hb : ∀ b o,s.heap.get? b = some o -> h'.get? b = some o) :
  Inv (compCxC X N scope x cl s.heap.objs.size fp s H) [] (comp0 k fv σ) H { s with heap:=h',toks:=tk } where
 ok:=comp_okC I hc hf hl hkind hone h1 h2
 os:=rfl
 bare:=I.bare
 base:=Un.kept hb
 loc:=⟨_,hn,fun i y v e1 e2 e3=>by
  have hik : k <= i:=by
   apply Nat.le_of_not_lt
   intro z
   have : (comp0 k fv σ)[i]? = some none:=by
    unfold comp0
    rw [List.getElem?_append_left (by simpa using z)]
    simp [z]
   rw [this] at e2
   cases e2
  obtain ⟨j,rfl⟩ : ∃ j,i = k + j:=⟨i - k,by omega⟩
  have e2' : (fv.map fun j=>σ.getD j none)[j]? = some (some v):=by
   have : (comp0 k fv σ)[k + j]? = (fv.map fun j=>σ.getD j none)[j]?:=by
    unfold comp0
    rw [List.getElem?_append_right (by simp)]
    simp
   rw [← this]
   exact e2
  rw [List.getElem?_map] at e2'
  cases hj : fv[j]? with
  | none=>rw [hj] at e2'; cases e2'
  | some m =>
   rw [hj] at e2'
   have e4 : σ.getD m none = some v:=Option.some.inj e2'
   have e5 : (N.drop k)[j]? = some y:=by rw [List.getElem?_drop]; exact e1
   have e6 : X.N[m]? = some y:=by
    have a:=congrArg (fun l=>l[j]?) hfv
    simp only [List.getElem?_map,hj,e5,Option.map_some] at a
    exact Option.some.inj a
   have e7 : X.env.kindOf y = some .cell:=by
    have a:=congrArg (fun l=>l[j]?) hk
    simp only [List.getElem?_map,e5,Option.map_some] at a
    exact Option.some.inj a
   have e8 : σ[m]? = some (some v):=by
    cases q : σ[m]? with
    | none=>rw [List.getD,q] at e4; cases e4
    | some o=>rw [List.getD,q] at e4; rw [show o = some v from e4]
   obtain ⟨m0,hm0,hl0⟩:=I.loc
   obtain ⟨u,ru,lk⟩:=hl0 m y v e6 e8 (.inr (.inl e7))
   refine ⟨u,ru,?_⟩
   rcases lk with ⟨z,_⟩ | ⟨_,c,hcc,ic⟩
   ·rw [e7] at z; cases z
   ·have mem : y ∈ N.drop k:=List.mem_of_getElem? e5
    have fr:=hfl y mem
    have nyx : y ≠ x:=fun z=>by rw [z,hx] at fr; cases fr
    obtain ⟨c',hc'⟩:=h2 (y,.free) (mem_lookup fr) rfl
    have ec:=h1 y c' hc'
    rw [hcc] at ec
    cases ec
    refine .inr ⟨.inl (relabel_cell I.ok.kind fr e7),c,(lk_ne nyx).trans hc',?_⟩
    obtain ⟨o,ho,hd⟩:=ic
    exact ⟨o,hb _ _ ho,hd⟩⟩
 cell:=fun y c e=>by
  rcases lk_cons e with ⟨_,rfl⟩ | ⟨_,e⟩
  ·exact ⟨_,hcn⟩
  ·obtain ⟨v,o,ho,hd⟩:=I.cell y c (h1 y c e)
   exact ⟨v,o,hb _ _ ho,hd⟩
 free:=I.hok.fresh (Nat.le_refl _)
 freeC:=fun y c e=>by
  rcases lk_cons e with ⟨_,rfl⟩ | ⟨_,e⟩
  ·exact I.hok.fresh (Nat.le_succ _)
  ·exact I.freeC y c (h1 y c e)
 pin:=fun p hp=>nomatch hp
 hok:=I.hok.kept hb
 len:=by
  show (comp0 k fv σ).length = N.length
  unfold comp0
  simp [hN]
end
section
variable {X : Cx}
set_option maxHeartbeats 1000000 in
theorem comp_blockC {elt iter tg : Expr} {ifs : List Expr} {scope : Scope} {pos : Pos} {g : TG} {tt : TT} {te : TE} {N : List Str} {k : Nat} {fv : List Nat} {cl : List (Str × Addr)} {x0 : Str}
  {pins : List (Addr × Obj)} {σ : L2.St} {H : Hp} {s : Shared} {it : Addr} {fp : List Addr} {tn : Nat -> Heap -> Prop} {J : It} {Q : VK} {RR : Value -> Addr -> Result -> Shared -> Prop} {E : Value -> Shared -> Prop}
  (hc : X.calm = true) (hg : ∀ cl C fp s H,PG (compCxC X N scope x0 cl C fp s H) tg g) (ht : ∀ cl C fp s H,PTs (compCxC X N scope x0 cl C fp s H) ifs tt) (he : ∀ cl C fp s H,PE (compCxC X N scope x0 cl C fp s H) elt te)
  (hw : ∀ r x H Q,g x (List.replicate k none ++ r) H Q -> g x (List.replicate k none ++ r) H fun σ4 H4=>Q σ4 H4 /\ Weaker σ4 (List.replicate k none ++ r))
  (hN : N.length = k + fv.length) (hfv : fv.map (fun j=>X.N[j]?) = (N.drop k).map some) (hk : (N.drop k).map X.env.kindOf = (N.drop k).map fun _=>some .cell) (hfl : ∀ y ∈ N.drop k,scope.names.lookup y = some .free)
  (hone : (scope.names.filter fun y=>y.2 == .cell) = [(x0,.cell)]) (hx0 : scope.names.lookup x0 = some .cell) (hkind : scope.kind = .function) (h1 : ∀ y c,cl.lookup y = some c -> X.env.cells.lookup y = some c) (h2 : ∀ y ∈ scope.names,y.2 = .free -> ∃ c,cl.lookup y.1 = some c)
  (I : Inv X pins σ H s) (T : Turn X.prog X.w X.K tg J fp it tn) (st : tn 0 s.heap) (f : ∀ b ∈ fp,FpOk X pins H b)
  (body : ∀ d,H d = none -> ∃ (n : Nat) (W : Nat -> List V -> Hp -> Prop),n <= sizeLine /\ W 0 [] (upd H d (.lst [])) ∧
   (∀ i ys H2,i < n -> W i ys H2 -> H2 d = some (.lst ys) -> J.go i H2 /\ ∀ x H3,J.yld i H2 x H3 -> g x (comp0 k fv σ) H3 fun σ4 H4=>tt σ4 H4 fun b H5 =>
    if b = true then te σ4 H5 fun y H6=>H6 d = some (.lst ys) /\ W (i + 1) (ys ++ [y]) (upd H6 d (.lst (ys ++ [y]))) else H5 d = some (.lst ys) /\ W (i + 1) ys H5) ∧
   (∀ ys H2,W n ys H2 -> H2 d = some (.lst ys) -> J.stop n H2 /\ Q (.ref d) H2))
  (hR : ∀ (D C : Addr) (H' : Hp) (s' : Shared),(∃ m,s'.heap.Ns C m) -> FpOk X pins H' C -> Q (.ref D) H' -> (∀ h',Heap.SameBut C s'.heap h' -> Inv X pins σ H' { s' with heap:=h' }) -> RR (.ref D) C (.ok .next) s') :
  wpAny (model X.prog X.w) X.A (newList []) (fun acc s3=>wpAny (model X.prog X.w) X.A (newFunctionEnv scope X.env.globals cl [] X.env.qual none .none (some X.env)) (fun cenv s4 =>
   codeAny (model X.prog X.w) X.A (.compStart (.ListComp elt [⟨tg,iter,ifs,0⟩] scope pos) 0 (.ref it) acc { cenv with scope:=relabel scope X.env }) (RR acc cenv.locals) s4) E s3) E s:=by
 refine wpAny_newObj_type ?_
 have I3:=I.lnew (its:=[]) (ys:=[]) (t':=s.toks) .nil (Nat.zero_le _)
 have fresh:=I.fresh
 generalize hD : s.heap.objs.size = D at I3 fresh ⊢
 have f3 : ∀ b ∈ fp,FpOk X pins (upd H D (.lst [])) b:=fun b hb=>by
  refine ⟨?_,(f b hb).2⟩
  have hne : b ≠ D:=by
   obtain ⟨o,e,_⟩:=T.obj 0 _ st b hb
   rw [← hD]
   exact Nat.ne_of_lt (Heap.lt_size e)
  rw [upd_ne hne]
  exact (f b hb).1
 have up3 : ∀ b o,s.heap.get? b = some o -> (s.heap.push { cls:=.type "list",data:=.seq ([] : List Value).toArray }).get? b = some o:=fun b o e=>Heap.get?_push_of_some _ e
 have st3 : tn 0 (s.heap.push { cls:=.type "list",data:=.seq ([] : List Value).toArray }):=T.keep 0 _ _ st fun b _ o e=>up3 b o e
 have hl3 : ∀ b ∈ fp,b < (s.heap.push { cls:=.type "list",data:=.seq ([] : List Value).toArray }).objs.size:=fun b hb=>by
  obtain ⟨o,e,_⟩:=T.obj 0 _ st3 b hb
  exact Heap.lt_size e
 obtain ⟨n,W,hn,w0,step,fin⟩:=body D fresh
 generalize hS3 : ({ s with heap:=s.heap.push { cls:=.type "list",data:=.seq ([] : List Value).toArray },toks:=s.toks } : Shared) = s3 at I3
 have eS3 : s3.heap = s.heap.push { cls:=.type "list",data:=.seq ([] : List Value).toArray }:=by rw [← hS3]
 rw [← eS3] at st3 hl3
 refine nfe_cell hone (fun h4 eh4=>?_)
 have old : ∀ b o,s3.heap.get? b = some o -> h4.get? b = some o:=fun b o e=>by rw [eh4]; exact Heap.get?_push_of_some _ (Heap.get?_push_of_some _ e)
 have hns : h4.Ns s3.heap.objs.size (fun _=>none):=by rw [eh4]; exact (Heap.Ns.new s3.heap (.type "dict")).keeps fun b o e=>Heap.get?_push_of_some _ e
 have hcn : h4.IsCell (s3.heap.objs.size + 1) none:=by
  rw [eh4]
  rw [← Heap.size_push s3.heap { cls:=.type "dict",data:=.dict #[] }]
  exact ⟨_,Heap.get?_push_size _ rfl,rfl⟩
 clear eh4
 have I4:=comp_invC (N:=N) (tk:=s3.toks) I3 hc f3 hl3 hkind hone hx0 h1 h2 hN hfv hk hfl (h':=h4) hns hcn old
 have st4 : tn 0 h4:=T.keep 0 _ _ st3 fun b _ o e=>old b o e
 have hCn : s3.heap.get? s3.heap.objs.size = none:=by
  cases e : s3.heap.get? s3.heap.objs.size with
  | none=>rfl
  | some o=>exact absurd (Heap.lt_size e) (Nat.lt_irrefl _)
 generalize hC : s3.heap.objs.size = C at I4 hCn ⊢
 have stat : ∀ {H' : Hp} {ps : List (Addr × Obj)},(∀ b ∈ fp,H' b = none) -> (∀ p ∈ ps,p.1 ∉ fp) -> ∀ b ∈ fp,FpOk (compCxC X N scope x0 cl C fp s3 (upd H D (.lst []))) ps H' b:=fun {H' ps} hn hp b hb =>
  ⟨hn b hb,by rw [← hC]; exact Nat.ne_of_lt (hl3 b hb),fun z=>(List.mem_cons.mp (I3.stkSub b z)).elim (fun e=>(f3 b hb).2.1 e) fun e=>(f3 b hb).2.2.1 e,.inl hb,fun x c e=>(lk_cons e).elim (fun z q=>absurd (hl3 b hb) (Nat.not_lt.mpr (by rw [← q,z.2,← hC]; exact Nat.le_succ _))) (fun z=>(f3 b hb).2.2.2.2.1 x c (h1 x c z.2)),fun p q z=>hp p q (by rw [z]; exact hb)⟩
 have loop : ∀ s4 : Shared,s4 = { s3 with heap:=h4,toks:=s3.toks } →
   codeAny (model X.prog X.w) X.A (.compLoop (.ListComp elt [⟨tg,iter,ifs,0⟩] scope pos) 0 (.ref it) (.ref D) (compEnvC scope ((x0,C + 1) :: cl) C X.env)) (RR (.ref D) C) s4:=by
  rintro s4 rfl
  refine comp_loop (fun m s'=>∃ i ys H',Inv (compCxC X N scope x0 cl C fp s3 (upd H D (.lst []))) [] (comp0 k fv σ) H' s' /\ tn i s'.heap /\ (∀ b ∈ fp,H' b = none) /\ i <= n /\ m = n + 1 - i /\ ys.length <= i /\ H' D = some (.lst ys) /\ W i ys H') ?_ (n + 1)
   ⟨0,[],_,I4,st4,fun b hb=>(f3 b hb).1,Nat.zero_le _,rfl,Nat.le_refl _,upd_same,w0⟩
  rintro m s5 ⟨i,ys,H5,I5,st5,fr5,hi,rfl,hys,hD5,w5⟩
  by_cases hlt : i < n
  ·obtain ⟨go,stp⟩:=step i ys H5 hlt w5 hD5
   refine thn (T.item (compCxC X N scope x0 cl C fp s3 (upd H D (.lst []))) rfl rfl rfl rfl i [] s5 _ H5 noX I5 (stat fr5 (by simp)) st5 go) fun r s6 ⟨u,er,h6⟩=>?_
   subst er
   refine thn h6 fun _ s7 ⟨x,H7,I7,r7,y7,st7,fr7⟩=>?_
   have I7':=I7.pinned (stat fr7 (by simp)) (T.obj _ _ st7)
   refine thn (hg cl C fp s3 _ _ s7 _ H7 x u _ I7' r7 (hw _ x H7 _ (stp x H7 y7))) fun _ s8 ⟨σ8,H8,I8,q8,wk⟩=>?_
   refine thn (ht cl C fp s3 _ _ s8 σ8 H8 _ I8 q8) fun ok s9 ⟨H9,I9,q9⟩=>?_
   have back : ∀ {σ' : L2.St} {H' : Hp} {s' : Shared},Inv (compCxC X N scope x0 cl C fp s3 (upd H D (.lst []))) ([] ++ pinsAt fp s7.heap) σ' H' s' -> Weaker σ' (comp0 k fv σ) →
     Inv (compCxC X N scope x0 cl C fp s3 (upd H D (.lst []))) [] (comp0 k fv σ) H' s' /\ tn (i + 1) s'.heap /\ ∀ b ∈ fp,H' b = none:=fun {σ' H' s'} I' wk'=>by
    refine ⟨I'.unpinned.weak wk'.1 wk'.2,T.keep _ _ _ st7 fun b hb o e=>(I'.pin (b,o) (List.mem_append_right _ (List.mem_append_right _ (mem_pinsAt hb e)))).1,fun b hb=>?_⟩
    obtain ⟨o,e,_⟩:=T.obj _ _ st7 b hb
    exact (I'.pin (b,o) (List.mem_append_right _ (List.mem_append_right _ (mem_pinsAt hb e)))).2.1
   cases ok with
   | false =>
    rw [if_neg Bool.false_ne_true] at q9 ⊢
    obtain ⟨hD9,w9⟩:=q9
    obtain ⟨a1,a2,a3⟩:=back I9 wk
    exact ⟨n + 1 - (i + 1),by omega,i + 1,ys,H9,a1,a2,a3,hlt,rfl,Nat.le_succ_of_le hys,hD9,w9⟩
   | true =>
    rw [if_pos rfl] at q9 ⊢
    refine thn (he cl C fp s3 _ _ s9 σ8 H9 _ I9 q9) fun y s10 ⟨yv,H10,I10,r10,hD10,w10⟩=>?_
    refine thn (mt_append _ s10 σ8 H10 (.ref D) [yv] (.ref D) [y] (fun _ H'=>H' = upd H10 D (.lst (ys ++ [yv]))) I10 rfl (.cons r10 .nil) ⟨D,ys,yv,rfl,rfl,hD10,Nat.lt_of_le_of_lt hys (Nat.lt_of_lt_of_le hlt hn),rfl⟩) fun _ s11 ⟨_,H11,I11,_,e11⟩=>?_
    subst e11
    obtain ⟨a1,a2,a3⟩:=back I11 wk
    exact ⟨n + 1 - (i + 1),by omega,i + 1,ys ++ [yv],_,a1,a2,a3,hlt,rfl,by rw [List.length_append]; show ys.length + 1 <= i + 1; omega,upd_same,w10⟩
  ·obtain rfl : i = n:=Nat.le_antisymm hi (Nat.not_lt.mp hlt)
   obtain ⟨stop,q⟩:=fin ys H5 w5 hD5
   refine thn (T.done (compCxC X N scope x0 cl C fp s3 (upd H D (.lst []))) rfl rfl rfl rfl i [] s5 _ H5 noX I5 (stat fr5 (by simp)) st5 stop) fun r s6 ⟨er,I6⟩=>?_
   subst er
   refine hR D C H5 s6 ?_ (I3.fpOk (by rw [hC]; exact Nat.le_refl _) I6.free) q fun h' hs'=>?_
   ·obtain ⟨m,hm,_⟩:=I6.loc
    exact ⟨m,hm⟩
   ·have hs2 : ∀ b,b ≠ C -> h'.get? b = s6.heap.get? b:=fun b hb=>hs'.2 b hb
    refine I3.call' (s':={ s6 with heap:=h' }) (ch:=fp) ?_ (un_but I6.base hCn hs2) (hok_but I6.hok I6.free hs2) I6.bare fun b hb=>?_
    ·exact I6.os
    ·exact ⟨(f3 b hb).2.2.2.1,(f3 b hb).2.1,(f3 b hb).2.2.2.2.1,(f3 b hb).2.2.2.2.2⟩
 exact codeAny_compStart_list (loop _ rfl) (T.self _ 0 _ _ _ st4 (loop _ rfl))
theorem pe_compC {elt iter tg : Expr} {ifs : List Expr} {scope : Scope} {pos : Pos} {wi : TI} {g : TG} {tt : TT} {te : TE} {N : List Str} {k : Nat} {fv : List Nat} {x0 : Str}
  (hc : X.calm = true) (hi : PI X tg iter wi) (hg : ∀ cl C fp s H,PG (compCxC X N scope x0 cl C fp s H) tg g) (ht : ∀ cl C fp s H,PTs (compCxC X N scope x0 cl C fp s H) ifs tt) (he : ∀ cl C fp s H,PE (compCxC X N scope x0 cl C fp s H) elt te)
  (hw : ∀ r x H Q,g x (List.replicate k none ++ r) H Q -> g x (List.replicate k none ++ r) H fun σ4 H4=>Q σ4 H4 /\ Weaker σ4 (List.replicate k none ++ r))
  (hN : N.length = k + fv.length:=by rfl) (hfv : fv.map (fun j=>X.N[j]?) = (N.drop k).map some:=by rfl) (hk : (N.drop k).map X.env.kindOf = (N.drop k).map (fun _=>some .cell):=by rfl)
  (hfl : ∀ y ∈ N.drop k,scope.names.lookup y = some .free:=by decide +kernel) (hfr : ∀ y ∈ scope.names,y.2 = .free -> y.1 ∈ N.drop k:=by decide +kernel)
  (hone : (scope.names.filter fun y=>y.2 == .cell) = [(x0,.cell)]:=by decide +kernel) (hx0 : scope.names.lookup x0 = some .cell:=by decide +kernel) (hkind : scope.kind = .function:=by rfl) (hnames : ∀ y ∈ scope.names,y.2 = .local -> scope.names.lookup y.1 = some .local:=by decide +kernel)
  (hs : ∀ x,foldedSetIterable iter X.env x = pure x:=by intro _; rfl) : PE X (.ListComp elt [⟨tg,iter,ifs,0⟩] scope pos) (tComp wi g tt te k fv):=by
 intro pins s σ H Q I h
 have kc : ∀ y ∈ N.drop k,X.env.kindOf y = some .cell:=fun y hy=>by
  obtain ⟨j,hj⟩:=List.getElem?_of_mem hy
  have a:=congrArg (fun l=>l[j]?) hk
  simp only [List.getElem?_map,hj,Option.map_some] at a
  exact Option.some.inj a
 obtain ⟨cl,hclos,h1,h2⟩:=closureFor_ok (env:=X.env) (scope:=scope) fun y hy hf=>I.ok.has y.1 (.inl (kc y.1 (hfr y hy hf)))
 rw [eval_ListComp]
 refine wpAny_comprehension_free (use:=none) rfl hs hclos hkind hnames (thn (hi pins s σ H _ I h) fun xv s1 h1'=>thn h1' fun itv s2 h2'=>?_)
 obtain ⟨it,fp,tn,J,H2,e,I2,T,st2,f2,body⟩:=h2'
 subst e
 exact comp_blockC (RR:=fun acc C=>compPost (model X.prog X.w) X.A X.xe none (EP X pins σ Q) acc C) hc hg ht he hw hN hfv hk hfl hone hx0 hkind h1 h2 I2 T st2 f2 body fun D C H' s' ⟨m,hm⟩ _ q iv=>⟨m,hm,fun h' hs'=>⟨.ref D,H',iv h' hs',rfl,q⟩⟩
end
section
variable {X : Cx} {K : PySem.W.Frag} {tg l : Expr} {tl : TE}
theorem pi_listK (hl : PE X l tl) (h : X.K = K:=by rfl) : PI X tg l (iList K tl):=h ▸ pi_list hl
end
end Sb
namespace Sb
open PySem L2
def top (i : Nat) : Stmt:=PySem.Challenge.pw_surebook_k08_sides.main.body.getD i (.Pass ⟨0,0,0,0⟩)
abbrev sIsWhole : Stmt:=top 5
abbrev sCommonDivisor : Stmt:=top 6
abbrev sLowest : Stmt:=top 7
abbrev sRatioP : Stmt:=top 8
abbrev sMinus : Stmt:=top 9
abbrev sCommonBottom : Stmt:=top 10
abbrev sWholeBy : Stmt:=top 11
abbrev sMean : Stmt:=top 13
abbrev sIsIn : Stmt:=top 14
abbrev sCut : Stmt:=top 15
abbrev sGain : Stmt:=top 21
abbrev sWordsOf : Stmt:=top 22
abbrev sSides : Stmt:=top 23
abbrev sGains : Stmt:=top 24
abbrev sAsRatio : Stmt:=top 25
abbrev sComeTo : Stmt:=top 26
abbrev sCell : Stmt:=top 28
abbrev sWhole : Stmt:=top 29
abbrev sMost : Stmt:=top 30
abbrev sIs : Stmt:=top 31
abbrev sRatio : Stmt:=top 32
abbrev sBag : Stmt:=top 33
abbrev sTake : Stmt:=top 34
abbrev sLPlus : Stmt:=top 35
abbrev sLMinus : Stmt:=top 36
abbrev sLTimes : Stmt:=top 37
abbrev sSmall : Stmt:=top 38
abbrev sRow : Stmt:=top 39
abbrev sEvent : Stmt:=top 40
abbrev sIn : Stmt:=top 41
abbrev sLCut : Stmt:=top 42
abbrev sRowIs : Stmt:=top 43
abbrev sMaybe : Stmt:=top 44
abbrev sOffer : Stmt:=top 45
abbrev sLGain : Stmt:=top 46
abbrev sLSides : Stmt:=top 47
abbrev sSidesAre : Stmt:=top 48
abbrev sRowsAre : Stmt:=top 49
abbrev sLaw : Stmt:=top 50
end Sb
namespace Sb
open PySem L2
structure Blt (mg : Str -> Option Value) : Prop where
 len : mg "len" = none
 abs : mg "abs" = none
 isinstance : mg "isinstance" = none
 int : mg "int" = none
 bool : mg "bool" = none
 tuple : mg "tuple" = none
 range : mg "range" = none
 zip : mg "zip" = none
 enumerate : mg "enumerate" = none
 any : mg "any" = none
 sum : mg "sum" = none
 list : mg "list" = none
 min : mg "min" = none
theorem at_ints {ns : List Int} {k : Int} (h0 : 0 <= k) (h1 : k < ((ns.map V.int).length : Int)) : ∃ z,atI (ns.map V.int) k = some (.int z):=by
 obtain ⟨j,rfl⟩:=Int.eq_ofNat_of_zero_le h0
 rw [List.length_map] at h1
 have hj : j < ns.length:=by omega
 exact ⟨ns[j],atI_nat (by simp [hj])⟩
theorem modOk {j : Int} (h : (0 : Int) < j) : (0 : Int) < j:=h
theorem cpow {j : Int} (h0 : 0 <= j) (h1 : j <= 1000) : CPow 10 j:=⟨h0,by omega,by decide⟩
theorem small_mod (t : Int) : -(2 ^ 64) < t % 65537 /\ t % 65537 < 2 ^ 64:=by omega
theorem gcd_abs (p q : Int) : Int.gcd (if p < 0 then -p else p) (if q < 0 then -q else q) = Int.gcd p q:=by
 split <;> split <;> simp
section
variable {P : Program} {w : World} {K : PySem.W.Frag} {mg : Str -> Option Value} {base : Heap}
def spCell (K : PySem.W.Frag) : Sp:=fun vs H Q _=>∃ (a : Addr) (k : Int) (ns : List Int),vs = [.ref a,.int k] /\ SqL K H a (ns.map V.int) /\ 0 <= k /\ k <= 100000 /\ ∀ z : Int,Q (.int z) H
theorem scCell : FnScope ["_law_script","_law_k","_law_seed","_law_some"] ["_law_script","_law_k"] (defScope sCell):=⟨rfl,rfl,rfl,by decide +kernel,rfl,by decide +kernel,by decide +kernel⟩
theorem okCell (D : Def K mg "_law_cell" sCell ["_law_script","_law_k"]) (T : Blt mg) : Has P w K mg base 1 "_law_cell" ["_law_script","_law_k"] (spCell K):=by
 refine D.has fun f fd F=>F.ok scCell (fun vs H Q E h=>?_) (fun cdv A outer s H vs Q E hr h=>?_)
 ·obtain ⟨a,k,ns,rfl,_⟩:=h
  rfl
 ·obtain ⟨a,k,ns,rfl,hS,hk,hk2,q⟩:=h
  have sc:=scCell
  refine ⟨_,(pss_cons (ps_if (pt_cmpR op_lt (pv 1) (pe_callB call_len_seq rfl T.len boot_len (pa_cons (pv 0) pa_nil)) (nomark _))
    (pss_one (ps_ret (pe_ix ix_list (pv 0) (pv 1) (fun _ _=>rfl))))
    pss_nil)
   (pss_cons (ps_set (i:=2) sc.nd rfl (Or.inl rfl) (pe_op op_mulB (pv 1) pe_int))
   (pss_cons (ps_if (pt_cmpR op_gt (pe_callB call_len_seq rfl T.len boot_len (pa_cons (pv 0) pa_nil)) pe_int (nomark _))
    (pss_one (ps_set (i:=2) sc.nd rfl (Or.inl rfl) (pe_op op_add (pv 2) (pe_op op_mod (pe_ix ix_list (pv 0) (pe_op op_mod (pv 1) (pe_callB call_len_seq rfl T.len boot_len (pa_cons (pv 0) pa_nil))) (fun _ _=>rfl)) pe_int))))
    pss_nil)
   (pss_cons (ps_set (i:=3) sc.nd rfl (Or.inl rfl) (pe_op op_mod (pe_op op_mulB (pv 2) pe_int) pe_int))
   (pss_one (ps_ret (pe_op op_mod (pe_op op_divB (pe_op op_mulB (pv 3) (pe_op op_add (pe_op op_add (pv 3) (pe_op op_mulB pe_int (pv 1))) pe_int)) pe_int) pe_int))))))),?_⟩
  refine ⟨_,rfl,_,rfl,a,_,rfl,.inl hS,_,_,rfl,rfl,_,rfl,?_⟩
  refine ite2 (fun h=>?_) (fun h=>?_)
  ·have h':=of_decide_eq_true h
   obtain ⟨z,hz⟩:=at_ints hk h'
   exact ⟨_,rfl,_,rfl,a,_,_,_,rfl,rfl,hS,hz,q z⟩
  ·refine ⟨_,rfl,_,_,rfl,rfl,mulR (by decide) (by decide),?_⟩
   refine ⟨_,rfl,a,_,rfl,.inl hS,_,_,rfl,rfl,_,rfl,?_⟩
   refine ite2 (fun h2=>?_) (fun h2=>?_)
   ·have h3:=of_decide_eq_true h2
    obtain ⟨z,hz⟩:=at_ints (ns:=ns) (k:=k % ((ns.map V.int).length : Int)) (Int.emod_nonneg _ (by omega)) (Int.emod_lt_of_pos _ h3)
    refine ⟨_,rfl,_,rfl,_,rfl,_,rfl,a,_,rfl,.inl hS,_,_,rfl,rfl,h3,a,_,_,_,rfl,rfl,hS,hz,_,_,rfl,rfl,modOk (by decide),_,_,rfl,rfl,?_⟩
    refine ⟨_,rfl,_,_,rfl,rfl,mulR (by decide) (by decide),_,_,rfl,rfl,modOk (by decide),?_⟩
    exact ⟨_,rfl,_,rfl,_,rfl,_,_,rfl,rfl,mulL (by decide) (by decide),_,_,rfl,rfl,_,_,rfl,rfl,_,_,rfl,rfl,mulL (small_mod _).1 (small_mod _).2,_,_,rfl,rfl,⟨by decide,by decide +kernel⟩,_,_,rfl,rfl,modOk (by decide),q _⟩
   ·refine ⟨_,rfl,_,_,rfl,rfl,mulR (by decide) (by decide),_,_,rfl,rfl,modOk (by decide),?_⟩
    exact ⟨_,rfl,_,rfl,_,rfl,_,_,rfl,rfl,mulL (by decide) (by decide),_,_,rfl,rfl,_,_,rfl,rfl,_,_,rfl,rfl,mulL (small_mod _).1 (small_mod _).2,_,_,rfl,rfl,⟨by decide,by decide +kernel⟩,_,_,rfl,rfl,modOk (by decide),q _⟩
def spMost : Sp:=fun vs H Q _=>∃ (a b : Int),vs = [.int a,.int b] /\ 0 <= a /\ 0 <= b /\ Q (.int (Int.gcd a b : Nat)) H
theorem scMost : FnScope ["_law_one","_law_other","_law_rest"] ["_law_one","_law_other"] (defScope sMost):=⟨rfl,rfl,rfl,by decide +kernel,rfl,by decide +kernel,by decide +kernel⟩
def muMost (σ : St) (_ : Hp) : Nat:=match σ with
 | [_,some (.int y),_]=>y.toNat
 | _=>0
theorem okMost (D : Def K mg "_law_most" sMost ["_law_one","_law_other"]) : Has P w K mg base 1 "_law_most" ["_law_one","_law_other"] spMost:=by
 refine D.has fun f fd F=>F.ok scMost (fun vs H Q E h=>?_) (fun cdv A outer s H vs Q E hr h=>?_)
 ·obtain ⟨a,b,rfl,_⟩:=h
  rfl
 ·obtain ⟨a,b,rfl,ha,hb,q⟩:=h
  have sc:=scMost
  refine ⟨_,(pss_cons (ps_while PassesOwn.never (pt_cmpR op_gt (pv 1) pe_int (nomark _))
    (pss_cons (ps_set (i:=2) sc.nd rfl (Or.inl rfl) (pe_op op_mod (pv 0) (pv 1)))
    (pss_cons (ps_set (i:=0) sc.nd rfl (Or.inl rfl) (pv 1))
    (pss_one (ps_set (i:=1) sc.nd rfl (Or.inl rfl) (pv 2))))))
   (pss_one (ps_ret (pv 0)))),?_⟩
  refine while_by (fun σ H'=>H' = H /\ ∃ (x y : Int) (r : Option V),σ = [some (.int x),some (.int y),r] /\ 0 <= x /\ 0 <= y /\ Int.gcd x y = Int.gcd a b) muMost ⟨rfl,a,b,none,rfl,ha,hb,rfl⟩ ?_
   (fun σ H Q Q' f ⟨v,e,i,j,e1,e2,k,e3,z⟩=>⟨v,e,i,j,e1,e2,k,e3,f _ _ z⟩)
  rintro σ H' ⟨rfl,x,y,r,rfl,hx,hy,hg⟩
  refine ⟨_,rfl,_,_,rfl,rfl,_,rfl,?_⟩
  refine ite2 (fun h=>?_) (fun h=>?_)
  ·have h' : 0 < y:=of_decide_eq_true h
   refine ⟨_,rfl,_,rfl,_,_,rfl,rfl,h',?_⟩
   refine ⟨_,rfl,_,rfl,⟨rfl,y,x % y,_,rfl,hy,Int.emod_nonneg _ (by omega),gcd_step.trans hg⟩,?_⟩
   show (x % y).toNat < y.toNat
   have:=Int.emod_lt_of_pos x h'
   have:=Int.emod_nonneg x (show y ≠ 0 by omega)
   omega
  ·have h' : ¬ 0 < y:=fun z=>h (decide_eq_true z)
   refine ⟨_,rfl,?_⟩
   have e:=gcd_nn x y hx (by omega)
   rw [hg] at e
   show Q (.int x) H'
   rw [e]
   exact q
def spRatio : Sp:=fun vs H Q _=>∃ (p q : Int),vs = [.int p,.int q] /\ q ≠ 0 /\ q.natAbs.log2 < 9000 /\ ∀ a H',H a = none -> Same H H' -> H' a = some (.tup [.int (nT p q),.int (nB p q)]) -> Q (.ref a) H'
theorem sg_log {p q : Int} (h : q ≠ 0) (k : q.natAbs.log2 < 9000) : (sg p q).natAbs.log2 < 9000:=by
 have h1:=sg_le (p:=p) h
 have h0:=sg_ne (p:=p) h
 have h2 : (sg p q).natAbs ≠ 0:=by omega
 have h3 : q.natAbs ≠ 0:=by omega
 exact (Nat.log2_lt h2).mpr (Nat.lt_of_le_of_lt h1 ((Nat.log2_lt h3).mp k))
theorem scRatio : FnScope ["_law_top","_law_bottom","_law_most_here"] ["_law_top","_law_bottom"] (defScope sRatio):=⟨rfl,rfl,rfl,by decide +kernel,rfl,by decide +kernel,by decide +kernel⟩
theorem okRatio (D : Def K mg "_law_ratio" sRatio ["_law_top","_law_bottom"]) (T : Blt mg) (hLawMost : Has P w K mg base 1 "_law_most" ["_law_one","_law_other"] spMost) : Has P w K mg base 2 "_law_ratio" ["_law_top","_law_bottom"] spRatio:=by
 refine D.has fun f fd F=>F.ok scRatio (fun vs H Q E h=>?_) (fun cdv A outer s H vs Q E hr h=>?_)
 ·obtain ⟨a,b,rfl,_⟩:=h
  rfl
 ·obtain ⟨p,q,rfl,hq,hlog,k⟩:=h
  have sc:=scRatio
  refine ⟨_,(pss_cons (ps_set (i:=2) sc.nd rfl (Or.inl rfl) (pe_use hLawMost (hr.mono (by decide)) rfl (pa_cons (pe_callB call_abs rfl T.abs PyProof.Rows.boot_abs (pa_cons (pv 0) pa_nil)) (pa_cons (pe_callB call_abs rfl T.abs PyProof.Rows.boot_abs (pa_cons (pv 1) pa_nil)) pa_nil))))
   (pss_cons (ps_join (ps_if (pt_cmpR op_lt (pv 1) pe_int (nomark _))
    (pss_one (ps_set (i:=2) sc.nd rfl (Or.inl rfl) (pe_un un_neg (pv 2))))
    pss_nil))
   (pss_one (ps_ret (pe_tup (pa_cons (pe_op op_divB (pv 0) (pv 2)) (pa_cons (pe_op op_divB (pv 1) (pv 2)) pa_nil))))))),?_⟩
  refine ⟨_,rfl,_,rfl,_,rfl,_,rfl,_,_,rfl,(by split <;> omega),(by split <;> omega),?_⟩
  rw [gcd_abs]
  refine ⟨fun σ H'=>H' = H /\ σ = [some (.int p),some (.int q),some (.int (sg p q))],?_,?_⟩
  ·refine ⟨_,rfl,_,_,rfl,rfl,_,rfl,?_⟩
   refine ite2 (fun h=>?_) (fun h=>?_)
   ·have h' : q < 0:=of_decide_eq_true h
    refine ⟨_,rfl,_,rfl,rfl,?_⟩
    have e : sg p q = -((Int.gcd p q : Nat) : Int):=by unfold sg gI; rw [if_pos h']
    rw [e]
    rfl
   ·have h' : ¬ q < 0:=fun z=>h (decide_eq_true z)
    refine ⟨rfl,?_⟩
    have e : sg p q = ((Int.gcd p q : Nat) : Int):=by unfold sg gI; rw [if_neg h']
    rw [e]
    rfl
  ·rintro σ H' ⟨rfl,rfl⟩
   refine ⟨_,rfl,_,rfl,_,_,rfl,rfl,⟨sg_ne hq,sg_log hq hlog⟩,_,rfl,_,rfl,_,_,rfl,rfl,⟨sg_ne hq,sg_log hq hlog⟩,(by show 2 <= sizeLine; decide),fun a ha=>?_⟩
   exact k a _ ha (Same.new ha) upd_same
def spBag : Sp:=fun vs H Q _=>∃ (c : Int),vs = [.int c] /\ ∀ a H',H a = none -> Same H H' -> BagAt H' a 1 -> Q (.ref a) H'
theorem scBag : FnScope ["_law_cell_here"] ["_law_cell_here"] (defScope sBag):=⟨rfl,rfl,rfl,by decide +kernel,rfl,by decide +kernel,by decide +kernel⟩
theorem okBag (D : Def K mg "_law_bag" sBag ["_law_cell_here"]) : Has P w K mg base 1 "_law_bag" ["_law_cell_here"] spBag:=by
 refine D.has fun f fd F=>F.ok scBag (fun vs H Q E h=>?_) (fun cdv A outer s H vs Q E hr h=>?_)
 ·obtain ⟨c,rfl,_⟩:=h
  rfl
 ·obtain ⟨c,rfl,q⟩:=h
  have sc:=scBag
  refine ⟨_,(pss_cons (ps_if (pt_join (PW.pt (pw_and (pt_cmpR op_eq (pe_op op_mod (pv 0) pe_int) pe_int (nomark _)) (pw_and1 (PW.pt (pw_or (pt_cmpR op_lt (pv 0) (pe_un un_neg pe_int) (nomark _)) (pw_or1 (pt_cmpR op_lt pe_int (pv 0) (nomark _)))))))))
    (pss_one (ps_ret (pe_lst (pa_cons (pe_op op_divB (pv 0) pe_int) (pa_cons pe_int pa_nil)))))
    pss_nil)
   (pss_one (ps_ret (pe_lst (pa_cons (pe_op op_divB (pv 0) pe_int) (pa_cons pe_int pa_nil)))))),?_⟩
  refine ⟨fun _ H'=>H' = H,?_,?_⟩
  ·refine ⟨_,rfl,_,_,rfl,rfl,modOk (by decide),rfl,_,rfl,?_⟩
   refine ite2 (fun h1=>?_) (fun h1=>rfl)
   refine ⟨_,rfl,_,rfl,_,_,rfl,rfl,_,rfl,?_⟩
   refine ite2 (fun h2=>rfl) (fun h2=>?_)
   exact ⟨_,rfl,_,_,rfl,rfl,_,rfl,rfl⟩
  ·rintro b H' rfl
   refine ite2 (fun _=>?_) (fun _=>?_)
   ·exact ⟨_,rfl,_,_,rfl,rfl,⟨by decide,by decide +kernel⟩,(by show 2 <= sizeLine; decide),fun a ha=>q a _ ha (Same.new ha) ⟨_,_,upd_same,by decide,by decide⟩⟩
   ·exact ⟨_,rfl,_,_,rfl,rfl,⟨by decide,by decide +kernel⟩,(by show 2 <= sizeLine; decide),fun a ha=>q a _ ha (Same.new ha) ⟨_,_,upd_same,by decide,by decide⟩⟩
def spTake : Sp:=fun vs H Q _=>∃ (b : Addr) (m : Int) (n : Nat),vs = [.ref b,.int m] /\ BagAt H b n /\ n <= 1000000000 /\ 0 < m /\ m.natAbs.log2 < 9000 ∧
 ∀ (r : Int) (H' : Hp),0 <= r -> r < m -> BagAt H' b (n + 1) -> SameX b H H' -> Q (.int r) H'
theorem scTake : FnScope ["_law_bag_here","_law_many","_law_some"] ["_law_bag_here","_law_many"] (defScope sTake):=⟨rfl,rfl,rfl,by decide +kernel,rfl,by decide +kernel,by decide +kernel⟩
theorem okTake (D : Def K mg "_law_take" sTake ["_law_bag_here","_law_many"]) : Has P w K mg base 1 "_law_take" ["_law_bag_here","_law_many"] spTake:=by
 refine D.has fun f fd F=>F.ok scTake (fun vs H Q E h=>?_) (fun cdv A outer s H vs Q E hr h=>?_)
 ·obtain ⟨b,m,n,rfl,_⟩:=h
  rfl
 ·obtain ⟨b,m,n,rfl,⟨x,y,e,hy,hyn⟩,hn,hm,hlog,q⟩:=h
  have sc:=scTake
  have hL : SqL K H b [.int x,.int y]:=SqL.of e
  refine ⟨_,(pss_cons (ps_if (pt_cmpR op_eq (pe_ix ix_l1 (pv 0) pe_int (fun _ _=>rfl)) pe_int (nomark _))
    (pss_cons (ps_set (i:=2) sc.nd rfl (Or.inl rfl) (pe_op op_mod (pe_ix ix_l0 (pv 0) pe_int (fun _ _=>rfl)) (pv 1)))
    (pss_cons (ps_asg (pe_op op_divB (pe_ix ix_l0 (pv 0) pe_int (fun _ _=>rfl)) (pv 1)) (pg_sub (pv 0) pe_int set_list))
    (pss_one (ps_ret (pv 2)))))
    pss_nil)
   (pss_cons (ps_asg (pe_op op_mod (pe_op op_add (pe_op op_add (pe_op op_mulB (pe_ix ix_l0 (pv 0) pe_int (fun _ _=>rfl)) pe_int) (pe_op op_mulB (pe_op op_mulB pe_int (pe_ix ix_l1 (pv 0) pe_int (fun _ _=>rfl))) (pe_ix ix_l1 (pv 0) pe_int (fun _ _=>rfl)))) pe_int) pe_int) (pg_sub (pv 0) pe_int set_list))
   (pss_cons (ps_asg (pe_op op_add (pe_ix ix_l1 (pv 0) pe_int (fun _ _=>rfl)) pe_int) (pg_sub (pv 0) pe_int set_list))
   (pss_one (ps_ret (pe_op op_mod (pe_op op_mod (pe_op op_mulB (pe_ix ix_l0 (pv 0) pe_int (fun _ _=>rfl)) pe_int) pe_int) (pv 1))))))),?_⟩
  refine ⟨_,rfl,b,_,_,rfl,rfl,hL,rfl,_,rfl,?_⟩
  refine ite2 (fun h=>?_) (fun h=>?_)
  ·refine ⟨_,rfl,b,_,_,rfl,rfl,hL,_,rfl,_,_,rfl,rfl,hm,?_⟩
   refine ⟨_,rfl,b,_,_,rfl,rfl,hL,_,rfl,_,_,rfl,rfl,⟨by omega,hlog⟩,_,rfl,b,_,_,0,rfl,rfl,e,rfl,?_⟩
   refine ⟨_,rfl,?_⟩
   exact q _ _ (Int.emod_nonneg _ (by omega)) (Int.emod_lt_of_pos _ hm) ⟨_,y,upd_same,hy,by omega⟩ (SameX.upd b H _)
  ·refine ⟨_,rfl,b,_,_,rfl,rfl,hL,_,_,rfl,rfl,mulR (by decide) (by decide),_,rfl,b,_,_,rfl,rfl,hL,_,_,rfl,rfl,mulL (by decide) (by decide),_,rfl,b,_,_,rfl,rfl,hL,_,_,rfl,rfl,mulR (by omega) (by omega),_,_,rfl,rfl,_,_,rfl,rfl,_,_,rfl,rfl,modOk (by decide),_,rfl,b,_,_,0,rfl,rfl,e,rfl,?_⟩
   refine ⟨_,rfl,b,_,_,rfl,rfl,SqL.of upd_same,_,_,rfl,rfl,_,rfl,b,_,_,1,rfl,rfl,upd_same,rfl,?_⟩
   refine ⟨_,rfl,b,_,_,rfl,rfl,SqL.of upd_same,_,_,rfl,rfl,mulR (by decide) (by decide),_,_,rfl,rfl,modOk (by decide),_,rfl,_,_,rfl,rfl,hm,?_⟩
   exact q _ _ (Int.emod_nonneg _ (by omega)) (Int.emod_lt_of_pos _ hm) ⟨_,y + 1,upd_same,by omega,by omega⟩ ((SameX.upd b H _).trans (SameX.upd b _ _))
end
end Sb
namespace Sb
open PySem L2
section
variable {P : Program} {w : World} {K : PySem.W.Frag} {mg : Str -> Option Value} {base : Heap}
def spGcd : Sp:=fun vs H Q _=>∃ (a b : Int),vs = [.int a,.int b] /\ Q (.int (Int.gcd a b : Nat)) H
theorem scGcd : FnScope ["one","other","rest"] ["one","other"] (defScope sCommonDivisor):=⟨rfl,rfl,rfl,by decide +kernel,rfl,by decide +kernel,by decide +kernel⟩
def muGcd (σ : St) (_ : Hp) : Nat:=match σ with
 | [_,some (.int y),_]=>y.natAbs
 | _=>0
theorem ne_test {y : Int} (h : (!decide (V.int y = V.int 0)) = true) : y ≠ 0:=by
 intro z
 subst z
 simp at h
theorem eq_test {y : Int} (h : ¬ (!decide (V.int y = V.int 0)) = true) : y = 0:=by
 apply Classical.byContradiction
 intro z
 apply h
 have : ¬ V.int y = V.int 0:=fun q=>z (V.int.inj q)
 simp [this]
theorem okGcd (D : Def K mg "common_divisor" sCommonDivisor ["one","other"]) (T : Blt mg) : Has P w K mg base 1 "common_divisor" ["one","other"] spGcd:=by
 refine D.has fun f fd F=>F.ok scGcd (fun vs H Q E h=>?_) (fun cdv A outer s H vs Q E hr h=>?_)
 ·obtain ⟨a,b,rfl,_⟩:=h
  rfl
 ·obtain ⟨a,b,rfl,q⟩:=h
  have sc:=scGcd
  refine ⟨_,(pss_cons (ps_while PassesOwn.never (pt_cmpR op_ne (pv 1) pe_int (nomark _))
    (pss_cons (ps_set (i:=2) sc.nd rfl (Or.inl rfl) (pe_op op_modN (pv 0) (pv 1)))
    (pss_cons (ps_set (i:=0) sc.nd rfl (Or.inl rfl) (pv 1))
    (pss_one (ps_set (i:=1) sc.nd rfl (Or.inl rfl) (pv 2))))))
   (pss_one (ps_ret (pe_callB call_abs rfl T.abs PyProof.Rows.boot_abs (pa_cons (pv 0) pa_nil))))),?_⟩
  refine while_by (fun σ H'=>H' = H /\ ∃ (x y : Int) (r : Option V),σ = [some (.int x),some (.int y),r] /\ Int.gcd x y = Int.gcd a b) muGcd ⟨rfl,a,b,none,rfl,rfl⟩ ?_
   (fun σ H Q Q' f ⟨v,e,e1,k,e3,z⟩=>⟨v,e,e1,k,e3,f _ _ z⟩)
  rintro σ H' ⟨rfl,x,y,r,rfl,hg⟩
  refine ⟨_,rfl,rfl,_,rfl,?_⟩
  refine ite2 (fun h=>?_) (fun h=>?_)
  ·have h' : y ≠ 0:=ne_test h
   refine ⟨_,rfl,_,rfl,_,_,rfl,rfl,h',?_⟩
   refine ⟨_,rfl,_,rfl,⟨rfl,y,x.fmod y,_,rfl,(gcd_fstep x y).trans hg⟩,?_⟩
   exact fmod_abs x h'
  ·have h' : y = 0:=eq_test h
   subst h'
   refine ⟨_,rfl,_,rfl,?_⟩
   have e : (if x < 0 then -x else x) = ((Int.gcd a b : Nat) : Int):=by
    rw [← hg]
    simp
    split <;> omega
   rw [e]
   exact q
def spLowest : Sp:=fun vs H Q _=>∃ (p q : Int),vs = [.int p,.int q] /\ q ≠ 0 /\ q.natAbs.log2 < 9000 /\ ∀ a H',H a = none -> Same H H' -> H' a = some (.tup [.int (nT p q),.int (nB p q)]) -> Q (.ref a) H'
theorem scLowest : FnScope ["top","bottom","divisor"] ["top","bottom"] (defScope sLowest):=⟨rfl,rfl,rfl,by decide +kernel,rfl,by decide +kernel,by decide +kernel⟩
theorem okLowest (D : Def K mg "lowest" sLowest ["top","bottom"]) (hCommonDivisor : Has P w K mg base 1 "common_divisor" ["one","other"] spGcd) : Has P w K mg base 2 "lowest" ["top","bottom"] spLowest:=by
 refine D.has fun f fd F=>F.ok scLowest (fun vs H Q E h=>?_) (fun cdv A outer s H vs Q E hr h=>?_)
 ·obtain ⟨a,b,rfl,_⟩:=h
  rfl
 ·obtain ⟨p,q,rfl,hq,hlog,k⟩:=h
  have sc:=scLowest
  refine ⟨_,(pss_cons (ps_set (i:=2) sc.nd rfl (Or.inl rfl) (pe_use hCommonDivisor (hr.mono (by decide)) rfl (pa_cons (pv 0) (pa_cons (pv 1) pa_nil))))
   (pss_cons (ps_join (ps_if (pt_cmpR op_lt (pv 1) pe_int (nomark _))
    (pss_one (ps_set (i:=2) sc.nd rfl (Or.inl rfl) (pe_un un_neg (pv 2))))
    pss_nil))
   (pss_one (ps_ret (pe_tup (pa_cons (pe_op op_divB (pv 0) (pv 2)) (pa_cons (pe_op op_divB (pv 1) (pv 2)) pa_nil))))))),?_⟩
  refine ⟨_,rfl,_,rfl,_,_,rfl,?_⟩
  refine ⟨fun σ H'=>H' = H /\ σ = [some (.int p),some (.int q),some (.int (sg p q))],?_,?_⟩
  ·refine ⟨_,rfl,_,_,rfl,rfl,_,rfl,?_⟩
   refine ite2 (fun h=>?_) (fun h=>?_)
   ·have h' : q < 0:=of_decide_eq_true h
    refine ⟨_,rfl,_,rfl,rfl,?_⟩
    have e : sg p q = -((Int.gcd p q : Nat) : Int):=by unfold sg gI; rw [if_pos h']
    rw [e]
    rfl
   ·have h' : ¬ q < 0:=fun z=>h (decide_eq_true z)
    refine ⟨rfl,?_⟩
    have e : sg p q = ((Int.gcd p q : Nat) : Int):=by unfold sg gI; rw [if_neg h']
    rw [e]
    rfl
  ·rintro σ H' ⟨rfl,rfl⟩
   refine ⟨_,rfl,_,rfl,_,_,rfl,rfl,⟨sg_ne hq,sg_log hq hlog⟩,_,rfl,_,rfl,_,_,rfl,rfl,⟨sg_ne hq,sg_log hq hlog⟩,(by show 2 <= sizeLine; decide),fun a ha=>?_⟩
   exact k a _ ha (Same.new ha) upd_same
end
end Sb
namespace Sb
open PySem L2
section
variable {P : Program} {w : World} {K : PySem.W.Frag} {mg : Str -> Option Value} {base : Heap}
def spTwo (K : PySem.W.Frag) (op : Rat -> Rat -> Rat) : Sp:=fun vs H Q _=>∃ (a b : Addr) (r s : Rat) (n : Nat),vs = [.ref a,.ref b] /\ SqT K H a [.int r.1,.int r.2] /\ SqT K H b [.int s.1,.int s.2] /\ Good n r /\ Good n s /\ n <= 4000 ∧
 ∀ c H',H c = none -> Same H H' -> H' c = some (.tup [.int (op r s).1,.int (op r s).2]) -> Q (.ref c) H'
theorem log_mul {n : Nat} {x y : Int} (h : Bd n x) (k : Bd n y) (hn : n <= 4000) : (x * y).natAbs.log2 < 9000:=Bd.log (h.mul k) (by omega)
end
end Sb
namespace Sb
open PySem L2
section
variable {P : Program} {w : World} {K : PySem.W.Frag} {mg : Str -> Option Value} {base : Heap}
def spWhole : Sp:=fun vs H Q _=>∃ (i : Int),vs = [.int i] /\ Q (.bl true) H
theorem scWhole : FnScope ["_law_found"] ["_law_found"] (defScope sWhole):=⟨rfl,rfl,rfl,by decide +kernel,rfl,by decide +kernel,by decide +kernel⟩
theorem okWhole (D : Def K mg "_law_whole" sWhole ["_law_found"]) (T : Blt mg) : Has P w K mg base 1 "_law_whole" ["_law_found"] spWhole:=by
 refine D.has fun f fd F=>F.ok scWhole (fun vs H Q E h=>?_) (fun cdv A outer s H vs Q E hr h=>?_)
 ·obtain ⟨i,rfl,_⟩:=h
  rfl
 ·obtain ⟨i,rfl,q⟩:=h
  have sc:=scWhole
  refine ⟨_,(pss_one (ps_ret (pe_and (pe_callB call_isinst rfl T.isinstance PyProof.Rows.boot_isinstance (pa_cons (pv 0) (pa_cons (pe_ty T.int PyProof.Rows.boot_int) pa_nil))) (pe_one (pe_not (pe_callB call_isinst rfl T.isinstance PyProof.Rows.boot_isinstance (pa_cons (pv 0) (pa_cons (pe_ty T.bool PyProof.Rows.boot_bool) pa_nil)))))))),?_⟩
  refine ⟨_,rfl,_,_,_,_,rfl,TyOf.int i,kit_same,_,rfl,iteT ?_⟩
  exact ⟨_,rfl,_,_,_,_,rfl,TyOf.int i,kit_int_bool,_,rfl,q⟩
def spIs (K : PySem.W.Frag) : Sp:=fun vs H Q _=>∃ (a : Addr) (r : Rat) (t b : Int),vs = [.ref a,.int t,.int b] /\ SqT K H a [.int r.1,.int r.2] /\ 0 < r.2 /\ Int.gcd r.1 r.2 = 1 /\ r.1 * b = t * r.2 /\ IntMulOk r.1 b /\ IntMulOk t r.2 /\ Q (.bl true) H
theorem scIs : FnScope ["_law_found","_law_top","_law_bottom"] ["_law_found","_law_top","_law_bottom"] (defScope sIs):=⟨rfl,rfl,rfl,by decide +kernel,rfl,by decide +kernel,by decide +kernel⟩
theorem okIs (D : Def K mg "_law_is" sIs ["_law_found","_law_top","_law_bottom"]) (T : Blt mg) (hLawWhole : Has P w K mg base 1 "_law_whole" ["_law_found"] spWhole) (hLawMost : Has P w K mg base 1 "_law_most" ["_law_one","_law_other"] spMost) :
  Has P w K mg base 2 "_law_is" ["_law_found","_law_top","_law_bottom"] (spIs K):=by
 refine D.has fun f fd F=>F.ok scIs (fun vs H Q E h=>?_) (fun cdv A outer s H vs Q E hr h=>?_)
 ·obtain ⟨a,r,t,b,rfl,_⟩:=h
  rfl
 ·obtain ⟨a,r,t,b,rfl,hA,pos,cop,cross,m1,m2,q⟩:=h
  have sc:=scIs
  refine ⟨_,(pss_cons (ps_if (PW.pt (pw_or (pt_not (pt_val (pe_callB call_isinstT rfl T.isinstance PyProof.Rows.boot_isinstance (pa_cons (pv 0) (pa_cons (pe_ty T.tuple PyProof.Rows.boot_tuple) pa_nil))))) (pw_or1 (pt_cmpR op_ne (pe_callB call_len_seq rfl T.len boot_len (pa_cons (pv 0) pa_nil)) pe_int (nomark _)))))
    (pss_one (ps_ret pe_bl))
    pss_nil)
   (pss_cons (ps_if (PW.pt (pw_or (pt_not (pt_val (pe_use hLawWhole (hr.mono (by decide)) rfl (pa_cons (pe_ix ix_p0 (pv 0) pe_int (fun _ _=>rfl)) pa_nil)))) (pw_or (pt_not (pt_val (pe_use hLawWhole (hr.mono (by decide)) rfl (pa_cons (pe_ix ix_p1 (pv 0) pe_int (fun _ _=>rfl)) pa_nil)))) (pw_or1 (pt_cmpR op_lt (pe_ix ix_p1 (pv 0) pe_int (fun _ _=>rfl)) pe_int (nomark _))))))
    (pss_one (ps_ret pe_bl))
    pss_nil)
   (pss_one (ps_ret (pe_and (pe_cmpR op_eq (pe_op op_mulB (pe_ix ix_p0 (pv 0) pe_int (fun _ _=>rfl)) (pv 2)) (pe_op op_mulB (pv 1) (pe_ix ix_p1 (pv 0) pe_int (fun _ _=>rfl))) (nomark _)) (pe_one (pe_cmpR op_eq (pe_use hLawMost (hr.mono (by decide)) rfl (pa_cons (pe_callB call_abs rfl T.abs PyProof.Rows.boot_abs (pa_cons (pe_ix ix_p0 (pv 0) pe_int (fun _ _=>rfl)) pa_nil)) (pa_cons (pe_ix ix_p1 (pv 0) pe_int (fun _ _=>rfl)) pa_nil))) pe_int (nomark _)))))))),?_⟩
  refine ⟨_,rfl,_,_,_,_,rfl,hA,kit_same,_,rfl,iteF ?_⟩
  refine ⟨_,rfl,a,_,rfl,.inr hA,rfl,_,rfl,iteNS rfl ?_⟩
  refine ⟨_,rfl,_,_,_,rfl,rfl,hA,_,rfl,_,rfl,iteF ?_⟩
  refine ⟨_,rfl,_,_,_,rfl,rfl,hA,_,rfl,_,rfl,iteF ?_⟩
  refine ⟨_,rfl,_,_,_,rfl,rfl,hA,_,_,rfl,rfl,_,rfl,?_⟩
  have e0 : decide (r.2 < 1) = false:=decide_eq_false (by omega)
  rw [e0]
  refine iteF ?_
  refine ⟨_,rfl,_,_,_,rfl,rfl,hA,_,rfl,_,_,rfl,rfl,m1,_,rfl,_,rfl,_,_,_,rfl,rfl,hA,_,_,rfl,rfl,m2,rfl,_,rfl,?_⟩
  have e1 : decide (V.int (r.1 * b) = V.int (t * r.2)) = true:=decide_eq_true (by rw [cross])
  rw [e1]
  refine iteT ?_
  refine ⟨_,rfl,_,_,_,rfl,rfl,hA,_,rfl,_,rfl,_,_,_,rfl,rfl,hA,_,_,rfl,(by split <;> omega),(by omega),rfl,?_⟩
  have e2 : Int.gcd (if r.1 < 0 then -r.1 else r.1) r.2 = 1:=by
   rw [← cop]
   split <;> simp
  rw [e2]
  exact q
end
end Sb
namespace Sb
open PySem L2
section
variable {P : Program} {w : World} {K : PySem.W.Frag} {mg : Str -> Option Value} {base : Heap}
theorem scLPlus : FnScope ["_law_one","_law_other"] ["_law_one","_law_other"] (defScope sLPlus):=⟨rfl,rfl,rfl,by decide +kernel,rfl,by decide +kernel,by decide +kernel⟩
theorem okLPlus (D : Def K mg "_law_plus" sLPlus ["_law_one","_law_other"]) (hLawRatio : Has P w K mg base 2 "_law_ratio" ["_law_top","_law_bottom"] spRatio) : Has P w K mg base 3 "_law_plus" ["_law_one","_law_other"] (spTwo K addR):=by
 refine D.has fun f fd F=>F.ok scLPlus (fun vs H Q E h=>?_) (fun cdv A outer s H vs Q E hr h=>?_)
 ·obtain ⟨a,b,r,s,n,rfl,_⟩:=h
  rfl
 ·obtain ⟨a,b,r,s,n,rfl,hA,hB,gr,gs,hn,k⟩:=h
  have sc:=scLPlus
  refine ⟨_,(pss_one (ps_ret (pe_use hLawRatio (hr.mono (by decide)) rfl (pa_cons (pe_op op_add (pe_op op_mulB (pe_ix ix_p0 (pv 0) pe_int (fun _ _=>rfl)) (pe_ix ix_p1 (pv 1) pe_int (fun _ _=>rfl))) (pe_op op_mulB (pe_ix ix_p0 (pv 1) pe_int (fun _ _=>rfl)) (pe_ix ix_p1 (pv 0) pe_int (fun _ _=>rfl)))) (pa_cons (pe_op op_mulB (pe_ix ix_p1 (pv 0) pe_int (fun _ _=>rfl)) (pe_ix ix_p1 (pv 1) pe_int (fun _ _=>rfl))) pa_nil))))),?_⟩
  exact ⟨_,rfl,_,_,_,rfl,rfl,hA,_,rfl,_,_,_,rfl,rfl,hB,_,_,rfl,rfl,gr.b1.mulOk gs.b2 (by omega) (by omega),_,rfl,_,_,_,rfl,rfl,hB,_,rfl,_,_,_,rfl,rfl,hA,_,_,rfl,rfl,gs.b1.mulOk gr.b2 (by omega) (by omega),_,_,rfl,rfl,_,rfl,_,_,_,rfl,rfl,hA,_,rfl,_,_,_,rfl,rfl,hB,_,_,rfl,rfl,gr.b2.mulOk gs.b2 (by omega) (by omega),_,_,rfl,mul_ne gr.pos gs.pos,log_mul gr.b2 gs.b2 hn,k⟩
theorem scLMinus : FnScope ["_law_one","_law_other"] ["_law_one","_law_other"] (defScope sLMinus):=⟨rfl,rfl,rfl,by decide +kernel,rfl,by decide +kernel,by decide +kernel⟩
theorem okLMinus (D : Def K mg "_law_minus" sLMinus ["_law_one","_law_other"]) (hLawRatio : Has P w K mg base 2 "_law_ratio" ["_law_top","_law_bottom"] spRatio) : Has P w K mg base 3 "_law_minus" ["_law_one","_law_other"] (spTwo K subR):=by
 refine D.has fun f fd F=>F.ok scLMinus (fun vs H Q E h=>?_) (fun cdv A outer s H vs Q E hr h=>?_)
 ·obtain ⟨a,b,r,s,n,rfl,_⟩:=h
  rfl
 ·obtain ⟨a,b,r,s,n,rfl,hA,hB,gr,gs,hn,k⟩:=h
  have sc:=scLMinus
  refine ⟨_,(pss_one (ps_ret (pe_use hLawRatio (hr.mono (by decide)) rfl (pa_cons (pe_op op_sub (pe_op op_mulB (pe_ix ix_p0 (pv 0) pe_int (fun _ _=>rfl)) (pe_ix ix_p1 (pv 1) pe_int (fun _ _=>rfl))) (pe_op op_mulB (pe_ix ix_p0 (pv 1) pe_int (fun _ _=>rfl)) (pe_ix ix_p1 (pv 0) pe_int (fun _ _=>rfl)))) (pa_cons (pe_op op_mulB (pe_ix ix_p1 (pv 0) pe_int (fun _ _=>rfl)) (pe_ix ix_p1 (pv 1) pe_int (fun _ _=>rfl))) pa_nil))))),?_⟩
  exact ⟨_,rfl,_,_,_,rfl,rfl,hA,_,rfl,_,_,_,rfl,rfl,hB,_,_,rfl,rfl,gr.b1.mulOk gs.b2 (by omega) (by omega),_,rfl,_,_,_,rfl,rfl,hB,_,rfl,_,_,_,rfl,rfl,hA,_,_,rfl,rfl,gs.b1.mulOk gr.b2 (by omega) (by omega),_,_,rfl,rfl,_,rfl,_,_,_,rfl,rfl,hA,_,rfl,_,_,_,rfl,rfl,hB,_,_,rfl,rfl,gr.b2.mulOk gs.b2 (by omega) (by omega),_,_,rfl,mul_ne gr.pos gs.pos,log_mul gr.b2 gs.b2 hn,k⟩
theorem scLTimes : FnScope ["_law_one","_law_other"] ["_law_one","_law_other"] (defScope sLTimes):=⟨rfl,rfl,rfl,by decide +kernel,rfl,by decide +kernel,by decide +kernel⟩
theorem okLTimes (D : Def K mg "_law_times" sLTimes ["_law_one","_law_other"]) (hLawRatio : Has P w K mg base 2 "_law_ratio" ["_law_top","_law_bottom"] spRatio) : Has P w K mg base 3 "_law_times" ["_law_one","_law_other"] (spTwo K mulR'):=by
 refine D.has fun f fd F=>F.ok scLTimes (fun vs H Q E h=>?_) (fun cdv A outer s H vs Q E hr h=>?_)
 ·obtain ⟨a,b,r,s,n,rfl,_⟩:=h
  rfl
 ·obtain ⟨a,b,r,s,n,rfl,hA,hB,gr,gs,hn,k⟩:=h
  have sc:=scLTimes
  refine ⟨_,(pss_one (ps_ret (pe_use hLawRatio (hr.mono (by decide)) rfl (pa_cons (pe_op op_mulB (pe_ix ix_p0 (pv 0) pe_int (fun _ _=>rfl)) (pe_ix ix_p0 (pv 1) pe_int (fun _ _=>rfl))) (pa_cons (pe_op op_mulB (pe_ix ix_p1 (pv 0) pe_int (fun _ _=>rfl)) (pe_ix ix_p1 (pv 1) pe_int (fun _ _=>rfl))) pa_nil))))),?_⟩
  exact ⟨_,rfl,_,_,_,rfl,rfl,hA,_,rfl,_,_,_,rfl,rfl,hB,_,_,rfl,rfl,gr.b1.mulOk gs.b1 (by omega) (by omega),_,rfl,_,_,_,rfl,rfl,hA,_,rfl,_,_,_,rfl,rfl,hB,_,_,rfl,rfl,gr.b2.mulOk gs.b2 (by omega) (by omega),_,_,rfl,mul_ne gr.pos gs.pos,log_mul gr.b2 gs.b2 hn,k⟩
end
end Sb
namespace Sb
open PySem L2
theorem p6 : (10 : Int) ^ (6 : Int).toNat = 1000000:=by decide +kernel
theorem lg6 : (2 * (10 : Int) ^ (6 : Int).toNat + 1).natAbs.log2 < 9000:=by decide +kernel
theorem bd21 {x : Int} (h1 : -2000000 < x) (h2 : x < 2000000) : Bd 21 x:=by
 unfold Bd
 have e : (2 : Nat) ^ 21 = 2097152:=by decide
 rw [e]
 omega
section
variable {P : Program} {w : World} {K : PySem.W.Frag} {mg : Str -> Option Value} {base : Heap}
def spSmall (K : PySem.W.Frag) : Sp:=fun vs H Q _=>∃ (b : Addr) (n : Nat),vs = [.ref b] /\ BagAt H b n /\ n <= 1000000 ∧
 ∀ (a : Addr) (H' : Hp) (r : Rat),BagAt H' b (n + 3) -> SameX b H H' -> H' a = some (.tup [.int r.1,.int r.2]) -> Good 21 r -> Q (.ref a) H'
theorem scSmall : FnScope ["_law_bag_here"] ["_law_bag_here"] (defScope sSmall):=⟨rfl,rfl,rfl,by decide +kernel,rfl,by decide +kernel,by decide +kernel⟩
theorem okSmall (D : Def K mg "_law_small" sSmall ["_law_bag_here"]) (hLawTake : Has P w K mg base 1 "_law_take" ["_law_bag_here","_law_many"] spTake) (hLawRatio : Has P w K mg base 2 "_law_ratio" ["_law_top","_law_bottom"] spRatio) :
  Has P w K mg base 3 "_law_small" ["_law_bag_here"] (spSmall K):=by
 refine D.has fun f fd F=>F.ok scSmall (fun vs H Q E h=>?_) (fun cdv A outer s H vs Q E hr h=>?_)
 ·obtain ⟨b,n,rfl,_⟩:=h
  rfl
 ·obtain ⟨b,n,rfl,hB,hn,k⟩:=h
  have sc:=scSmall
  refine ⟨_,(pss_cons (ps_if (pt_cmpR op_eq (pe_use hLawTake (hr.mono (by decide)) rfl (pa_cons (pv 0) (pa_cons pe_int pa_nil))) pe_int (nomark _))
    (pss_one (ps_ret (pe_tup (pa_cons (pe_op op_sub (pe_use hLawTake (hr.mono (by decide)) rfl (pa_cons (pv 0) (pa_cons (pe_op op_add (pe_op op_mulB pe_int (pe_op op_pow pe_int pe_int)) pe_int) pa_nil))) (pe_op op_pow pe_int pe_int)) (pa_cons pe_int pa_nil)))))
    pss_nil)
   (pss_one (ps_ret (pe_use hLawRatio (hr.mono (by decide)) rfl (pa_cons (pe_op op_sub (pe_use hLawTake (hr.mono (by decide)) rfl (pa_cons (pv 0) (pa_cons pe_int pa_nil))) pe_int) (pa_cons (pe_op op_add pe_int (pe_use hLawTake (hr.mono (by decide)) rfl (pa_cons (pv 0) (pa_cons pe_int pa_nil)))) pa_nil)))))),?_⟩
  refine ⟨_,rfl,b,_,n,rfl,hB,by omega,by decide,by decide +kernel,fun r1 H1 r10 r11 B1 S1=>⟨rfl,_,rfl,?_⟩⟩
  refine ite2 (fun h=>?_) (fun h=>?_)
  ·refine ⟨_,rfl,_,_,rfl,rfl,cpow (by decide) (by decide),_,_,rfl,rfl,mulL (by decide) (by decide),_,_,rfl,rfl,b,_,n + 1,rfl,B1,by omega,by rw [p6]; decide,lg6,fun r2 H2 r20 r21 B2 S2=>?_⟩
   rw [p6] at r21
   refine ⟨_,_,rfl,rfl,cpow (by decide) (by decide),_,_,rfl,rfl,(by show 2 <= sizeLine; decide),fun a ha=>?_⟩
   have S:=(S1.trans S2).trans (SameX.of (a:=b) (Same.new (o:=.tup [.int (r2 - 10 ^ (6 : Int).toNat),.int 1]) ha))
   refine k a _ (r2 - 10 ^ (6 : Int).toNat,1) ((B2.same (Same.new ha)).mono (by omega)) S upd_same ⟨?_,bd21 (by show -2000000 < (1 : Int); decide) (by show (1 : Int) < 2000000; decide),(by show (0 : Int) < 1; decide),by simp⟩
   rw [p6]
   exact bd21 (by show -2000000 < r2 - 1000000; omega) (by show r2 - 1000000 < 2000000; omega)
  ·refine ⟨_,rfl,b,_,n + 1,rfl,B1,by omega,by decide,by decide +kernel,fun r2 H2 r20 r21 B2 S2=>⟨_,_,rfl,rfl,?_⟩⟩
   refine ⟨_,rfl,b,_,n + 1 + 1,rfl,B2,by omega,by decide,by decide +kernel,fun r3 H3 r30 r31 B3 S3=>⟨_,_,rfl,rfl,?_⟩⟩
   have h0 : (1 + r3 : Int) ≠ 0:=by omega
   have b3 : Bd 21 (1 + r3):=bd21 (by omega) (by omega)
   refine ⟨_,_,rfl,h0,b3.log (by decide),fun a H4 fa S4 e=>?_⟩
   exact k a H4 (nrm (r2 - 10) (1 + r3)) (B3.same S4) (((S1.trans S2).trans S3).trans (SameX.of S4)) e (nrm_good (bd21 (by omega) (by omega)) b3 h0)
def spRow (K : PySem.W.Frag) : Sp:=fun vs H Q _=>∃ (b : Addr) (c n : Nat),vs = [.ref b,.int c] /\ BagAt H b n /\ n <= 100000 /\ c <= 1000 ∧
 ∀ (a : Addr) (H' : Hp) (rs : List Rat),BagAt H' b (n + 3 * c) -> SameX b H H' -> H a = none -> RowAt K H' a rs -> (∃ ys,H' a = some (.tup ys)) -> rs.length = c -> (∀ r ∈ rs,Good 21 r) -> Q (.ref a) H'
theorem scRow : FnScope ["_law_bag_here","_law_count"] ["_law_bag_here","_law_count"] (defScope sRow):=⟨rfl,rfl,rfl,by decide +kernel,rfl,by decide +kernel,by decide +kernel⟩
theorem size1000 {n : Nat} (h : n <= 1000) : n <= sizeLine:=Nat.le_trans h (by decide)
theorem okRow (D : Def K mg "_law_row" sRow ["_law_bag_here","_law_count"]) (T : Blt mg) (hLawSmall : Has P w K mg base 3 "_law_small" ["_law_bag_here"] (spSmall K)) : Has P w K mg base 4 "_law_row" ["_law_bag_here","_law_count"] (spRow K):=by
 refine D.has fun f fd F=>F.ok scRow (fun vs H Q E h=>?_) (fun cdv A outer s H vs Q E hr h=>?_)
 ·obtain ⟨b,c,n,rfl,_⟩:=h
  rfl
 ·obtain ⟨b,c,n,rfl,hB,hn,hc,k⟩:=h
  have sc:=scRow
  have nd : (["_law_world","_law_bag_here"] : List Str).Nodup:=by decide +kernel
  refine ⟨_,(pss_one (ps_ret (pe_callTy call_tuple_of rfl T.tuple PyProof.Rows.boot_tuple (pa_cons (pe_comp (N:=["_law_world","_law_bag_here"]) (k:=1) (fv:=[0]) rfl (pi_range1 rfl T.range (pa_cons (pv 1) pa_nil))
   (fun _ _ _ _ _=>pg_name (i:=0) nd rfl (Or.inl rfl)) (fun _ _ _ _ _=>pts_nil) (fun _ _ _ _ _=>pe_use hLawSmall (hr.mono (by decide)) rfl (pa_cons (pv 1) pa_nil)) weak_name) pa_nil)))),?_⟩
  have hBl:=hB.lst
  refine ⟨_,rfl,(c : Int),rfl,(by omega),(by omega),fun d hd=>?_⟩
  have hdb : d ≠ b:=by
   obtain ⟨ys,e⟩:=hBl
   exact (ne_of_none e hd).symm
  have et : (c : Int).toNat = c:=by omega
  rw [et]
  refine ⟨c,fun i ys H2=>∃ rs,Rs K H2 rs ys /\ rs.length = i /\ (∀ r ∈ rs,Good 21 r) /\ BagAt H2 b (n + 3 * i) /\ SameX b H H2,size1000 hc,?_,?_,?_⟩
  ·exact ⟨[],.nil,rfl,(fun _ h=>nomatch h),hB.upd (Ne.symm hdb),SameX.of (Same.new hd)⟩
  ·rintro i ys H2 hi ⟨rs,h1,h2,h3,h4,h5⟩ hd2
   refine ⟨hi,?_⟩
   rintro x H3 ⟨rfl,rfl⟩
   refine nameyes ?_
   refine ⟨_,rfl,b,n + 3 * i,rfl,h4,by omega,fun a H4 r B4 S4 e4 g4=>?_⟩
   have E4:=Ext.bag S4 h4
   have hd4 : H4 d = some (.lst ys):=S4 _ _ hd2 hdb
   have E5 : Ext H4 (upd H4 d (.lst (ys ++ [.ref a]))):=Ext.upd hd4
   refine ⟨hd4,rs ++ [r],(h1.ext (E4.trans E5)).snoc ⟨a,rfl,E5.sq (SqT.of e4)⟩,by rw [List.length_append,h2]; rfl,fun r' hr'=>?_,(B4.upd (Ne.symm hdb)).mono (by omega),?_⟩
   ·rcases List.mem_append.mp hr' with z | z
    ·exact h3 r' z
    ·rw [List.mem_singleton.mp z]; exact g4
   ·exact fun q o e ne=>by
     have e2:=S4 q o (h5 q o e ne) ne
     rw [upd_ne (ne_of_none e hd)]
     exact e2
  ·rintro ys H2 ⟨rs,h1,h2,h3,h4,h5⟩ hd2
   refine ⟨Nat.le_refl _,d,ys,rfl,.inl ⟨SqL.of hd2,fun l hl=>?_⟩⟩
   have E:=Ext.new (o:=.tup ys) hl
   refine k l _ rs (h4.same (Same.new hl)) (h5.trans (SameX.of (Same.new hl))) ?_ ⟨ys,SqT.of upd_same,h1.ext E⟩ ⟨ys,upd_same⟩ h2 h3
   cases q : H l with
   | none=>rfl
   | some o =>
    by_cases z : l = b
    ·subst z
     obtain ⟨ys',e⟩:=h4.lst
     rw [e] at hl
     cases hl
    ·rw [h5 l o q z] at hl
     cases hl
end
end Sb
namespace Sb
open PySem L2
section
variable {P : Program} {w : World} {K : PySem.W.Frag} {mg : Str -> Option Value} {base : Heap}
def spRowIs (K : PySem.W.Frag) : Sp:=fun vs H Q _=>∃ (a b : Addr) (xs ys : List V) (fs ds : List Rat) (n : Nat),vs = [.ref a,.ref b] /\ SqT K H a xs /\ Rs K H fs xs /\ (SqL K H b ys \/ SqT K H b ys) /\ Rs K H ds ys /\ fs.length = ds.length /\ fs.length <= 1000 /\ n <= 4000 ∧
 (∀ (i : Nat) (f d : Rat),fs[i]? = some f -> ds[i]? = some d -> Good n f /\ Bd n d.1 /\ Bd n d.2 /\ f.1 * d.2 = d.1 * f.2) /\ Q (.bl true) H
theorem scRowIs : FnScope ["_law_found","_law_due","_law_k"] ["_law_found","_law_due"] (defScope sRowIs):=⟨rfl,rfl,rfl,by decide +kernel,rfl,by decide +kernel,by decide +kernel⟩
theorem okRowIs (D : Def K mg "_law_row_is" sRowIs ["_law_found","_law_due"]) (T : Blt mg) (hLawIs : Has P w K mg base 2 "_law_is" ["_law_found","_law_top","_law_bottom"] (spIs K)) : Has P w K mg base 3 "_law_row_is" ["_law_found","_law_due"] (spRowIs K):=by
 refine D.has fun f fd F=>F.ok scRowIs (fun vs H Q E h=>?_) (fun cdv A outer s H vs Q E hr h=>?_)
 ·obtain ⟨a,b,xs,ys,fs,ds,n,rfl,_⟩:=h
  rfl
 ·obtain ⟨a,b,xs,ys,fs,ds,n,rfl,hA,hF,hB,hD,hl,hl2,hn,good,q⟩:=h
  have sc:=scRowIs
  refine ⟨_,(pss_cons (ps_if (PW.pt (pw_or (pt_not (pt_val (pe_callB call_isinstT rfl T.isinstance PyProof.Rows.boot_isinstance (pa_cons (pv 0) (pa_cons (pe_ty T.tuple PyProof.Rows.boot_tuple) pa_nil))))) (pw_or1 (pt_cmpR op_ne (pe_callB call_len_seq rfl T.len boot_len (pa_cons (pv 0) pa_nil)) (pe_callB call_len_seq rfl T.len boot_len (pa_cons (pv 1) pa_nil)) (nomark _)))))
    (pss_one (ps_ret pe_bl))
    pss_nil)
   (pss_cons (ps_for PassesOwn.never rfl (pi_range1 rfl T.range (pa_cons (pe_callB call_len_seq rfl T.len boot_len (pa_cons (pv 1) pa_nil)) pa_nil)) (pg_name (i:=2) sc.nd rfl (Or.inl rfl))
    (pss_one (ps_if (pt_not (pt_val (pe_use hLawIs (hr.mono (by decide)) rfl (pa_cons (pe_ix ix_tup (pv 0) (pv 2) (fun _ _=>rfl)) (pa_cons (pe_ix ix_p0 (pe_ix ix_any (pv 1) (pv 2) (fun _ _=>rfl)) pe_int (fun _ _=>rfl)) (pa_cons (pe_ix ix_p1 (pe_ix ix_any (pv 1) (pv 2) (fun _ _=>rfl)) pe_int (fun _ _=>rfl)) pa_nil))))))
     (pss_one (ps_ret pe_bl))
     pss_nil)))
   (pss_one (ps_ret pe_bl)))),?_⟩
  have lf:=hF.len
  have ld:=hD.len
  refine ⟨_,rfl,_,_,_,_,rfl,hA,kit_same,_,rfl,iteF ?_⟩
  refine ⟨_,rfl,a,_,rfl,.inr hA,_,rfl,b,ys,rfl,hB,rfl,_,rfl,iteNS (by rw [← lf,← ld,hl]) ?_⟩
  refine ⟨_,rfl,b,ys,rfl,hB,(ys.length : Int),rfl,(by omega),(by omega),?_⟩
  have et : (ys.length : Int).toNat = ys.length:=by omega
  rw [et]
  refine for_range (lo:=0) (n:=ys.length) (fun i σ H'=>H' = H /\ ∃ v : Option V,σ = [some (.ref a),some (.ref b),v]) ⟨rfl,none,rfl⟩ ?_ ?_
  ·rintro i σ H' hi ⟨rfl,v,rfl⟩
   have e0 : (0 + (i : Int)) = ((i : Nat) : Int):=by omega
   rw [e0]
   have hif : i < fs.length:=by omega
   have hid : i < ds.length:=by omega
   obtain ⟨x0,ex,ix⟩:=hF.at (i:=i) (r:=fs[i]) (by simp [hif])
   obtain ⟨y0,ey,iy⟩:=hD.at (i:=i) (r:=ds[i]) (by simp [hid])
   obtain ⟨a1,rfl,sq1⟩:=ix
   obtain ⟨b1,rfl,sq2⟩:=iy
   obtain ⟨g,bd1,bd2,cr⟩:=good i fs[i] ds[i] (by simp [hif]) (by simp [hid])
   refine ⟨_,rfl,_,rfl,a,_,_,_,rfl,rfl,hA,atI_nat ex,_,rfl,_,rfl,b,_,_,_,rfl,rfl,hB,atI_nat ey,b1,_,_,rfl,rfl,sq2,_,rfl,_,rfl,b,_,_,_,rfl,rfl,hB,atI_nat ey,b1,_,_,rfl,rfl,sq2,a1,fs[i],ds[i].1,ds[i].2,rfl,sq1,g.pos,g.cop,cr,
    g.b1.mulOk bd2 (by omega) (by omega),bd1.mulOk g.b2 (by omega) (by omega),_,rfl,iteF ?_⟩
   exact ⟨rfl,_,rfl⟩
  ·rintro σ H' ⟨rfl,v,rfl⟩
   exact q
end
end Sb
namespace Sb
open PySem L2
section
variable {K : PySem.W.Frag} {H : Hp} {Q : VK} {a b : Addr} {rs ss : List Rat}
theorem RowAt.same {H' : Hp} (h : RowAt K H a rs) (S : Same H H') : RowAt K H' a rs:=h.ext (Ext.same S)
end
theorem bdS {n : Nat} {x : Int} (h : x.natAbs < 2 ^ n) : Bd n x:=h
end Sb
namespace Sb
open PySem L2
end Sb
namespace Sb
open PySem L2
section
variable {P : Program} {w : World} {K : PySem.W.Frag} {mg : Str -> Option Value} {base : Heap}
theorem scIsWhole : FnScope ["value"] ["value"] (defScope sIsWhole):=⟨rfl,rfl,rfl,by decide +kernel,rfl,by decide +kernel,by decide +kernel⟩
theorem okIsWhole (D : Def K mg "is_whole" sIsWhole ["value"]) (T : Blt mg) : Has P w K mg base 1 "is_whole" ["value"] spWhole:=by
 refine D.has fun f fd F=>F.ok scIsWhole (fun vs H Q E h=>?_) (fun cdv A outer s H vs Q E hr h=>?_)
 ·obtain ⟨i,rfl,_⟩:=h
  rfl
 ·obtain ⟨i,rfl,q⟩:=h
  have sc:=scIsWhole
  refine ⟨_,(pss_one (ps_ret (pe_and (pe_callB call_isinst rfl T.isinstance PyProof.Rows.boot_isinstance (pa_cons (pv 0) (pa_cons (pe_ty T.int PyProof.Rows.boot_int) pa_nil))) (pe_one (pe_not (pe_callB call_isinst rfl T.isinstance PyProof.Rows.boot_isinstance (pa_cons (pv 0) (pa_cons (pe_ty T.bool PyProof.Rows.boot_bool) pa_nil)))))))),?_⟩
  refine ⟨_,rfl,_,_,_,_,rfl,TyOf.int i,kit_same,_,rfl,iteT ?_⟩
  exact ⟨_,rfl,_,_,_,_,rfl,TyOf.int i,kit_int_bool,_,rfl,q⟩
end
end Sb
namespace Sb
open PySem L2
section
variable {P : Program} {w : World} {K : PySem.W.Frag} {mg : Str -> Option Value} {base : Heap}
theorem scRatioP : FnScope ["top","bottom"] ["top","bottom"] (defScope sRatioP):=⟨rfl,rfl,rfl,by decide +kernel,rfl,by decide +kernel,by decide +kernel⟩
theorem okRatio0 (D : Def K mg "ratio" sRatioP ["top","bottom"]) (hIsWhole : Has P w K mg base 1 "is_whole" ["value"] spWhole) (hLowest : Has P w K mg base 2 "lowest" ["top","bottom"] spLowest) : Has P w K mg base 3 "ratio" ["top","bottom"] spLowest:=by
 refine D.has fun f fd F=>F.ok scRatioP (fun vs H Q E h=>?_) (fun cdv A outer s H vs Q E hr h=>?_)
 ·obtain ⟨p,q,rfl,_⟩:=h
  rfl
 ·obtain ⟨p,q,rfl,hq,hlog,k⟩:=h
  have sc:=scRatioP
  refine ⟨_,(pss_cons (ps_if (PW.pt (pw_or (pt_not (pt_val (pe_use hIsWhole (hr.mono (by decide)) rfl (pa_cons (pv 0) pa_nil)))) (pw_or1 (pt_not (pt_val (pe_use hIsWhole (hr.mono (by decide)) rfl (pa_cons (pv 1) pa_nil)))))))
    (pss_one ps_never)
    pss_nil)
   (pss_cons (ps_if (pt_cmpR op_eq (pv 1) pe_int (nomark _))
    (pss_one ps_never)
    pss_nil)
   (pss_one (ps_ret (pe_use hLowest (hr.mono (by decide)) rfl (pa_cons (pv 0) (pa_cons (pv 1) pa_nil))))))),?_⟩
  refine ⟨_,rfl,p,rfl,_,rfl,iteF ⟨_,rfl,q,rfl,_,rfl,iteF ?_⟩⟩
  refine ⟨_,rfl,rfl,_,rfl,iteD0 (fun z=>hq (V.int.inj z)) ?_⟩
  exact ⟨_,rfl,_,rfl,p,q,rfl,hq,hlog,k⟩
end
end Sb
namespace Sb
open PySem L2
section
variable {P : Program} {w : World} {K : PySem.W.Frag} {mg : Str -> Option Value} {base : Heap}
def spIsIn (K : PySem.W.Frag) : Sp:=fun vs H Q _=>∃ (i c : Nat) (o : Option (Nat -> Bool)) (v : V),vs = [.int i,v] /\ EvAt K H c o v /\ i < c /\ Q (.bl (inE o i)) H
theorem in_ev {H : Hp} {c i : Nat} {o : Option (Nat -> Bool)} {v : V} {Q : VK} (h : EvAt K H c o v) (hi : i < c) (q : Q (.bl (inE o i)) H) :
  if decide (v = V.non) = true then Q (.bl true) H else rIn K false (.int i) v H Q:=by
 cases o with
 | none =>
  have e : v = .non:=h
  exact iteD1 e q
 | some p =>
  obtain ⟨a,rfl,h⟩:=h
  refine iteD0 (by intro z; cases z) ⟨a,_,rfl,.inr h,rfl,flat_ints _,?_⟩
  show Q (.bl (inV (.int (i : Int)) ((evI c p).map V.int))) H
  rw [inV_ints]
  have e : decide ((i : Int) ∈ evI c p) = p i:=by
   rw [Bool.eq_iff_iff,decide_eq_true_eq,mem_evI]
   simp [hi]
  rw [e]
  exact q
theorem scIsIn : FnScope ["world","event"] ["world","event"] (defScope sIsIn):=⟨rfl,rfl,rfl,by decide +kernel,rfl,by decide +kernel,by decide +kernel⟩
theorem okIsIn (D : Def K mg "is_in" sIsIn ["world","event"]) : Has P w K mg base 1 "is_in" ["world","event"] (spIsIn K):=by
 refine D.has fun f fd F=>F.ok scIsIn (fun vs H Q E h=>?_) (fun cdv A outer s H vs Q E hr h=>?_)
 ·obtain ⟨i,c,o,v,rfl,_⟩:=h
  rfl
 ·obtain ⟨i,c,o,v,rfl,hv,hi,q⟩:=h
  have sc:=scIsIn
  refine ⟨_,(pss_one (ps_ret (pe_or (pe_cmpR op_isN (pv 1) pe_non (nomark _)) (pe_one (pe_cmpR op_in_seq (pv 0) (pv 1) rfl))))),?_⟩
  refine ⟨_,rfl,rfl,_,rfl,?_⟩
  have:=in_ev (Q:=Q) hv hi q
  refine iteB (fun e=>?_) (fun e=>?_)
  ·rw [e] at this
   rw [if_pos rfl] at this
   exact this
  ·rw [e] at this
   rw [if_neg Bool.false_ne_true] at this
   exact ⟨_,rfl,_,rfl,this⟩
theorem scIn : FnScope ["_law_event_here","_law_world"] ["_law_event_here","_law_world"] (defScope sIn):=⟨rfl,rfl,rfl,by decide +kernel,rfl,by decide +kernel,by decide +kernel⟩
def spIn (K : PySem.W.Frag) : Sp:=fun vs H Q _=>∃ (i c : Nat) (o : Option (Nat -> Bool)) (v : V),vs = [v,.int i] /\ EvAt K H c o v /\ i < c /\ Q (.bl (inE o i)) H
theorem okIn (D : Def K mg "_law_in" sIn ["_law_event_here","_law_world"]) : Has P w K mg base 1 "_law_in" ["_law_event_here","_law_world"] (spIn K):=by
 refine D.has fun f fd F=>F.ok scIn (fun vs H Q E h=>?_) (fun cdv A outer s H vs Q E hr h=>?_)
 ·obtain ⟨i,c,o,v,rfl,_⟩:=h
  rfl
 ·obtain ⟨i,c,o,v,rfl,hv,hi,q⟩:=h
  have sc:=scIn
  refine ⟨_,(pss_one (ps_ret (pe_or (pe_cmpR op_isN (pv 0) pe_non (nomark _)) (pe_one (pe_cmpR op_in_seq (pv 1) (pv 0) rfl))))),?_⟩
  refine ⟨_,rfl,rfl,_,rfl,?_⟩
  have:=in_ev (Q:=Q) hv hi q
  refine iteB (fun e=>?_) (fun e=>?_)
  ·rw [e] at this
   rw [if_pos rfl] at this
   exact this
  ·rw [e] at this
   rw [if_neg Bool.false_ne_true] at this
   exact ⟨_,rfl,_,rfl,this⟩
def spCut (K : PySem.W.Frag) : Sp:=fun vs H Q _=>∃ (a : Addr) (v : V) (rs : List Rat) (o : Option (Nat -> Bool)),vs = [.ref a,v] /\ RowAt K H a rs /\ EvAt K H rs.length o v /\ rs.length <= 1000 ∧
 ∀ p H',Same H H' -> RowAt K H' p (cutR o rs) -> Q (.ref p) H'
theorem scCut : FnScope ["row","event"] ["row","event"] (defScope sCut):=⟨rfl,rfl,rfl,by decide +kernel,rfl,by decide +kernel,by decide +kernel⟩
theorem okCut (D : Def K mg "cut" sCut ["row","event"]) (T : Blt mg) (hIsIn : Has P w K mg base 1 "is_in" ["world","event"] (spIsIn K)) (hNOUGHT : Con K mg "NOUGHT" (0,1)) : Has P w K mg base 2 "cut" ["row","event"] (spCut K):=by
 refine D.has fun f fd F=>F.ok scCut (fun vs H Q E h=>?_) (fun cdv A outer s H vs Q E hr h=>?_)
 ·obtain ⟨a,v,rs,o,rfl,_⟩:=h
  rfl
 ·obtain ⟨a,v,rs,o,rfl,⟨xs,hA,hRs⟩,hv,hl,k⟩:=h
  obtain ⟨c_NOUGHT,m_NOUGHT,s_NOUGHT⟩:=hNOUGHT
  have sc:=scCut
  have nd1 : (["world","worth","event"] : List Str).Nodup:=by decide +kernel
  refine ⟨_,(pss_one (ps_ret (pe_callTy call_tuple_of rfl T.tuple PyProof.Rows.boot_tuple (pa_cons (pe_comp (N:=["world","worth","event"]) (k:=2) (fv:=[1]) rfl (pi_enum rfl T.enumerate (pa_cons (pv 0) pa_nil))
   (fun _ _ _ _ _=>pg_tup (n:=2) rfl (pgs_cons (pg_name (i:=0) nd1 rfl (Or.inl rfl)) (pgs_cons (pg_name (i:=1) nd1 rfl (Or.inl rfl)) pgs_nil))) (fun _ _ _ _ _=>pts_nil) (fun _ _ _ _ _=>(pe_ifExp (pt_val (pe_use hIsIn (hr.mono (by decide)) rfl (pa_cons (pv 0) (pa_cons (pv 2) pa_nil)))) (pv 1) (pe_glob (v:=.ref c_NOUGHT) rfl m_NOUGHT rfl))) weak_pair) pa_nil)))),?_⟩
  refine ⟨_,rfl,a,rfl,⟨_,hA⟩,fun d hd=>?_⟩
  have lx:=hRs.len
  refine ⟨rs.length,fun i ys H2=>Same H H2 /\ Rs K H2 ((cutR o rs).take i) ys,size1000 hl,⟨Same.new hd,.nil⟩,?_,?_⟩
  ·rintro i ys H2 hi ⟨S2,R2⟩ hd2
   refine ⟨⟨xs,sameT S2 hA,by omega⟩,?_⟩
   rintro x H3 ⟨p,x0,rfl,hp,rfl,fx⟩
   obtain ⟨r,er,ix⟩:=hRs.back (fx xs (sameT S2 hA))
   have S3 : Same H2 (upd H2 p (.tup [.int (i : Int),x0])):=Same.new hp
   have ix3:=ix.ext ((Ext.same S2).trans (Ext.same S3))
   refine pairyes (SqT.of upd_same) ?_
   refine ⟨_,rfl,_,rfl,i,rs.length,o,v,rfl,(hv.same S2).same S3,hi,_,rfl,?_⟩
   have hpd : d ≠ p:=ne_of_none hd2 hp
   have hd3 : upd H2 p (.tup [.int (i : Int),x0]) d = some (.lst ys):=S3 _ _ hd2
   have fin : ∀ y,IsR K (upd H2 p (.tup [.int (i : Int),x0])) (if inE o i then r else (0,1)) y →
     upd H2 p (.tup [.int (i : Int),x0]) d = some (.lst ys) /\ Same H (upd (upd H2 p (.tup [.int (i : Int),x0])) d (.lst (ys ++ [y]))) /\ Rs K (upd (upd H2 p (.tup [.int (i : Int),x0])) d (.lst (ys ++ [y]))) ((cutR o rs).take (i + 1)) (ys ++ [y]):=fun y hy=>by
    refine ⟨hd3,fun q o' e=>?_,?_⟩
    ·rw [upd_ne (ne_of_none e hd)]
     exact S3 _ _ (S2 _ _ e)
    ·rw [take_snoc (cutR_at er)]
     have E5 : Ext (upd H2 p (.tup [.int (i : Int),x0])) (upd (upd H2 p (.tup [.int (i : Int),x0])) d (.lst (ys ++ [y]))):=Ext.upd hd3
     exact (R2.ext ((Ext.same S3).trans E5)).snoc (hy.ext E5)
   refine iteB (fun e=>?_) (fun e=>?_)
   ·exact ⟨_,rfl,fin _ (by rw [e,if_pos rfl]; exact ix3)⟩
   ·exact fin _ (by rw [e,if_neg Bool.false_ne_true]; exact ⟨_,rfl,s_NOUGHT _⟩)
  ·rintro ys H2 ⟨S2,R2⟩ hd2
   refine ⟨⟨xs,sameT S2 hA,by omega⟩,d,ys,rfl,.inl ⟨SqL.of hd2,fun l hl'=>?_⟩⟩
   rw [List.take_of_length_le (by rw [cutR_len]; omega)] at R2
   exact k l _ (S2.trans (Same.new hl')) ⟨ys,SqT.of upd_same,R2.ext (Ext.new hl')⟩
def spLCut (K : PySem.W.Frag) : Sp:=fun vs H Q _=>∃ (a : Addr) (v : V) (xs : List V) (rs : List Rat) (o : Option (Nat -> Bool)),vs = [.ref a,v] /\ (SqL K H a xs \/ SqT K H a xs) /\ Rs K H rs xs /\ EvAt K H rs.length o v /\ rs.length <= 1000 ∧
 ∀ p H',Same H H' -> RowAt K H' p (cutR o rs) -> Q (.ref p) H'
theorem scLCut : FnScope ["_law_row_here","_law_event_here"] ["_law_row_here","_law_event_here"] (defScope sLCut):=⟨rfl,rfl,rfl,by decide +kernel,rfl,by decide +kernel,by decide +kernel⟩
theorem okLCut (D : Def K mg "_law_cut" sLCut ["_law_row_here","_law_event_here"]) (T : Blt mg) (hLawIn : Has P w K mg base 1 "_law_in" ["_law_event_here","_law_world"] (spIn K)) : Has P w K mg base 2 "_law_cut" ["_law_row_here","_law_event_here"] (spLCut K):=by
 refine D.has fun f fd F=>F.ok scLCut (fun vs H Q E h=>?_) (fun cdv A outer s H vs Q E hr h=>?_)
 ·obtain ⟨a,v,xs,rs,o,rfl,_⟩:=h
  rfl
 ·obtain ⟨a,v,xs,rs,o,rfl,hA,hRs,hv,hl,k⟩:=h
  have sc:=scLCut
  have nd1 : (["_law_k","_law_row_here","_law_event_here"] : List Str).Nodup:=by decide +kernel
  refine ⟨_,(pss_one (ps_ret (pe_callTy call_tuple_of rfl T.tuple PyProof.Rows.boot_tuple (pa_cons (pe_comp (N:=["_law_k","_law_row_here","_law_event_here"]) (k:=1) (fv:=[0,1]) rfl (pi_range1 rfl T.range (pa_cons (pe_callB call_len_seq rfl T.len boot_len (pa_cons (pv 0) pa_nil)) pa_nil))
   (fun _ _ _ _ _=>pg_name (i:=0) nd1 rfl (Or.inl rfl)) (fun _ _ _ _ _=>pts_nil) (fun _ _ _ _ _=>(pe_ifExp (pt_val (pe_use hLawIn (hr.mono (by decide)) rfl (pa_cons (pv 2) (pa_cons (pv 0) pa_nil)))) (pe_ix (ix_aK (K:=K)) (pv 1) (pv 0) (fun _ _=>rfl)) (pe_tup (pa_cons pe_int (pa_cons pe_int pa_nil))))) weak_name) pa_nil)))),?_⟩
  have lx:=hRs.len
  refine ⟨_,rfl,a,xs,rfl,hA,(xs.length : Int),rfl,(by omega),(by omega),fun d hd=>?_⟩
  have et : (xs.length : Int).toNat = xs.length:=by omega
  rw [et]
  refine ⟨xs.length,fun i ys H2=>Same H H2 /\ Rs K H2 ((cutR o rs).take i) ys,size1000 (by omega),⟨Same.new hd,.nil⟩,?_,?_⟩
  ·rintro i ys H2 hi ⟨S2,R2⟩ hd2
   refine ⟨hi,?_⟩
   rintro x H3 ⟨rfl,rfl⟩
   have e0 : (0 + (i : Int)) = ((i : Nat) : Int):=by omega
   rw [e0]
   refine nameyes ?_
   have hir : i < rs.length:=by omega
   have er : rs[i]? = some rs[i]:=by simp [hir]
   obtain ⟨x0,ex,ix⟩:=hRs.at er
   have hA2 : SqL K H3 a xs \/ SqT K H3 a xs:=hA.elim (fun z=>.inl (sameL S2 z)) fun z=>.inr (sameT S2 z)
   refine ⟨_,rfl,_,rfl,i,rs.length,o,v,rfl,hv.same S2,hir,_,rfl,?_⟩
   refine iteB (fun e=>?_) (fun e=>?_)
   ·refine ⟨_,rfl,_,rfl,a,xs,_,_,rfl,rfl,hA2,atI_nat ex,hd2,fun q o' e=>?_,?_⟩
    ·rw [upd_ne (ne_of_none e hd)]
     exact S2 _ _ e
    ·rw [take_snoc (cutR_at er),e,if_pos rfl]
     exact (R2.ext (Ext.upd hd2)).snoc ((ix.ext (Ext.same S2)).ext (Ext.upd hd2))
   ·refine ⟨(by show 2 <= sizeLine; decide),fun p hp=>?_⟩
    have S3 : Same H3 (upd H3 p (.tup [.int 0,.int 1])):=Same.new hp
    have hd3:=S3 _ _ hd2
    refine ⟨hd3,fun q o' e=>?_,?_⟩
    ·rw [upd_ne (ne_of_none e hd)]
     exact S3 _ _ (S2 _ _ e)
    ·rw [take_snoc (cutR_at er),e,if_neg Bool.false_ne_true]
     exact (R2.ext ((Ext.same S3).trans (Ext.upd hd3))).snoc ⟨p,rfl,(Ext.upd hd3).sq (SqT.of upd_same)⟩
  ·rintro ys H2 ⟨S2,R2⟩ hd2
   refine ⟨Nat.le_refl _,d,ys,rfl,.inl ⟨SqL.of hd2,fun l hl'=>?_⟩⟩
   rw [List.take_of_length_le (by rw [cutR_len]; omega)] at R2
   exact k l _ (S2.trans (Same.new hl')) ⟨ys,SqT.of upd_same,R2.ext (Ext.new hl')⟩
end
end Sb
namespace Sb
open PySem L2
section
variable {P : Program} {w : World} {K : PySem.W.Frag} {mg : Str -> Option Value} {base : Heap}
def spEvent (K : PySem.W.Frag) : Sp:=fun vs H Q _=>∃ (b : Addr) (c n : Nat),vs = [.ref b,.int c] /\ BagAt H b n /\ n <= 100000 /\ c <= 1000 ∧
 ∀ (v : V) (H' : Hp) (o : Option (Nat -> Bool)),BagAt H' b (n + c + 1) -> SameX b H H' -> EvAt K H' c o v -> Q v H'
theorem scEvent : FnScope ["_law_bag_here","_law_count","_law_event_here"] ["_law_bag_here","_law_count"] (defScope sEvent):=⟨rfl,rfl,rfl,by decide +kernel,rfl,by decide +kernel,by decide +kernel⟩
theorem okEvent (D : Def K mg "_law_event" sEvent ["_law_bag_here","_law_count"]) (T : Blt mg) (hLawTake : Has P w K mg base 1 "_law_take" ["_law_bag_here","_law_many"] spTake) : Has P w K mg base 2 "_law_event" ["_law_bag_here","_law_count"] (spEvent K):=by
 refine D.has fun f fd F=>F.ok scEvent (fun vs H Q E h=>?_) (fun cdv A outer s H vs Q E hr h=>?_)
 ·obtain ⟨b,c,n,rfl,_⟩:=h
  rfl
 ·obtain ⟨b,c,n,rfl,hB,hn,hl,k⟩:=h
  have sc:=scEvent
  have nd1 : (["_law_world","_law_bag_here"] : List Str).Nodup:=by decide +kernel
  refine ⟨_,(pss_cons (ps_set (i:=2) sc.nd rfl (Or.inl rfl) (pe_callTy call_tuple_of rfl T.tuple PyProof.Rows.boot_tuple (pa_cons (pe_comp (N:=["_law_world","_law_bag_here"]) (k:=1) (fv:=[0]) rfl (pi_range1 rfl T.range (pa_cons (pv 1) pa_nil))
   (fun _ _ _ _ _=>pg_name (i:=0) nd1 rfl (Or.inl rfl)) (fun _ _ _ _ _=>pts_one (pt_cmpR op_eq (pe_use hLawTake (hr.mono (by decide)) rfl (pa_cons (pv 1) (pa_cons pe_int pa_nil))) pe_int (nomark _))) (fun _ _ _ _ _=>(pv 0)) weak_name) pa_nil)))
   (pss_cons (ps_if (pt_cmpR op_eq (pe_use hLawTake (hr.mono (by decide)) rfl (pa_cons (pv 0) (pa_cons pe_int pa_nil))) pe_int (nomark _))
    (pss_one (ps_ret pe_non))
    pss_nil)
   (pss_one (ps_ret (pv 2))))),?_⟩
  have hBl:=hB.lst
  refine ⟨_,rfl,(c : Int),rfl,(by omega),(by omega),fun d hd=>?_⟩
  have hdb : d ≠ b:=by
   obtain ⟨ys,e⟩:=hBl
   exact (ne_of_none e hd).symm
  have et : (c : Int).toNat = c:=by omega
  rw [et]
  refine ⟨c,fun i ys H2=>∃ p : Nat -> Bool,ys = (evI i p).map V.int /\ BagAt H2 b (n + i) /\ SameX b H H2,size1000 hl,?_,?_,?_⟩
  ·exact ⟨fun _=>true,rfl,hB.upd (Ne.symm hdb),SameX.of (Same.new hd)⟩
  ·rintro i ys H2 hi ⟨p,rfl,B2,S2⟩ hd2
   refine ⟨hi,?_⟩
   rintro x H3 ⟨rfl,rfl⟩
   have e0 : (0 + (i : Int)) = ((i : Nat) : Int):=by omega
   rw [e0]
   refine nameyes0 ?_
   refine ⟨_,rfl,b,_,_,rfl,B2,by omega,by decide,by decide +kernel,fun r H4 r0 r1 B4 S4=>⟨rfl,_,rfl,?_⟩⟩
   have hd4 : H4 d = some (.lst ((evI i p).map V.int)):=S4 _ _ hd2 hdb
   have ep : evI i p = evI i (fun j=>if j = i then decide (r = 0) else p j):=evI_congr fun j hj=>by rw [if_neg (by omega)]
   refine ite2 (fun h=>?_) (fun h=>?_)
   ·have h0 : r = 0:=by
     have:=of_decide_eq_true h
     injection this
    refine ⟨_,rfl,hd4,fun j=>if j = i then decide (r = 0) else p j,?_,(B4.upd (Ne.symm hdb)).mono (by omega),?_⟩
    ·rw [evI_succ,if_pos (by simp [h0]),List.map_append,← ep]
     rfl
    ·exact fun q o e ne=>by
      have e2:=S4 q o (S2 q o e ne) ne
      rw [upd_ne (ne_of_none e hd)]
      exact e2
   ·have h0 : ¬ r = 0:=fun z=>h (decide_eq_true (by rw [z]))
    refine ⟨hd4,fun j=>if j = i then decide (r = 0) else p j,?_,B4.mono (by omega),S2.trans S4⟩
    rw [evI_succ,if_neg (by simp [h0]),List.append_nil,← ep]
  ·rintro ys H2 ⟨p,rfl,B2,S2⟩ hd2
   refine ⟨Nat.le_refl _,d,_,rfl,.inl ⟨SqL.of hd2,fun l hl'=>?_⟩⟩
   have S3 : Same H2 (upd H2 l (.tup ((evI c p).map V.int))):=Same.new hl'
   refine ⟨_,rfl,b,_,_,rfl,B2.same S3,by omega,by decide,by decide +kernel,fun r H4 r0 r1 B4 S4=>⟨rfl,_,rfl,?_⟩⟩
   refine ite2 (fun h=>?_) (fun h=>?_)
   ·exact k _ _ none B4 ((S2.trans (SameX.of S3)).trans S4) rfl
   ·exact ⟨_,rfl,k _ _ (some p) B4 ((S2.trans (SameX.of S3)).trans S4) ⟨l,rfl,(Ext.bag S4 (B2.same S3)).sq (SqT.of upd_same)⟩⟩
end
end Sb
namespace Sb
open PySem L2
section
variable {P : Program} {w : World} {K : PySem.W.Frag} {mg : Str -> Option Value} {base : Heap}
theorem scMinus : FnScope ["one","other"] ["one","other"] (defScope sMinus):=⟨rfl,rfl,rfl,by decide +kernel,rfl,by decide +kernel,by decide +kernel⟩
theorem okMinus (D : Def K mg "minus" sMinus ["one","other"]) (hLowest : Has P w K mg base 2 "lowest" ["top","bottom"] spLowest) : Has P w K mg base 3 "minus" ["one","other"] (spTwo K subR):=by
 refine D.has fun f fd F=>F.ok scMinus (fun vs H Q E h=>?_) (fun cdv A outer s H vs Q E hr h=>?_)
 ·obtain ⟨a,b,r,s,n,rfl,_⟩:=h
  rfl
 ·obtain ⟨a,b,r,s,n,rfl,hA,hB,gr,gs,hn,k⟩:=h
  have sc:=scMinus
  refine ⟨_,(pss_one (ps_ret (pe_use hLowest (hr.mono (by decide)) rfl (pa_cons (pe_op op_sub (pe_op op_mulB (pe_ix ix_p0 (pv 0) pe_int (fun _ _=>rfl)) (pe_ix ix_p1 (pv 1) pe_int (fun _ _=>rfl))) (pe_op op_mulB (pe_ix ix_p0 (pv 1) pe_int (fun _ _=>rfl)) (pe_ix ix_p1 (pv 0) pe_int (fun _ _=>rfl)))) (pa_cons (pe_op op_mulB (pe_ix ix_p1 (pv 0) pe_int (fun _ _=>rfl)) (pe_ix ix_p1 (pv 1) pe_int (fun _ _=>rfl))) pa_nil))))),?_⟩
  exact ⟨_,rfl,_,_,_,rfl,rfl,hA,_,rfl,_,_,_,rfl,rfl,hB,_,_,rfl,rfl,gr.b1.mulOk gs.b2 (by omega) (by omega),_,rfl,_,_,_,rfl,rfl,hB,_,rfl,_,_,_,rfl,rfl,hA,_,_,rfl,rfl,gs.b1.mulOk gr.b2 (by omega) (by omega),_,_,rfl,rfl,_,rfl,_,_,_,rfl,rfl,hA,_,rfl,_,_,_,rfl,rfl,hB,_,_,rfl,rfl,gr.b2.mulOk gs.b2 (by omega) (by omega),_,_,rfl,mul_ne gr.pos gs.pos,log_mul gr.b2 gs.b2 hn,k⟩
end
end Sb
namespace Sb
open PySem L2
section
variable {P : Program} {w : World} {K : PySem.W.Frag} {mg : Str -> Option Value} {base : Heap}
def spCommon (K : PySem.W.Frag) : Sp:=fun vs H Q _=>∃ (a : Addr) (xs : List V) (rs : List Rat) (n : Nat) (D : Int) (Ws : List Int),vs = [.ref a] /\ (SqL K H a xs \/ SqT K H a xs) /\ Rs K H rs xs /\ RepL n D Ws rs /\ n <= 4000 /\ Q (.int (lcmB rs)) H
theorem scCommon : FnScope ["several","least","one"] ["several"] (defScope sCommonBottom):=⟨rfl,rfl,rfl,by decide +kernel,rfl,by decide +kernel,by decide +kernel⟩
theorem okCommon (D : Def K mg "common_bottom" sCommonBottom ["several"]) (hCommonDivisor : Has P w K mg base 1 "common_divisor" ["one","other"] spGcd) : Has P w K mg base 2 "common_bottom" ["several"] (spCommon K):=by
 refine D.has fun f fd F=>F.ok scCommon (fun vs H Q E h=>?_) (fun cdv A outer s H vs Q E hr h=>?_)
 ·obtain ⟨a,xs,rs,n,D,Ws,rfl,_⟩:=h
  rfl
 ·obtain ⟨a,xs,rs,n,D,Ws,rfl,hA,hRs,rep,hn,q⟩:=h
  have sc:=scCommon
  refine ⟨_,(pss_cons (ps_set (i:=1) sc.nd rfl (Or.inl rfl) pe_int)
   (pss_cons (ps_for PassesOwn.never rfl (pi_seq (pv 0)) (pg_name (i:=2) sc.nd rfl (Or.inl rfl))
    (pss_one (ps_set (i:=1) sc.nd rfl (Or.inl rfl) (pe_op op_divB (pe_op op_mulB (pv 1) (pe_ix ix_p1 (pv 2) pe_int (fun _ _=>rfl))) (pe_use hCommonDivisor (hr.mono (by decide)) rfl (pa_cons (pv 1) (pa_cons (pe_ix ix_p1 (pv 2) pe_int (fun _ _=>rfl)) pa_nil)))))))
   (pss_one (ps_ret (pv 1))))),?_⟩
  have lx:=hRs.len
  refine ⟨_,rfl,for_seq (K:=K) (a:=a) (xs:=xs) (fun i σ H'=>H' = H /\ ∃ x : Option V,σ = [some (.ref a),some (.int (lcmB (rs.take i))),x]) hA ⟨rfl,none,rfl⟩ (fun i σ H' _ h=>by rw [h.1]; exact Same.refl _) ?_ ?_⟩
  ·rintro i x σ H1 hi ⟨rfl,x0,rfl⟩
   obtain ⟨r,er,b,rfl,hb⟩:=hRs.back hi
   have g:=rep.good r (List.mem_of_getElem? er)
   have lo:=(rep.take i).least
   have hg : ((Int.gcd (lcmB (rs.take i)) r.2 : Nat) : Int) ≠ 0:=by
    have:=Int.gcd_pos_of_ne_zero_left r.2 (show lcmB (rs.take i) ≠ 0 by have:=lo.pos; omega)
    omega
   have hgb : Bd n ((Int.gcd (lcmB (rs.take i)) r.2 : Nat) : Int):=g.b2.of_le' (le_of_dvd_pos g.pos (Int.gcd_dvd_right _ _))
   refine ⟨_,rfl,_,rfl,b,_,_,rfl,rfl,hb,_,_,rfl,rfl,lo.bD.mulOk g.b2 (by omega) (by omega),_,rfl,_,rfl,b,_,_,rfl,rfl,hb,_,_,rfl,_,_,rfl,rfl,⟨hg,hgb.log (by omega)⟩,?_⟩
   refine ⟨rfl,some (.ref b),?_⟩
   rw [lcmB_take er]
   rfl
  ·rintro σ H1 ⟨rfl,x0,rfl⟩
   rw [← lx,List.take_of_length_le (Nat.le_refl _)]
   exact ⟨_,rfl,q⟩
def spWholeBy (K : PySem.W.Frag) : Sp:=fun vs H Q _=>∃ (a : Addr) (D : Int) (xs : List V) (rs : List Rat) (n : Nat),vs = [.ref a,.int D] /\ (SqL K H a xs \/ SqT K H a xs) /\ Rs K H rs xs /\ (∀ r ∈ rs,Good n r) /\ Bd n D /\ 0 < D /\ n <= 4000 /\ rs.length <= 1000 ∧
 ∀ (d : Addr) (H' : Hp),H d = none -> Same H H' -> H' d = some (.lst ((wholeB rs D).map V.int)) -> Q (.ref d) H'
theorem scWholeBy : FnScope ["several","bottom"] ["several","bottom"] (defScope sWholeBy):=⟨rfl,rfl,rfl,by decide +kernel,rfl,by decide +kernel,by decide +kernel⟩
theorem okWholeBy (D : Def K mg "whole_by" sWholeBy ["several","bottom"]) : Has P w K mg base 1 "whole_by" ["several","bottom"] (spWholeBy K):=by
 refine D.has fun f fd F=>F.ok scWholeBy (fun vs H Q E h=>?_) (fun cdv A outer s H vs Q E hr h=>?_)
 ·obtain ⟨a,D,xs,rs,n,rfl,_⟩:=h
  rfl
 ·obtain ⟨a,D,xs,rs,n,rfl,hA,hRs,g,bD,hD,hn,hl,k⟩:=h
  have sc:=scWholeBy
  have nd1 : (["one","bottom"] : List Str).Nodup:=by decide +kernel
  refine ⟨_,(pss_one (ps_ret (pe_comp (N:=["one","bottom"]) (k:=1) (fv:=[1]) rfl (pi_any (pv 0))
   (fun _ _ _ _ _=>pg_name (i:=0) nd1 rfl (Or.inl rfl)) (fun _ _ _ _ _=>pts_nil) (fun _ _ _ _ _=>(pe_op op_mulB (pe_ix (ix_p0K (K:=K)) (pv 0) pe_int (fun _ _=>rfl)) (pe_op op_divB (pv 1) (pe_ix (ix_p1K (K:=K)) (pv 0) pe_int (fun _ _=>rfl))))) weak_name))),?_⟩
  have lx:=hRs.len
  refine ⟨_,rfl,a,xs,rfl,hA,fun J G d hd=>?_⟩
  refine ⟨xs.length,fun i ys H2=>Same H H2 /\ ys = ((wholeB rs D).take i).map V.int,size1000 (by omega),⟨Same.new hd,rfl⟩,?_,?_⟩
  ·rintro i ys H2 hi ⟨S2,rfl⟩ hd2
   refine ⟨G.go i H2 S2 hi,?_⟩
   intro x H3 hy
   obtain ⟨rfl,ex⟩:=G.yld i H2 x H3 S2 hy
   obtain ⟨r,er,ix⟩:=hRs.back ex
   obtain ⟨b,rfl,hb⟩:=ix.ext (Ext.same S2)
   have gr:=g r (List.mem_of_getElem? er)
   refine nameyes ?_
   refine ⟨_,rfl,b,_,_,rfl,rfl,hb,_,rfl,_,rfl,b,_,_,rfl,rfl,hb,_,_,rfl,rfl,⟨by have:=gr.pos; omega,gr.b2.log (by omega)⟩,_,_,rfl,rfl,gr.b1.mulOk (bD.of_le' (fdiv_le hD gr.pos)) (by omega) (by omega),hd2,fun q o' e=>?_,?_⟩
   ·rw [upd_ne (ne_of_none e hd)]
    exact S2 _ _ e
   ·have : (wholeB rs D)[i]? = some (r.1 * D.fdiv r.2):=by unfold wholeB; rw [List.getElem?_map,er]; rfl
    rw [take_snoc this,List.map_append]
    rfl
  ·rintro ys H2 ⟨S2,rfl⟩ hd2
   refine ⟨G.stop H2 S2,?_⟩
   rw [List.take_of_length_le (by unfold wholeB; rw [List.length_map]; omega)] at hd2
   exact k d H2 hd S2 hd2
def spMeanP (K : PySem.W.Frag) : Sp:=fun vs H Q _=>∃ (a b : Addr) (xs us : List V) (ws rs : List Rat) (n n' : Nat) (D D' : Int) (Ws Zs : List Int),vs = [.ref a,.ref b] /\ (SqL K H a xs \/ SqT K H a xs) /\ Rs K H ws xs /\ (SqL K H b us \/ SqT K H b us) /\ Rs K H rs us /\ ws.length = rs.length /\ rs.length <= 1000 /\ RepL n D Ws ws /\ RepL n' D' Zs rs /\ n + n' + 10 <= 4000 ∧
 ∀ c H',Same H H' -> SqT K H' c [.int (sumR (List.zipWith mulR' ws rs)).1,.int (sumR (List.zipWith mulR' ws rs)).2] -> Q (.ref c) H'
theorem scMeanP : FnScope ["weights","row","mine","theirs","products"] ["weights","row"] (defScope sMean):=⟨rfl,rfl,rfl,by decide +kernel,rfl,by decide +kernel,by decide +kernel⟩
theorem okMeanP (D : Def K mg "mean" sMean ["weights","row"]) (T : Blt mg) (hCommonBottom : Has P w K mg base 2 "common_bottom" ["several"] (spCommon K)) (hWholeBy : Has P w K mg base 1 "whole_by" ["several","bottom"] (spWholeBy K)) (hRatio : Has P w K mg base 3 "ratio" ["top","bottom"] spLowest) : Has P w K mg base 4 "mean" ["weights","row"] (spMeanP K):=by
 refine D.has fun f fd F=>F.ok scMeanP (fun vs H Q E h=>?_) (fun cdv A outer s H vs Q E hr h=>?_)
 ·obtain ⟨a,b,xs,us,ws,rs,n,n',D,D',Ws,Zs,rfl,_⟩:=h
  rfl
 ·obtain ⟨a,b,xs,us,ws,rs,n,n',D,D',Ws,Zs,rfl,hA,hWs,hB,hRs,hl,hl2,rw_,rr,hnn,k⟩:=h
  have hn : n <= 4000:=by omega
  have hn' : n' <= 4000:=by omega
  have sc:=scMeanP
  have nd1 : (["one","other"] : List Str).Nodup:=by decide +kernel
  refine ⟨_,(pss_cons (ps_set (i:=2) sc.nd rfl (Or.inl rfl) (pe_use hCommonBottom (hr.mono (by decide)) rfl (pa_cons (pv 0) pa_nil)))
   (pss_cons (ps_set (i:=3) sc.nd rfl (Or.inl rfl) (pe_use hCommonBottom (hr.mono (by decide)) rfl (pa_cons (pv 1) pa_nil)))
   (pss_cons (ps_setC (i:=4) (N:=["one","other"]) (k:=2) (fv:=[]) sc.nd rfl (Or.inl rfl) rfl (pi_zipL rfl T.zip (pa_cons (pe_use hWholeBy (hr.mono (by decide)) rfl (pa_cons (pv 0) (pa_cons (pv 2) pa_nil))) (pa_cons (pe_use hWholeBy (hr.mono (by decide)) rfl (pa_cons (pv 1) (pa_cons (pv 3) pa_nil))) pa_nil)))
   (fun _ _ _ _ _=>pg_tup (n:=2) rfl (pgs_cons (pg_name (i:=0) nd1 rfl (Or.inl rfl)) (pgs_cons (pg_name (i:=1) nd1 rfl (Or.inl rfl)) pgs_nil))) (fun _ _ _ _ _=>pts_nil) (fun _ _ _ _ _=>(pe_op op_mulB (pv 0) (pv 1))) weak_pair)
   (pss_one (ps_ret (pe_use hRatio (hr.mono (by decide)) rfl (pa_cons (pe_callB (call_sumL (K:=K) rfl) rfl T.sum PyProof.Rows.boot_sum (pa_cons (pv 4) pa_nil)) (pa_cons (pe_op op_mulB (pv 2) (pv 3)) pa_nil)))))))),?_⟩
  have lw:=rw_.least
  have lr:=rr.least
  refine ⟨_,rfl,a,xs,ws,n,D,Ws,rfl,hA,hWs,rw_,hn,?_⟩
  refine ⟨_,rfl,b,us,rs,n',D',Zs,rfl,hB,hRs,rr,hn',?_⟩
  refine ⟨_,rfl,_,rfl,a,_,xs,ws,n,rfl,hA,hWs,lw.good,lw.bD,lw.pos,hn,by omega,fun d1 H1 f1 S1 e1=>?_⟩
  have hB1 : SqL K H1 b us \/ SqT K H1 b us:=hB.elim (fun z=>.inl (sameL S1 z)) fun z=>.inr (sameT S1 z)
  refine ⟨_,rfl,_,rfl,b,_,us,rs,n',rfl,hB1,hRs.ext (Ext.same S1),lr.good,lr.bD,lr.pos,hn',hl2,fun d2 H2 f2 S2 e2=>?_⟩
  replace e1:=S2 _ _ e1
  refine ⟨d1,d2,rfl,⟨_,SqL.of e1⟩,⟨_,SqL.of e2⟩,fun d hd=>?_⟩
  have ll : (wholeB ws (lcmB ws)).length = rs.length:=by rw [lw.len,hl]
  have ll2 : (wholeB rs (lcmB rs)).length = rs.length:=lr.len
  generalize hX : wholeB ws (lcmB ws) = As at *
  generalize hY : wholeB rs (lcmB rs) = Bs at *
  have bA : ∀ z ∈ As,Bd n z:=fun z hz=>by
   obtain ⟨i,hi⟩:=List.getElem?_of_mem hz
   have hl' : i < As.length:=(List.getElem?_eq_some_iff.mp hi).1
   exact (lw.at_ i z (ws[i]'(by omega)) hi (by simp)).2.1
  have bB : ∀ z ∈ Bs,Bd n' z:=fun z hz=>by
   obtain ⟨i,hi⟩:=List.getElem?_of_mem hz
   have hl' : i < Bs.length:=(List.getElem?_eq_some_iff.mp hi).1
   exact (lr.at_ i z (rs[i]'(by omega)) hi (by simp)).2.1
  refine ⟨rs.length,fun i ys H3=>Same H2 H3 /\ ys = ((List.zipWith (· * ·) As Bs).take i).map V.int,size1000 hl2,⟨Same.new hd,rfl⟩,?_,?_⟩
  ·rintro i ys H3 hi ⟨S3,rfl⟩ hd3
   refine ⟨⟨_,_,SqL.of (S3 _ _ e1),SqL.of (S3 _ _ e2),by rw [List.length_map]; omega,by rw [List.length_map]; omega⟩,?_⟩
   rintro x H4 ⟨p,x0,y0,rfl,hp,rfl,fx,fy⟩
   have ea : As[i]? = some (As[i]'(by omega)):=by simp
   have eb : Bs[i]? = some (Bs[i]'(by omega)):=by simp
   have ex0 : x0 = V.int (As[i]'(by omega)):=by
    have:=fx _ (SqL.of (S3 _ _ e1))
    rw [List.getElem?_map,ea] at this
    exact (Option.some.inj this).symm
   have ey0 : y0 = V.int (Bs[i]'(by omega)):=by
    have:=fy _ (SqL.of (S3 _ _ e2))
    rw [List.getElem?_map,eb] at this
    exact (Option.some.inj this).symm
   subst ex0 ey0
   refine pairyes (SqT.of upd_same) ?_
   have hpd : d ≠ p:=ne_of_none hd3 hp
   refine ⟨_,rfl,_,rfl,_,_,rfl,rfl,(bA _ (List.getElem_mem _)).mulOk (bB _ (List.getElem_mem _)) (by omega) (by omega),by rw [upd_ne hpd]; exact hd3,fun q o e=>?_,?_⟩
   ·have:=S3 _ _ e
    rw [upd_ne (ne_of_none e hd),upd_ne (ne_of_none this hp)]
    exact this
   ·have : (List.zipWith (· * ·) As Bs)[i]? = some (As[i]'(by omega) * Bs[i]'(by omega)):=by rw [List.getElem?_zipWith,ea,eb]
    rw [take_snoc this,List.map_append]
    rfl
  ·rintro ys H3 ⟨S3,rfl⟩ hd3
   rw [List.take_of_length_le (by rw [List.length_zipWith]; omega)] at hd3
   refine ⟨⟨_,_,SqL.of (S3 _ _ e1),SqL.of (S3 _ _ e2),by rw [List.length_map]; omega⟩,?_⟩
   refine ⟨_,rfl,d,_,rfl,SqL.of hd3,_,rfl,_,rfl,_,_,rfl,rfl,lw.bD.mulOk lr.bD (by omega) (by omega),_,_,rfl,by have:=Int.mul_pos lw.pos lr.pos; omega,(lw.bD.mul lr.bD).log (by omega),fun c H4 f4 S4 e4=>?_⟩
   have me:=mean_eq lw lr hl
   have e5 : sumR (List.zipWith mulR' ws rs) = nrm (List.zipWith (· * ·) As Bs).sum (lcmB ws * lcmB rs):=me.symm
   refine k c H4 (((S1.trans S2).trans S3).trans S4) ?_
   rw [e5]
   exact SqT.of e4
end
end Sb
namespace Sb
open PySem L2
def ConI (mg : Str -> Option Value) (x : Str) (i : Int) : Prop:=∃ t,mg x = some (Value.int i t)
theorem conI_mk {K : PySem.W.Frag} {h : Heap} {mg : Str -> Option Value} {x : Str} {i : Int} {t : Tok} (X : K.In h) (G : h.Ns mainGlobals mg) (e : PySem.W.nsIn K mainGlobals x = some (some (.int i t))) : ConI mg x i:=⟨t,PySem.W.mg_of X G e⟩
structure Offr where
 row : List Rat
 ask : Option Rat
 bid : Option Rat
 ev : Option (Nat -> Bool)
def MayAt (K : PySem.W.Frag) (H : Hp) (o : Option Rat) (v : V) : Prop:=match o with
 | none=>v = .non
 | some r=>IsR K H r v
theorem MayAt.ext {K : PySem.W.Frag} {H H' : Hp} {o : Option Rat} {v : V} (h : MayAt K H o v) (e : Ext H H') : MayAt K H' o v:=by
 cases o with
 | none=>exact h
 | some r=>exact IsR.ext h e
def OffAt (K : PySem.W.Frag) (H : Hp) (c : Nat) (o : Offr) (v : V) : Prop:=∃ (p a : Addr) (va vb ve : V),v = .ref p /\ SqT K H p [.ref a,va,vb,ve] /\ RowAt K H a o.row /\ o.row.length = c /\ MayAt K H o.ask va /\ MayAt K H o.bid vb /\ EvAt K H c o.ev ve
theorem OffAt.ext {K : PySem.W.Frag} {H H' : Hp} {c : Nat} {o : Offr} {v : V} (h : OffAt K H c o v) (e : Ext H H') : OffAt K H' c o v:=by
 obtain ⟨p,a,va,vb,ve,h0,h1,h2,h3,h4,h5,h6⟩:=h
 exact ⟨p,a,va,vb,ve,h0,e.sq h1,h2.ext e,h3,h4.ext e,h5.ext e,h6.ext e⟩
theorem OffAt.same {K : PySem.W.Frag} {H H' : Hp} {c : Nat} {o : Offr} {v : V} (h : OffAt K H c o v) (e : Same H H') : OffAt K H' c o v:=h.ext (Ext.same e)
structure GoodO (n : Nat) (o : Offr) : Prop where
 row : ∀ r ∈ o.row,Good n r
 ask : ∀ r,o.ask = some r -> Good n r
 bid : ∀ r,o.bid = some r -> Good n r
def gainR (o : Offr) (buy : Bool) : List Rat:=cutR o.ev (o.row.map fun r=>if buy then subR r (o.ask.getD (0,1)) else subR (o.bid.getD (0,1)) r)
def priceO (o : Offr) (buy : Bool) : Option Rat:=if buy then o.ask else o.bid
def wordO (buy : Bool) : Str:=if buy then "buy" else "sell"
theorem GoodO.gain {n : Nat} {o : Offr} (g : GoodO n o) {buy : Bool} {pr : Rat} (h : priceO o buy = some pr) : ∀ r ∈ gainR o buy,Good (n + n + 1) r:=by
 refine cutR_all (fun r hr=>?_) (g01 _ (by omega))
 obtain ⟨x,hx,rfl⟩:=List.mem_map.mp hr
 cases buy with
 | true =>
  have h : o.ask = some pr:=h
  rw [if_pos rfl,h]
  exact subR_good (g.row x hx) (g.ask pr h)
 | false =>
  have h : o.bid = some pr:=h
  rw [if_neg Bool.false_ne_true,h]
  exact subR_good (g.bid pr h) (g.row x hx)
theorem gainR_len (o : Offr) (buy : Bool) : (gainR o buy).length = o.row.length:=by unfold gainR; rw [cutR_len,List.length_map]
end Sb
namespace Sb
open PySem L2
section
variable {P : Program} {w : World} {K : PySem.W.Frag} {mg : Str -> Option Value} {base : Heap}
def spGain (K : PySem.W.Frag) : Sp:=fun vs H Q _=>∃ (v : V) (c n : Nat) (o : Offr) (buy : Bool) (pr : Rat),vs = [v,.str (wordO buy)] /\ OffAt K H c o v /\ c <= 1000 /\ GoodO n o /\ n <= 4000 /\ priceO o buy = some pr ∧
 ∀ p H',Same H H' -> RowAt K H' p (gainR o buy) -> Q (.ref p) H'
theorem scGain : FnScope ["offer","word","worths"] ["offer","word"] (defScope sGain):=⟨rfl,rfl,rfl,by decide +kernel,rfl,by decide +kernel,by decide +kernel⟩
theorem okGain (D : Def K mg "gain" sGain ["offer","word"]) (T : Blt mg) (hMinus : Has P w K mg base 3 "minus" ["one","other"] (spTwo K subR)) (hCut : Has P w K mg base 2 "cut" ["row","event"] (spCut K)) (hROW : ConI mg "ROW" 0) (hASK : ConI mg "ASK" 1) (hBID : ConI mg "BID" 2) (hEVENT : ConI mg "EVENT" 3) :
  Has P w K mg base 4 "gain" ["offer","word"] (spGain K):=by
 refine D.has fun f fd F=>F.ok scGain (fun vs H Q E h=>?_) (fun cdv A outer s H vs Q E hr h=>?_)
 ·obtain ⟨v,c,n,o,buy,pr,rfl,_⟩:=h
  rfl
 ·obtain ⟨v,c,n,o,buy,pr,rfl,⟨p,a,va,vb,ve,rfl,hp,hR,hl,hA,hB,hE⟩,hc,g,hn,hpr,k⟩:=h
  obtain ⟨t0,m_ROW⟩:=hROW
  obtain ⟨t1,m_ASK⟩:=hASK
  obtain ⟨t2,m_BID⟩:=hBID
  obtain ⟨t3,m_EVENT⟩:=hEVENT
  obtain ⟨xs,hxs,hrs⟩:=hR
  have lx:=hrs.len
  have sc:=scGain
  have nd1 : (["worth","offer"] : List Str).Nodup:=by decide +kernel
  have nd2 : (["worth","offer"] : List Str).Nodup:=by decide +kernel
  refine ⟨_,(pss_cons (ps_if (pt_cmpR op_eq (pv 1) pe_str (nomark _))
    (pss_one (ps_setC (i:=2) (N:=["worth","offer"]) (k:=1) (fv:=[0]) sc.nd rfl (Or.inl rfl) rfl (pi_tup (pe_ix ix_tup (pv 0) (pe_glob (v:=.int 0) rfl m_ROW ⟨_,rfl⟩) (fun _ _=>rfl)))
   (fun _ _ _ _ _=>pg_name (i:=0) nd1 rfl (Or.inl rfl)) (fun _ _ _ _ _=>pts_nil) (fun _ _ _ _ _=>(pe_use hMinus (hr.mono (by decide)) rfl (pa_cons (pv 0) (pa_cons (pe_ix (ix_tK (K:=K)) (pv 1) (pe_glob (v:=.int 1) rfl m_ASK ⟨_,rfl⟩) (fun _ _=>rfl)) pa_nil)))) weak_name))
    (pss_one (ps_setC (i:=2) (N:=["worth","offer"]) (k:=1) (fv:=[0]) sc.nd rfl (Or.inl rfl) rfl (pi_tup (pe_ix ix_tup (pv 0) (pe_glob (v:=.int 0) rfl m_ROW ⟨_,rfl⟩) (fun _ _=>rfl)))
   (fun _ _ _ _ _=>pg_name (i:=0) nd2 rfl (Or.inl rfl)) (fun _ _ _ _ _=>pts_nil) (fun _ _ _ _ _=>(pe_use hMinus (hr.mono (by decide)) rfl (pa_cons (pe_ix (ix_tK (K:=K)) (pv 1) (pe_glob (v:=.int 2) rfl m_BID ⟨_,rfl⟩) (fun _ _=>rfl)) (pa_cons (pv 0) pa_nil)))) weak_name)))
   (pss_one (ps_ret (pe_use hCut (hr.mono (by decide)) rfl (pa_cons (pe_callTy call_tuple_of rfl T.tuple PyProof.Rows.boot_tuple (pa_cons (pv 2) pa_nil)) (pa_cons (pe_ix ix_tup (pv 0) (pe_glob (v:=.int 3) rfl m_EVENT ⟨_,rfl⟩) (fun _ _=>rfl)) pa_nil)))))),?_⟩
  cases buy with
  | true =>
   replace hpr : o.ask = some pr:=hpr
   have kk:=k
   unfold gainR at kk
   rw [hpr] at hA kk
   obtain ⟨b,rfl,hb⟩:=hA
   refine ⟨_,rfl,rfl,_,rfl,iteD1 rfl ?_⟩
   refine ⟨_,rfl,p,_,_,_,rfl,rfl,hp,atI_nat (j:=0) rfl,a,rfl,⟨_,hxs⟩,fun d hd=>?_⟩
   refine ⟨o.row.length,fun i ys H2=>Same H H2 /\ Rs K H2 ((o.row.map fun r=>subR r pr).take i) ys,size1000 (by omega),⟨Same.new hd,.nil⟩,?_,?_⟩
   ·rintro i ys H2 hi ⟨S2,R2⟩ hd2
    refine ⟨⟨xs,xs[i]'(by omega),sameT S2 hxs,by simp⟩,?_⟩
    rintro x H3 ⟨rfl,fx⟩
    obtain ⟨r,er,ix⟩:=hrs.back (fx xs (sameT S2 hxs))
    obtain ⟨a1,rfl,sq1⟩:=ix.ext (Ext.same S2)
    refine nameyes ?_
    refine ⟨_,rfl,_,rfl,p,_,_,_,rfl,rfl,sameT S2 hp,atI_nat (j:=1) rfl,a1,b,r,pr,n,rfl,sq1,sameT S2 hb,g.row r (List.mem_of_getElem? er),g.ask pr hpr,hn,fun c4 H4 f4 S4 e4=>?_⟩
    have hd4:=S4 _ _ hd2
    refine ⟨hd4,fun q o' e=>?_,?_⟩
    ·rw [upd_ne (ne_of_none e hd)]
     exact S4 _ _ (S2 _ _ e)
    ·rw [take_map _ er]
     exact (R2.ext ((Ext.same S4).trans (Ext.upd hd4))).snoc ⟨c4,rfl,(Ext.upd hd4).sq (SqT.of e4)⟩
   ·rintro ys H2 ⟨S2,R2⟩ hd2
    rw [List.take_of_length_le (by rw [List.length_map]; omega)] at R2
    refine ⟨⟨xs,sameT S2 hxs,by omega⟩,_,rfl,d,ys,rfl,.inl ⟨SqL.of hd2,fun l hl'=>?_⟩⟩
    have S3 : Same H2 (upd H2 l (.tup ys)):=Same.new hl'
    refine ⟨_,rfl,p,_,_,_,rfl,rfl,sameT (S2.trans S3) hp,atI_nat (j:=3) rfl,l,ve,_,o.ev,rfl,⟨ys,SqT.of upd_same,R2.ext (Ext.same S3)⟩,?_,by rw [List.length_map]; omega,fun p' H' S' R'=>kk p' H' ((S2.trans S3).trans S') R'⟩
    rw [List.length_map,hl]
    exact hE.same (S2.trans S3)
  | false =>
   replace hpr : o.bid = some pr:=hpr
   have kk:=k
   unfold gainR at kk
   rw [hpr] at hB kk
   obtain ⟨b,rfl,hb⟩:=hB
   refine ⟨_,rfl,rfl,_,rfl,iteD0 (by decide) ?_⟩
   refine ⟨_,rfl,p,_,_,_,rfl,rfl,hp,atI_nat (j:=0) rfl,a,rfl,⟨_,hxs⟩,fun d hd=>?_⟩
   refine ⟨o.row.length,fun i ys H2=>Same H H2 /\ Rs K H2 ((o.row.map fun r=>subR pr r).take i) ys,size1000 (by omega),⟨Same.new hd,.nil⟩,?_,?_⟩
   ·rintro i ys H2 hi ⟨S2,R2⟩ hd2
    refine ⟨⟨xs,xs[i]'(by omega),sameT S2 hxs,by simp⟩,?_⟩
    rintro x H3 ⟨rfl,fx⟩
    obtain ⟨r,er,ix⟩:=hrs.back (fx xs (sameT S2 hxs))
    obtain ⟨a1,rfl,sq1⟩:=ix.ext (Ext.same S2)
    refine nameyes ?_
    refine ⟨_,rfl,p,_,_,_,rfl,rfl,sameT S2 hp,atI_nat (j:=2) rfl,_,rfl,b,a1,pr,r,n,rfl,sameT S2 hb,sq1,g.bid pr hpr,g.row r (List.mem_of_getElem? er),hn,fun c4 H4 f4 S4 e4=>?_⟩
    have hd4:=S4 _ _ hd2
    refine ⟨hd4,fun q o' e=>?_,?_⟩
    ·rw [upd_ne (ne_of_none e hd)]
     exact S4 _ _ (S2 _ _ e)
    ·rw [take_map _ er]
     exact (R2.ext ((Ext.same S4).trans (Ext.upd hd4))).snoc ⟨c4,rfl,(Ext.upd hd4).sq (SqT.of e4)⟩
   ·rintro ys H2 ⟨S2,R2⟩ hd2
    rw [List.take_of_length_le (by rw [List.length_map]; omega)] at R2
    refine ⟨⟨xs,sameT S2 hxs,by omega⟩,_,rfl,d,ys,rfl,.inl ⟨SqL.of hd2,fun l hl'=>?_⟩⟩
    have S3 : Same H2 (upd H2 l (.tup ys)):=Same.new hl'
    refine ⟨_,rfl,p,_,_,_,rfl,rfl,sameT (S2.trans S3) hp,atI_nat (j:=3) rfl,l,ve,_,o.ev,rfl,⟨ys,SqT.of upd_same,R2.ext (Ext.same S3)⟩,?_,by rw [List.length_map]; omega,fun p' H' S' R'=>kk p' H' ((S2.trans S3).trans S') R'⟩
    rw [List.length_map,hl]
    exact hE.same (S2.trans S3)
end
end Sb
namespace Sb
open PySem L2
section
variable {P : Program} {w : World} {K : PySem.W.Frag} {mg : Str -> Option Value} {base : Heap}
def spMaybe (K : PySem.W.Frag) : Sp:=fun vs H Q _=>∃ (b : Addr) (n : Nat),vs = [.ref b] /\ BagAt H b n /\ n <= 1000000 ∧
 ∀ (v : V) (H' : Hp) (o : Option Rat),BagAt H' b (n + 4) -> SameX b H H' -> MayAt K H' o v -> (∀ r,o = some r -> Good 21 r) -> Q v H'
theorem scMaybe : FnScope ["_law_bag_here","_law_price"] ["_law_bag_here"] (defScope sMaybe):=⟨rfl,rfl,rfl,by decide +kernel,rfl,by decide +kernel,by decide +kernel⟩
theorem okMaybe (D : Def K mg "_law_maybe" sMaybe ["_law_bag_here"]) (hLawTake : Has P w K mg base 1 "_law_take" ["_law_bag_here","_law_many"] spTake) (hLawSmall : Has P w K mg base 3 "_law_small" ["_law_bag_here"] (spSmall K)) : Has P w K mg base 4 "_law_maybe" ["_law_bag_here"] (spMaybe K):=by
 refine D.has fun f fd F=>F.ok scMaybe (fun vs H Q E h=>?_) (fun cdv A outer s H vs Q E hr h=>?_)
 ·obtain ⟨b,n,rfl,_⟩:=h
  rfl
 ·obtain ⟨b,n,rfl,hB,hn,k⟩:=h
  have sc:=scMaybe
  refine ⟨_,(pss_cons (ps_set (i:=1) sc.nd rfl (Or.inl rfl) (pe_use hLawSmall (hr.mono (by decide)) rfl (pa_cons (pv 0) pa_nil)))
   (pss_cons (ps_if (pt_cmpR op_eq (pe_use hLawTake (hr.mono (by decide)) rfl (pa_cons (pv 0) (pa_cons pe_int pa_nil))) pe_int (nomark _))
    (pss_one (ps_ret pe_non))
    pss_nil)
   (pss_one (ps_ret (pv 1))))),?_⟩
  refine ⟨_,rfl,b,n,rfl,hB,hn,fun a H1 r B1 S1 e1 g1=>?_⟩
  refine ⟨_,rfl,b,_,_,rfl,B1,by omega,by decide,by decide +kernel,fun z H2 z0 z1 B2 S2=>⟨rfl,_,rfl,?_⟩⟩
  refine ite2 (fun h=>?_) (fun h=>?_)
  ·exact k _ H2 none B2 (S1.trans S2) rfl (fun _ z=>nomatch z)
  ·exact ⟨_,rfl,k _ H2 (some r) B2 (S1.trans S2) ⟨a,rfl,(Ext.bag S2 B1).sq (SqT.of e1)⟩ fun r' e=>by cases e; exact g1⟩
def spOffer (K : PySem.W.Frag) : Sp:=fun vs H Q _=>∃ (b : Addr) (c n : Nat),vs = [.ref b,.int c] /\ BagAt H b n /\ n <= 90000 /\ c <= 100 ∧
 ∀ (v : V) (H' : Hp) (o : Offr),BagAt H' b (n + 4 * c + 9) -> SameX b H H' -> OffAt K H' c o v -> GoodO 21 o -> Q v H'
theorem scOffer : FnScope ["_law_bag_here","_law_count","_law_row_here","_law_ask","_law_bid"] ["_law_bag_here","_law_count"] (defScope sOffer):=⟨rfl,rfl,rfl,by decide +kernel,rfl,by decide +kernel,by decide +kernel⟩
theorem okOffer (D : Def K mg "_law_offer" sOffer ["_law_bag_here","_law_count"]) (hLawRow : Has P w K mg base 4 "_law_row" ["_law_bag_here","_law_count"] (spRow K)) (hLawMaybe : Has P w K mg base 4 "_law_maybe" ["_law_bag_here"] (spMaybe K)) (hLawEvent : Has P w K mg base 2 "_law_event" ["_law_bag_here","_law_count"] (spEvent K)) :
  Has P w K mg base 5 "_law_offer" ["_law_bag_here","_law_count"] (spOffer K):=by
 refine D.has fun f fd F=>F.ok scOffer (fun vs H Q E h=>?_) (fun cdv A outer s H vs Q E hr h=>?_)
 ·obtain ⟨b,c,n,rfl,_⟩:=h
  rfl
 ·obtain ⟨b,c,n,rfl,hB,hn,hc,k⟩:=h
  have sc:=scOffer
  refine ⟨_,(pss_cons (ps_set (i:=2) sc.nd rfl (Or.inl rfl) (pe_use hLawRow (hr.mono (by decide)) rfl (pa_cons (pv 0) (pa_cons (pv 1) pa_nil))))
   (pss_cons (ps_set (i:=3) sc.nd rfl (Or.inl rfl) (pe_use hLawMaybe (hr.mono (by decide)) rfl (pa_cons (pv 0) pa_nil)))
   (pss_cons (ps_set (i:=4) sc.nd rfl (Or.inl rfl) (pe_use hLawMaybe (hr.mono (by decide)) rfl (pa_cons (pv 0) pa_nil)))
   (pss_one (ps_ret (pe_tup (pa_cons (pv 2) (pa_cons (pv 3) (pa_cons (pv 4) (pa_cons (pe_use hLawEvent (hr.mono (by decide)) rfl (pa_cons (pv 0) (pa_cons (pv 1) pa_nil))) pa_nil)))))))))),?_⟩
  refine ⟨_,rfl,_,rfl,b,c,n,rfl,hB,by omega,by omega,fun a H1 rs B1 S1 f1 R1 t1 l1 g1=>?_⟩
  refine ⟨_,rfl,b,_,rfl,B1,by omega,fun va H2 oa B2 S2 M2 g2=>?_⟩
  refine ⟨_,rfl,b,_,rfl,B2,by omega,fun vb H3 ob B3 S3 M3 g3=>?_⟩
  refine ⟨_,rfl,_,rfl,_,rfl,_,rfl,_,rfl,b,c,_,rfl,B3,by omega,by omega,fun ve H4 oe B4 S4 E4=>?_⟩
  refine ⟨(by show 4 <= sizeLine; decide),fun p hp=>?_⟩
  have S5 : Same H4 (upd H4 p (.tup [.ref a,va,vb,ve])):=Same.new hp
  have x2:=Ext.bag S2 B1
  have x3:=Ext.bag S3 B2
  have x4:=Ext.bag S4 B3
  have x5:=Ext.same S5
  exact k _ _ ⟨rs,oa,ob,oe⟩ ((B4.same S5).mono (by omega)) ((((S1.trans S2).trans S3).trans S4).trans (SameX.of S5)) ⟨p,a,va,vb,ve,rfl,SqT.of upd_same,(((R1.ext x2).ext x3).ext x4).ext x5,l1,((M2.ext x3).ext x4).ext x5,(M3.ext x4).ext x5,E4.ext x5⟩ ⟨g1,g2,g3⟩
theorem scLGain : FnScope ["_law_offer_here","_law_word","_law_row_here","_law_ask","_law_bid","_law_event_here"] ["_law_offer_here","_law_word"] (defScope sLGain):=⟨rfl,rfl,rfl,by decide +kernel,rfl,by decide +kernel,by decide +kernel⟩
theorem okLGain (D : Def K mg "_law_gain" sLGain ["_law_offer_here","_law_word"]) (hLawMinus : Has P w K mg base 3 "_law_minus" ["_law_one","_law_other"] (spTwo K subR)) (hLawCut : Has P w K mg base 2 "_law_cut" ["_law_row_here","_law_event_here"] (spLCut K)) :
  Has P w K mg base 4 "_law_gain" ["_law_offer_here","_law_word"] (spGain K):=by
 refine D.has fun f fd F=>F.ok scLGain (fun vs H Q E h=>?_) (fun cdv A outer s H vs Q E hr h=>?_)
 ·obtain ⟨v,c,n,o,buy,pr,rfl,_⟩:=h
  rfl
 ·obtain ⟨v,c,n,o,buy,pr,rfl,⟨p,a,va,vb,ve,rfl,hp,hR,hl,hA,hB,hE⟩,hc,g,hn,hpr,k⟩:=h
  obtain ⟨xs,hxs,hrs⟩:=hR
  have lx:=hrs.len
  have sc:=scLGain
  have nd1 : (["_law_worth","_law_ask"] : List Str).Nodup:=by decide +kernel
  have nd2 : (["_law_worth","_law_bid"] : List Str).Nodup:=by decide +kernel
  refine ⟨_,(pss_cons (ps_asg (pv 0) (pg_tup (n:=4) rfl (pgs_cons (pg_name (i:=2) sc.nd rfl (Or.inl rfl)) (pgs_cons (pg_name (i:=3) sc.nd rfl (Or.inr rfl)) (pgs_cons (pg_name (i:=4) sc.nd rfl (Or.inr rfl)) (pgs_cons (pg_name (i:=5) sc.nd rfl (Or.inl rfl)) pgs_nil))))))
   (pss_cons (ps_if (pt_cmpR op_eq (pv 1) pe_str (nomark _))
    (pss_one (ps_ret (pe_use hLawCut (hr.mono (by decide)) rfl (pa_cons (pe_comp (N:=["_law_worth","_law_ask"]) (k:=1) (fv:=[3]) rfl (pi_tup (pv 2))
   (fun _ _ _ _ _=>pg_name (i:=0) nd1 rfl (Or.inl rfl)) (fun _ _ _ _ _=>pts_nil) (fun _ _ _ _ _=>(pe_use hLawMinus (hr.mono (by decide)) rfl (pa_cons (pv 0) (pa_cons (pv 1) pa_nil)))) weak_name) (pa_cons (pv 5) pa_nil)))))
    pss_nil)
   (pss_one (ps_ret (pe_use hLawCut (hr.mono (by decide)) rfl (pa_cons (pe_comp (N:=["_law_worth","_law_bid"]) (k:=1) (fv:=[4]) rfl (pi_tup (pv 2))
   (fun _ _ _ _ _=>pg_name (i:=0) nd2 rfl (Or.inl rfl)) (fun _ _ _ _ _=>pts_nil) (fun _ _ _ _ _=>(pe_use hLawMinus (hr.mono (by decide)) rfl (pa_cons (pv 1) (pa_cons (pv 0) pa_nil)))) weak_name) (pa_cons (pv 5) pa_nil))))))),?_⟩
  refine ⟨_,rfl,p,_,rfl,hp,rfl,_,_,rfl,_,_,rfl,_,_,rfl,_,_,rfl,rfl,?_⟩
  cases buy with
  | true =>
   replace hpr : o.ask = some pr:=hpr
   have kk:=k
   unfold gainR at kk
   rw [hpr] at hA kk
   obtain ⟨b,rfl,hb⟩:=hA
   refine ⟨_,rfl,rfl,_,rfl,iteD1 rfl ?_⟩
   refine ⟨_,rfl,a,rfl,⟨_,hxs⟩,fun d hd=>?_⟩
   refine ⟨o.row.length,fun i ys H2=>Same H H2 /\ Rs K H2 ((o.row.map fun r=>subR r pr).take i) ys,size1000 (by omega),⟨Same.new hd,.nil⟩,?_,?_⟩
   ·rintro i ys H2 hi ⟨S2,R2⟩ hd2
    refine ⟨⟨xs,xs[i]'(by omega),sameT S2 hxs,by simp⟩,?_⟩
    rintro x H3 ⟨rfl,fx⟩
    obtain ⟨r,er,ix⟩:=hrs.back (fx xs (sameT S2 hxs))
    obtain ⟨a1,rfl,sq1⟩:=ix.ext (Ext.same S2)
    refine nameyes ?_
    refine ⟨_,rfl,_,rfl,a1,b,r,pr,n,rfl,sq1,sameT S2 hb,g.row r (List.mem_of_getElem? er),g.ask pr hpr,hn,fun c4 H4 f4 S4 e4=>?_⟩
    have hd4:=S4 _ _ hd2
    refine ⟨hd4,fun q o' e=>?_,?_⟩
    ·rw [upd_ne (ne_of_none e hd)]
     exact S4 _ _ (S2 _ _ e)
    ·rw [take_map _ er]
     exact (R2.ext ((Ext.same S4).trans (Ext.upd hd4))).snoc ⟨c4,rfl,(Ext.upd hd4).sq (SqT.of e4)⟩
   ·rintro ys H2 ⟨S2,R2⟩ hd2
    rw [List.take_of_length_le (by rw [List.length_map]; omega)] at R2
    exact ⟨⟨xs,sameT S2 hxs,by omega⟩,_,rfl,d,ve,ys,_,o.ev,rfl,.inl (SqL.of hd2),R2,by rw [List.length_map,hl]; exact hE.same S2,by rw [List.length_map]; omega,fun p' H' S' R'=>kk p' H' (S2.trans S') R'⟩
  | false =>
   replace hpr : o.bid = some pr:=hpr
   have kk:=k
   unfold gainR at kk
   rw [hpr] at hB kk
   obtain ⟨b,rfl,hb⟩:=hB
   refine ⟨_,rfl,rfl,_,rfl,iteD0 (by decide) ?_⟩
   refine ⟨_,rfl,a,rfl,⟨_,hxs⟩,fun d hd=>?_⟩
   refine ⟨o.row.length,fun i ys H2=>Same H H2 /\ Rs K H2 ((o.row.map fun r=>subR pr r).take i) ys,size1000 (by omega),⟨Same.new hd,.nil⟩,?_,?_⟩
   ·rintro i ys H2 hi ⟨S2,R2⟩ hd2
    refine ⟨⟨xs,xs[i]'(by omega),sameT S2 hxs,by simp⟩,?_⟩
    rintro x H3 ⟨rfl,fx⟩
    obtain ⟨r,er,ix⟩:=hrs.back (fx xs (sameT S2 hxs))
    obtain ⟨a1,rfl,sq1⟩:=ix.ext (Ext.same S2)
    refine nameyes ?_
    refine ⟨_,rfl,_,rfl,b,a1,pr,r,n,rfl,sameT S2 hb,sq1,g.bid pr hpr,g.row r (List.mem_of_getElem? er),hn,fun c4 H4 f4 S4 e4=>?_⟩
    have hd4:=S4 _ _ hd2
    refine ⟨hd4,fun q o' e=>?_,?_⟩
    ·rw [upd_ne (ne_of_none e hd)]
     exact S4 _ _ (S2 _ _ e)
    ·rw [take_map _ er]
     exact (R2.ext ((Ext.same S4).trans (Ext.upd hd4))).snoc ⟨c4,rfl,(Ext.upd hd4).sq (SqT.of e4)⟩
   ·rintro ys H2 ⟨S2,R2⟩ hd2
    rw [List.take_of_length_le (by rw [List.length_map]; omega)] at R2
    exact ⟨⟨xs,sameT S2 hxs,by omega⟩,_,rfl,d,ve,ys,_,o.ev,rfl,.inl (SqL.of hd2),R2,by rw [List.length_map,hl]; exact hE.same S2,by rw [List.length_map]; omega,fun p' H' S' R'=>kk p' H' (S2.trans S') R'⟩
end
end Sb
namespace Sb
open PySem L2
def wordsO (o : Offr) : List Bool:=(if o.ask.isSome then [true] else []) ++ if o.bid.isSome then [false] else []
def offD : Offr:=⟨[],none,none,none⟩
def sidesP (os : List Offr) (n : Nat) : List (Nat × Bool):=(List.range n).flatMap fun i=>(wordsO (os.getD i offD)).map fun b=>(i,b)
def gainsP (os : List Offr) (n : Nat) : List (List Rat):=(List.range n).flatMap fun i=>(wordsO (os.getD i offD)).map fun b=>gainR (os.getD i offD) b
theorem sidesP_succ (os : List Offr) (n : Nat) : sidesP os (n + 1) = sidesP os n ++ (wordsO (os.getD n offD)).map fun b=>(n,b):=by
 unfold sidesP
 rw [List.range_succ,List.flatMap_append]
 simp
theorem gains_sides (os : List Offr) (n : Nat) : (sidesP os n).map (fun s=>gainR (os.getD s.1 offD) s.2) = gainsP os n:=by
 unfold sidesP gainsP
 rw [List.map_flatMap]
 congr 1
 funext i
 rw [List.map_map]
 rfl
theorem sidesP_mem {os : List Offr} {n i : Nat} {b : Bool} (h : (i,b) ∈ sidesP os n) : i < n /\ ∃ r,priceO (os.getD i offD) b = some r:=by
 unfold sidesP at h
 rw [List.mem_flatMap] at h
 obtain ⟨j,hj,hm⟩:=h
 rw [List.mem_map] at hm
 obtain ⟨b',hb,e⟩:=hm
 cases e
 refine ⟨List.mem_range.mp hj,?_⟩
 unfold wordsO at hb
 rcases List.mem_append.mp hb with z | z
 ·split at z
  ·rename_i hs
   rw [List.mem_singleton.mp z]
   exact Option.isSome_iff_exists.mp hs
  ·cases z
 ·split at z
  ·rename_i hs
   rw [List.mem_singleton.mp z]
   exact Option.isSome_iff_exists.mp hs
  ·cases z
theorem wordsO_len (o : Offr) : (wordsO o).length <= 2:=by
 unfold wordsO
 split <;> split <;> decide
theorem sidesP_len (os : List Offr) : ∀ n,(sidesP os n).length <= 2 * n
 | 0=>by unfold sidesP; simp
 | n + 1=>by
  rw [sidesP_succ,List.length_append,List.length_map]
  have:=sidesP_len os n
  have:=wordsO_len (os.getD n offD)
  omega
section
variable {P : Program} {w : World} {K : PySem.W.Frag} {mg : Str -> Option Value} {base : Heap}
def OffsAt (K : PySem.W.Frag) (H : Hp) (l : Addr) (c : Nat) (os : List Offr) : Prop:=∃ vs : List V,H l = some (.lst vs) /\ Paired (fun v o=>OffAt K H c o v) vs os
theorem offs_ext {H H' : Hp} {c : Nat} {vs : List V} {os : List Offr} (h : Paired (fun v o=>OffAt K H c o v) vs os) (x : Ext H H') : Paired (fun v o=>OffAt K H' c o v) vs os:=Paired.mapP h fun _ _ q=>q.ext x
theorem OffAt.asks {H : Hp} {c : Nat} {o : Offr} {v : V} (h : OffAt K H c o v) : ∃ (p a : Addr) (va vb ve : V),v = .ref p /\ SqT K H p [.ref a,va,vb,ve] /\ (va = .non ↔ o.ask = none) /\ (vb = .non ↔ o.bid = none):=by
 obtain ⟨p,a,va,vb,ve,rfl,hp,_,_,hA,hB,_⟩:=h
 refine ⟨p,a,va,vb,ve,rfl,hp,?_,?_⟩
 ·cases e : o.ask with
  | none=>rw [e] at hA; exact ⟨fun _=>rfl,fun _=>hA⟩
  | some r=>rw [e] at hA; obtain ⟨b,rfl,_⟩:=hA; exact ⟨(fun z=>nomatch z),fun z=>nomatch z⟩
 ·cases e : o.bid with
  | none=>rw [e] at hB; exact ⟨fun _=>rfl,fun _=>hB⟩
  | some r=>rw [e] at hB; obtain ⟨b,rfl,_⟩:=hB; exact ⟨(fun z=>nomatch z),fun z=>nomatch z⟩
def spWords (K : PySem.W.Frag) : Sp:=fun vs H Q _=>∃ (v : V) (c : Nat) (o : Offr),vs = [v] /\ OffAt K H c o v /\ ∀ l H',H l = none -> Same H H' -> H' l = some (.lst ((wordsO o).map fun b=>V.str (wordO b))) -> Q (.ref l) H'
theorem scWords : FnScope ["offer","told"] ["offer"] (defScope sWordsOf):=⟨rfl,rfl,rfl,by decide +kernel,rfl,by decide +kernel,by decide +kernel⟩
theorem okWords (D : Def K mg "words_of" sWordsOf ["offer"]) (hASK : ConI mg "ASK" 1) (hBID : ConI mg "BID" 2) : Has P w K mg base 1 "words_of" ["offer"] (spWords K):=by
 refine D.has fun f fd F=>F.ok scWords (fun vs H Q E h=>?_) (fun cdv A outer s H vs Q E hr h=>?_)
 ·obtain ⟨v,c,o,rfl,_⟩:=h
  rfl
 ·obtain ⟨v,c,o,rfl,hO,k⟩:=h
  obtain ⟨t1,m_ASK⟩:=hASK
  obtain ⟨t2,m_BID⟩:=hBID
  obtain ⟨p,a,va,vb,ve,rfl,hp,ha,hb⟩:=hO.asks
  have sc:=scWords
  refine ⟨_,(pss_cons (ps_set (i:=1) sc.nd rfl (Or.inl rfl) (pe_lst pa_nil))
   (pss_cons (ps_join (ps_if (pt_cmpR op_notN (pe_ix ix_tup (pv 0) (pe_glob (v:=.int 1) rfl m_ASK ⟨_,rfl⟩) (fun _ _=>rfl)) pe_non (nomark _))
    (pss_one (ps_expr (pe_bm PySem.F.plainAttrs_list PySem.F.slot_list_append PySem.F.type_list_append mt_append (pv 1) (pa_cons pe_str pa_nil))))
    pss_nil))
   (pss_cons (ps_if (pt_cmpR op_notN (pe_ix ix_tup (pv 0) (pe_glob (v:=.int 2) rfl m_BID ⟨_,rfl⟩) (fun _ _=>rfl)) pe_non (nomark _))
    (pss_one (ps_expr (pe_bm PySem.F.plainAttrs_list PySem.F.slot_list_append PySem.F.type_list_append mt_append (pv 1) (pa_cons pe_str pa_nil))))
    pss_nil)
   (pss_one (ps_ret (pv 1)))))),?_⟩
  refine ⟨(by show 0 <= sizeLine; decide),fun l hl=>?_⟩
  have S0 : Same H (upd H l (.lst [])):=Same.new hl
  have up : ∀ (zs : List V) (H1 : Hp),Same H H1 -> Same H (upd H1 l (.lst zs)):=fun zs H1 S1 q o e=>by
   rw [upd_ne (ne_of_none e hl)]
   exact S1 _ _ e
  refine ⟨fun σ H'=>Same H H' /\ σ = [some (.ref p),some (.ref l)] /\ H' l = some (.lst ((if o.ask.isSome then [true] else []).map fun b=>V.str (wordO b))),?_,?_⟩
  ·refine ⟨_,rfl,p,_,_,_,rfl,rfl,sameT S0 hp,atI_nat (j:=1) rfl,rfl,_,rfl,?_⟩
   cases e : o.ask with
   | none =>
    have:=ha.mpr e
    subst this
    exact iteF ⟨S0,rfl,upd_same⟩
   | some r =>
    have hne : va ≠ V.non:=fun z=>by rw [ha.mp z] at e; cases e
    refine iteNT hne ?_
    exact ⟨_,rfl,.inl ⟨rfl,_,SqL.of upd_same⟩,l,_,_,rfl,rfl,upd_same,(by show 0 < sizeLine; decide),up _ _ S0,rfl,upd_same⟩
  ·rintro σ H1 ⟨S1,rfl,h1⟩
   refine ⟨_,rfl,p,_,_,_,rfl,rfl,sameT S1 hp,atI_nat (j:=2) rfl,rfl,_,rfl,?_⟩
   cases e : o.bid with
   | none =>
    have:=hb.mpr e
    subst this
    refine iteF ⟨_,rfl,k l H1 hl S1 ?_⟩
    rw [h1]
    unfold wordsO
    rw [e]
    simp
   | some r =>
    have hne : vb ≠ V.non:=fun z=>by rw [hb.mp z] at e; cases e
    refine iteNT hne ⟨_,rfl,.inl ⟨rfl,_,SqL.of h1⟩,l,_,_,rfl,rfl,h1,?_,_,rfl,k l _ hl (up _ _ S1) ?_⟩
    ·refine small1000 ?_
     rw [List.length_map]
     split <;> decide
    ·rw [upd_same]
     unfold wordsO
     rw [e]
     simp
     rfl
def SideV (K : PySem.W.Frag) (H : Hp) (v : V) (s : Nat × Bool) : Prop:=∃ t : Addr,v = .ref t /\ SqT K H t [.int (s.1 : Int),.str (wordO s.2)]
theorem SideV.ext {H H' : Hp} {v : V} {s : Nat × Bool} (h : SideV K H v s) (x : Ext H H') : SideV K H' v s:=by
 obtain ⟨t,e,q⟩:=h
 exact ⟨t,e,x.sq q⟩
def spSides (K : PySem.W.Frag) : Sp:=fun vs H Q _=>∃ (l : Addr) (c : Nat) (os : List Offr),vs = [.ref l] /\ OffsAt K H l c os /\ os.length <= 100 /\ ∀ (d : Addr) (ws : List V) (H' : Hp),H d = none -> Same H H' -> H' d = some (.lst ws) -> Paired (SideV K H') ws (sidesP os os.length) -> Q (.ref d) H'
theorem scSides : FnScope ["offers","told","number","offer"] ["offers"] (defScope sSides):=⟨rfl,rfl,rfl,by decide +kernel,rfl,by decide +kernel,by decide +kernel⟩
theorem okSides (D : Def K mg "sides" sSides ["offers"]) (T : Blt mg) (hWordsOf : Has P w K mg base 1 "words_of" ["offer"] (spWords K)) : Has P w K mg base 2 "sides" ["offers"] (spSides K):=by
 refine D.has fun f fd F=>F.ok scSides (fun vs H Q E h=>?_) (fun cdv A outer s H vs Q E hr h=>?_)
 ·obtain ⟨l,c,os,rfl,_⟩:=h
  rfl
 ·obtain ⟨l,c,os,rfl,⟨vs,hl,hO⟩,hlen,k⟩:=h
  have sc:=scSides
  have nd1 : (["word","number"] : List Str).Nodup:=by decide +kernel
  refine ⟨_,(pss_cons (ps_set (i:=1) sc.nd rfl (Or.inl rfl) (pe_lst pa_nil))
   (pss_cons (ps_for PassesOwn.never rfl (pi_enumL rfl T.enumerate (pa_cons (pv 0) pa_nil)) (pg_tup (n:=2) rfl (pgs_cons (pg_name (i:=2) sc.nd rfl (Or.inr rfl)) (pgs_cons (pg_name (i:=3) sc.nd rfl (Or.inl rfl)) pgs_nil)))
    (pss_one (ps_expr (pe_bm PySem.F.plainAttrs_list PySem.F.slot_list_extend PySem.F.type_list_extend mt_extend (pv 1) (pa_cons (pe_comp (N:=["word","number"]) (k:=1) (fv:=[2]) rfl (pi_list (pe_use hWordsOf (hr.mono (by decide)) rfl (pa_cons (pv 3) pa_nil)))
   (fun _ _ _ _ _=>pg_name (i:=0) nd1 rfl (Or.inl rfl)) (fun _ _ _ _ _=>pts_nil) (fun _ _ _ _ _=>(pe_tup (pa_cons (pv 1) (pa_cons (pv 0) pa_nil)))) weak_name) pa_nil)))))
   (pss_one (ps_ret (pv 1))))),?_⟩
  have lo:=Paired.length hO
  refine ⟨(by show 0 <= sizeLine; decide),fun d hd=>?_⟩
  have S0 : Same H (upd H d (.lst [])):=Same.new hd
  have up : ∀ (zs : List V) (H1 : Hp),Same H H1 -> Same H (upd H1 d (.lst zs)):=fun zs H1 S1 q o e=>by
   rw [upd_ne (ne_of_none e hd)]
   exact S1 _ _ e
  refine ⟨_,rfl,l,rfl,⟨_,SqL.of (S0 _ _ hl)⟩,for_enumL (K:=K) (a:=l) (xs:=vs) (fun i σ H'=>Same H H' /\ ∃ (ws : List V) (x y : Option V),σ = [some (.ref l),some (.ref d),x,y] /\ H' d = some (.lst ws) /\ Paired (SideV K H') ws (sidesP os i)) ⟨S0,[],none,none,rfl,upd_same,.nil⟩ (fun i σ H' _ h=>SqL.of (h.1 _ _ hl)) ?_ ?_⟩
  ·rintro i v σ H1 p hi ⟨S1,ws,x,y,rfl,hd1,P1⟩ hp
   have S2 : Same H1 (upd H1 p (.tup [.int (i : Int),v])):=Same.new hp
   have hd2:=S2 _ _ hd1
   have hiv : i < vs.length:=(List.getElem?_eq_some_iff.mp hi).1
   have hio : i < os.length:=by omega
   have eo : os[i]? = some (os.getD i offD):=by simp [List.getD,hio]
   have hv:=((Paired.getB hO hi eo).same S1).same S2
   refine ⟨p,_,rfl,SqT.of upd_same,rfl,_,_,rfl,_,_,rfl,rfl,?_⟩
   refine ⟨_,rfl,.inl ⟨rfl,_,SqL.of hd2⟩,_,rfl,v,c,os.getD i offD,rfl,hv,fun lw H3 f3 S3 e3=>?_⟩
   generalize hw : wordsO (os.getD i offD) = wo at *
   have lwo : wo.length <= 2:=by rw [← hw]; exact wordsO_len _
   refine ⟨lw,rfl,⟨_,SqL.of e3⟩,fun dc hdc=>?_⟩
   refine ⟨wo.length,fun j ys H4=>Same H3 H4 /\ Paired (SideV K H4) ys ((wo.map fun b=>(i,b)).take j),size1000 (by omega),⟨Same.new hdc,.nil⟩,?_,?_⟩
   ·rintro j ys H4 hj ⟨S4,P4⟩ hd4
    have ew : wo[j]? = some wo[j]:=by simp [hj]
    refine ⟨⟨_,V.str (wordO wo[j]),SqL.of (S4 _ _ e3),by simp [hj]⟩,?_⟩
    rintro x' H5 ⟨rfl,fx⟩
    have ex : x' = V.str (wordO wo[j]):=by
     have:=fx _ (SqL.of (S4 _ _ e3))
     rw [List.getElem?_map,ew] at this
     exact (Option.some.inj this).symm
    subst ex
    refine nameyes ?_
    refine ⟨_,rfl,_,rfl,(by show 2 <= sizeLine; decide),fun t ht=>?_⟩
    have S6 : Same H5 (upd H5 t (.tup [.int (i : Int),.str (wordO wo[j])])):=Same.new ht
    have hd6:=S6 _ _ hd4
    refine ⟨hd6,fun q o' e=>?_,?_⟩
    ·rw [upd_ne (ne_of_none e hdc)]
     exact S6 _ _ (S4 _ _ e)
    ·rw [take_map _ ew]
     have x7:=(Ext.same S6).trans (Ext.upd (o:=.lst (ys ++ [.ref t])) hd6)
     exact Paired.snoc (Paired.mapP P4 fun _ _ q=>q.ext x7) ⟨t,rfl,(Ext.upd hd6).sq (SqT.of upd_same)⟩
   ·rintro ys H4 ⟨S4,P4⟩ hd4
    rw [List.take_of_length_le (by rw [List.length_map]; omega)] at P4
    refine ⟨⟨_,SqL.of (S4 _ _ e3),by rw [List.length_map]; omega⟩,?_⟩
    have hd5:=S4 _ _ (S3 _ _ hd2)
    have lw1:=Paired.length P1
    have lw4:=Paired.length P4
    have sl:=sidesP_len os i
    rw [List.length_map] at lw4
    refine ⟨d,dc,ws,ys,rfl,rfl,hd5,hd4,size1000 (by omega),?_⟩
    have S15 : Same H1 H4:=(S2.trans S3).trans S4
    refine ⟨up _ _ (S1.trans S15),ws ++ ys,_,_,rfl,upd_same,?_⟩
    rw [sidesP_succ,hw]
    have xx:=Ext.upd (o:=.lst (ws ++ ys)) hd5
    exact Paired.appP (Paired.mapP P1 fun _ _ q=>q.ext ((Ext.same S15).trans xx)) (Paired.mapP P4 fun _ _ q=>q.ext xx)
  ·rintro σ H1 ⟨S1,ws,x,y,rfl,hd1,P1⟩
   rw [lo] at P1
   exact ⟨_,rfl,k d ws H1 hd S1 hd1 P1⟩
def spGainsP (K : PySem.W.Frag) : Sp:=fun vs H Q _=>∃ (l : Addr) (c n : Nat) (os : List Offr),vs = [.ref l] /\ OffsAt K H l c os /\ os.length <= 100 /\ c <= 1000 /\ n <= 4000 /\ (∀ o ∈ os,GoodO n o) /\ ∀ (d : Addr) (H' : Hp),H d = none -> Same H H' -> RowsAt K H' d (gainsP os os.length) -> Q (.ref d) H'
theorem scGainsP : FnScope ["offers"] ["offers"] (defScope sGains):=⟨rfl,rfl,rfl,by decide +kernel,rfl,by decide +kernel,by decide +kernel⟩
theorem okGainsP (D : Def K mg "gains" sGains ["offers"]) (hSides : Has P w K mg base 2 "sides" ["offers"] (spSides K)) (hGain : Has P w K mg base 4 "gain" ["offer","word"] (spGain K)) : Has P w K mg base 5 "gains" ["offers"] (spGainsP K):=by
 refine D.has fun f fd F=>F.ok scGainsP (fun vs H Q E h=>?_) (fun cdv A outer s H vs Q E hr h=>?_)
 ·obtain ⟨l,c,n,os,rfl,_⟩:=h
  rfl
 ·obtain ⟨l,c,n,os,rfl,⟨vs,hl,hO⟩,hlen,hc,hn,g,k⟩:=h
  have sc:=scGainsP
  have nd1 : (["number","word","offers"] : List Str).Nodup:=by decide +kernel
  refine ⟨_,(pss_one (ps_ret (pe_comp (N:=["number","word","offers"]) (k:=2) (fv:=[0]) rfl (pi_list (pe_use hSides (hr.mono (by decide)) rfl (pa_cons (pv 0) pa_nil)))
   (fun _ _ _ _ _=>pg_tup (n:=2) rfl (pgs_cons (pg_name (i:=0) nd1 rfl (Or.inl rfl)) (pgs_cons (pg_name (i:=1) nd1 rfl (Or.inl rfl)) pgs_nil))) (fun _ _ _ _ _=>pts_nil) (fun _ _ _ _ _=>(pe_use hGain (hr.mono (by decide)) rfl (pa_cons (pe_ix (ix_lK (K:=K)) (pv 2) (pv 0) (fun _ _=>rfl)) (pa_cons (pv 1) pa_nil)))) weak_pair))),?_⟩
  have lo:=Paired.length hO
  refine ⟨_,rfl,l,c,os,rfl,⟨vs,hl,hO⟩,hlen,fun ds ws H1 f1 S1 e1 P1=>?_⟩
  have lp:=Paired.length P1
  have sl:=sidesP_len os os.length
  refine ⟨ds,rfl,⟨_,SqL.of e1⟩,fun d hd=>?_⟩
  have hd0 : H d = none:=by
   cases q : H d with
   | none=>rfl
   | some o=>rw [S1 _ _ q] at hd; cases hd
  refine ⟨ws.length,fun i ys H2=>Same H1 H2 /\ ∃ as : List Addr,ys = as.map V.ref /\ Paired (RowAt K H2) as ((gainsP os os.length).take i),size1000 (by omega),⟨Same.new hd,[],rfl,.nil⟩,?_,?_⟩
  ·rintro i ys H2 hi ⟨S2,as,rfl,P2⟩ hd2
   have ew : ws[i]? = some ws[i]:=by simp [hi]
   refine ⟨⟨_,ws[i],SqL.of (S2 _ _ e1),by simp⟩,?_⟩
   rintro x' H3 ⟨rfl,fx⟩
   have ex : x' = ws[i]:=by
    have:=fx _ (SqL.of (S2 _ _ e1))
    rw [ew] at this
    exact (Option.some.inj this).symm
   subst ex
   have his : i < (sidesP os os.length).length:=by omega
   have es : (sidesP os os.length)[i]? = some ((sidesP os os.length)[i]):=by simp [his]
   obtain ⟨t,et,sqt⟩:=(Paired.getB P1 ew es).ext (Ext.same S2)
   have hmem:=List.getElem_mem his
   generalize hsd : (sidesP os os.length)[i] = sd at *
   obtain ⟨j,b⟩:=sd
   obtain ⟨hj,r,hr'⟩:=sidesP_mem hmem
   rw [et]
   refine pairyes sqt ?_
   have ej : os[j]? = some (os.getD j offD):=by simp [List.getD,hj]
   have hjv : j < vs.length:=by omega
   have ev : vs[j]? = some vs[j]:=by simp [hjv]
   have hov:=((Paired.getB hO ev ej).same S1).same S2
   refine ⟨_,rfl,_,rfl,l,vs,_,_,rfl,rfl,SqL.of (S2 _ _ (S1 _ _ hl)),atI_nat ev,_,rfl,?_⟩
   refine ⟨vs[j],c,n,os.getD j offD,b,r,rfl,hov,hc,g _ (List.mem_of_getElem? ej),hn,hr',fun p H4 S4 R4=>?_⟩
   have hd4:=S4 _ _ hd2
   refine ⟨hd4,fun q o' e=>?_,as ++ [p],by rw [List.map_append]; rfl,?_⟩
   ·rw [upd_ne (ne_of_none e hd)]
    exact S4 _ _ (S2 _ _ e)
   ·have eg : (gainsP os os.length)[i]? = some (gainR (os.getD j offD) b):=by rw [← gains_sides,List.getElem?_map,es]; rfl
    rw [take_snoc eg]
    exact Paired.snoc (rows_ext P2 ((Ext.same S4).trans (Ext.upd hd4))) (R4.ext (Ext.upd hd4))
  ·rintro ys H2 ⟨S2,as,rfl,P2⟩ hd2
   have lg : (gainsP os os.length).length = ws.length:=by rw [← gains_sides,List.length_map,lp]
   rw [List.take_of_length_le (by omega)] at P2
   exact ⟨⟨_,SqL.of (S2 _ _ e1),Nat.le_refl _⟩,k d H2 hd0 (S1.trans S2) ⟨as,hd2,P2⟩⟩
end
end Sb
namespace Sb
open PySem L2
theorem kit_tup_int {K : PySem.W.Frag} : PySem.W.kitOne K (.type "tuple") (.type "int") = some false:=by
 show (if (Value.type "tuple" == Value.type "int") = true then some true else (if PySem.W.kitMeta "int" = true then (fastBuiltinMro "tuple").map (·.contains (Value.type "int")) else none)) = some false
 decide +kernel
theorem RepL.crude {n : Nat} : ∀ {rs : List Rat},(∀ r ∈ rs,Good n r) -> ∃ D Ws,RepL (n * rs.length + 1) D Ws rs
 | [],_=>⟨1,[],by decide,by show (1 : Int).natAbs < 2 ^ (n * 0 + 1); rw [Nat.mul_zero]; decide,rfl,fun i W r e=>by simp at e⟩
 | r :: rs,h=>by
  obtain ⟨D,Ws,rp⟩:=RepL.crude (n:=n) (rs:=rs) fun x hx=>h x (List.mem_cons_of_mem _ hx)
  have g:=h r List.mem_cons_self
  have el : n * (r :: rs).length + 1 = n + (n * rs.length + 1):=by rw [List.length_cons,Nat.mul_add,Nat.mul_one]; omega
  rw [el]
  refine ⟨r.2 * D,r.1 * D :: Ws.map (r.2 * ·),Int.mul_pos g.pos rp.pos,g.b2.mul rp.bD,by simp [rp.len],fun i W x eW ex=>?_⟩
  cases i with
  | zero =>
   simp at eW ex
   subst eW
   subst ex
   exact ⟨by rw [Int.mul_assoc,Int.mul_comm D,← Int.mul_assoc],g.b1.mul rp.bD,g.low⟩
  | succ i =>
   simp at eW ex
   obtain ⟨z,ez,rfl⟩:=eW
   obtain ⟨e1,b1,l1⟩:=rp.at_ i z x ez ex
   refine ⟨?_,g.b2.mul b1,l1⟩
   rw [Int.mul_left_comm,e1,Int.mul_assoc]
def colR (rss : List (List Rat)) (k : Nat) : List Rat:=rss.map fun rs=>rs.getD k (0,1)
def comeW (c : Nat) (rss : List (List Rat)) (ms : List Rat) : List Rat:=(List.range c).map fun k=>sumR (List.zipWith mulR' (colR rss k) ms)
theorem mul_swap8 (r s : Rat) : mulR' r s = mulR' s r:=by
 unfold mulR'
 rw [Int.mul_comm r.1,Int.mul_comm r.2]
theorem zip_swap8 (xs ys : List Rat) : List.zipWith mulR' xs ys = List.zipWith mulR' ys xs:=List.zipWith_comm_of_comm mul_swap8
theorem colR_good {n c k : Nat} {rss : List (List Rat)} (hk : k < c) (h : ∀ rs ∈ rss,rs.length = c /\ ∀ r ∈ rs,Good n r) : ∀ r ∈ colR rss k,Good n r:=fun r hr=>by
 obtain ⟨rs,hm,rfl⟩:=List.mem_map.mp hr
 obtain ⟨l,g⟩:=h rs hm
 have : rs.getD k (0,1) = rs[k]'(by omega):=by simp [List.getD,show k < rs.length by omega]
 rw [this]
 exact g _ (List.getElem_mem _)
section
variable {P : Program} {w : World} {K : PySem.W.Frag} {mg : Str -> Option Value} {base : Heap}
def spWholeT (K : PySem.W.Frag) : Sp:=fun vs H Q _=>∃ (a : Addr) (xs : List V),vs = [.ref a] /\ SqT K H a xs /\ Q (.bl false) H
theorem scIsWholeT : FnScope ["value"] ["value"] (defScope sIsWhole):=⟨rfl,rfl,rfl,by decide +kernel,rfl,by decide +kernel,by decide +kernel⟩
theorem okIsWholeT (D : Def K mg "is_whole" sIsWhole ["value"]) (T : Blt mg) : Has P w K mg base 1 "is_whole" ["value"] (spWholeT K):=by
 refine D.has fun f fd F=>F.ok scIsWholeT (fun vs H Q E h=>?_) (fun cdv A outer s H vs Q E hr h=>?_)
 ·obtain ⟨a,xs,rfl,_⟩:=h
  rfl
 ·obtain ⟨a,xs,rfl,hA,q⟩:=h
  have sc:=scIsWholeT
  refine ⟨_,(pss_one (ps_ret (pe_and (pe_callB call_isinstT rfl T.isinstance PyProof.Rows.boot_isinstance (pa_cons (pv 0) (pa_cons (pe_ty T.int PyProof.Rows.boot_int) pa_nil))) (pe_one (pe_not (pe_callB call_isinstT rfl T.isinstance PyProof.Rows.boot_isinstance (pa_cons (pv 0) (pa_cons (pe_ty T.bool PyProof.Rows.boot_bool) pa_nil)))))))),?_⟩
  exact ⟨_,rfl,_,_,_,_,rfl,hA,kit_tup_int,_,rfl,iteF q⟩
def spAsR (K : PySem.W.Frag) : Sp:=fun vs H Q _=>∃ (a : Addr) (xs : List V),vs = [.ref a] /\ SqT K H a xs /\ Q (.ref a) H
theorem scAsR : FnScope ["multiple"] ["multiple"] (defScope sAsRatio):=⟨rfl,rfl,rfl,by decide +kernel,rfl,by decide +kernel,by decide +kernel⟩
theorem okAsR (D : Def K mg "as_ratio" sAsRatio ["multiple"]) (hIsWhole : Has P w K mg base 1 "is_whole" ["value"] (spWholeT K)) : Has P w K mg base 2 "as_ratio" ["multiple"] (spAsR K):=by
 refine D.has fun f fd F=>F.ok scAsR (fun vs H Q E h=>?_) (fun cdv A outer s H vs Q E hr h=>?_)
 ·obtain ⟨a,xs,rfl,_⟩:=h
  rfl
 ·obtain ⟨a,xs,rfl,hA,q⟩:=h
  have sc:=scAsR
  refine ⟨_,(pss_one (ps_ret (pe_ifExp (pt_val (pe_use hIsWhole (hr.mono (by decide)) rfl (pa_cons (pv 0) pa_nil))) (pe_tup (pa_cons (pv 0) (pa_cons pe_int pa_nil))) (pv 0)))),?_⟩
  exact ⟨_,rfl,a,xs,rfl,hA,_,rfl,iteF ⟨_,rfl,q⟩⟩
def LstAt (K : PySem.W.Frag) (H : Hp) (a : Addr) (ms : List Rat) : Prop:=∃ xs,H a = some (.lst xs) /\ Rs K H ms xs
def spComeTo (K : PySem.W.Frag) : Sp:=fun vs H Q _=>∃ (l q : Addr) (c : Nat) (rss : List (List Rat)) (ms : List Rat),vs = [.int (c : Int),.ref l,.ref q] /\ RowsAt K H l rss /\ LstAt K H q ms /\ ms.length = rss.length /\ rss.length <= 30 /\ c <= 100 /\ (∀ rs ∈ rss,rs.length = c /\ ∀ r ∈ rs,Good 43 r) /\ (∀ m ∈ ms,Good 43 m) ∧
 ∀ (a : Addr) (H' : Hp),Same H H' -> RowAt K H' a (comeW c rss ms) -> Q (.ref a) H'
theorem scComeTo : FnScope ["count","rows","multiples","taken"] ["count","rows","multiples"] (defScope sComeTo):=⟨rfl,rfl,rfl,by decide +kernel,rfl,by decide +kernel,by decide +kernel⟩
set_option maxHeartbeats 800000 in
theorem okComeTo (D : Def K mg "come_to" sComeTo ["count","rows","multiples"]) (T : Blt mg) (hAsRatio : Has P w K mg base 2 "as_ratio" ["multiple"] (spAsR K)) (hMean : Has P w K mg base 4 "mean" ["weights","row"] (spMeanP K)) : Has P w K mg base 5 "come_to" ["count","rows","multiples"] (spComeTo K):=by
 refine D.has fun f fd F=>F.ok scComeTo (fun vs H Q E h=>?_) (fun cdv A outer s H vs Q E hr h=>?_)
 ·obtain ⟨l,q,c,rss,ms,rfl,_⟩:=h
  rfl
 ·obtain ⟨l,q,c,rss,ms,rfl,⟨ads,hl,hA⟩,⟨xs,hq,hms⟩,lm,few,hc,hrs,gms,k⟩:=h
  have sc:=scComeTo
  have nd1 : (["multiple"] : List Str).Nodup:=by decide +kernel
  have nd2 : (["world","rows","taken"] : List Str).Nodup:=by decide +kernel
  have nd3 : (["row","world"] : List Str).Nodup:=by decide +kernel
  refine ⟨_,(pss_cons (ps_set (i:=3) sc.nd rfl (Or.inr rfl) (pe_comp (N:=["multiple"]) (k:=1) (fv:=[]) rfl (pi_list (pv 2))
   (fun _ _ _ _ _=>pg_name (i:=0) nd1 rfl (Or.inl rfl)) (fun _ _ _ _ _=>pts_nil) (fun _ _ _ _ _=>(pe_use hAsRatio (hr.mono (by decide)) rfl (pa_cons (pv 0) pa_nil))) weak_name))
   (pss_one (ps_ret (pe_callTy call_tuple_of rfl T.tuple PyProof.Rows.boot_tuple (pa_cons (pe_compC (x0:="world") (N:=["world","rows","taken"]) (k:=1) (fv:=[1,3]) rfl (pi_range1 rfl T.range (pa_cons (pv 0) pa_nil))
   (fun _ _ _ _ _=>pg_name (i:=0) nd2 rfl (Or.inr rfl)) (fun _ _ _ _ _=>pts_nil) (fun _ _ _ _ _=>(pe_use hMean (hr.mono (by decide)) rfl (pa_cons (pv 2) (pa_cons (pe_comp (N:=["row","world"]) (k:=1) (fv:=[0]) rfl (pi_listK (K:=K) (pv 1))
   (fun _ _ _ _ _=>pg_name (i:=0) nd3 rfl (Or.inl rfl)) (fun _ _ _ _ _=>pts_nil) (fun _ _ _ _ _=>(pe_ix (ix_tK (K:=K)) (pv 0) (pv 1) (fun _ _=>rfl))) weak_name) pa_nil)))) weak_name) pa_nil))))),?_⟩
  have lads:=Paired.length hA
  have lx:=hms.len
  refine ⟨_,rfl,q,rfl,⟨_,SqL.of hq⟩,fun d hd=>?_⟩
  refine ⟨ms.length,fun i ys H2=>Same H H2 /\ Rs K H2 (ms.take i) ys,size1000 (by omega),⟨Same.new hd,.nil⟩,?_,?_⟩
  ·rintro i ys H2 hi ⟨S2,R2⟩ hd2
   refine ⟨⟨xs,xs[i]'(by omega),SqL.of (S2 _ _ hq),by simp⟩,?_⟩
   rintro x H3 ⟨rfl,fx⟩
   obtain ⟨r,er,ix⟩:=hms.back (fx xs (SqL.of (S2 _ _ hq)))
   obtain ⟨a1,rfl,sq1⟩:=ix.ext (Ext.same S2)
   refine nameyes ?_
   refine ⟨_,rfl,a1,_,rfl,sq1,hd2,fun q' o' e=>?_,?_⟩
   ·rw [upd_ne (ne_of_none e hd)]
    exact S2 _ _ e
   ·rw [take_snoc er]
    exact (R2.ext (Ext.upd hd2)).snoc ⟨a1,rfl,(Ext.upd hd2).sq sq1⟩
  rintro ys H1 ⟨S1,R1⟩ hd1
  rw [List.take_of_length_le (Nat.le_refl _)] at R1
  refine ⟨⟨xs,SqL.of (S1 _ _ hq),by omega⟩,?_⟩
  replace hl:=S1 _ _ hl
  replace hA:=rows_ext hA (Ext.same S1)
  refine ⟨_,rfl,(c : Int),rfl,(by omega),(by omega),fun d0 hd0=>?_⟩
  have et : (c : Int).toNat = c:=by omega
  rw [et]
  obtain ⟨Dm,Wm,rm⟩:=RepL.crude gms
  refine ⟨c,fun j ys H'=>Same H1 H' /\ Rs K H' ((comeW c rss ms).take j) ys,size1000 (by omega),⟨Same.new hd0,.nil⟩,?_,?_⟩
  ·rintro j zs H2 hj ⟨S2,R2⟩ hd2
   refine ⟨hj,?_⟩
   rintro x H3 ⟨rfl,rfl⟩
   have e0 : (0 + (j : Int)) = ((j : Nat) : Int):=by omega
   rw [e0]
   refine nameyes ?_
   have hl3:=S2 _ _ hl
   have A3:=rows_ext hA (Ext.same S2)
   refine ⟨_,rfl,_,rfl,l,rfl,⟨_,SqL.of hl3⟩,fun d2 hd2'=>?_⟩
   refine ⟨rss.length,fun i us H'=>Same H3 H' /\ Rs K H' ((colR rss j).take i) us,size1000 (by omega),⟨Same.new hd2',.nil⟩,?_,?_⟩
   ·rintro i us H4 hi ⟨S4,R4⟩ hd4
    have hia : i < ads.length:=by omega
    refine ⟨⟨_,V.ref (ads[i]'hia),SqL.of (S4 _ _ hl3),by simp [hia]⟩,?_⟩
    rintro x H5 ⟨rfl,fx⟩
    have ex : x = V.ref (ads[i]'hia):=by
     have:=fx _ (SqL.of (S4 _ _ hl3))
     rw [List.getElem?_map,List.getElem?_eq_getElem hia] at this
     exact (Option.some.inj this).symm
    subst ex
    have er : rss[i]? = some rss[i]:=by simp [hi]
    obtain ⟨lr,gr⟩:=hrs rss[i] (List.getElem_mem hi)
    obtain ⟨vs,hvs,rvs⟩:=(Paired.getB A3 (show ads[i]? = some ads[i] by simp [hia]) er).same S4
    have lv:=rvs.len
    have ew : rss[i][j]? = some (rss[i][j]'(by omega)):=by simp
    obtain ⟨x1,ex1,b1,rfl,sq1⟩:=rvs.at ew
    refine nameyes ?_
    refine ⟨_,rfl,_,rfl,ads[i],_,_,_,rfl,rfl,hvs,atI_nat ex1,hd4,fun q' o' e=>?_,?_⟩
    ·rw [upd_ne (ne_of_none e hd2')]
     exact S4 _ _ e
    ·have ec : (colR rss j)[i]? = some (rss[i][j]'(by omega)):=by
      unfold colR
      rw [List.getElem?_map,er]
      simp [List.getD,show j < rss[i].length by omega]
     rw [take_snoc ec]
     exact (R4.ext (Ext.upd hd4)).snoc ⟨b1,rfl,(Ext.upd hd4).sq sq1⟩
   rintro us H4 ⟨S4,R4⟩ hd4
   have lcol : (colR rss j).length = rss.length:=by unfold colR; rw [List.length_map]
   rw [List.take_of_length_le (by omega)] at R4
   refine ⟨⟨_,SqL.of (S4 _ _ hl3),by rw [List.length_map]; omega⟩,?_⟩
   have S14:=S2.trans S4
   obtain ⟨Dc,Wc,rc⟩:=RepL.crude (colR_good hj hrs)
   have bm : 43 * ms.length + 1 <= 43 * 30 + 1:=by omega
   have bc : 43 * (colR rss j).length + 1 <= 43 * 30 + 1:=by omega
   refine ⟨d,d2,ys,us,ms,colR rss j,_,_,Dm,Dc,Wm,Wc,rfl,.inl (SqL.of (S14 _ _ hd1)),R1.ext (Ext.same S14),.inl (SqL.of hd4),R4,by omega,by omega,rm,rc,by omega,fun cm H5 S5 e5=>?_⟩
   have S15:=S4.trans S5
   have hd5:=S15 _ _ hd2
   refine ⟨hd5,fun q' o' e=>?_,?_⟩
   ·rw [upd_ne (ne_of_none e hd0)]
    exact S15 _ _ (S2 _ _ e)
   ·have ec : (comeW c rss ms)[j]? = some (sumR (List.zipWith mulR' ms (colR rss j))):=by
     unfold comeW
     rw [List.getElem?_map,zip_swap8 ms]
     simp [hj]
    rw [take_snoc ec]
    exact (R2.ext ((Ext.same S15).trans (Ext.upd hd5))).snoc ⟨cm,rfl,(Ext.upd hd5).sq e5⟩
  rintro zs H2 ⟨S2,R2⟩ hd2
  have lcw : (comeW c rss ms).length = c:=by unfold comeW; simp
  rw [List.take_of_length_le (by omega)] at R2
  refine ⟨Nat.le_refl _,d0,zs,rfl,.inl ⟨SqL.of hd2,fun ar har=>?_⟩⟩
  exact k ar _ ((S1.trans S2).trans (Same.new har)) ⟨zs,SqT.of upd_same,R2.ext (Ext.new har)⟩
end
end Sb
namespace Sb
open PySem L2
section
variable {P : Program} {w : World} {K : PySem.W.Frag} {mg : Str -> Option Value} {base : Heap}
theorem scLSides : FnScope ["_law_offers","_law_some","_law_number"] ["_law_offers"] (defScope sLSides):=⟨rfl,rfl,rfl,by decide +kernel,rfl,by decide +kernel,by decide +kernel⟩
set_option maxHeartbeats 800000 in
theorem okLSides (D : Def K mg "_law_sides" sLSides ["_law_offers"]) (T : Blt mg) : Has P w K mg base 2 "_law_sides" ["_law_offers"] (spSides K):=by
 refine D.has fun f fd F=>F.ok scLSides (fun vs H Q E h=>?_) (fun cdv A outer s H vs Q E hr h=>?_)
 ·obtain ⟨l,c,os,rfl,_⟩:=h
  rfl
 ·obtain ⟨l,c,os,rfl,⟨vs,hl,hO⟩,hlen,k⟩:=h
  have sc:=scLSides
  refine ⟨_,(pss_cons (ps_set (i:=1) sc.nd rfl (Or.inl rfl) (pe_lst pa_nil))
   (pss_cons (ps_for PassesOwn.never rfl (pi_range1 rfl T.range (pa_cons (pe_callB call_len_seq rfl T.len boot_len (pa_cons (pv 0) pa_nil)) pa_nil)) (pg_name (i:=2) sc.nd rfl (Or.inl rfl))
    (pss_cons (ps_join (ps_if (pt_cmpR op_notN (pe_ix ix_tup (pe_ix ix_list (pv 0) (pv 2) (fun _ _=>rfl)) pe_int (fun _ _=>rfl)) pe_non (nomark _))
     (pss_one (ps_expr (pe_bm PySem.F.plainAttrs_list PySem.F.slot_list_append PySem.F.type_list_append mt_append (pv 1) (pa_cons (pe_tup (pa_cons (pv 2) (pa_cons pe_str pa_nil))) pa_nil))))
     pss_nil))
    (pss_one (ps_if (pt_cmpR op_notN (pe_ix ix_tup (pe_ix ix_list (pv 0) (pv 2) (fun _ _=>rfl)) pe_int (fun _ _=>rfl)) pe_non (nomark _))
     (pss_one (ps_expr (pe_bm PySem.F.plainAttrs_list PySem.F.slot_list_append PySem.F.type_list_append mt_append (pv 1) (pa_cons (pe_tup (pa_cons (pv 2) (pa_cons pe_str pa_nil))) pa_nil))))
     pss_nil))))
   (pss_one (ps_ret (pv 1))))),?_⟩
  have lo:=Paired.length hO
  refine ⟨(by show 0 <= sizeLine; decide),fun d hd=>?_⟩
  have S0 : Same H (upd H d (.lst [])):=Same.new hd
  have up : ∀ (zs : List V) (H1 : Hp),Same H H1 -> Same H (upd H1 d (.lst zs)):=fun zs H1 S1 q o e=>by
   rw [upd_ne (ne_of_none e hd)]
   exact S1 _ _ e
  refine ⟨_,rfl,l,_,rfl,.inl (SqL.of (S0 _ _ hl)),(vs.length : Int),rfl,(by omega),(by omega),?_⟩
  have et : ((vs.length : Nat) : Int).toNat = os.length:=by omega
  rw [et]
  refine for_range (lo:=0) (n:=os.length) (fun i σ H'=>Same H H' /\ ∃ (ws : List V) (x : Option V),σ = [some (.ref l),some (.ref d),x] /\ H' d = some (.lst ws) /\ Paired (SideV K H') ws (sidesP os i)) ⟨S0,[],none,rfl,upd_same,.nil⟩ ?_ ?_
  ·rintro i σ H1 hi ⟨S1,ws,x,rfl,hd1,P1⟩
   have e0 : (0 + (i : Int)) = ((i : Nat) : Int):=by omega
   rw [e0]
   have hiv : i < vs.length:=by omega
   have eo : os[i]? = some (os.getD i offD):=by simp [List.getD,hi]
   have ev : vs[i]? = some vs[i]:=by simp [hiv]
   have hv:=(Paired.getB hO ev eo).same S1
   obtain ⟨p,ar,va,vb,ve,ep,hp,ha,hb⟩:=hv.asks
   have lw1:=Paired.length P1
   have sl:=sidesP_len os i
   generalize ho : os.getD i offD = o at *
   have put : ∀ (H2 : Hp) (ws2 : List V) (ss : List (Nat × Bool)) (b : Bool) (t : Addr),Same H H2 -> H2 d = some (.lst ws2) -> Paired (SideV K H2) ws2 ss -> H2 t = none -> (∀ q o',H q = some o' -> upd (upd H2 t (.tup [.int (i : Int),.str (wordO b)])) d (.lst (ws2 ++ [.ref t])) q = some o') /\ Paired (SideV K (upd (upd H2 t (.tup [.int (i : Int),.str (wordO b)])) d (.lst (ws2 ++ [.ref t])))) (ws2 ++ [.ref t]) (ss ++ [(i,b)]):=fun H2 ws2 ss b t S2 hd2 P2 ht=>by
    have S3 : Same H2 (upd H2 t (.tup [.int (i : Int),.str (wordO b)])):=Same.new ht
    have hd3:=S3 _ _ hd2
    refine ⟨fun q o' e=>?_,?_⟩
    ·rw [upd_ne (ne_of_none e hd)]
     exact S3 _ _ (S2 _ _ e)
    ·have x7:=(Ext.same S3).trans (Ext.upd (o:=.lst (ws2 ++ [.ref t])) hd3)
     exact Paired.snoc (Paired.mapP P2 fun _ _ q=>q.ext x7) ⟨t,rfl,(Ext.upd hd3).sq (SqT.of upd_same)⟩
   refine ⟨fun σ H'=>Same H H' /\ ∃ (ws : List V),σ = [some (.ref l),some (.ref d),some (.int (i : Int))] /\ H' d = some (.lst ws) /\ Paired (SideV K H') ws (sidesP os i ++ if o.ask.isSome then [(i,true)] else []) /\ SqT K H' p [.ref ar,va,vb,ve],?_,?_⟩
   ·refine ⟨_,rfl,_,rfl,l,_,_,_,rfl,rfl,SqL.of (S1 _ _ hl),atI_nat ev,?_⟩
    rw [ep]
    refine ⟨p,_,_,_,rfl,rfl,hp,atI_nat (j:=1) rfl,rfl,_,rfl,?_⟩
    cases qa : o.ask with
    | none =>
     have en:=ha.mpr qa
     subst en
     refine iteF ⟨S1,ws,rfl,hd1,?_,hp⟩
     rw [show (none : Option Rat).isSome = false from rfl,if_neg Bool.false_ne_true,List.append_nil]
     exact P1
    | some r =>
     have nn : va ≠ V.non:=fun z=>by rw [ha.mp z] at qa; cases qa
     have go : ∀ (C D : Prop),C -> (if (!decide (va = V.non)) = true then C else D):=fun C D hC=>by
      rw [decide_eq_false nn]
      exact hC
     refine go _ _ ?_
     refine ⟨_,rfl,.inl ⟨rfl,_,SqL.of hd1⟩,_,rfl,(by show 2 <= sizeLine; decide),fun t ht=>?_⟩
     have S3 : Same H1 (upd H1 t (.tup [.int (i : Int),.str "buy"])):=Same.new ht
     obtain ⟨a1,a2⟩:=put H1 ws _ true t S1 hd1 P1 ht
     refine ⟨d,_,_,rfl,rfl,S3 _ _ hd1,small1000 (by omega),a1,_,rfl,upd_same,?_,(Ext.upd (S3 _ _ hd1)).sq (sameT S3 hp)⟩
     rw [show (some r : Option Rat).isSome = true from rfl,if_pos rfl]
     exact a2
   ·rintro σ H2 ⟨S2,ws2,rfl,hd2,P2,hp2⟩
    have lw2:=Paired.length P2
    have l1 : (if o.ask.isSome then [(i,true)] else [] : List (Nat × Bool)).length <= 1:=by split <;> simp
    rw [List.length_append] at lw2
    refine ⟨_,rfl,_,rfl,l,_,_,_,rfl,rfl,SqL.of (S2 _ _ hl),atI_nat ev,?_⟩
    rw [ep]
    refine ⟨p,_,_,_,rfl,rfl,hp2,atI_nat (j:=2) rfl,rfl,_,rfl,?_⟩
    have es : sidesP os (i + 1) = (sidesP os i ++ if o.ask.isSome then [(i,true)] else []) ++ if o.bid.isSome then [(i,false)] else []:=by
     rw [sidesP_succ,ho,List.append_assoc]
     unfold wordsO
     cases o.ask <;> cases o.bid <;> rfl
    cases qb : o.bid with
    | none =>
     have en:=hb.mpr qb
     subst en
     refine iteF ⟨S2,ws2,_,rfl,hd2,?_⟩
     rw [es,qb,show (none : Option Rat).isSome = false from rfl,if_neg Bool.false_ne_true,List.append_nil]
     exact P2
    | some r =>
     have nn : vb ≠ V.non:=fun z=>by rw [hb.mp z] at qb; cases qb
     have go : ∀ (C D : Prop),C -> (if (!decide (vb = V.non)) = true then C else D):=fun C D hC=>by
      rw [decide_eq_false nn]
      exact hC
     refine go _ _ ?_
     refine ⟨_,rfl,.inl ⟨rfl,_,SqL.of hd2⟩,_,rfl,(by show 2 <= sizeLine; decide),fun t ht=>?_⟩
     have S3 : Same H2 (upd H2 t (.tup [.int (i : Int),.str "sell"])):=Same.new ht
     obtain ⟨a1,a2⟩:=put H2 ws2 _ false t S2 hd2 P2 ht
     refine ⟨d,_,_,rfl,rfl,S3 _ _ hd2,small1000 (by omega),a1,_,_,rfl,upd_same,?_⟩
     rw [es,qb,show (some r : Option Rat).isSome = true from rfl,if_pos rfl]
     exact a2
  ·rintro σ H1 ⟨S1,ws,x,rfl,hd1,P1⟩
   exact ⟨_,rfl,k d ws H1 hd S1 hd1 P1⟩
theorem alike8 {H : Hp} {i : Int} {z : Str} : Paired (EqU K H 0) [V.int i,V.str z] [V.int i,V.str z]:=.cons (EqU.flat rfl) (.cons (EqU.flat rfl) .nil)
def spSidesAre (K : PySem.W.Frag) : Sp:=fun vs H Q _=>∃ (a b : Addr) (ws zs : List V) (ss : List (Nat × Bool)),vs = [.ref a,.ref b] /\ H a = some (.lst ws) /\ H b = some (.lst zs) /\ Paired (SideV K H) ws ss /\ Paired (SideV K H) zs ss /\ ss.length <= 1000 /\ Q (.bl true) H
theorem scSidesAre : FnScope ["_law_found","_law_due","_law_k"] ["_law_found","_law_due"] (defScope sSidesAre):=⟨rfl,rfl,rfl,by decide +kernel,rfl,by decide +kernel,by decide +kernel⟩
theorem okSidesAre (D : Def K mg "_law_sides_are" sSidesAre ["_law_found","_law_due"]) (T : Blt mg) (hLawWhole : Has P w K mg base 1 "_law_whole" ["_law_found"] spWhole) : Has P w K mg base 2 "_law_sides_are" ["_law_found","_law_due"] (spSidesAre K):=by
 refine D.has fun f fd F=>F.ok scSidesAre (fun vs H Q E h=>?_) (fun cdv A outer s H vs Q E hr h=>?_)
 ·obtain ⟨a,b,ws,zs,ss,rfl,_⟩:=h
  rfl
 ·obtain ⟨a,b,ws,zs,ss,rfl,ha,hb,hW,hZ,hl,q⟩:=h
  have hU64:=hr.units
  have sc:=scSidesAre
  refine ⟨_,(pss_cons (ps_if (PW.pt (pw_or (pt_not (pt_val (pe_callB call_isinst rfl T.isinstance PyProof.Rows.boot_isinstance (pa_cons (pv 0) (pa_cons (pe_ty T.list PyProof.Rows.boot_list) pa_nil))))) (pw_or1 (pt_cmpR op_ne (pe_callB call_len_seq rfl T.len boot_len (pa_cons (pv 0) pa_nil)) (pe_callB call_len_seq rfl T.len boot_len (pa_cons (pv 1) pa_nil)) (nomark _)))))
    (pss_one (ps_ret pe_bl))
    pss_nil)
   (pss_cons (ps_for PassesOwn.never rfl (pi_range1 rfl T.range (pa_cons (pe_callB call_len_seq rfl T.len boot_len (pa_cons (pv 1) pa_nil)) pa_nil)) (pg_name (i:=2) sc.nd rfl (Or.inl rfl))
    (pss_cons (ps_if (PW.pt (pw_or (pt_not (pt_val (pe_callB call_isinstT rfl T.isinstance PyProof.Rows.boot_isinstance (pa_cons (pe_ix ix_list (pv 0) (pv 2) (fun _ _=>rfl)) (pa_cons (pe_ty T.tuple PyProof.Rows.boot_tuple) pa_nil))))) (pw_or (pt_cmpR op_ne (pe_callB call_len_seq rfl T.len boot_len (pa_cons (pe_ix ix_list (pv 0) (pv 2) (fun _ _=>rfl)) pa_nil)) pe_int (nomark _)) (pw_or1 (pt_not (pt_val (pe_use hLawWhole (hr.mono (by decide)) rfl (pa_cons (pe_ix ix_p0 (pe_ix ix_list (pv 0) (pv 2) (fun _ _=>rfl)) pe_int (fun _ _=>rfl)) pa_nil))))))))
     (pss_one (ps_ret pe_bl))
     pss_nil)
    (pss_one (ps_if (pt_cmpR (op_neU (K:=K) hU64) (pe_ix ix_list (pv 0) (pv 2) (fun _ _=>rfl)) (pe_ix ix_list (pv 1) (pv 2) (fun _ _=>rfl)) (nomark _))
     (pss_one (ps_ret pe_bl))
     pss_nil))))
   (pss_one (ps_ret pe_bl)))),?_⟩
  have lw:=Paired.length hW
  have lz:=Paired.length hZ
  refine ⟨_,rfl,_,_,_,_,rfl,TyOf.lst ha,kit_same,_,rfl,iteF ?_⟩
  refine ⟨_,rfl,a,_,rfl,.inl (SqL.of ha),_,rfl,b,_,rfl,.inl (SqL.of hb),rfl,_,rfl,iteNS (by rw [lw,lz]) ?_⟩
  refine ⟨_,rfl,b,_,rfl,.inl (SqL.of hb),(zs.length : Int),rfl,(by omega),(by omega),?_⟩
  have et : (zs.length : Int).toNat = zs.length:=by omega
  rw [et]
  refine for_range (lo:=0) (n:=zs.length) (fun i σ H'=>H' = H /\ ∃ v : Option V,σ = [some (.ref a),some (.ref b),v]) ⟨rfl,none,rfl⟩ ?_ ?_
  ·rintro i σ H' hi ⟨rfl,v,rfl⟩
   have e0 : (0 + (i : Int)) = ((i : Nat) : Int):=by omega
   rw [e0]
   have hiw : i < ws.length:=by omega
   have his : i < ss.length:=by omega
   have ew : ws[i]? = some ws[i]:=by simp [hiw]
   have ez : zs[i]? = some zs[i]:=by simp [hi]
   have es : ss[i]? = some ss[i]:=by simp [his]
   obtain ⟨t1,e1,sq1⟩:=Paired.getB hW ew es
   obtain ⟨t2,e2,sq2⟩:=Paired.getB hZ ez es
   rw [e1] at ew
   rw [e2] at ez
   refine ⟨_,rfl,_,rfl,a,_,_,_,rfl,rfl,SqL.of ha,atI_nat ew,_,_,_,_,rfl,sq1,kit_same,_,rfl,iteF ?_⟩
   refine ⟨_,rfl,_,rfl,a,_,_,_,rfl,rfl,SqL.of ha,atI_nat ew,t1,_,rfl,.inr sq1,rfl,_,rfl,iteNS rfl ?_⟩
   refine ⟨_,rfl,_,rfl,a,_,_,_,rfl,rfl,SqL.of ha,atI_nat ew,t1,_,_,rfl,rfl,sq1,_,rfl,_,rfl,iteF ?_⟩
   refine ⟨_,rfl,_,rfl,a,_,_,_,rfl,rfl,SqL.of ha,atI_nat ew,_,rfl,_,rfl,b,_,_,_,rfl,rfl,SqL.of hb,atI_nat ez,0,t1,t2,_,_,rfl,rfl,by decide,.inr ⟨sq1,sq2⟩,alike8,_,rfl,iteF ?_⟩
   exact ⟨rfl,_,rfl⟩
  ·rintro σ H' ⟨rfl,v,rfl⟩
   exact q
def spRowsAre (K : PySem.W.Frag) : Sp:=fun vs H Q _=>∃ (a b : Addr) (n : Nat) (rss : List (List Rat)),vs = [.ref a,.ref b] /\ RowsAt K H a rss /\ RowsAt K H b rss /\ rss.length <= 1000 /\ n <= 4000 /\ (∀ rs ∈ rss,rs.length <= 1000 /\ ∀ r ∈ rs,Good n r) /\ Q (.bl true) H
theorem scRowsAre : FnScope ["_law_found","_law_due","_law_k"] ["_law_found","_law_due"] (defScope sRowsAre):=⟨rfl,rfl,rfl,by decide +kernel,rfl,by decide +kernel,by decide +kernel⟩
theorem okRowsAre (D : Def K mg "_law_rows_are" sRowsAre ["_law_found","_law_due"]) (T : Blt mg) (hLawRowIs : Has P w K mg base 3 "_law_row_is" ["_law_found","_law_due"] (spRowIs K)) : Has P w K mg base 4 "_law_rows_are" ["_law_found","_law_due"] (spRowsAre K):=by
 refine D.has fun f fd F=>F.ok scRowsAre (fun vs H Q E h=>?_) (fun cdv A outer s H vs Q E hr h=>?_)
 ·obtain ⟨a,b,n,rss,rfl,_⟩:=h
  rfl
 ·obtain ⟨a,b,n,rss,rfl,⟨ads,ha,hA⟩,⟨bds,hb,hB⟩,hl,hn,hg,q⟩:=h
  have sc:=scRowsAre
  refine ⟨_,(pss_cons (ps_if (PW.pt (pw_or (pt_not (pt_val (pe_callB call_isinst rfl T.isinstance PyProof.Rows.boot_isinstance (pa_cons (pv 0) (pa_cons (pe_ty T.list PyProof.Rows.boot_list) pa_nil))))) (pw_or1 (pt_cmpR op_ne (pe_callB call_len_seq rfl T.len boot_len (pa_cons (pv 0) pa_nil)) (pe_callB call_len_seq rfl T.len boot_len (pa_cons (pv 1) pa_nil)) (nomark _)))))
    (pss_one (ps_ret pe_bl))
    pss_nil)
   (pss_cons (ps_for PassesOwn.never rfl (pi_range1 rfl T.range (pa_cons (pe_callB call_len_seq rfl T.len boot_len (pa_cons (pv 1) pa_nil)) pa_nil)) (pg_name (i:=2) sc.nd rfl (Or.inl rfl))
    (pss_one (ps_if (pt_not (pt_val (pe_use hLawRowIs (hr.mono (by decide)) rfl (pa_cons (pe_ix ix_list (pv 0) (pv 2) (fun _ _=>rfl)) (pa_cons (pe_ix ix_list (pv 1) (pv 2) (fun _ _=>rfl)) pa_nil)))))
     (pss_one (ps_ret pe_bl))
     pss_nil)))
   (pss_one (ps_ret pe_bl)))),?_⟩
  have lA:=Paired.length hA
  have lB:=Paired.length hB
  refine ⟨_,rfl,_,_,_,_,rfl,TyOf.lst ha,kit_same,_,rfl,iteF ?_⟩
  refine ⟨_,rfl,a,_,rfl,.inl (SqL.of ha),_,rfl,b,_,rfl,.inl (SqL.of hb),rfl,_,rfl,iteNS (by rw [List.length_map,List.length_map,lA,lB]) ?_⟩
  refine ⟨_,rfl,b,_,rfl,.inl (SqL.of hb),((bds.map V.ref).length : Int),rfl,(by rw [List.length_map]; omega),(by rw [List.length_map]; omega),?_⟩
  have et : (((bds.map V.ref).length : Nat) : Int).toNat = rss.length:=by rw [List.length_map]; omega
  rw [et]
  refine for_range (lo:=0) (n:=rss.length) (fun i σ H'=>H' = H /\ ∃ v : Option V,σ = [some (.ref a),some (.ref b),v]) ⟨rfl,none,rfl⟩ ?_ ?_
  ·rintro i σ H' hi ⟨rfl,v,rfl⟩
   have e0 : (0 + (i : Int)) = ((i : Nat) : Int):=by omega
   rw [e0]
   have hia : i < ads.length:=by omega
   have hib : i < bds.length:=by omega
   have er : rss[i]? = some rss[i]:=by simp [hi]
   obtain ⟨x1,h1,r1⟩:=Paired.getB hA (show ads[i]? = some ads[i] by simp [hia]) er
   obtain ⟨x2,h2,r2⟩:=Paired.getB hB (show bds[i]? = some bds[i] by simp [hib]) er
   obtain ⟨l1,g1⟩:=hg _ (List.getElem_mem hi)
   refine ⟨_,rfl,_,rfl,a,_,_,_,rfl,rfl,SqL.of ha,atI_nat (by rw [List.getElem?_map,List.getElem?_eq_getElem hia]; rfl),_,rfl,_,rfl,b,_,_,_,rfl,rfl,SqL.of hb,atI_nat (by rw [List.getElem?_map,List.getElem?_eq_getElem hib]; rfl),?_⟩
   exact ⟨ads[i],bds[i],x1,x2,_,_,n,rfl,h1,r1,.inr h2,r2,rfl,l1,hn,alike g1,_,rfl,iteF ⟨rfl,_,rfl⟩⟩
  ·rintro σ H' ⟨rfl,v,rfl⟩
   exact q
end
end Sb
namespace Sb
open PySem L2
theorem alike_offs {K : PySem.W.Frag} {H : Hp} {c : Nat} : ∀ {vs : List V} {os : List Offr},Paired (fun v o=>OffAt K H c o v) vs os -> Paired (EqU K H 0) vs vs
 | _,_,.nil=>.nil
 | _,_,.cons h t=>.cons (by obtain ⟨p,_,_,_,_,e,_⟩:=h; rw [e]; exact EqU.flat rfl) (alike_offs t)
theorem alike_rs {K : PySem.W.Frag} {H : Hp} : ∀ {ms : List Rat} {xs : List V},Rs K H ms xs -> Paired (EqU K H 0) xs xs
 | [],_,h=>by
  have:=h.len
  cases h
  exact .nil
 | m :: ms,_,h=>by
  cases h with
  | cons q t =>
   obtain ⟨a,e,_⟩:=q
   refine .cons ?_ (alike_rs t)
   rw [e]
   exact EqU.flat rfl
theorem alike_refs {K : PySem.W.Frag} {H : Hp} : ∀ (as : List Addr),Paired (EqU K H 0) (as.map V.ref) (as.map V.ref)
 | []=>.nil
 | _ :: as=>.cons (EqU.flat rfl) (alike_refs as)
def comeP (c : Nat) (rss : List (List Rat)) (ms : List Rat) (k : Nat) : List Rat:=(List.range c).map fun j=>sumR ((List.zipWith mulR' (colR rss j) ms).take k)
theorem comeP_at {c k j : Nat} {rss : List (List Rat)} {ms : List Rat} (h : j < c) : (comeP c rss ms k)[j]? = some (sumR ((List.zipWith mulR' (colR rss j) ms).take k)):=by
 unfold comeP
 rw [List.getElem?_map]
 simp [h]
theorem comeP_len {c k : Nat} {rss : List (List Rat)} {ms : List Rat} : (comeP c rss ms k).length = c:=by unfold comeP; simp
theorem comeP_zero {c : Nat} {rss : List (List Rat)} {ms : List Rat} : comeP c rss ms 0 = List.replicate c (0,1):=by
 apply List.ext_getElem?
 intro j
 by_cases h : j < c
 ·rw [comeP_at h,List.take_zero]
  simp [h]
  rfl
 ·rw [List.getElem?_eq_none (by rw [comeP_len]; omega),List.getElem?_eq_none (by simp; omega)]
theorem comeP_all {c : Nat} {rss : List (List Rat)} {ms : List Rat} (l : ms.length = rss.length) : comeP c rss ms rss.length = comeW c rss ms:=by
 unfold comeP comeW
 apply List.map_congr_left
 intro j _
 rw [List.take_of_length_le]
 rw [List.length_zipWith]
 unfold colR
 rw [List.length_map]
 omega
theorem col_rep {c j : Nat} {rss : List (List Rat)} {ms : List Rat} (hj : j < c) (lm : ms.length = rss.length) (few : rss.length <= 30) (hrs : ∀ rs ∈ rss,rs.length = c /\ ∀ r ∈ rs,Good 43 r) (gms : ∀ m ∈ ms,Good 43 m) : ∃ D Ws,RepL 2582 D Ws (List.zipWith mulR' (colR rss j) ms):=by
 obtain ⟨D,W,r⟩:=RepL.crude (colR_good hj hrs)
 obtain ⟨D',W',r'⟩:=RepL.crude gms
 have lc : (colR rss j).length = rss.length:=by unfold colR; rw [List.length_map]
 have:=r.mul r' (by omega)
 exact ⟨_,_,this.mono (by omega)⟩
theorem comeW_good {c : Nat} {rss : List (List Rat)} {ms : List Rat} (lm : ms.length = rss.length) (few : rss.length <= 30) (hrs : ∀ rs ∈ rss,rs.length = c /\ ∀ r ∈ rs,Good 43 r) (gms : ∀ m ∈ ms,Good 43 m) : ∀ r ∈ comeW c rss ms,Good 2600 r:=fun r hr=>by
 obtain ⟨j,hj,rfl⟩:=List.mem_map.mp hr
 have hj' : j < c:=by simpa using hj
 obtain ⟨D,W,rp⟩:=col_rep hj' lm few hrs gms
 refine (rp.sumGood (k:=10) ?_).mono (by decide)
 rw [List.length_zipWith]
 omega
section
variable {P : Program} {w : World} {K : PySem.W.Frag} {mg : Str -> Option Value} {base : Heap}
def spLaw (K : PySem.W.Frag) : Sp:=fun vs H Q _=>∃ (a : Addr) (ns : List Int),vs = [.ref a] /\ SqL K H a (ns.map V.int) /\ ∀ H',Q (.bl true) H'
theorem scLaw : FnScope ["_law_script","_law_count","_law_bag_here","_law_many","_law_offers","_law_due","_law_rows","_law_handed","_law_again","_law_found","_law_told","_law_multiples","_law_come","_law_k","_law_kept"] ["_law_script"] (defScope sLaw):=⟨rfl,rfl,rfl,by decide +kernel,rfl,by decide +kernel,by decide +kernel⟩
set_option maxHeartbeats 3200000 in
theorem okLaw {f : Addr} {fd : FuncData} (F : Fun K "law" "law" sLaw f fd) (T : Blt mg) (hLawCell : Has P w K mg base 1 "_law_cell" ["_law_script","_law_k"] (spCell K)) (hLawBag : Has P w K mg base 1 "_law_bag" ["_law_cell_here"] spBag) (hLawTake : Has P w K mg base 1 "_law_take" ["_law_bag_here","_law_many"] spTake) (hLawRatio : Has P w K mg base 2 "_law_ratio" ["_law_top","_law_bottom"] spRatio)
  (hLawOffer : Has P w K mg base 5 "_law_offer" ["_law_bag_here","_law_count"] (spOffer K)) (hLawSides : Has P w K mg base 2 "_law_sides" ["_law_offers"] (spSides K)) (hLawGain : Has P w K mg base 4 "_law_gain" ["_law_offer_here","_law_word"] (spGain K)) (hSides : Has P w K mg base 2 "sides" ["offers"] (spSides K)) (hGains : Has P w K mg base 5 "gains" ["offers"] (spGainsP K)) (hLawSidesAre : Has P w K mg base 2 "_law_sides_are" ["_law_found","_law_due"] (spSidesAre K)) (hLawRowsAre : Has P w K mg base 4 "_law_rows_are" ["_law_found","_law_due"] (spRowsAre K)) (hLawPlus : Has P w K mg base 3 "_law_plus" ["_law_one","_law_other"] (spTwo K addR)) (hLawTimes : Has P w K mg base 3 "_law_times" ["_law_one","_law_other"] (spTwo K mulR')) (hComeTo : Has P w K mg base 5 "come_to" ["count","rows","multiples"] (spComeTo K))
  (hLawRowIs : Has P w K mg base 3 "_law_row_is" ["_law_found","_law_due"] (spRowIs K)) : FnOk P w K mg base CX0 6 f fd ["_law_script"] (spLaw K):=by
 refine F.ok scLaw (fun vs H Q E h=>?_) (fun cdv A outer s H vs Q E hr h=>?_)
 ·obtain ⟨a,ns,rfl,_⟩:=h
  rfl
 ·obtain ⟨a,ns,rfl,hS,k⟩:=h
  have hU64:=hr.units
  have sc:=scLaw
  have nd1 : (["_law_k","_law_count","_law_bag_here"] : List Str).Nodup:=by decide +kernel
  have nd2 : (["_law_number","_law_word","_law_offers"] : List Str).Nodup:=by decide +kernel
  have nd3 : (["_law_row_here","_law_bag_here"] : List Str).Nodup:=by decide +kernel
  have nd4 : (["_law_k"] : List Str).Nodup:=by decide +kernel
  have nd5 : (["_law_j","_law_rows","_law_multiples","_law_come","_law_k"] : List Str).Nodup:=by decide +kernel
  have nd6 : (["_law_k"] : List Str).Nodup:=by decide +kernel
  refine ⟨_,(pss_cons (ps_set (i:=1) sc.nd rfl (Or.inr rfl) (pe_op op_add pe_int (pe_op op_mod (pe_use hLawCell (hr.mono (by decide)) rfl (pa_cons (pv 0) (pa_cons pe_int pa_nil))) pe_int)))
   (pss_cons (ps_set (i:=2) sc.nd rfl (Or.inr rfl) (pe_use hLawBag (hr.mono (by decide)) rfl (pa_cons (pe_use hLawCell (hr.mono (by decide)) rfl (pa_cons (pv 0) (pa_cons pe_int pa_nil))) pa_nil)))
   (pss_cons (ps_set (i:=3) sc.nd rfl (Or.inl rfl) (pe_use hLawTake (hr.mono (by decide)) rfl (pa_cons (pv 2) (pa_cons pe_int pa_nil))))
   (pss_cons (ps_join (ps_if (pt_cmpR op_eq (pe_use hLawTake (hr.mono (by decide)) rfl (pa_cons (pv 2) (pa_cons pe_int pa_nil))) pe_int (nomark _))
    (pss_one (ps_set (i:=3) sc.nd rfl (Or.inl rfl) (pe_use hLawTake (hr.mono (by decide)) rfl (pa_cons (pv 2) (pa_cons pe_int pa_nil)))))
    pss_nil))
   (pss_cons (ps_join (ps_set (i:=4) sc.nd rfl (Or.inr rfl) (pe_comp (N:=["_law_k","_law_count","_law_bag_here"]) (k:=1) (fv:=[1,2]) rfl (pi_range1 rfl T.range (pa_cons (pv 3) pa_nil))
   (fun _ _ _ _ _=>pg_name (i:=0) nd1 rfl (Or.inl rfl)) (fun _ _ _ _ _=>pts_nil) (fun _ _ _ _ _=>(pe_use hLawOffer (hr.mono (by decide)) rfl (pa_cons (pv 2) (pa_cons (pv 1) pa_nil)))) weak_name)))
   (pss_cons (ps_set (i:=5) sc.nd rfl (Or.inl rfl) (pe_use hLawSides (hr.mono (by decide)) rfl (pa_cons (pv 4) pa_nil)))
   (pss_cons (ps_join (ps_set (i:=6) sc.nd rfl (Or.inr rfl) (pe_comp (N:=["_law_number","_law_word","_law_offers"]) (k:=2) (fv:=[4]) rfl (pi_list (pv 5))
   (fun _ _ _ _ _=>pg_tup (n:=2) rfl (pgs_cons (pg_name (i:=0) nd2 rfl (Or.inl rfl)) (pgs_cons (pg_name (i:=1) nd2 rfl (Or.inl rfl)) pgs_nil))) (fun _ _ _ _ _=>pts_nil) (fun _ _ _ _ _=>(pe_use hLawGain (hr.mono (by decide)) rfl (pa_cons (pe_ix (ix_lK (K:=K)) (pv 2) (pv 0) (fun _ _=>rfl)) (pa_cons (pv 1) pa_nil)))) weak_pair)))
   (pss_cons (ps_set (i:=7) sc.nd rfl (Or.inl rfl) (pe_callTy call_list_of rfl T.list PyProof.Rows.boot_list (pa_cons (pv 4) pa_nil)))
   (pss_cons (ps_for PassesOwn.never rfl (pi_range1 rfl T.range (pa_cons pe_int pa_nil)) (pg_name (i:=8) sc.nd rfl (Or.inl rfl))
    (pss_cons (ps_set (i:=9) sc.nd rfl (Or.inl rfl) (pe_use hSides (hr.mono (by decide)) rfl (pa_cons (pv 7) pa_nil)))
    (pss_cons (ps_set (i:=10) sc.nd rfl (Or.inl rfl) (pe_use hGains (hr.mono (by decide)) rfl (pa_cons (pv 7) pa_nil)))
    (pss_cons (ps_if (PW.pt (pw_or (pt_not (pt_val (pe_use hLawSidesAre (hr.mono (by decide)) rfl (pa_cons (pv 9) (pa_cons (pv 5) pa_nil))))) (pw_or (pt_not (pt_val (pe_use hLawRowsAre (hr.mono (by decide)) rfl (pa_cons (pv 10) (pa_cons (pv 6) pa_nil))))) (pw_or1 (pt_cmpR (op_neU (K:=K) hU64) (pv 7) (pv 4) (nomark _))))))
     (pss_one (ps_ret pe_bl))
     pss_nil)
    (pss_cons (ps_expr (pe_bm PySem.F.plainAttrs_list PySem.F.slot_list_append PySem.F.type_list_append mt_append (pv 9) (pa_cons (pe_tup (pa_cons pe_int (pa_cons pe_str pa_nil))) pa_nil)))
    (pss_one (ps_expr (pe_bm0 PySem.F.plainAttrs_list PySem.F.slot_list_clear PySem.F.type_list_clear mt_clear (pv 10)))))))))
   (pss_cons (ps_join (ps_set (i:=11) sc.nd rfl (Or.inr rfl) (pe_comp (N:=["_law_row_here","_law_bag_here"]) (k:=1) (fv:=[2]) rfl (pi_list (pv 6))
   (fun _ _ _ _ _=>pg_name (i:=0) nd3 rfl (Or.inl rfl)) (fun _ _ _ _ _=>pts_nil) (fun _ _ _ _ _=>(pe_use hLawRatio (hr.mono (by decide)) rfl (pa_cons (pe_use hLawTake (hr.mono (by decide)) rfl (pa_cons (pv 1) (pa_cons pe_int pa_nil))) (pa_cons (pe_op op_add pe_int (pe_use hLawTake (hr.mono (by decide)) rfl (pa_cons (pv 1) (pa_cons pe_int pa_nil)))) pa_nil)))) weak_name)))
   (pss_cons (ps_set (i:=12) sc.nd rfl (Or.inr rfl) (pe_comp (N:=["_law_k"]) (k:=1) (fv:=[]) rfl (pi_range1 rfl T.range (pa_cons (pv 1) pa_nil))
   (fun _ _ _ _ _=>pg_name (i:=0) nd4 rfl (Or.inl rfl)) (fun _ _ _ _ _=>pts_nil) (fun _ _ _ _ _=>(pe_tup (pa_cons pe_int (pa_cons pe_int pa_nil)))) weak_name))
   (pss_cons (ps_for PassesOwn.never rfl (pi_range1 rfl T.range (pa_cons (pe_callB call_len_seq rfl T.len boot_len (pa_cons (pv 6) pa_nil)) pa_nil)) (pg_name (i:=13) sc.nd rfl (Or.inr rfl))
    (pss_one (ps_set (i:=12) sc.nd rfl (Or.inr rfl) (pe_comp (N:=["_law_j","_law_rows","_law_multiples","_law_come","_law_k"]) (k:=1) (fv:=[6,11,12,13]) rfl (pi_range1 rfl T.range (pa_cons (pv 1) pa_nil))
   (fun _ _ _ _ _=>pg_name (i:=0) nd5 rfl (Or.inl rfl)) (fun _ _ _ _ _=>pts_nil) (fun _ _ _ _ _=>(pe_use hLawPlus (hr.mono (by decide)) rfl (pa_cons (pe_ix (ix_lK (K:=K)) (pv 3) (pv 0) (fun _ _=>rfl)) (pa_cons (pe_use hLawTimes (hr.mono (by decide)) rfl (pa_cons (pe_ix (ix_tK (K:=K)) (pe_ix (ix_lK (K:=K)) (pv 1) (pv 4) (fun _ _=>rfl)) (pv 0) (fun _ _=>rfl)) (pa_cons (pe_ix (ix_lK (K:=K)) (pv 2) (pv 4) (fun _ _=>rfl)) pa_nil))) pa_nil)))) weak_name))))
   (pss_cons (ps_set (i:=14) sc.nd rfl (Or.inl rfl) (pe_lst (pa_cons (pe_callTy call_list_of rfl T.list PyProof.Rows.boot_list (pa_cons (pv 6) pa_nil)) (pa_cons (pe_callTy call_list_of rfl T.list PyProof.Rows.boot_list (pa_cons (pv 11) pa_nil)) pa_nil))))
   (pss_cons (ps_if (PW.pt (pw_or (pt_not (pt_val (pe_use hLawRowIs (hr.mono (by decide)) rfl (pa_cons (pe_use hComeTo (hr.mono (by decide)) rfl (pa_cons (pv 1) (pa_cons (pe_ix ix_list (pv 14) pe_int (fun _ _=>rfl)) (pa_cons (pe_ix ix_list (pv 14) pe_int (fun _ _=>rfl)) pa_nil)))) (pa_cons (pv 12) pa_nil))))) (pw_or1 (pt_cmpR (op_neU (K:=K) hU64) (pv 14) (pe_lst (pa_cons (pv 6) (pa_cons (pv 11) pa_nil))) (nomark _)))))
    (pss_one (ps_ret pe_bl))
    pss_nil)
   (pss_one (ps_ret (pe_use hLawRowIs (hr.mono (by decide)) rfl (pa_cons (pe_use hComeTo (hr.mono (by decide)) rfl (pa_cons (pv 1) (pa_cons (pe_lst pa_nil) (pa_cons (pe_lst pa_nil) pa_nil)))) (pa_cons (pe_comp (N:=["_law_k"]) (k:=1) (fv:=[]) rfl (pi_range1 rfl T.range (pa_cons (pv 1) pa_nil))
   (fun _ _ _ _ _=>pg_name (i:=0) nd6 rfl (Or.inl rfl)) (fun _ _ _ _ _=>pts_nil) (fun _ _ _ _ _=>(pe_tup (pa_cons pe_int (pa_cons pe_int pa_nil)))) weak_name) pa_nil))))))))))))))))))),?_⟩
  refine ⟨_,rfl,a,_,ns,rfl,hS,by decide,by decide,fun z=>⟨_,_,rfl,rfl,modOk (by decide),_,_,rfl,rfl,?_⟩⟩
  obtain ⟨c,ec,c2,c5⟩ : ∃ c : Nat,2 + z % 4 = (c : Int) /\ 2 <= c /\ c <= 5:=⟨(2 + z % 4).toNat,by omega,by omega,by omega⟩
  show gName 1 (V.int (2 + z % 4)) _ _ _
  rw [ec]
  refine ⟨_,rfl,a,_,ns,rfl,hS,by decide,by decide,fun z2=>⟨z2,rfl,fun b H1 fb S1 B1=>?_⟩⟩
  refine ⟨_,rfl,b,_,1,rfl,B1,by decide,by decide,by decide +kernel,fun m1 H2 m10 m11 B2 S2=>?_⟩
  refine ⟨fun σ H'=>∃ (m : Nat),σ = [some (.ref a),some (.int c),some (.ref b),some (.int m),none,none,none,none,none,none,none,none,none,none,none] /\ m <= 12 /\ BagAt H' b 4,?_,?_⟩
  ·refine ⟨_,rfl,b,_,1 + 1,rfl,B2,by decide,by decide,by decide +kernel,fun z3 H3 z30 z31 B3 S3=>⟨rfl,_,rfl,?_⟩⟩
   refine ite2 (fun _=>?_) (fun _=>?_)
   ·refine ⟨_,rfl,b,_,1 + 1 + 1,rfl,B3,by decide,by decide,by decide +kernel,fun m2 H4 m20 m21 B4 S4=>?_⟩
    refine ⟨m2.toNat,?_,by omega,B4⟩
    rw [show ((m2.toNat : Nat) : Int) = m2 by omega]
    rfl
   ·refine ⟨m1.toNat,?_,by omega,B3.mono (by omega)⟩
    rw [show ((m1.toNat : Nat) : Int) = m1 by omega]
    rfl
  rintro σ H3 ⟨m,rfl,hm,B3⟩
  clear B1 B2 S1 S2 fb
  refine ⟨fun σ H'=>∃ (l : Addr) (os : List Offr),σ = [some (.ref a),some (.int c),some (.ref b),some (.int m),some (.ref l),none,none,none,none,none,none,none,none,none,none] /\ OffsAt K H' l c os /\ os.length <= 12 /\ (∀ o ∈ os,GoodO 21 o) /\ BagAt H' b 400,?_,?_⟩
  ·refine ⟨_,rfl,(m : Int),rfl,(by omega),(by omega),fun d hd=>?_⟩
   have et : (m : Int).toNat = m:=by omega
   rw [et]
   have hdb : d ≠ b:=by
    obtain ⟨ys,e⟩:=B3.lst
    exact (ne_of_none e hd).symm
   refine ⟨m,fun i ys H'=>∃ (os : List Offr),Paired (fun v o=>OffAt K H' c o v) ys os /\ os.length = i /\ (∀ o ∈ os,GoodO 21 o) /\ BagAt H' b (4 + 29 * i),size1000 (by omega),⟨[],.nil,rfl,(fun _ h=>nomatch h),B3.upd (Ne.symm hdb)⟩,?_,?_⟩
   ·rintro i ys H4 hi ⟨os,P4,l4,g4,B4⟩ hd4
    refine ⟨hi,?_⟩
    rintro x H5 ⟨rfl,rfl⟩
    refine nameyes ?_
    refine ⟨_,rfl,_,rfl,b,c,_,rfl,B4,by omega,by omega,fun v H6 o B6 S6 O6 g6=>?_⟩
    have x6:=Ext.bag S6 B4
    have hd6 : H6 d = some (.lst ys):=S6 _ _ hd4 hdb
    have xu:=x6.trans (Ext.upd (o:=.lst (ys ++ [v])) hd6)
    refine ⟨hd6,os ++ [o],Paired.snoc (offs_ext P4 xu) (O6.ext (Ext.upd hd6)),by rw [List.length_append,l4]; rfl,fun o' ho=>?_,(B6.upd (Ne.symm hdb)).mono (by omega)⟩
    rcases List.mem_append.mp ho with q | q
    ·exact g4 _ q
    ·rw [List.mem_singleton.mp q]; exact g6
   rintro ys H4 ⟨os,P4,l4,g4,B4⟩ hd4
   exact ⟨Nat.le_refl _,d,os,rfl,⟨ys,hd4,P4⟩,by omega,g4,B4.mono (by omega)⟩
  rintro σ H4 ⟨l,os,rfl,⟨vs,hl,hP⟩,los,gos,B4⟩
  clear B3
  have lvs:=Paired.length hP
  refine ⟨_,rfl,l,c,os,rfl,⟨vs,hl,hP⟩,by omega,fun du wd H5 fdu S5 hdu PD=>?_⟩
  replace hl:=S5 _ _ hl
  replace hP:=offs_ext hP (Ext.same S5)
  replace B4:=B4.same S5
  have lwd:=Paired.length PD
  have sl:=sidesP_len os os.length
  have lg : (gainsP os os.length).length = wd.length:=by rw [← gains_sides,List.length_map,lwd]
  clear S5 fdu
  refine ⟨fun σ H'=>∃ (ro : Addr),σ = [some (.ref a),some (.int c),some (.ref b),some (.int m),some (.ref l),some (.ref du),some (.ref ro),none,none,none,none,none,none,none,none] /\ Same H5 H' /\ RowsAt K H' ro (gainsP os os.length),?_,?_⟩
  ·refine ⟨_,rfl,du,rfl,⟨_,SqL.of hdu⟩,fun d hd=>?_⟩
   refine ⟨wd.length,fun i ys H2=>Same H5 H2 /\ ∃ as : List Addr,ys = as.map V.ref /\ Paired (RowAt K H2) as ((gainsP os os.length).take i),size1000 (by omega),⟨Same.new hd,[],rfl,.nil⟩,?_,?_⟩
   ·rintro i ys H2 hi ⟨S2,as,rfl,P2⟩ hd2
    have ew : wd[i]? = some wd[i]:=by simp [hi]
    refine ⟨⟨_,wd[i],SqL.of (S2 _ _ hdu),by simp⟩,?_⟩
    rintro x' H3 ⟨rfl,fx⟩
    have ex : x' = wd[i]:=by
     have:=fx _ (SqL.of (S2 _ _ hdu))
     rw [ew] at this
     exact (Option.some.inj this).symm
    subst ex
    have his : i < (sidesP os os.length).length:=by omega
    have es : (sidesP os os.length)[i]? = some ((sidesP os os.length)[i]):=by simp [his]
    obtain ⟨t,et,sqt⟩:=(Paired.getB PD ew es).ext (Ext.same S2)
    have hmem:=List.getElem_mem his
    generalize hsd : (sidesP os os.length)[i] = sd at *
    obtain ⟨j,bb⟩:=sd
    obtain ⟨hj,r,hr'⟩:=sidesP_mem hmem
    rw [et]
    refine pairyes sqt ?_
    have ej : os[j]? = some (os.getD j offD):=by simp [List.getD,hj]
    have hjv : j < vs.length:=by omega
    have ev : vs[j]? = some vs[j]:=by simp [hjv]
    have hov:=(Paired.getB hP ev ej).same S2
    refine ⟨_,rfl,_,rfl,l,vs,_,_,rfl,rfl,SqL.of (S2 _ _ hl),atI_nat ev,_,rfl,?_⟩
    refine ⟨vs[j],c,21,os.getD j offD,bb,r,rfl,hov,by omega,gos _ (List.mem_of_getElem? ej),by decide,hr',fun p H4 S4 R4=>?_⟩
    have hd4:=S4 _ _ hd2
    refine ⟨hd4,fun q o' e=>?_,as ++ [p],by rw [List.map_append]; rfl,?_⟩
    ·rw [upd_ne (ne_of_none e hd)]
     exact S4 _ _ (S2 _ _ e)
    ·have eg : (gainsP os os.length)[i]? = some (gainR (os.getD j offD) bb):=by rw [← gains_sides,List.getElem?_map,es]; rfl
     rw [take_snoc eg]
     exact Paired.snoc (rows_ext P2 ((Ext.same S4).trans (Ext.upd hd4))) (R4.ext (Ext.upd hd4))
   ·rintro ys H2 ⟨S2,as,rfl,P2⟩ hd2
    rw [List.take_of_length_le (by omega)] at P2
    exact ⟨⟨_,SqL.of (S2 _ _ hdu),Nat.le_refl _⟩,d,rfl,S2,⟨as,hd2,P2⟩⟩
  rintro σ H6 ⟨ro,rfl,S6,⟨ads,hro,hA⟩⟩
  replace hl:=S6 _ _ hl
  replace hP:=offs_ext hP (Ext.same S6)
  replace B4:=B4.same S6
  replace hdu:=S6 _ _ hdu
  replace PD:=Paired.mapP PD fun _ _ q=>q.ext (Ext.same S6)
  clear S6
  have lads:=Paired.length hA
  have hrs : ∀ rs ∈ gainsP os os.length,rs.length = c /\ ∀ r ∈ rs,Good 43 r:=fun rs hr=>by
   rw [← gains_sides] at hr
   obtain ⟨⟨j,bb⟩,hsd,rfl⟩:=List.mem_map.mp hr
   obtain ⟨hj,r,hr'⟩:=sidesP_mem hsd
   have ej : os[j]? = some (os.getD j offD):=by simp [List.getD,hj]
   have hjv : j < vs.length:=by omega
   obtain ⟨_,_,_,_,_,_,_,_,lr,_⟩:=Paired.getB hP (show vs[j]? = some vs[j] by simp [hjv]) ej
   exact ⟨by rw [gainR_len]; exact lr,(gos _ (List.mem_of_getElem? ej)).gain hr'⟩
  have few : (gainsP os os.length).length <= 24:=by omega
  refine ⟨_,rfl,l,_,rfl,.inl (SqL.of hl),fun h hh=>?_⟩
  have S7 : Same H6 (upd H6 h (.lst vs)):=Same.new hh
  have e7 : upd H6 h (.lst vs) h = some (.lst vs):=upd_same
  generalize upd H6 h (.lst vs) = H7 at *
  replace hl:=S7 _ _ hl
  replace hP:=offs_ext hP (Ext.same S7)
  replace B4:=B4.same S7
  replace hdu:=S7 _ _ hdu
  replace PD:=Paired.mapP PD fun _ _ q=>q.ext (Ext.same S7)
  replace hro:=S7 _ _ hro
  replace hA:=rows_ext hA (Ext.same S7)
  clear S7 hh
  refine ⟨(2 : Int),rfl,(by decide),(by decide),?_⟩
  have et2 : (2 : Int).toNat = 2:=rfl
  rw [et2]
  refine for_range (lo:=0) (n:=2) (fun i σ H'=>Same H7 H' /\ ∃ (x1 x2 x3 : Option V),σ = [some (.ref a),some (.int c),some (.ref b),some (.int m),some (.ref l),some (.ref du),some (.ref ro),some (.ref h),x1,x2,x3,none,none,none,none]) ⟨Same.refl _,none,none,none,rfl⟩ ?_ ?_
  ·rintro i σ H8 hi ⟨S8,x1,x2,x3,rfl⟩
   refine ⟨_,rfl,h,c,os,rfl,⟨vs,S8 _ _ e7,offs_ext hP (Ext.same S8)⟩,by omega,fun fo wf H9 ffo S9 hfo PF=>?_⟩
   have S79:=S8.trans S9
   refine ⟨_,rfl,h,c,21,os,rfl,⟨vs,S79 _ _ e7,offs_ext hP (Ext.same S79)⟩,by omega,by omega,by decide,gos,fun to H10 fto S10 R10=>?_⟩
   have S710:=S79.trans S10
   have S910:=S10
   refine ⟨_,rfl,_,rfl,fo,du,wf,wd,sidesP os os.length,rfl,S10 _ _ hfo,S710 _ _ hdu,Paired.mapP PF fun _ _ q=>q.ext (Ext.same S10),Paired.mapP PD fun _ _ q=>q.ext (Ext.same S710),by omega,_,rfl,iteF ?_⟩
   refine ⟨_,rfl,_,rfl,to,ro,43,gainsP os os.length,rfl,R10,⟨ads,S710 _ _ hro,rows_ext hA (Ext.same S710)⟩,by omega,by decide,fun rs hr=>⟨by rw [(hrs rs hr).1]; omega,(hrs rs hr).2⟩,_,rfl,iteF ?_⟩
   refine ⟨_,rfl,_,rfl,0,h,l,vs,vs,rfl,rfl,by decide,.inl ⟨SqL.of (S710 _ _ e7),SqL.of (S710 _ _ hl)⟩,alike_offs (offs_ext hP (Ext.same S710)),_,rfl,iteF ?_⟩
   have hfo10:=S10 _ _ hfo
   have nft : fo ≠ to:=fun q=>by rw [← q] at fto; rw [fto] at hfo; cases hfo
   refine ⟨_,rfl,.inl ⟨rfl,_,SqL.of hfo10⟩,(by show 2 <= sizeLine; decide),fun t ht=>?_⟩
   have S11 : Same H10 (upd H10 t (.tup [.int 0,.str "buy"])):=Same.new ht
   have lwf:=Paired.length PF
   refine ⟨fo,_,_,rfl,rfl,S11 _ _ hfo10,small1000 (by omega),?_⟩
   obtain ⟨tds,hto,_⟩:=R10
   have hto12 : upd (upd H10 t (.tup [.int 0,.str "buy"])) fo (.lst (wf ++ [.ref t])) to = some (.lst (tds.map V.ref)):=by
    rw [upd_ne (Ne.symm nft)]
    exact S11 _ _ hto
   refine ⟨_,rfl,.inl ⟨rfl,_,SqL.of hto12⟩,to,_,rfl,rfl,hto12,?_⟩
   refine ⟨fun q o e=>?_,_,_,_,rfl⟩
   rw [upd_ne (ne_of_none (S79 _ _ e) fto),upd_ne (ne_of_none (S8 _ _ e) ffo)]
   exact S11 _ _ (S710 _ _ e)
  rintro σ H8 ⟨S8,x1,x2,x3,rfl⟩
  replace B4:=B4.same S8
  replace hro:=S8 _ _ hro
  replace hA:=rows_ext hA (Ext.same S8)
  clear hl hP hdu PD e7 S8
  generalize gainsP os os.length = rss at *
  have nrb : ro ≠ b:=by
   rintro rfl
   obtain ⟨x,y,e2,_⟩:=B4
   rw [hro] at e2
   cases ads with
   | nil=>cases e2
   | cons _ _=>cases e2
  refine ⟨fun σ H'=>∃ (mu : Addr) (ms : List Rat),σ = [some (.ref a),some (.int c),some (.ref b),some (.int m),some (.ref l),some (.ref du),some (.ref ro),some (.ref h),x1,x2,x3,some (.ref mu),none,none,none] /\ H' ro = some (.lst (ads.map V.ref)) /\ Paired (RowAt K H') ads rss /\ LstAt K H' mu ms /\ ms.length = rss.length /\ ∀ r ∈ ms,Good 43 r,?_,?_⟩
  ·refine ⟨_,rfl,ro,rfl,⟨_,SqL.of hro⟩,fun d hd=>?_⟩
   have hdb : d ≠ b:=by
    obtain ⟨ys,e⟩:=B4.lst
    exact (ne_of_none e hd).symm
   refine ⟨rss.length,fun i ys H'=>SameX b H8 H' /\ BagAt H' b (400 + 2 * i) /\ ∃ ms,Rs K H' ms ys /\ ms.length = i /\ ∀ r ∈ ms,Good 43 r,size1000 (by omega),⟨SameX.of (Same.new hd),B4.upd (Ne.symm hdb),[],.nil,rfl,fun _ h=>nomatch h⟩,?_,?_⟩
   ·rintro i ys H9 hi ⟨S9,B9,ms,R9,l9,g9⟩ hd9
    have hia : i < ads.length:=by omega
    refine ⟨⟨_,V.ref (ads[i]'hia),SqL.of (S9 _ _ hro nrb),by simp [hia]⟩,?_⟩
    rintro x H10 ⟨rfl,fx⟩
    refine nameyes ?_
    refine ⟨_,rfl,b,_,_,rfl,B9,by omega,by decide,by decide +kernel,fun r3 H11 r30 r31 B11 S11=>?_⟩
    refine ⟨_,rfl,b,_,_,rfl,B11,by omega,by decide,by decide +kernel,fun r4 H12 r40 r41 B12 S12=>⟨_,_,rfl,rfl,?_⟩⟩
    refine ⟨_,_,rfl,by omega,?_,fun p H13 fp S13 e13=>?_⟩
    ·exact (show Bd 4 (1 + r4) from bdS (by omega)).log (by decide)
    have x13:=((Ext.bag S11 B9).trans (Ext.bag S12 B11)).trans (Ext.same S13)
    have hd13:=S13 _ _ (S12 _ _ (S11 _ _ hd9 hdb) hdb)
    refine ⟨hd13,fun q o e ne=>?_,((B12.same S13).upd (Ne.symm hdb)).mono (by omega),ms ++ [nrm r3 (1 + r4)],(R9.ext (x13.trans (Ext.upd hd13))).snoc ⟨p,rfl,(Ext.upd hd13).sq (SqT.of e13)⟩,by rw [List.length_append,l9]; rfl,fun r hr=>?_⟩
    ·rw [upd_ne (ne_of_none e hd)]
     exact S13 _ _ (S12 _ _ (S11 _ _ (S9 _ _ e ne) ne) ne)
    ·rcases List.mem_append.mp hr with q | q
     ·exact g9 _ q
     ·rw [List.mem_singleton.mp q]
      exact (nrm_good (n:=4) (bdS (by omega)) (bdS (by omega)) (by omega)).mono (by decide)
   rintro ys H9 ⟨S9,B9,ms,R9,l9,g9⟩ hd9
   obtain ⟨ysb,eb⟩:=B4.lst
   exact ⟨⟨_,SqL.of (S9 _ _ hro nrb),by rw [List.length_map]; omega⟩,d,ms,rfl,S9 _ _ hro nrb,rows_ext hA (Ext.x S9 eb),⟨ys,hd9,R9⟩,l9,g9⟩
  rintro σ H9 ⟨mu,ms,rfl,hro,hA,⟨xm,hmu,hMs⟩,lm,gms⟩
  clear B4
  have lxm:=hMs.len
  have few30 : rss.length <= 30:=by omega
  have et : (c : Int).toNat = c:=by omega
  refine ⟨_,rfl,(c : Int),rfl,(by omega),(by omega),fun d hd=>?_⟩
  rw [et]
  refine ⟨c,fun j ys H'=>Same H9 H' /\ Rs K H' (List.replicate j (0,1)) ys,size1000 (by omega),⟨Same.new hd,.nil⟩,?_,?_⟩
  ·rintro j ys H10 hj ⟨S10,R10⟩ hd10
   refine ⟨hj,?_⟩
   rintro x' H3' ⟨rfl,rfl⟩
   refine nameyes ?_
   refine ⟨(by show 2 <= sizeLine; decide),fun p hp=>?_⟩
   have S11 : Same H3' (upd H3' p (.tup [.int 0,.int 1])):=Same.new hp
   have hd11:=S11 _ _ hd10
   refine ⟨hd11,fun q o' e=>?_,?_⟩
   ·rw [upd_ne (ne_of_none e hd)]
    exact S11 _ _ (S10 _ _ e)
   ·rw [List.replicate_succ']
    exact (R10.ext ((Ext.same S11).trans (Ext.upd hd11))).snoc ⟨p,rfl,(Ext.upd hd11).sq (SqT.of upd_same)⟩
  rintro ys0 H10 ⟨S10,R10⟩ hd10
  refine ⟨Nat.le_refl _,?_⟩
  rw [← comeP_zero (rss:=rss) (ms:=ms)] at R10
  refine ⟨_,rfl,ro,_,rfl,.inl (SqL.of (S10 _ _ hro)),((ads.map V.ref).length : Int),rfl,(by rw [List.length_map]; omega),(by rw [List.length_map]; omega),?_⟩
  have etr : (((ads.map V.ref).length : Nat) : Int).toNat = rss.length:=by rw [List.length_map]; omega
  rw [etr]
  refine for_range (lo:=0) (n:=rss.length) (fun i σ H'=>Same H9 H' /\ ∃ (co : Addr) (x : Option V),σ = [some (.ref a),some (.int c),some (.ref b),some (.int m),some (.ref l),some (.ref du),some (.ref ro),some (.ref h),x1,x2,x3,some (.ref mu),some (.ref co),x,none] /\ LstAt K H' co (comeP c rss ms i)) ⟨S10,d,none,rfl,ys0,hd10,R10⟩ ?_ ?_
  ·rintro i σ H11 hi ⟨S11,co,x,rfl,⟨yc,hco,hCo⟩⟩
   have e0 : (0 + (i : Int)) = ((i : Nat) : Int):=by omega
   rw [e0]
   have lyc:=hCo.len
   rw [comeP_len] at lyc
   have hro11:=S11 _ _ hro
   have hmu11:=S11 _ _ hmu
   have A11:=rows_ext hA (Ext.same S11)
   have M11:=hMs.ext (Ext.same S11)
   have hia : i < ads.length:=by omega
   have him : i < ms.length:=by omega
   have er : rss[i]? = some rss[i]:=by simp [hi]
   have em : ms[i]? = some ms[i]:=by simp [him]
   obtain ⟨lr,gr⟩:=hrs rss[i] (List.getElem_mem hi)
   refine ⟨_,rfl,(c : Int),rfl,(by omega),(by omega),fun d2 hd2=>?_⟩
   rw [et]
   refine ⟨c,fun j ys H'=>Same H11 H' /\ Rs K H' ((comeP c rss ms (i + 1)).take j) ys,size1000 (by omega),⟨Same.new hd2,.nil⟩,?_,?_⟩
   ·rintro j ys H12 hj ⟨S12,R12⟩ hd12
    refine ⟨hj,?_⟩
    rintro x' H13 ⟨rfl,rfl⟩
    have e0 : (0 + (j : Int)) = ((j : Nat) : Int):=by omega
    rw [e0]
    refine nameyes ?_
    obtain ⟨D,W,rp⟩:=col_rep hj lm few30 hrs gms
    obtain ⟨xc,exc,ic⟩:=hCo.at (comeP_at (k:=i) (rss:=rss) (ms:=ms) hj)
    obtain ⟨pc,rfl,sqc⟩:=ic.ext (Ext.same S12)
    obtain ⟨vr,hvr,rvr⟩:=(Paired.getB A11 (show ads[i]? = some ads[i] by simp [hia]) er).same S12
    have ew : rss[i][j]? = some (rss[i][j]'(by omega)):=by simp
    obtain ⟨xr,exr,br,rfl,sqr⟩:=rvr.at ew
    obtain ⟨xM,exM,iM⟩:=M11.at em
    obtain ⟨bm,rfl,sqm⟩:=iM.ext (Ext.same S12)
    have ecol : (colR rss j)[i]? = some (rss[i][j]'(by omega)):=by
     unfold colR
     rw [List.getElem?_map,er]
     simp [List.getD,show j < rss[i].length by omega]
    have ez : (List.zipWith mulR' (colR rss j) ms)[i]? = some (mulR' (rss[i][j]'(by omega)) ms[i]):=by rw [List.getElem?_zipWith,ecol,em]
    refine ⟨_,rfl,_,rfl,co,_,_,_,rfl,rfl,SqL.of (S12 _ _ hco),atI_nat exc,?_⟩
    refine ⟨_,rfl,_,rfl,ro,_,_,_,rfl,rfl,SqL.of (S12 _ _ hro11),atI_nat (by rw [List.getElem?_map,List.getElem?_eq_getElem hia]; rfl),_,rfl,ads[i],_,_,_,rfl,rfl,hvr,atI_nat exr,?_⟩
    refine ⟨_,rfl,_,rfl,mu,_,_,_,rfl,rfl,SqL.of (S12 _ _ hmu11),atI_nat exM,br,bm,_,ms[i],43,rfl,sqr,sqm,gr _ (List.getElem_mem _),gms _ (List.getElem_mem him),by decide,fun c2 H14 f14 S14 e14=>?_⟩
    refine ⟨pc,c2,_,mulR' (rss[i][j]'(by omega)) ms[i],2600,rfl,sameT S14 sqc,SqT.of e14,((rp.take i).sumGood (k:=10) (by rw [List.length_take,List.length_zipWith]; omega)).mono (by decide),(rp.good _ (List.mem_of_getElem? ez)).mono (by decide),by decide,fun c3 H15 f15 S15 e15=>?_⟩
    have S1215:=S14.trans S15
    have hd15:=S1215 _ _ hd12
    refine ⟨hd15,fun q o' e=>?_,?_⟩
    ·rw [upd_ne (ne_of_none e hd2)]
     exact S1215 _ _ (S12 _ _ e)
    ·rw [take_snoc (comeP_at (k:=i + 1) (rss:=rss) (ms:=ms) hj),sumR_take ez]
     exact (R12.ext ((Ext.same S1215).trans (Ext.upd hd15))).snoc ⟨c3,rfl,(Ext.upd hd15).sq (SqT.of e15)⟩
   rintro ys H12 ⟨S12,R12⟩ hd12
   rw [List.take_of_length_le (by rw [comeP_len]; omega)] at R12
   exact ⟨Nat.le_refl _,S11.trans S12,d2,_,rfl,ys,hd12,R12⟩
  rintro σ H11 ⟨S11,co,xk,rfl,⟨yc,hco,hCo⟩⟩
  rw [comeP_all lm] at hCo
  replace hro:=S11 _ _ hro
  replace hmu:=S11 _ _ hmu
  replace hA:=rows_ext hA (Ext.same S11)
  replace hMs:=hMs.ext (Ext.same S11)
  clear S11 S10 R10 hd10 hd
  refine ⟨_,rfl,ro,_,rfl,.inl (SqL.of hro),fun k1 hk1=>?_⟩
  have S12 : Same H11 (upd H11 k1 (.lst (ads.map V.ref))):=Same.new hk1
  have e12 : upd H11 k1 (.lst (ads.map V.ref)) k1 = some (.lst (ads.map V.ref)):=upd_same
  generalize upd H11 k1 (.lst (ads.map V.ref)) = H12 at *
  refine ⟨_,rfl,mu,_,rfl,.inl (SqL.of (S12 _ _ hmu)),fun k2 hk2=>?_⟩
  have S13 : Same H12 (upd H12 k2 (.lst xm)):=Same.new hk2
  have e13 : upd H12 k2 (.lst xm) k2 = some (.lst xm):=upd_same
  generalize upd H12 k2 (.lst xm) = H13 at *
  refine ⟨(by show 2 <= sizeLine; decide),fun ke hke=>?_⟩
  have S14 : Same H13 (upd H13 ke (.lst [.ref k1,.ref k2])):=Same.new hke
  have e14 : upd H13 ke (.lst [.ref k1,.ref k2]) ke = some (.lst [.ref k1,.ref k2]):=upd_same
  generalize upd H13 ke (.lst [.ref k1,.ref k2]) = H14 at *
  have S1114:=(S12.trans S13).trans S14
  have S1314:=S13.trans S14
  refine ⟨_,rfl,_,rfl,ke,_,_,_,rfl,rfl,SqL.of e14,atI_nat (j:=0) rfl,_,rfl,ke,_,_,_,rfl,rfl,SqL.of e14,atI_nat (j:=1) rfl,?_⟩
  refine ⟨k1,k2,c,rss,ms,rfl,⟨ads,S1314 _ _ e12,rows_ext hA (Ext.same S1114)⟩,⟨xm,S14 _ _ e13,hMs.ext (Ext.same S1114)⟩,lm,few30,by omega,hrs,gms,fun ar H15 S15 R15=>?_⟩
  have S1115:=S1114.trans S15
  obtain ⟨xr,hxr,rxr⟩:=R15
  have lcw : (comeW c rss ms).length = c:=by unfold comeW; simp
  refine ⟨_,rfl,ar,co,xr,yc,comeW c rss ms,comeW c rss ms,2600,rfl,hxr,rxr,.inl (SqL.of (S1115 _ _ hco)),hCo.ext (Ext.same S1115),rfl,by omega,by decide,alike (comeW_good lm few30 hrs gms),_,rfl,iteF ?_⟩
  refine ⟨_,rfl,_,rfl,_,rfl,(by show 2 <= sizeLine; decide),fun k3 hk3=>?_⟩
  have S16 : Same H15 (upd H15 k3 (.lst [.ref ro,.ref mu])):=Same.new hk3
  have S1116:=S1115.trans S16
  have S1416:=S15.trans S16
  refine ⟨1,ke,k3,_,_,rfl,rfl,by decide,.inl ⟨SqL.of (S1416 _ _ e14),SqL.of upd_same⟩,.cons (.inr ⟨k1,ro,_,_,rfl,rfl,.inl ⟨SqL.of (S1416 _ _ (S1314 _ _ e12)),SqL.of (S1116 _ _ hro)⟩,alike_refs ads⟩) (.cons (.inr ⟨k2,mu,_,_,rfl,rfl,.inl ⟨SqL.of (S1416 _ _ (S14 _ _ e13)),SqL.of (S1116 _ _ hmu)⟩,alike_rs (hMs.ext (Ext.same S1116))⟩) .nil),_,rfl,iteF ?_⟩
  generalize upd H15 k3 (.lst [.ref ro,.ref mu]) = H16 at *
  refine ⟨_,rfl,(by show 0 <= sizeLine; decide),fun n1 hn1=>?_⟩
  have S17 : Same H16 (upd H16 n1 (.lst [])):=Same.new hn1
  have e17 : upd H16 n1 (.lst []) n1 = some (.lst []):=upd_same
  generalize upd H16 n1 (.lst []) = H17 at *
  refine ⟨(by show 0 <= sizeLine; decide),fun n2 hn2=>?_⟩
  have S18 : Same H17 (upd H17 n2 (.lst [])):=Same.new hn2
  have e18 : upd H17 n2 (.lst []) n2 = some (.lst []):=upd_same
  generalize upd H17 n2 (.lst []) = H18 at *
  refine ⟨n1,n2,c,[],[],rfl,⟨[],S18 _ _ e17,.nil⟩,⟨[],e18,.nil⟩,rfl,by decide,by omega,(fun _ h=>nomatch h),(fun _ h=>nomatch h),fun an H19 S19 R19=>?_⟩
  obtain ⟨xn,hxn,rxn⟩:=R19
  refine ⟨_,rfl,(c : Int),rfl,(by omega),(by omega),fun d hd=>?_⟩
  rw [et]
  refine ⟨c,fun j ys H'=>Same H19 H' /\ Rs K H' (List.replicate j (0,1)) ys,size1000 (by omega),⟨Same.new hd,.nil⟩,?_,?_⟩
  ·rintro j ys H20 hj ⟨S20,R20⟩ hd20
   refine ⟨hj,?_⟩
   rintro x' H3' ⟨rfl,rfl⟩
   refine nameyes ?_
   refine ⟨(by show 2 <= sizeLine; decide),fun p hp=>?_⟩
   have S21 : Same H3' (upd H3' p (.tup [.int 0,.int 1])):=Same.new hp
   have hd21:=S21 _ _ hd20
   refine ⟨hd21,fun q o' e=>?_,?_⟩
   ·rw [upd_ne (ne_of_none e hd)]
    exact S21 _ _ (S20 _ _ e)
   ·rw [List.replicate_succ']
    exact (R20.ext ((Ext.same S21).trans (Ext.upd hd21))).snoc ⟨p,rfl,(Ext.upd hd21).sq (SqT.of upd_same)⟩
  rintro ys H20 ⟨S20,R20⟩ hd20
  have ecw : comeW c [] [] = List.replicate c (0,1):=by rw [← comeP_all rfl]; exact comeP_zero
  rw [ecw] at rxn
  refine ⟨Nat.le_refl _,an,d,xn,ys,List.replicate c (0,1),List.replicate c (0,1),1,rfl,sameT S20 hxn,rxn.ext (Ext.same S20),.inl (SqL.of hd20),R20,rfl,by rw [List.length_replicate]; omega,by decide,alike (fun r hr=>?_),k _⟩
  rw [List.eq_of_mem_replicate hr]
  exact g01 _ (by decide)
end
end Sb
namespace PySem.W.Fast
theorem tw12929628724104467092:True:=⟨⟩
theorem te10376379751055695671:True:=⟨⟩
theorem tw10376379751055695671:True:=⟨⟩
theorem tw18219477962169150962:True:=⟨⟩
theorem tw695005414045284223:True:=⟨⟩
theorem tw2259449374566744645:True:=⟨⟩
theorem tw8135385764138564312:True:=⟨⟩
theorem tw17736645535901710023:True:=⟨⟩
theorem tw3181571510901947126:True:=⟨⟩
theorem tw8856471078154986848:True:=⟨⟩
theorem tw874843090942297697:True:=⟨⟩
theorem tw3267213901572424400:True:=⟨⟩
theorem tw17167633093771259336:True:=⟨⟩
theorem tw4778799898849072816:True:=⟨⟩
theorem tw11891060719535080502:True:=⟨⟩
theorem tw16847264159734116534:True:=⟨⟩
theorem tw18076117479837201479:True:=⟨⟩
theorem tw10591342261388501511:True:=⟨⟩
theorem tw15568113972608683193:True:=⟨⟩
theorem tw9988482940005164930:True:=⟨⟩
theorem tw13317632515426451770:True:=⟨⟩
theorem tw2589748371844178096:True:=⟨⟩
theorem tw8195291199593365398:True:=⟨⟩
theorem tw11661350626317784467:True:=⟨⟩
theorem tw5881092142439227071:True:=⟨⟩
theorem tw4590592925247156924:True:=⟨⟩
theorem tw7065272865112431623:True:=⟨⟩
theorem tw18263226524026832827:True:=⟨⟩
theorem tw6124670573952093355:True:=⟨⟩
theorem tw1567323494539800449:True:=⟨⟩
theorem tw3607057439726200983:True:=⟨⟩
theorem tw8817386216357300028:True:=⟨⟩
theorem tw14891724814139833917:True:=⟨⟩
theorem tw17050815249759964905:True:=⟨⟩
theorem tw3928286334053831276:True:=⟨⟩
theorem tw7165924905501536775:True:=⟨⟩
theorem tw1596518120437137918:True:=⟨⟩
theorem tw4392346669785271734:True:=⟨⟩
theorem tw10401950565566113014:True:=⟨⟩
theorem tw16167374841524902861:True:=⟨⟩
theorem tw12199910716808263673:True:=⟨⟩
theorem tw15601439608858517814:True:=⟨⟩
theorem tw3403810964294530223:True:=⟨⟩
theorem tw13500348584738803336:True:=⟨⟩
theorem tw304455178108562357:True:=⟨⟩
theorem tw15616174086443378260:True:=⟨⟩
theorem tw7063583805671927139:True:=⟨⟩
theorem tw292499016056417715:True:=⟨⟩
theorem tw16257901803813445933:True:=⟨⟩
theorem tw8667273274236546312:True:=⟨⟩
theorem tw2138529328795799414:True:=⟨⟩
theorem tw17232577455938188807:True:=⟨⟩
theorem tw7637277308917140476:True:=⟨⟩
theorem tw16191024843105111118:True:=⟨⟩
theorem tw17827062846865287373:True:=⟨⟩
theorem tw7642615479578629570:True:=⟨⟩
theorem tw17747748435658853476:True:=⟨⟩
theorem tw12968657675731172032:True:=⟨⟩
theorem tw642993708013298594:True:=⟨⟩
theorem tw1999267762385634529:True:=⟨⟩
theorem tw1003049086858393437:True:=⟨⟩
theorem tw2076594129027979963:True:=⟨⟩
theorem tw8185383572529715884:True:=⟨⟩
theorem tw17065816613530794070:True:=⟨⟩
theorem tw1107835966340145221:True:=⟨⟩
theorem tw5716969798856720092:True:=⟨⟩
theorem tw13275980799992399788:True:=⟨⟩
theorem tw16178974315275085227:True:=⟨⟩
theorem tw9623645474404597748:True:=⟨⟩
theorem tw16387717520040172710:True:=⟨⟩
theorem tw2522046914392542059:True:=⟨⟩
theorem tw5907850896374690011:True:=⟨⟩
theorem tw2809382614223955528:True:=⟨⟩
theorem tw18157354181469635414:True:=⟨⟩
theorem tw10047930982217879740:True:=⟨⟩
theorem tw14810697522518696523:True:=⟨⟩
theorem tw301989891374695347:True:=⟨⟩
theorem tw1029581202439449707:True:=⟨⟩
theorem tw16017759670927785538:True:=⟨⟩
theorem tw603888858636630848:True:=⟨⟩
theorem tw7114682635557192099:True:=⟨⟩
theorem tw10396557845774868872:True:=⟨⟩
theorem tw8558477640252247229:True:=⟨⟩
theorem tw17668301377430163330:True:=⟨⟩
theorem tw8690730842049477092:True:=⟨⟩
theorem tw17159271109878922552:True:=⟨⟩
theorem tw8338636235227671396:True:=⟨⟩
theorem tw4791919089359865430:True:=⟨⟩
theorem tw14197025954577747997:True:=⟨⟩
theorem tw16629305731083991631:True:=⟨⟩
theorem tw2431102125690022403:True:=⟨⟩
theorem tw8778661471216542952:True:=⟨⟩
theorem tw11074425496581825626:True:=⟨⟩
theorem tw17257125611872451258:True:=⟨⟩
theorem tw7671331965621699083:True:=⟨⟩
theorem tw17281946953610693289:True:=⟨⟩
theorem tw1253885247873472989:True:=⟨⟩
theorem tw9035303219165095491:True:=⟨⟩
theorem tw14484947670595765945:True:=⟨⟩
theorem tw4613995913956167100:True:=⟨⟩
theorem tw15351529647456436533:True:=⟨⟩
theorem tw3749540028804182438:True:=⟨⟩
theorem tw16588197581550873682:True:=⟨⟩
theorem tw13998795431827057932:True:=⟨⟩
theorem tw13051324595953404507:True:=⟨⟩
theorem tw4569047824126500086:True:=⟨⟩
theorem tw7599653634742105429:True:=⟨⟩
theorem tw15385448132753377985:True:=⟨⟩
theorem tw5654208205629022987:True:=⟨⟩
theorem tw4727477890430024778:True:=⟨⟩
theorem tw10395443434514500679:True:=⟨⟩
theorem tw14262101071020854794:True:=⟨⟩
theorem tw5080753438608075147:True:=⟨⟩
theorem tw12603816031125174858:True:=⟨⟩
theorem tw5618756987036210391:True:=⟨⟩
theorem tw16789770039434017666:True:=⟨⟩
theorem tw6808216347609253030:True:=⟨⟩
theorem tw16758902365302243408:True:=⟨⟩
theorem tw8016071359217300728:True:=⟨⟩
theorem tw17533065250269400073:True:=⟨⟩
theorem tw11922557097985482389:True:=⟨⟩
theorem tw7635762310077926314:True:=⟨⟩
theorem tw8285285119321483670:True:=⟨⟩
theorem tw13084180798358004058:True:=⟨⟩
theorem tw18031990353775103271:True:=⟨⟩
theorem tw16321181283178499796:True:=⟨⟩
theorem tw13846670355271442483:True:=⟨⟩
theorem tw4659375911343538273:True:=⟨⟩
theorem tw3827690697606116448:True:=⟨⟩
theorem tw8751908548952697543:True:=⟨⟩
theorem tw12231889244914818624:True:=⟨⟩
theorem tw711559737601867578:True:=⟨⟩
theorem tw4125949989898167731:True:=⟨⟩
theorem tw12962264920417618761:True:=⟨⟩
theorem tw3502648964793866053:True:=⟨⟩
theorem tw4286656429672871044:True:=⟨⟩
theorem tw11065777156119626855:True:=⟨⟩
theorem tw4286821660960901003:True:=⟨⟩
theorem tw2430731310662348647:True:=⟨⟩
theorem tw6854306365955862962:True:=⟨⟩
theorem tw6366372876525761699:True:=⟨⟩
theorem tw13957582960827804916:True:=⟨⟩
theorem tw6138710611546449056:True:=⟨⟩
theorem tw2117585056895062176:True:=⟨⟩
theorem tw10370752455974295783:True:=⟨⟩
theorem tw13326904263461894399:True:=⟨⟩
theorem tw9310152635944751595:True:=⟨⟩
theorem tw12052713077220261168:True:=⟨⟩
theorem tw8344000009607025248:True:=⟨⟩
theorem tw5628643762216195966:True:=⟨⟩
theorem tw17145832935200766006:True:=⟨⟩
end PySem.W.Fast
open PySem PySem.W PyProof.Rows
set_option maxRecDepth 100000 in
set_option maxHeartbeats 0 in
theorem PySem.Challenge.cw_surebook_k08_sides_holds : PySem.Challenge.rw_surebook_k08_sides.Holds := by
 w_on; o_law; k_head; (case hw=>w_witness2)
 k_fill
 refine L2.walk_ofK (l:=PySem.Challenge.rw_surebook_k08_sides) (n:=63) (k:=6) (x:="_law_script") (CX:=L2.CX0) (sp:=Sb.spLaw) rfl (by decide) rfl ⟨rfl,by decide,by decide⟩ (fun w h Y=>PySem.W.kIn_of Y) ?F (fun K H a ns hl hO hS=>⟨a,ns,rfl,hS,fun _=>rfl⟩) (fun _ _ _ _ z=>z)
 case F =>
  intro w mg fa h KX G hmg
  have n_len : mg "len" = none:=by
   refine' PySem.W.mg_none_of KX G ?z
   (case z=>k_is)
  have n_abs : mg "abs" = none:=by
   refine' PySem.W.mg_none_of KX G ?z
   (case z=>k_is)
  have n_isinstance : mg "isinstance" = none:=by
   refine' PySem.W.mg_none_of KX G ?z
   (case z=>k_is)
  have n_int : mg "int" = none:=by
   refine' PySem.W.mg_none_of KX G ?z
   (case z=>k_is)
  have n_bool : mg "bool" = none:=by
   refine' PySem.W.mg_none_of KX G ?z
   (case z=>k_is)
  have n_tuple : mg "tuple" = none:=by
   refine' PySem.W.mg_none_of KX G ?z
   (case z=>k_is)
  have n_range : mg "range" = none:=by
   refine' PySem.W.mg_none_of KX G ?z
   (case z=>k_is)
  have n_zip : mg "zip" = none:=by
   refine' PySem.W.mg_none_of KX G ?z
   (case z=>k_is)
  have n_enumerate : mg "enumerate" = none:=by
   refine' PySem.W.mg_none_of KX G ?z
   (case z=>k_is)
  have n_any : mg "any" = none:=by
   refine' PySem.W.mg_none_of KX G ?z
   (case z=>k_is)
  have n_sum : mg "sum" = none:=by
   refine' PySem.W.mg_none_of KX G ?z
   (case z=>k_is)
  have n_list : mg "list" = none:=by
   refine' PySem.W.mg_none_of KX G ?z
   (case z=>k_is)
  have n_min : mg "min" = none:=by
   refine' PySem.W.mg_none_of KX G ?z
   (case z=>k_is)
  have T : Sb.Blt mg:=⟨n_len,n_abs,n_isinstance,n_int,n_bool,n_tuple,n_range,n_zip,n_enumerate,n_any,n_sum,n_list,n_min⟩
  have d_is_whole : Sb.Def (L2.KOf KX) mg "is_whole" Sb.sIsWhole ["value"]:=by
   dsimp only [L2.KOf]
   refine' Sb.def_mk KX G ?a ?l ?c ?k (fun _ _ _ _ _ _ us hl=>match us,hl with | [_],_=>rfl)
   (case a=>k_is); (case l=>k_is); (case c=>k_is); (case k=>k_is)
  have d_common_divisor : Sb.Def (L2.KOf KX) mg "common_divisor" Sb.sCommonDivisor ["one","other"]:=by
   dsimp only [L2.KOf]
   refine' Sb.def_mk KX G ?a ?l ?c ?k (fun _ _ _ _ _ _ us hl=>match us,hl with | [_,_],_=>rfl)
   (case a=>k_is); (case l=>k_is); (case c=>k_is); (case k=>k_is)
  have d_lowest : Sb.Def (L2.KOf KX) mg "lowest" Sb.sLowest ["top","bottom"]:=by
   dsimp only [L2.KOf]
   refine' Sb.def_mk KX G ?a ?l ?c ?k (fun _ _ _ _ _ _ us hl=>match us,hl with | [_,_],_=>rfl)
   (case a=>k_is); (case l=>k_is); (case c=>k_is); (case k=>k_is)
  have d_ratio : Sb.Def (L2.KOf KX) mg "ratio" Sb.sRatioP ["top","bottom"]:=by
   dsimp only [L2.KOf]
   refine' Sb.def_mk KX G ?a ?l ?c ?k (fun _ _ _ _ _ _ us hl=>match us,hl with | [_,_],_=>rfl)
   (case a=>k_is); (case l=>k_is); (case c=>k_is); (case k=>k_is)
  have d_minus : Sb.Def (L2.KOf KX) mg "minus" Sb.sMinus ["one","other"]:=by
   dsimp only [L2.KOf]
   refine' Sb.def_mk KX G ?a ?l ?c ?k (fun _ _ _ _ _ _ us hl=>match us,hl with | [_,_],_=>rfl)
   (case a=>k_is); (case l=>k_is); (case c=>k_is); (case k=>k_is)
  have d_common_bottom : Sb.Def (L2.KOf KX) mg "common_bottom" Sb.sCommonBottom ["several"]:=by
   dsimp only [L2.KOf]
   refine' Sb.def_mk KX G ?a ?l ?c ?k (fun _ _ _ _ _ _ us hl=>match us,hl with | [_],_=>rfl)
   (case a=>k_is); (case l=>k_is); (case c=>k_is); (case k=>k_is)
  have d_whole_by : Sb.Def (L2.KOf KX) mg "whole_by" Sb.sWholeBy ["several","bottom"]:=by
   dsimp only [L2.KOf]
   refine' Sb.def_mk KX G ?a ?l ?c ?k (fun _ _ _ _ _ _ us hl=>match us,hl with | [_,_],_=>rfl)
   (case a=>k_is); (case l=>k_is); (case c=>k_is); (case k=>k_is)
  have d_mean : Sb.Def (L2.KOf KX) mg "mean" Sb.sMean ["weights","row"]:=by
   dsimp only [L2.KOf]
   refine' Sb.def_mk KX G ?a ?l ?c ?k (fun _ _ _ _ _ _ us hl=>match us,hl with | [_,_],_=>rfl)
   (case a=>k_is); (case l=>k_is); (case c=>k_is); (case k=>k_is)
  have d_is_in : Sb.Def (L2.KOf KX) mg "is_in" Sb.sIsIn ["world","event"]:=by
   dsimp only [L2.KOf]
   refine' Sb.def_mk KX G ?a ?l ?c ?k (fun _ _ _ _ _ _ us hl=>match us,hl with | [_,_],_=>rfl)
   (case a=>k_is); (case l=>k_is); (case c=>k_is); (case k=>k_is)
  have d_cut : Sb.Def (L2.KOf KX) mg "cut" Sb.sCut ["row","event"]:=by
   dsimp only [L2.KOf]
   refine' Sb.def_mk KX G ?a ?l ?c ?k (fun _ _ _ _ _ _ us hl=>match us,hl with | [_,_],_=>rfl)
   (case a=>k_is); (case l=>k_is); (case c=>k_is); (case k=>k_is)
  have d_gain : Sb.Def (L2.KOf KX) mg "gain" Sb.sGain ["offer","word"]:=by
   dsimp only [L2.KOf]
   refine' Sb.def_mk KX G ?a ?l ?c ?k (fun _ _ _ _ _ _ us hl=>match us,hl with | [_,_],_=>rfl)
   (case a=>k_is); (case l=>k_is); (case c=>k_is); (case k=>k_is)
  have d_words_of : Sb.Def (L2.KOf KX) mg "words_of" Sb.sWordsOf ["offer"]:=by
   dsimp only [L2.KOf]
   refine' Sb.def_mk KX G ?a ?l ?c ?k (fun _ _ _ _ _ _ us hl=>match us,hl with | [_],_=>rfl)
   (case a=>k_is); (case l=>k_is); (case c=>k_is); (case k=>k_is)
  have d_sides : Sb.Def (L2.KOf KX) mg "sides" Sb.sSides ["offers"]:=by
   dsimp only [L2.KOf]
   refine' Sb.def_mk KX G ?a ?l ?c ?k (fun _ _ _ _ _ _ us hl=>match us,hl with | [_],_=>rfl)
   (case a=>k_is); (case l=>k_is); (case c=>k_is); (case k=>k_is)
  have d_gains : Sb.Def (L2.KOf KX) mg "gains" Sb.sGains ["offers"]:=by
   dsimp only [L2.KOf]
   refine' Sb.def_mk KX G ?a ?l ?c ?k (fun _ _ _ _ _ _ us hl=>match us,hl with | [_],_=>rfl)
   (case a=>k_is); (case l=>k_is); (case c=>k_is); (case k=>k_is)
  have d_as_ratio : Sb.Def (L2.KOf KX) mg "as_ratio" Sb.sAsRatio ["multiple"]:=by
   dsimp only [L2.KOf]
   refine' Sb.def_mk KX G ?a ?l ?c ?k (fun _ _ _ _ _ _ us hl=>match us,hl with | [_],_=>rfl)
   (case a=>k_is); (case l=>k_is); (case c=>k_is); (case k=>k_is)
  have d_come_to : Sb.Def (L2.KOf KX) mg "come_to" Sb.sComeTo ["count","rows","multiples"]:=by
   dsimp only [L2.KOf]
   refine' Sb.def_mk KX G ?a ?l ?c ?k (fun _ _ _ _ _ _ us hl=>match us,hl with | [_,_,_],_=>rfl)
   (case a=>k_is); (case l=>k_is); (case c=>k_is); (case k=>k_is)
  have d__law_cell : Sb.Def (L2.KOf KX) mg "_law_cell" Sb.sCell ["_law_script","_law_k"]:=by
   dsimp only [L2.KOf]
   refine' Sb.def_mk KX G ?a ?l ?c ?k (fun _ _ _ _ _ _ us hl=>match us,hl with | [_,_],_=>rfl)
   (case a=>k_is); (case l=>k_is); (case c=>k_is); (case k=>k_is)
  have d__law_whole : Sb.Def (L2.KOf KX) mg "_law_whole" Sb.sWhole ["_law_found"]:=by
   dsimp only [L2.KOf]
   refine' Sb.def_mk KX G ?a ?l ?c ?k (fun _ _ _ _ _ _ us hl=>match us,hl with | [_],_=>rfl)
   (case a=>k_is); (case l=>k_is); (case c=>k_is); (case k=>k_is)
  have d__law_most : Sb.Def (L2.KOf KX) mg "_law_most" Sb.sMost ["_law_one","_law_other"]:=by
   dsimp only [L2.KOf]
   refine' Sb.def_mk KX G ?a ?l ?c ?k (fun _ _ _ _ _ _ us hl=>match us,hl with | [_,_],_=>rfl)
   (case a=>k_is); (case l=>k_is); (case c=>k_is); (case k=>k_is)
  have d__law_is : Sb.Def (L2.KOf KX) mg "_law_is" Sb.sIs ["_law_found","_law_top","_law_bottom"]:=by
   dsimp only [L2.KOf]
   refine' Sb.def_mk KX G ?a ?l ?c ?k (fun _ _ _ _ _ _ us hl=>match us,hl with | [_,_,_],_=>rfl)
   (case a=>k_is); (case l=>k_is); (case c=>k_is); (case k=>k_is)
  have d__law_ratio : Sb.Def (L2.KOf KX) mg "_law_ratio" Sb.sRatio ["_law_top","_law_bottom"]:=by
   dsimp only [L2.KOf]
   refine' Sb.def_mk KX G ?a ?l ?c ?k (fun _ _ _ _ _ _ us hl=>match us,hl with | [_,_],_=>rfl)
   (case a=>k_is); (case l=>k_is); (case c=>k_is); (case k=>k_is)
  have d__law_bag : Sb.Def (L2.KOf KX) mg "_law_bag" Sb.sBag ["_law_cell_here"]:=by
   dsimp only [L2.KOf]
   refine' Sb.def_mk KX G ?a ?l ?c ?k (fun _ _ _ _ _ _ us hl=>match us,hl with | [_],_=>rfl)
   (case a=>k_is); (case l=>k_is); (case c=>k_is); (case k=>k_is)
  have d__law_take : Sb.Def (L2.KOf KX) mg "_law_take" Sb.sTake ["_law_bag_here","_law_many"]:=by
   dsimp only [L2.KOf]
   refine' Sb.def_mk KX G ?a ?l ?c ?k (fun _ _ _ _ _ _ us hl=>match us,hl with | [_,_],_=>rfl)
   (case a=>k_is); (case l=>k_is); (case c=>k_is); (case k=>k_is)
  have d__law_plus : Sb.Def (L2.KOf KX) mg "_law_plus" Sb.sLPlus ["_law_one","_law_other"]:=by
   dsimp only [L2.KOf]
   refine' Sb.def_mk KX G ?a ?l ?c ?k (fun _ _ _ _ _ _ us hl=>match us,hl with | [_,_],_=>rfl)
   (case a=>k_is); (case l=>k_is); (case c=>k_is); (case k=>k_is)
  have d__law_minus : Sb.Def (L2.KOf KX) mg "_law_minus" Sb.sLMinus ["_law_one","_law_other"]:=by
   dsimp only [L2.KOf]
   refine' Sb.def_mk KX G ?a ?l ?c ?k (fun _ _ _ _ _ _ us hl=>match us,hl with | [_,_],_=>rfl)
   (case a=>k_is); (case l=>k_is); (case c=>k_is); (case k=>k_is)
  have d__law_times : Sb.Def (L2.KOf KX) mg "_law_times" Sb.sLTimes ["_law_one","_law_other"]:=by
   dsimp only [L2.KOf]
   refine' Sb.def_mk KX G ?a ?l ?c ?k (fun _ _ _ _ _ _ us hl=>match us,hl with | [_,_],_=>rfl)
   (case a=>k_is); (case l=>k_is); (case c=>k_is); (case k=>k_is)
  have d__law_small : Sb.Def (L2.KOf KX) mg "_law_small" Sb.sSmall ["_law_bag_here"]:=by
   dsimp only [L2.KOf]
   refine' Sb.def_mk KX G ?a ?l ?c ?k (fun _ _ _ _ _ _ us hl=>match us,hl with | [_],_=>rfl)
   (case a=>k_is); (case l=>k_is); (case c=>k_is); (case k=>k_is)
  have d__law_row : Sb.Def (L2.KOf KX) mg "_law_row" Sb.sRow ["_law_bag_here","_law_count"]:=by
   dsimp only [L2.KOf]
   refine' Sb.def_mk KX G ?a ?l ?c ?k (fun _ _ _ _ _ _ us hl=>match us,hl with | [_,_],_=>rfl)
   (case a=>k_is); (case l=>k_is); (case c=>k_is); (case k=>k_is)
  have d__law_event : Sb.Def (L2.KOf KX) mg "_law_event" Sb.sEvent ["_law_bag_here","_law_count"]:=by
   dsimp only [L2.KOf]
   refine' Sb.def_mk KX G ?a ?l ?c ?k (fun _ _ _ _ _ _ us hl=>match us,hl with | [_,_],_=>rfl)
   (case a=>k_is); (case l=>k_is); (case c=>k_is); (case k=>k_is)
  have d__law_in : Sb.Def (L2.KOf KX) mg "_law_in" Sb.sIn ["_law_event_here","_law_world"]:=by
   dsimp only [L2.KOf]
   refine' Sb.def_mk KX G ?a ?l ?c ?k (fun _ _ _ _ _ _ us hl=>match us,hl with | [_,_],_=>rfl)
   (case a=>k_is); (case l=>k_is); (case c=>k_is); (case k=>k_is)
  have d__law_cut : Sb.Def (L2.KOf KX) mg "_law_cut" Sb.sLCut ["_law_row_here","_law_event_here"]:=by
   dsimp only [L2.KOf]
   refine' Sb.def_mk KX G ?a ?l ?c ?k (fun _ _ _ _ _ _ us hl=>match us,hl with | [_,_],_=>rfl)
   (case a=>k_is); (case l=>k_is); (case c=>k_is); (case k=>k_is)
  have d__law_row_is : Sb.Def (L2.KOf KX) mg "_law_row_is" Sb.sRowIs ["_law_found","_law_due"]:=by
   dsimp only [L2.KOf]
   refine' Sb.def_mk KX G ?a ?l ?c ?k (fun _ _ _ _ _ _ us hl=>match us,hl with | [_,_],_=>rfl)
   (case a=>k_is); (case l=>k_is); (case c=>k_is); (case k=>k_is)
  have d__law_maybe : Sb.Def (L2.KOf KX) mg "_law_maybe" Sb.sMaybe ["_law_bag_here"]:=by
   dsimp only [L2.KOf]
   refine' Sb.def_mk KX G ?a ?l ?c ?k (fun _ _ _ _ _ _ us hl=>match us,hl with | [_],_=>rfl)
   (case a=>k_is); (case l=>k_is); (case c=>k_is); (case k=>k_is)
  have d__law_offer : Sb.Def (L2.KOf KX) mg "_law_offer" Sb.sOffer ["_law_bag_here","_law_count"]:=by
   dsimp only [L2.KOf]
   refine' Sb.def_mk KX G ?a ?l ?c ?k (fun _ _ _ _ _ _ us hl=>match us,hl with | [_,_],_=>rfl)
   (case a=>k_is); (case l=>k_is); (case c=>k_is); (case k=>k_is)
  have d__law_gain : Sb.Def (L2.KOf KX) mg "_law_gain" Sb.sLGain ["_law_offer_here","_law_word"]:=by
   dsimp only [L2.KOf]
   refine' Sb.def_mk KX G ?a ?l ?c ?k (fun _ _ _ _ _ _ us hl=>match us,hl with | [_,_],_=>rfl)
   (case a=>k_is); (case l=>k_is); (case c=>k_is); (case k=>k_is)
  have d__law_sides : Sb.Def (L2.KOf KX) mg "_law_sides" Sb.sLSides ["_law_offers"]:=by
   dsimp only [L2.KOf]
   refine' Sb.def_mk KX G ?a ?l ?c ?k (fun _ _ _ _ _ _ us hl=>match us,hl with | [_],_=>rfl)
   (case a=>k_is); (case l=>k_is); (case c=>k_is); (case k=>k_is)
  have d__law_sides_are : Sb.Def (L2.KOf KX) mg "_law_sides_are" Sb.sSidesAre ["_law_found","_law_due"]:=by
   dsimp only [L2.KOf]
   refine' Sb.def_mk KX G ?a ?l ?c ?k (fun _ _ _ _ _ _ us hl=>match us,hl with | [_,_],_=>rfl)
   (case a=>k_is); (case l=>k_is); (case c=>k_is); (case k=>k_is)
  have d__law_rows_are : Sb.Def (L2.KOf KX) mg "_law_rows_are" Sb.sRowsAre ["_law_found","_law_due"]:=by
   dsimp only [L2.KOf]
   refine' Sb.def_mk KX G ?a ?l ?c ?k (fun _ _ _ _ _ _ us hl=>match us,hl with | [_,_],_=>rfl)
   (case a=>k_is); (case l=>k_is); (case c=>k_is); (case k=>k_is)
  have g_NOUGHT : Sb.Con (L2.KOf KX) mg "NOUGHT" (0,1):=by
   dsimp only [L2.KOf]
   refine' Sb.con_mk KX G ?a ?l
   (case a=>k_is); (case l=>k_is)
  have g_ROW : Sb.ConI mg "ROW" 0:=by
   refine' Sb.conI_mk KX G ?a
   (case a=>k_is)
  have g_ASK : Sb.ConI mg "ASK" 1:=by
   refine' Sb.conI_mk KX G ?a
   (case a=>k_is)
  have g_BID : Sb.ConI mg "BID" 2:=by
   refine' Sb.conI_mk KX G ?a
   (case a=>k_is)
  have g_EVENT : Sb.ConI mg "EVENT" 3:=by
   refine' Sb.conI_mk KX G ?a
   (case a=>k_is)
  refine' Sb.law_mk (st:=Sb.sLaw) KX G hmg ?a ?l ?c ?k ?b ?ok
  (case a=>k_is); (case l=>k_is); (case c=>k_is); (case k=>k_is)
  (case b=>exact fun s v=>.of_eq rfl)
  case ok =>
   intro fd base F
   have c_gcd:=Sb.okGcd (P:=PySem.Challenge.rw_surebook_k08_sides.prog) (w:=w) (base:=base) d_common_divisor T
   have c_low:=Sb.okLowest (P:=PySem.Challenge.rw_surebook_k08_sides.prog) (w:=w) (base:=base) d_lowest c_gcd
   have c_isw:=Sb.okIsWhole (P:=PySem.Challenge.rw_surebook_k08_sides.prog) (w:=w) (base:=base) d_is_whole T
   have c_rat:=Sb.okRatio0 (P:=PySem.Challenge.rw_surebook_k08_sides.prog) (w:=w) (base:=base) d_ratio c_isw c_low
   have c_cb:=Sb.okCommon (P:=PySem.Challenge.rw_surebook_k08_sides.prog) (w:=w) (base:=base) d_common_bottom c_gcd
   have c_wb:=Sb.okWholeBy (P:=PySem.Challenge.rw_surebook_k08_sides.prog) (w:=w) (base:=base) d_whole_by
   have c_mean:=Sb.okMeanP (P:=PySem.Challenge.rw_surebook_k08_sides.prog) (w:=w) (base:=base) d_mean T c_cb c_wb c_rat
   have c_minus:=Sb.okMinus (P:=PySem.Challenge.rw_surebook_k08_sides.prog) (w:=w) (base:=base) d_minus c_low
   have c_isin:=Sb.okIsIn (P:=PySem.Challenge.rw_surebook_k08_sides.prog) (w:=w) (base:=base) d_is_in
   have c_cut:=Sb.okCut (P:=PySem.Challenge.rw_surebook_k08_sides.prog) (w:=w) (base:=base) d_cut T c_isin g_NOUGHT
   have c_gain:=Sb.okGain (P:=PySem.Challenge.rw_surebook_k08_sides.prog) (w:=w) (base:=base) d_gain T c_minus c_cut g_ROW g_ASK g_BID g_EVENT
   have c_words:=Sb.okWords (P:=PySem.Challenge.rw_surebook_k08_sides.prog) (w:=w) (base:=base) d_words_of g_ASK g_BID
   have c_sides:=Sb.okSides (P:=PySem.Challenge.rw_surebook_k08_sides.prog) (w:=w) (base:=base) d_sides T c_words
   have c_gains:=Sb.okGainsP (P:=PySem.Challenge.rw_surebook_k08_sides.prog) (w:=w) (base:=base) d_gains c_sides c_gain
   have c_iswt:=Sb.okIsWholeT (P:=PySem.Challenge.rw_surebook_k08_sides.prog) (w:=w) (base:=base) d_is_whole T
   have c_asr:=Sb.okAsR (P:=PySem.Challenge.rw_surebook_k08_sides.prog) (w:=w) (base:=base) d_as_ratio c_iswt
   have c_cometo:=Sb.okComeTo (P:=PySem.Challenge.rw_surebook_k08_sides.prog) (w:=w) (base:=base) d_come_to T c_asr c_mean
   have c_cell:=Sb.okCell (P:=PySem.Challenge.rw_surebook_k08_sides.prog) (w:=w) (base:=base) d__law_cell T
   have c_whole:=Sb.okWhole (P:=PySem.Challenge.rw_surebook_k08_sides.prog) (w:=w) (base:=base) d__law_whole T
   have c_most:=Sb.okMost (P:=PySem.Challenge.rw_surebook_k08_sides.prog) (w:=w) (base:=base) d__law_most
   have c_is:=Sb.okIs (P:=PySem.Challenge.rw_surebook_k08_sides.prog) (w:=w) (base:=base) d__law_is T c_whole c_most
   have c_ratio:=Sb.okRatio (P:=PySem.Challenge.rw_surebook_k08_sides.prog) (w:=w) (base:=base) d__law_ratio T c_most
   have c_bag:=Sb.okBag (P:=PySem.Challenge.rw_surebook_k08_sides.prog) (w:=w) (base:=base) d__law_bag
   have c_take:=Sb.okTake (P:=PySem.Challenge.rw_surebook_k08_sides.prog) (w:=w) (base:=base) d__law_take
   have c_lplus:=Sb.okLPlus (P:=PySem.Challenge.rw_surebook_k08_sides.prog) (w:=w) (base:=base) d__law_plus c_ratio
   have c_lminus:=Sb.okLMinus (P:=PySem.Challenge.rw_surebook_k08_sides.prog) (w:=w) (base:=base) d__law_minus c_ratio
   have c_ltimes:=Sb.okLTimes (P:=PySem.Challenge.rw_surebook_k08_sides.prog) (w:=w) (base:=base) d__law_times c_ratio
   have c_small:=Sb.okSmall (P:=PySem.Challenge.rw_surebook_k08_sides.prog) (w:=w) (base:=base) d__law_small c_take c_ratio
   have c_row:=Sb.okRow (P:=PySem.Challenge.rw_surebook_k08_sides.prog) (w:=w) (base:=base) d__law_row T c_small
   have c_event:=Sb.okEvent (P:=PySem.Challenge.rw_surebook_k08_sides.prog) (w:=w) (base:=base) d__law_event T c_take
   have c_in:=Sb.okIn (P:=PySem.Challenge.rw_surebook_k08_sides.prog) (w:=w) (base:=base) d__law_in
   have c_lcut:=Sb.okLCut (P:=PySem.Challenge.rw_surebook_k08_sides.prog) (w:=w) (base:=base) d__law_cut T c_in
   have c_ri:=Sb.okRowIs (P:=PySem.Challenge.rw_surebook_k08_sides.prog) (w:=w) (base:=base) d__law_row_is T c_is
   have c_maybe:=Sb.okMaybe (P:=PySem.Challenge.rw_surebook_k08_sides.prog) (w:=w) (base:=base) d__law_maybe c_take c_small
   have c_offer:=Sb.okOffer (P:=PySem.Challenge.rw_surebook_k08_sides.prog) (w:=w) (base:=base) d__law_offer c_row c_maybe c_event
   have c_lgain:=Sb.okLGain (P:=PySem.Challenge.rw_surebook_k08_sides.prog) (w:=w) (base:=base) d__law_gain c_lminus c_lcut
   have c_lsides:=Sb.okLSides (P:=PySem.Challenge.rw_surebook_k08_sides.prog) (w:=w) (base:=base) d__law_sides T
   have c_sidesare:=Sb.okSidesAre (P:=PySem.Challenge.rw_surebook_k08_sides.prog) (w:=w) (base:=base) d__law_sides_are T c_whole
   have c_rowsare:=Sb.okRowsAre (P:=PySem.Challenge.rw_surebook_k08_sides.prog) (w:=w) (base:=base) d__law_rows_are T c_ri
   exact Sb.okLaw F T c_cell c_bag c_take c_ratio c_offer c_lsides c_lgain c_sides c_gains c_sidesare c_rowsare c_lplus c_ltimes c_cometo c_ri
#print axioms PySem.Challenge.cw_surebook_k08_sides_holds
