import PyProof.Rows.All
import Wide.All
import OpenK.AllK
import Wide.FinOn
import Lean
import PyProof.EqAt
import PyProof.EqKinds
import PyProof.TupleCall
import PySem.Challenge.RW_surebook_k43_none_between
set_option Elab.async false
set_option linter.all false
set_option maxRecDepth 100000
namespace Sb
open PySem PySem.Spec PyProof.Rows
def NoCtx (o:Obj):Prop:=∃ vs,o.data=.fields vs/\vs[2]?=some .none
def Qt (A:Around) (h:Heap):Prop:=A.handled=none \/ ∃ a o,A.handled=some (.ref a)/\h.get? a=some o/\NoCtx o
def QtP (A:Around) (pn:List (Addr × Obj)):Prop:=A.handled=none \/ ∃ p ∈ pn,A.handled=some (.ref p.1)/\NoCtx p.2
theorem QtP.at {A:Around} {pn:List (Addr × Obj)} {h:Heap} (q:QtP A pn) (k:∀ p ∈ pn,h.get? p.1=some p.2):Qt A h :=
 q.imp id fun ⟨p,hp,e,n⟩=>⟨p.1,p.2,e,k p hp,n⟩
theorem Qt.keeps {A:Around} {h h':Heap} (q:Qt A h) (k:∀ b o,h.get? b=some o->NoCtx o->h'.get? b=some o):Qt A h':=q.imp id fun ⟨a,o,e,g,n⟩=>⟨a,o,e,k a o g n,n⟩
theorem Qt.but {A:Around} {h:Heap} {a:Addr} {o:Obj} {f:Obj->Obj} (q:Qt A h) (ha:h.get? a=some o) (n:¬ NoCtx o):Qt A (h.update a f) :=
 q.imp id fun ⟨b,u,e,g,m⟩=>⟨b,u,e,(Heap.SameBut.update ..).extBut b u (fun z=>n (by rw [z,ha] at g; cases g; exact m)) g,m⟩
theorem entry_unchain:entryFor table "proto.unchain"=some Builtin.«proto.unchain»:=entryFor_of_tree (by kernel_rfl)
section
variable {prog:Program} {w:World} {A:Around} {E:Value->Shared->Prop} {s:Shared}
theorem raiseNew_q {α:Type} {e:Addr} {oe:Obj} {vs:Array Value} {Q:α->Shared->Prop} (hq:Qt A s.heap) (he:s.heap.get? e=some oe) (hd:oe.data=.fields vs) (hz:2 < vs.size) (hn:∀ a,A.handled=some (.ref a)->a ≠ e)
  (h:∀ h':Heap,Heap.SameBut e s.heap h'->(∃ o',h'.get? e=some o'/\o'.cls=oe.cls)->E (.ref e) { s with heap:=h' }):wpAny (model prog w) A (raiseNew (.ref e):Sem α) Q E s:=by
 unfold raiseNew
 refine wpAny_bind (wpAny_handled ?_)
 rcases hq with hh | ⟨a,o,hh,ha,xs,hx,h2⟩
 ·rw [hh]
  first
   | exact wpAny_throw (h s.heap (Heap.SameBut.refl ..) ⟨_,he,rfl⟩)
   | exact wpAny_bind (wpAny_pure (wpAny_throw (h s.heap (Heap.SameBut.refl ..) ⟨_,he,rfl⟩)))
 ·have ne:=hn a hh
  rw [hh]
  dsimp only
  have nb:(Value.ref a != Value.ref e)=true:=by simpa using ne
  rw [if_pos nb]
  refine wpAny_bind (wpAny_holding (wpAny_runValue (codeAny_builtin entry_unchain ?_)))
  show wpAny _ _ (field (.ref a) 2 >>= _) _ _ s
  refine wpAny_bind (wpAny_field ha hx (x:=.none) h2 ?_)
  refine wpAny_pure ?_
  simp only [updateField]
  refine wpAny_bind (wpAny_bind (wpAny_load he ?_))
  rw [hd]
  show wpAny _ _ (if 2 < vs.size then _ else _) _ _ _
  rw [if_pos hz]
  refine wpAny_update he ?_
  refine wpAny_throw (h _ (Heap.SameBut.update ..) ⟨_,Heap.get?_update_self _ he ?_,?_⟩)
  ·exact Obj.isFreed_of_fields (Obj.data_mapFields hd _)
  ·exact Obj.cls_mapFields ..
theorem stop_q {α:Type} {Q:α->Shared->Prop} (hq:Qt A s.heap)
  (h:∀ (h':Heap) (e:Addr),(∀ b o,s.heap.get? b=some o->h'.get? b=some o)->(∃ o,h'.get? e=some o/\o.cls=.type "StopIteration")->E (.ref e) { s with heap:=h' }) :
  wpAny (model prog w) A (newExc (.type "StopIteration") [] >>= fun e=>(raiseNew e:Sem α)) Q E s:=by
 refine wpAny_bind ?_
 simp only [newExc,newTuple]
 refine wpAny_bind (wpAny_newObj_type ?_ (by size_fits))
 refine wpAny_bind (m:=firstArgMember _ _) (wpAny_of_eq (a:=Value.none) (by first | rfl | (simp only [firstArgMember]; rfl)) ?_)
 refine wpAny_newObj_type ?_ (by size_fits)
 have sz:∀ (o:Obj),(s.heap.push o).objs.size=s.heap.objs.size + 1:=fun o=>Heap.size_push ..
 refine raiseNew_q (hq.keeps fun b o hb _=>Heap.get?_push_of_some _ (Heap.get?_push_of_some _ hb)) (Heap.get?_push_size _ rfl) rfl (by simp [ownMembersOf]) (fun a ha z=>?_) fun h' sb ho=>?_
 ·rcases hq with q | ⟨b,o,q,hb,_⟩
  ·rw [q] at ha; cases ha
  ·rw [q] at ha
   cases ha
   have:=Heap.lt_size hb
   rw [z,sz] at this
   exact Nat.lt_irrefl _ (Nat.lt_of_succ_lt this)
 ·refine h h' _ (fun b o hb=>?_) ho
  refine sb.extBut b o (fun z=>?_) (Heap.get?_push_of_some _ (Heap.get?_push_of_some _ hb))
  have:=Heap.lt_size hb
  rw [z,sz] at this
  exact Nat.lt_irrefl _ (Nat.lt_of_succ_lt this)
theorem list_end_q {it l:Addr} {i:Nat} {items} {Q:Option Value->Shared->Prop} (hq:Qt A s.heap)
  (hit:s.heap.IsListIter it l i) (hl:s.heap.IsList l items) (hx:items[i]?=none)
  (hQ:∀ h',Heap.ExtBut it s.heap h'->Q none { s with heap:=h' }):wpAny (model prog w) A (pyNext (.ref it)) Q E s:=by
 obtain ⟨o,ho,hc,hd⟩:=id hit
 obtain ⟨ol,hol,_,nl,hdl⟩:=hl
 unfold pyNext
 refine wpAny_bind (wpAny_attempt (wpAny_callSpecial?_slot (name:=Str.ofString "__next__") hit.typeIs slot_listiter_next
  (wpAny_call_entry slot_listiter_next hit.typeIs entry_listiter_next ?_ (args_listiter_next _))))
 show wpAny _ _ (field (.ref it) 0 >>= _) _ _ s
 refine wpAny_bind (wpAny_field ho hd (x:=.ref l) rfl ?_)
 show wpAny _ _ (if (Value.ref l == Value.none)=true then _ else _) _ _ s
 rw [if_neg (show ¬ ((Value.ref l == Value.none)=true) from Bool.false_ne_true)]
 show wpAny _ _ (field (.ref it) 1 >>= _) _ _ s
 refine wpAny_bind (wpAny_field ho hd (x:=.int i 0) rfl ?_)
 show wpAny _ _ (seqItems? (.ref l) >>= _) _ _ s
 refine wpAny_bind (wpAny_seqItems hol hdl ?_)
 simp only [Int.toNat_natCast,hx]
 refine wpAny_bind (wpAny_rule (wpAny_bind (wpAny_setField ho hd (by simp) ?_)))
 refine stop_q (hq:=(hq.but ho fun n=>?_)) fun h' e k he=>?_
 ·obtain ⟨vs,e1,e2⟩:=n
  rw [hd] at e1
  cases e1
  simp at e2
 obtain ⟨oe,h1,h2⟩:=he
 refine wpAny_bind (wpAny_isInstance (T:="StopIteration") (b:=true) ⟨_,h1,h2⟩ isSubtype_stop ?_)
 exact wpAny_pure (hQ _ fun b o hb e=>k b o ((Heap.SameBut.update ..).extBut b o hb e))
theorem tuple_end_q {it t:Addr} {i:Nat} {items} {Q:Option Value->Shared->Prop} (hq:Qt A s.heap)
  (hit:s.heap.IsTupleIter it t i) (ht:s.heap.IsTuple t items) (hx:items[i]?=none)
  (hQ:∀ h',Heap.ExtBut it s.heap h'->Q none { s with heap:=h' }):wpAny (model prog w) A (pyNext (.ref it)) Q E s:=by
 obtain ⟨o,ho,hc,hd⟩:=id hit
 obtain ⟨ol,hol,_,nl,hdl⟩:=ht
 unfold pyNext
 refine wpAny_bind (wpAny_attempt (wpAny_callSpecial?_slot (name:=Str.ofString "__next__") hit.typeIs F.slot_tuple_iterator_next
  (wpAny_call_entry F.slot_tuple_iterator_next hit.typeIs F.entry_tuple_iterator_next ?_ (F.args_tuple_iterator_next_1 _))))
 show wpAny _ _ (field (.ref it) 0 >>= _) _ _ s
 refine wpAny_bind (wpAny_field ho hd (x:=.ref t) rfl ?_)
 show wpAny _ _ (if (Value.ref t == Value.none)=true then _ else _) _ _ s
 rw [if_neg (show ¬ ((Value.ref t == Value.none)=true) from Bool.false_ne_true)]
 show wpAny _ _ (field (.ref it) 1 >>= _) _ _ s
 refine wpAny_bind (wpAny_field ho hd (x:=.int i 0) rfl ?_)
 show wpAny _ _ (seqItems? (.ref t) >>= _) _ _ s
 refine wpAny_bind (wpAny_seqItems hol hdl ?_)
 simp only [Int.toNat_natCast,hx]
 refine wpAny_bind (wpAny_rule (wpAny_bind (wpAny_setField ho hd (by simp) ?_)))
 refine stop_q (hq:=(hq.but ho fun n=>?_)) fun h' e k he=>?_
 ·obtain ⟨vs,e1,e2⟩:=n
  rw [hd] at e1
  cases e1
  simp at e2
 obtain ⟨oe,h1,h2⟩:=he
 refine wpAny_bind (wpAny_isInstance (T:="StopIteration") (b:=true) ⟨_,h1,h2⟩ isSubtype_stop ?_)
 exact wpAny_pure (hQ _ fun b o hb e=>k b o ((Heap.SameBut.update ..).extBut b o hb e))
theorem range_end_q {it:Addr} {x left step:Int} {Q:Option Value->Shared->Prop} (hq:Qt A s.heap) (hit:IsRangeIter s.heap it x left step) (hleft:left<=0)
  (hQ:∀ h',Heap.ExtBut it s.heap h'->Q none { s with heap:=h' }):wpAny (model prog w) A (pyNext (.ref it)) Q E s:=by
 have hT:s.TypeIs (.ref it) "range_iterator":=⟨_,hit,rfl⟩
 unfold pyNext
 refine wpAny_bind (wpAny_attempt (wpAny_callSpecial?_slot (name:=Str.ofString "__next__") hT F.slot_range_iterator_next
  (wpAny_call_entry F.slot_range_iterator_next hT F.entry_range_iterator_next ?_ (F.args_range_iterator_next_1 _))))
 show wpAny _ _ (field (.ref it) 0 >>= _) _ _ s
 refine wpAny_bind (wpAny_field hit rfl (x:=rawInt x) rfl ?_)
 show wpAny _ _ (field (.ref it) 1 >>= _) _ _ s
 refine wpAny_bind (wpAny_field hit rfl (x:=rawInt left) rfl ?_)
 show wpAny _ _ (field (.ref it) 2 >>= _) _ _ s
 refine wpAny_bind (wpAny_field hit rfl (x:=rawInt step) rfl ?_)
 show wpAny _ _ (if left<=0 then _ else _) _ _ s
 rw [if_pos hleft]
 refine wpAny_bind (wpAny_rule ?_)
 refine wpAny_bind ?_
 refine stop_q (hq:=hq) fun h' e k he=>?_
 obtain ⟨oe,h1,h2⟩:=he
 refine wpAny_bind (wpAny_isInstance (T:="StopIteration") (b:=true) ⟨_,h1,h2⟩ isSubtype_stop ?_)
 exact wpAny_pure (hQ _ fun b o hb e=>k b o e)
theorem unpackItems_q {t:Addr} {items:Array Value} {Q:List Value->Shared->Prop} (hq:Qt A s.heap) (ht:IsTup s.heap t items)
  (hQ:∀ h',Heap.ExtBut s.heap.objs.size s.heap h'->Q items.toList { s with heap:=h' }):wpAny (model prog w) A (unpackItems (.ref t) items.size none) Q E s:=by
 have hlt:t ≠ s.heap.objs.size:=by obtain ⟨o,ho,_⟩:=ht; exact Nat.ne_of_lt (Heap.lt_size ho)
 unfold unpackItems
 refine wpAny_bind ?_
 ·unfold notIterableAtAll
  refine wpAny_bind (wpAny_specialOf ht.typeIs slot_tuple_iter.lookup ?_)
  refine wpAny_pure ?_
  simp only [Bool.false_eq_true,if_false]
  refine wpAny_bind (wpAny_holding (iter_tuple ht ?_))
  refine wpAny_bind (wpAny_holding (draw_tuple hlt items.size 0 _ _ ⟨_,Heap.get?_push_size _ rfl,rfl,rfl⟩ (ht.push _) (by omega) fun h₁ hit₁ hs₁=>?_))
  have hall:List.take items.size (List.drop 0 items.toList)=items.toList:=by
   rw [List.drop_zero]; exact List.take_of_length_le (by simp)
  rw [hall]
  rw [if_neg (by simp)]
  have ht₁:IsTup h₁ t items:=(ht.push _).extBut hs₁.extBut hlt
  have kp:∀ b o,s.heap.get? b=some o->h₁.get? b=some o:=fun b o e=>hs₁.extBut b o (fun z=>by have:=Heap.lt_size e; rw [z] at this; exact Nat.lt_irrefl _ this) (Heap.get?_push_of_some _ e)
  refine wpAny_bind (wpAny_holding (tuple_end_q (hq.keeps fun b o e _=>kp b o e) hit₁ ht₁ (by simp) fun h₂ he₂=>?_))
  simp only [Option.isSome_none,Bool.false_eq_true,if_false]
  refine wpAny_pure (hQ h₂ fun b o hb e=>he₂ b o hb (kp b o e))
theorem assign_Tuple_q {env:Env} {elts:List Expr} {x1} {pos:Pos} {t:Addr} {items:Array Value} {Q:Unit->Shared->Prop} (hq:Qt A s.heap) (ht:IsTup s.heap t items)
  (hn:(assignEach elts env).length=items.size) (hstar:(assignEach elts env).findIdx? (·.1)=none)
  (h:∀ h',Heap.ExtBut s.heap.objs.size s.heap h'->wpAny (model prog w) A (assignInOrder ((assignEach elts env).map (·.2)) items.toList) Q E { s with heap:=h' }) :
  wpAny (model prog w) A (assign (.Tuple elts x1 pos) env (.ref t)) Q E s:=by
 rw [assign_Tuple]
 refine wpAny_bind (wpAny_standAt ?_)
 unfold unpack
 rw [hn,hstar]
 exact wpAny_bind (wpAny_holding (unpackItems_q hq ht h))
end
theorem Walks.listQ {prog:Program} {w:World} {A:Around} {qs:List (Addr × Obj)} (hq:QtP A qs) (I ax:Addr) (hne:ax ≠ I) (hqs:∀ p ∈ qs,p.1 ≠ I) (items:Array Value) :
  Walks prog w A I (I :: ax :: qs.map Prod.fst) [I] items.size (fun i v=>items[i]?=some v) (fun i h=>h.IsListIter I ax i/\h.IsList ax items/\∀ p ∈ qs,h.get? p.1=some p.2) where
 sub:=fun b hb=>by simp at hb; simp [hb]
 frame:=fun _ _ _ st hk=>⟨st.1.at fun o e=>hk I (by simp) o e,st.2.1.at fun o e=>hk ax (by simp) o e,fun p hp=>hk p.1 (by simp; exact .inr (.inr ⟨p.2,hp⟩)) p.2 (st.2.2 p hp)⟩
 item:=fun i s Q E hi st hQ=>by
  refine wpAny_pyNext_list_item st.1 st.2.1 (x:=items[i]) (by simp [hi]) fun h' hit' hs'=>?_
  exact hQ _ h' s.toks (by simp [hi]) ⟨hit',st.2.1.extBut hs'.extBut hne,fun p hp=>hs'.extBut p.1 p.2 (hqs p hp) (st.2.2 p hp)⟩ fun b o hb e=>hs'.extBut b o (fun h=>hb (by simp [h])) e
 done:=fun s Q E st hQ=>list_end_q (hq.at st.2.2) st.1 st.2.1 (by simp) fun h' he'=>hQ h' s.toks fun b o hb e=>he' b o (fun h=>hb (by simp [h])) e
 self:=fun _ _ _ _ st hQ=>wpAny_pyIter_listiter st.1 hQ
theorem range_item {prog:Program} {w:World} {A:Around} {I:Addr} {a c:Int} {n:Nat} (i:Nat) (s:Shared) (Q:Option Value->Shared->Prop) (E:Value->Shared->Prop) (hi:i < n) (st:IsRangeIter s.heap I (a + (i:Nat) * c) ((n:Int) - (i:Nat)) c)
  (hQ:∀ v h' tk,(∃ t,v=Value.int (a + i * c) t)->IsRangeIter h' I (a + ((i + 1:Nat):Int) * c) ((n:Int) - ((i + 1:Nat):Int)) c->(∀ b o,b ∉ [I]->s.heap.get? b=some o->h'.get? b=some o)->Q (some v) { s with heap:=h',toks:=tk }) :
  wpAny (model prog w) A (pyNext (.ref I)) Q E s:=by
 refine wpAny_pyNext_range_item st (by omega) fun h' hit' hs'=>?_
 refine hQ _ h' _ ⟨_,rfl⟩ ?_ fun b o hb e=>hs'.extBut b o (fun h=>hb (by simp [h])) e
 have e1:a + ((i + 1:Nat):Int) * c=a + (i:Int) * c + c:=by push_cast; rw [Int.add_mul,Int.one_mul,Int.add_assoc]
 have e2:(n:Int) - ((i + 1:Nat):Int)=(n:Int) - (i:Int) - 1:=by push_cast; omega
 rw [e1,e2]; exact hit'
def QtE (A:Around) (h:Heap) (H:Addr->Option α) (fs:List Addr):Prop:=A.handled=none \/ ∃ a o,A.handled=some (.ref a)/\h.get? a=some o/\NoCtx o/\H a=none/\a ∉ fs/\∀ v,o.data ≠ .cell v
def qpin (A:Around) (h:Heap):List (Addr × Obj):=match A.handled with
 | some (.ref a)=>match h.get? a with
  | some o=>[(a,o)]
  | none=>[]
 | _=>[]
theorem QtE.pin {A:Around} {h:Heap} {H:Addr->Option α} {fs:List Addr} (q:QtE A h H fs):QtP A (qpin A h):=by
 rcases q with q | ⟨a,o,e,g,n,_⟩
 ·exact .inl q
 ·refine .inr ⟨(a,o),?_,e,n⟩
  unfold qpin
  rw [e]
  dsimp only
  rw [g]
  simp
theorem QtE.mem {A:Around} {h:Heap} {H:Addr->Option α} {fs:List Addr} (q:QtE A h H fs) (p:Addr × Obj) (hp:p ∈ qpin A h):h.get? p.1=some p.2/\H p.1=none/\p.1 ∉ fs/\∀ v,p.2.data ≠ .cell v:=by
 rcases q with q | ⟨a,o,e,g,n,h1,h2,h3⟩
 ·unfold qpin at hp
  rw [q] at hp
  cases hp
 ·unfold qpin at hp
  rw [e] at hp
  dsimp only at hp
  rw [g] at hp
  obtain rfl:p=(a,o):=by simpa using hp
  exact ⟨g,h1,h2,h3⟩
end Sb
namespace Sb
open PySem PySem.Spec PyProof.Rows
section
variable {prog:Program} {w:World} {A:Around} {E:Value->Shared->Prop} {s:Shared}
theorem nextOf_list_end_q {it l:Addr} {i:Nat} {items} {Q:Value->Shared->Prop} (hq:Qt A s.heap)
  (hit:s.heap.IsListIter it l i) (hl:s.heap.IsList l items) (hx:items[i]?=none)
  (hE:∀ h' e,Heap.ExtBut it s.heap h'->(∃ o,h'.get? e=some o/\o.cls=.type "StopIteration")->E (.ref e) { s with heap:=h' }) :
  wpAny (model prog w) A (Builtin.SmallTypes.nextOf (.ref it)) Q E s:=by
 obtain ⟨o,ho,hc,hd⟩:=id hit
 obtain ⟨ol,hol,_,nl,hdl⟩:=hl
 unfold Builtin.SmallTypes.nextOf
 refine wpAny_bind (wpAny_callSpecial?_slot (name:=Str.ofString "__next__") hit.typeIs slot_listiter_next
  (wpAny_call_entry slot_listiter_next hit.typeIs entry_listiter_next ?_ (args_listiter_next _)))
 show wpAny _ _ (field (.ref it) 0 >>= _) _ _ s
 refine wpAny_bind (wpAny_field ho hd (x:=.ref l) rfl ?_)
 show wpAny _ _ (if (Value.ref l == Value.none)=true then _ else _) _ _ s
 rw [if_neg (show ¬ ((Value.ref l == Value.none)=true) from Bool.false_ne_true)]
 show wpAny _ _ (field (.ref it) 1 >>= _) _ _ s
 refine wpAny_bind (wpAny_field ho hd (x:=.int i 0) rfl ?_)
 show wpAny _ _ (seqItems? (.ref l) >>= _) _ _ s
 refine wpAny_bind (wpAny_seqItems hol hdl ?_)
 simp only [Int.toNat_natCast,hx]
 refine wpAny_bind (wpAny_rule (wpAny_bind (wpAny_setField ho hd (by simp) ?_)))
 refine stop_q (hq:=(hq.but ho fun n=>?_)) fun h' e k he=>?_
 ·obtain ⟨vs,e1,e2⟩:=n
  rw [hd] at e1
  cases e1
  simp at e2
 exact hE _ _ (fun b o hb e=>k b o ((Heap.SameBut.update ..).extBut b o hb e)) he
end
theorem Draws.listQ {prog:Program} {w:World} {A:Around} {qs:List (Addr × Obj)} (hq:QtP A qs) (it l:Addr) (hne:l ≠ it) (hqs:∀ p ∈ qs,p.1 ≠ it) (items:Array Value) :
  Draws prog w A it (it :: l :: qs.map Prod.fst) items.size (fun i v=>items[i]?=some v) (fun i h=>h.IsListIter it l i/\h.IsList l items/\∀ p ∈ qs,h.get? p.1=some p.2) where
 live:=fun _ _ st=>let ⟨o,ho,_⟩:=st.1; ⟨o,ho⟩
 frame:=fun _ _ _ st hk=>⟨st.1.at fun o e=>hk it (by simp) o e,st.2.1.at fun o e=>hk l (by simp) o e,fun p hp=>hk p.1 (by simp; exact .inr (.inr ⟨p.2,hp⟩)) p.2 (st.2.2 p hp)⟩
 item:=fun i s Q E hi st hQ=>by
  refine wpAny_nextOf_list_item st.1 st.2.1 (x:=items[i]) (by simp [hi]) fun h' hit' hs'=>?_
  exact hQ _ h' s.toks (by simp [hi]) ⟨hit',st.2.1.extBut hs'.extBut hne,fun p hp=>hs'.extBut p.1 p.2 (hqs p hp) (st.2.2 p hp)⟩ hs'
 done:=fun s Q E st hE=>nextOf_list_end_q (hq.at st.2.2) st.1 st.2.1 (by simp) hE
section
variable {prog:Program} {w:World} {A:Around} {E:Value->Shared->Prop} {s:Shared} {l:Addr} {xs:Array (Int × Tok)} {qs:List (Addr × Obj)}
theorem iter_q {Q:Value->Shared->Prop} (hp:∀ p ∈ qs,s.heap.get? p.1=some p.2) (hl:s.heap.IsList l (intItems xs))
  (h:∀ s₂:Shared,s₂={ s with heap:=s.heap.push { cls:=.type "list_iterator",data:=.fields #[.ref l,.int 0 0] } } →
   (s₂.heap.IsListIter s.heap.objs.size l 0/\s₂.heap.IsList l (intItems xs)/\∀ p ∈ qs,s₂.heap.get? p.1=some p.2)->(∀ b ∈ s.heap.objs.size :: l :: qs.map Prod.fst,b < s₂.heap.objs.size)->l ≠ s.heap.objs.size->(∀ p ∈ qs,p.1 ≠ s.heap.objs.size)->Q (.ref s.heap.objs.size) s₂) :
  wpAny (model prog w) A (pyIter (.ref l)) Q E s:=by
 refine iter_intList hl fun s₂ e st hb hne=>h s₂ e ⟨st.1,st.2,fun p q=>?_⟩ (fun b m=>?_) hne fun p q=>Nat.ne_of_lt (Heap.lt_size (hp p q))
 ·rw [e]
  exact Heap.get?_push_of_some _ (hp p q)
 ·rcases List.mem_cons.mp m with m | m
  ·exact hb b (by simp [m])
  ·rcases List.mem_cons.mp m with m | m
   ·exact hb b (by simp [m])
   ·obtain ⟨p,q,rfl⟩:=List.mem_map.mp m
    rw [e]
    show _ < (s.heap.push _).objs.size
    rw [Heap.size_push]
    exact Nat.lt_succ_of_lt (Heap.lt_size (hp p q))
theorem sum_q {Q:Value->Shared->Prop} (hq:QtP A qs) (hp:∀ p ∈ qs,s.heap.get? p.1=some p.2) (hl:s.heap.IsList l (intItems xs))
  (h:∀ h' tk t',(∀ b o,s.heap.get? b=some o->h'.get? b=some o)->Q (.int (preSum (numAt xs) xs.size) t') { s with heap:=h',toks:=tk }) :
  wpAny (model prog w) A (call (.builtin "sum") [.ref l]) Q E s:=by
 refine call_sum_walkG (iter_q hp hl fun s₂ e st hfp hlI hqI=>?_)
 subst e
 refine ⟨_,_,_,_,_,_,numAt xs,rfl,Walks.listQ (A:=A.in1) hq _ l hlI hqI (intItems xs),st,hfp,(fun _ _=>intItems_at),fun h' tk t' hk=>?_⟩
 have:=h h' tk t' (old_kept hk)
 simpa [intItems] using this
end
end Sb
namespace Sb
open PySem PySem.Spec PyProof.Rows
section
variable {prog:Program} {w:World} {A:Around} {s:Shared}
end
section
variable {prog:Program} {w:World} {A:Around} {E:Value->Shared->Prop} {s:Shared}
end
end Sb
namespace L2
open PySem PySem.Spec PyProof.Rows
abbrev Key:=Sum Int Str
def keyIs:Key->Value->Bool
 | .inl k,v=>Value.isInt k v
 | .inr x,v=>Value.isStrOf x v
def keyH (w:World):Key->Int
 | .inl k=>hashInt k
 | .inr x=>hashStr w x
theorem keyIs_shape:∀ {k:Key} {v:Value},keyIs k v=true->(∃ i t,k=Sum.inl i/\v=Value.int i t) \/ (∃ x t,k=Sum.inr x/\v=Value.str x t)
 | .inl i,v,h=>by
  obtain ⟨t,e⟩:=Value.isInt_shape (k:=i) (v:=v) h
  exact .inl ⟨i,t,rfl,e⟩
 | .inr x,v,h=>by
  obtain ⟨t,e⟩:=Value.isStrOf_shape (x:=x) (v:=v) h
  exact .inr ⟨x,t,rfl,e⟩
theorem key_ll (a b:Int):decide ((Sum.inl a:Key)=Sum.inl b)=(a == b):=by
 by_cases e:a=b
 ·subst e; simp
 ·have h:¬ (Sum.inl a:Key)=Sum.inl b:=fun q=>e (Sum.inl.inj q)
  rw [decide_eq_false h]
  exact (beq_eq_false_iff_ne.mpr e).symm
theorem key_rr (a b:Str):decide ((Sum.inr a:Key)=Sum.inr b)=decide (a=b):=by
 by_cases e:a=b
 ·subst e; simp
 ·have h:¬ (Sum.inr a:Key)=Sum.inr b:=fun q=>e (Sum.inr.inj q)
  rw [decide_eq_false h,decide_eq_false e]
theorem key_lr (a:Int) (b:Str):decide ((Sum.inl a:Key)=Sum.inr b)=false:=decide_eq_false (fun q=>nomatch q)
theorem key_rl (a:Str) (b:Int):decide ((Sum.inr a:Key)=Sum.inl b)=false:=decide_eq_false (fun q=>nomatch q)
def mixKind (prog:Program) (w:World):PySem.KeyKind prog w Key where
 is:=keyIs
 hash:=keyH w
 inj:=fun v a b ha hb=>by
  rcases keyIs_shape ha with ⟨i,t,rfl,rfl⟩ | ⟨x,t,rfl,rfl⟩
  ·rcases keyIs_shape hb with ⟨j,u,rfl,e⟩ | ⟨y,u,rfl,e⟩
   ·injection e with e1 _; rw [e1]
   ·exact nomatch e
  ·rcases keyIs_shape hb with ⟨j,u,rfl,e⟩ | ⟨y,u,rfl,e⟩
   ·exact nomatch e
   ·injection e with e1 _; rw [e1]
 byValue:=fun k v h=>by
  rcases keyIs_shape h with ⟨i,t,rfl,rfl⟩ | ⟨x,t,rfl,rfl⟩ <;> rfl
 pyHash:=fun hv h=>by
  rcases keyIs_shape hv with ⟨i,t,rfl,rfl⟩ | ⟨x,t,rfl,rfl⟩
  ·exact wpAny_pyHash_int h
  ·exact wpAny_pyHash_str h
 eqBool:=fun hu hv h=>by
  rcases keyIs_shape hu with ⟨i,t,rfl,rfl⟩ | ⟨x,t,rfl,rfl⟩
  ·rcases keyIs_shape hv with ⟨j,u,rfl,rfl⟩ | ⟨y,u,rfl,rfl⟩
   ·rw [key_ll] at h; exact wpAny_eqBool_int h
   ·rw [key_lr] at h; exact SeqAt.EqAt.int_str i t y u _ _ _ _ h
  ·rcases keyIs_shape hv with ⟨j,u,rfl,rfl⟩ | ⟨y,u,rfl,rfl⟩
   ·rw [key_rl] at h; exact SeqAt.EqAt.str_int x t j u _ _ _ _ h
   ·rw [key_rr] at h; exact wpAny_eqBool_str h
 «strs»:=fun k x t v h=>by
  rcases keyIs_shape h with ⟨i,u,rfl,e⟩ | ⟨y,u,rfl,e⟩
  ·exact nomatch e
  ·injection e with e1 _
   subst e1
   cases v <;> rfl
end L2
namespace L2
open PySem PySem.Spec PyProof.Rows
inductive V where
 | non | bl (b:Bool) | int (i:Int) | str (x:Str) | byt (b:Array UInt8) | flt (b:UInt64) | ref (a:Addr) | ty (n:String)
 deriving DecidableEq
def RelV:V->Value->Prop
 | .non,u=>u=Value.none
 | .bl b,u=>u=Value.bool b
 | .int i,u=>∃ t,u=Value.int i t
 | .str x,u=>∃ t,u=Value.str x t
 | .byt b,u=>∃ t,u=Value.bytes b t
 | .flt b,u=>∃ t,u=Value.float b t
 | .ref a,u=>u=Value.ref a
 | .ty n,u=>u=Value.type n
abbrev Vals:List V->List Value->Prop:=Paired RelV
theorem Vals.length {xs:List V} {us:List Value} (r:Vals xs us):xs.length=us.length:=Paired.length r
theorem Vals.get:∀ {xs:List V} {us:List Value} {i:Nat} {x:V},Vals xs us->xs[i]?=some x->∃ u,us[i]?=some u/\RelV x u
 | _,_,_,_,.nil,e=>by simp at e
 | _,_,0,_,.cons r _,e=>by simp at e; subst e; exact ⟨_,rfl,r⟩
 | _,_,i + 1,x,.cons _ t,e=>by
  obtain ⟨u,h1,h2⟩:=Vals.get (i:=i) (x:=x) t (by simpa using e)
  exact ⟨u,by simpa using h1,h2⟩
theorem Vals.set {x:V} {u:Value} (r:RelV x u):∀ {xs:List V} {us:List Value} (i:Nat),Vals xs us->Vals (xs.set i x) (us.set i u)
 | _,_,_,.nil=>.nil
 | _,_,0,.cons _ t=>.cons r t
 | _,_,i + 1,.cons q t=>.cons q (Vals.set r i t)
theorem Vals.append:∀ {xs ys:List V} {us ws:List Value},Vals xs us->Vals ys ws->Vals (xs ++ ys) (us ++ ws)
 | _,_,_,_,.nil,s=>s
 | _,_,_,_,.cons r t,s=>.cons r (Vals.append t s)
def RelO:Option V->Option Value->Prop
 | some v,some u=>RelV v u
 | none,none=>True
 | _,_=>False
def KV {κ:Type}:List (κ × V)->List (κ × Value)->Prop:=Paired fun (p:κ × V) (q:κ × Value)=>p.1=q.1/\RelV p.2 q.2
def kV:Key->V
 | .inl i=>.int i
 | .inr x=>.str x
inductive HO where
 | lst (xs:List V)
 | tup (xs:List V)
 | dK (kvs:List (Key × V)) | dT (kvs:List (List Key × V))
 | set (S:Int->Bool) (n:Nat)
 | ins (C dx:Addr) (fs:List (Str × V))
 | own (x:Addr)
 | xd (fs:List (Str × V))
 | met (f x:Addr)
 | rng (lo hi:Int)
 | frz (o:Obj) (u:HO)
 | tbl (ps:Array Value)
 | ext (φ:Heap->Prop)
abbrev Hp:=Addr->Option HO
def upd (H:Hp) (a:Addr) (o:HO):Hp:=fun b=>if b=a then some o else H b
theorem upd_same {H:Hp} {a:Addr} {o:HO}:upd H a o a=some o:=by unfold upd; rw [if_pos rfl]
theorem upd_ne {H:Hp} {a b:Addr} {o:HO} (h:b ≠ a):upd H a o b=H b:=by unfold upd; rw [if_neg h]
theorem ne_of {H:Hp} {a b:Addr} {o u:HO} (h:H a=some o) (h':H b=some u) (d:o ≠ u):a ≠ b:=by
 intro e; subst e; rw [h] at h'; exact d (Option.some.inj h')
theorem ne_of_none {H:Hp} {a b:Addr} {o:HO} (h:H a=some o) (h':H b=none):a ≠ b:=by
 intro e; subst e; rw [h] at h'; cases h'
section
variable (P:Program) (w:World)
def ObjOk (H:Hp) (h:Heap) (a:Addr):HO->Prop
 | .lst xs=>xs.length<=sizeLine/\∃ (its:List Value) (n:Nat),Vals xs its/\h.get? a=some { cls:=.type "list",data:=.seq its.toArray n }
 | .tup xs=>xs.length<=sizeLine/\∃ its:List Value,Vals xs its/\IsTup h a its.toArray
 | .dK kvs=>kvs.length<=sizeLine/\(a == sysModules)=false/\∃ vs,KV kvs vs/\h.DictOf (mixKind P w) a vs
 | .dT kvs=>kvs.length<=sizeLine/\(a == sysModules)=false/\∃ xs:List (List Key × Addr × Value),
   Paired (fun (p:List Key × V) (q:List Key × Addr × Value)=>p.1=q.1/\H q.2.1=some (.tup (p.1.map kV))/\RelV p.2 q.2.2) kvs xs ∧
   ∃ o es ep,h.get? a=some o/\o.ExactDict/\o.data=.dict es ep/\es.toList=xs.map (entryOfKey (tupleKind (mixKind P w)))/\(xs.map (·.1)).Nodup
 | .set S n=>h.SetOf (intKind P w) a S n
 | .ins C dx fs=>H dx=some (.own a)/\fs.length<=1000/\dx ≠ a/\h.get? a=some (PySem.W.instObj C dx) ∧
   ∃ mA,h.Ns1 dx mA/\(∀ f,RelO (fs.lookup f) (mA f))/\PySem.Within mA (fs.map (·.1))
 | .own _=>∃ o,h.get? a=some o
 | .xd fs=>∃ mA,h.Ns1 a mA/\∀ f,RelO (fs.lookup f) (mA f)
 | .rng lo hi=>∃ t u v,h.get? a=some { cls:=.type "range",data:=.fields #[.int lo t,.int hi u,.int 1 v] }
 | .frz o u=>h.get? a=some o/\ObjOk H h a u
 | .tbl ps=>h.get? a=some { cls:=.none,data:=.fields ps }
 | .met f x=>h.get? a=some (PySem.W.methodObj (.ref f) (.ref x))
 | .ext φ=>φ h/\(∃ o,h.get? a=some o)/\∀ h1 h2:Heap,φ h1->(∀ o,h1.get? a=some o->h2.get? a=some o)->φ h2
def HOk (H:Hp) (h:Heap):Prop:=∀ a o,H a=some o->ObjOk P w H h a o
end
section
variable {P:Program} {w:World} {H H':Hp} {h h':Heap} {a:Addr} {o:HO}
theorem ObjOk.lt (x:ObjOk P w H h a o):a < h.objs.size:=by
 cases o with
 | lst xs=>obtain ⟨_,_,_,_,e⟩:=x; exact Heap.lt_size e
 | tup xs=>obtain ⟨_,_,_,p⟩:=x; exact p.lt
 | dK kvs=>obtain ⟨_,_,_,_,o,_,_,e,_⟩:=x; exact Heap.lt_size e
 | dT kvs=>obtain ⟨_,_,_,_,o,_,_,e,_⟩:=x; exact Heap.lt_size e
 | set S n=>obtain ⟨o,_,_,_,e,_⟩:=x; exact Heap.lt_size e
 | ins C dx fs=>obtain ⟨_,_,_,e,_⟩:=x; exact Heap.lt_size e
 | own y=>obtain ⟨_,e⟩:=x; exact Heap.lt_size e
 | xd fs=>obtain ⟨_,⟨_,_,_,e,_⟩,_⟩:=x; exact Heap.lt_size e
 | rng lo hi=>obtain ⟨_,_,_,e⟩:=x; exact Heap.lt_size e
 | frz ob u=>obtain ⟨e,_⟩:=x; exact Heap.lt_size e
 | tbl ps=>exact Heap.lt_size (show h.get? a=some _ from x)
 | met f y=>exact Heap.lt_size (show h.get? a=some _ from x)
 | ext φ=>obtain ⟨_,⟨_,e⟩,_⟩:=x; exact Heap.lt_size e
theorem Paired.mapP {α β:Type} {F G:α->β->Prop}:∀ {l₁:List α} {l₂:List β},Paired F l₁ l₂->(∀ a b,F a b->G a b)->Paired G l₁ l₂
 | _,_,.nil,_=>.nil
 | _,_,.cons r t,f=>.cons (f _ _ r) (Paired.mapP t f)
theorem ObjOk.stay (x:ObjOk P w H h a o) (k:∀ b u,(b=a \/ H b=some (.own a))->h.get? b=some u->h'.get? b=some u)
  (ho:∀ b,H b=some (.own a)->H' b=some (.own a)) (ht:∀ b xs,H b=some (.tup xs)->H' b=some (.tup xs)):ObjOk P w H' h' a o:=by
 induction o with
 | lst xs=>obtain ⟨z,its,n,r,e⟩:=x; exact ⟨z,its,n,r,k _ _ (.inl rfl) e⟩
 | tup xs=>obtain ⟨z,its,r,ob,e,c⟩:=x; exact ⟨z,its,r,ob,k _ _ (.inl rfl) e,c⟩
 | dK kvs=>obtain ⟨z,y,vs,r,ob,es,ep,e,c⟩:=x; exact ⟨z,y,vs,r,ob,es,ep,k _ _ (.inl rfl) e,c⟩
 | dT kvs =>
  obtain ⟨z,y,xs,r,ob,es,ep,e,c⟩:=x
  exact ⟨z,y,xs,Paired.mapP r fun p q z=>⟨z.1,ht _ _ z.2.1,z.2.2⟩,ob,es,ep,k _ _ (.inl rfl) e,c⟩
 | set S n=>obtain ⟨ob,es,ep,t,e,c⟩:=x; exact ⟨ob,es,ep,t,k _ _ (.inl rfl) e,c⟩
 | ins C dx fs =>
  obtain ⟨d,z,ne,e,mA,⟨od,es,ep,e2,c⟩,r⟩:=x
  exact ⟨ho _ d,z,ne,k _ _ (.inl rfl) e,mA,⟨od,es,ep,k _ _ (.inr d) e2,c⟩,r⟩
 | own y=>obtain ⟨ob,e⟩:=x; exact ⟨ob,k _ _ (.inl rfl) e⟩
 | xd fs=>obtain ⟨mA,⟨od,es,ep,e,c⟩,r⟩:=x; exact ⟨mA,⟨od,es,ep,k _ _ (.inl rfl) e,c⟩,r⟩
 | rng lo hi=>obtain ⟨t,u,v,e⟩:=x; exact ⟨t,u,v,k _ _ (.inl rfl) e⟩
 | frz ob u ih=>obtain ⟨e,q⟩:=x; exact ⟨k _ _ (.inl rfl) e,ih q⟩
 | tbl ps =>
  have e:h.get? a=some { cls:=.none,data:=.fields ps }:=x
  show h'.get? a=some { cls:=.none,data:=.fields ps }
  exact k a _ (.inl rfl) e
 | met f y =>
  have e:h.get? a=some (PySem.W.methodObj (.ref f) (.ref y)):=x
  show h'.get? a=some (PySem.W.methodObj (.ref f) (.ref y))
  exact k a _ (.inl rfl) e
 | ext φ=>obtain ⟨p,⟨o,e⟩,st⟩:=x; exact ⟨st _ _ p fun o q=>k _ _ (.inl rfl) q,⟨o,k _ _ (.inl rfl) e⟩,st⟩
theorem HOk.lt (x:HOk P w H h) (e:H a=some o):a < h.objs.size:=(x a o e).lt
theorem HOk.fresh (x:HOk P w H h) (e:h.objs.size<=a):H a=none:=by
 cases q:H a with
 | none=>rfl
 | some u=>exact absurd (Nat.lt_of_lt_of_le (x.lt q) e) (Nat.lt_irrefl _)
theorem HOk.kept (x:HOk P w H h) (k:∀ b u,h.get? b=some u->h'.get? b=some u):HOk P w H h':=fun a o e =>
 (x a o e).stay (fun b u _ q=>k b u q) (fun _ q=>q) fun _ _ q=>q
theorem HOk.laid (x:HOk P w H h) (k:∀ b u,h.get? b=some u->h'.get? b=some u) (hp:h.objs.size<=a) (new:ObjOk P w (upd H a o) h' a o):HOk P w (upd H a o) h':=fun b u e=>by
 have hn:=x.fresh hp
 by_cases hb:b=a
 ·subst hb; rw [upd_same] at e; cases e; exact new
 ·rw [upd_ne hb] at e
  exact (x b u e).stay (fun c v _ q=>k c v q) (fun c q=>by rw [upd_ne (ne_of_none q hn)]; exact q) fun c xs q=>by rw [upd_ne (ne_of_none q hn)]; exact q
end
def Rd (H:Hp) (a:Addr) (u:HO):Prop:=H a=some u \/ ∃ o,H a=some (.frz o u)
theorem Rd.ok {P:Program} {w:World} {H:Hp} {h:Heap} {a:Addr} {u:HO} (r:Rd H a u) (x:HOk P w H h):ObjOk P w H h a u:=by
 rcases r with r | ⟨o,r⟩
 ·exact x a u r
 ·obtain ⟨_,q⟩:=x a _ r
  exact q
def Mut:Option HO->Prop
 | some (.lst _)=>True
 | some (.dK _)=>True
 | some (.dT _)=>True
 | some (.set _ _)=>True
 | some (.ins _ _ _)=>True
 | some (.ext _)=>True
 | _=>False
section
variable {P:Program} {w:World} {H:Hp} {h h':Heap} {x e:Addr} {o':HO}
theorem HOk.write (ok:HOk P w H h) (mu:Mut (H x)) (he:e=x \/ H e=some (.own x)) (k:∀ b u,b ≠ e->h.get? b=some u->h'.get? b=some u) (heo:∃ u,h'.get? e=some u)
  (new:ObjOk P w (upd H x o') h' x o'):HOk P w (upd H x o') h':=fun b u q=>by
 have nown:∀ c y,H c=some (.own y)->c ≠ x:=fun c y r z=>by subst z; rw [r] at mu; exact mu
 have ntup:∀ c xs,H c=some (.tup xs)->c ≠ x:=fun c xs r z=>by subst z; rw [r] at mu; exact mu
 by_cases hb:b=x
 ·subst hb; rw [upd_same] at q; cases q; exact new
 ·rw [upd_ne hb] at q
  by_cases hbe:b=e
  ·have q':H b=some (.own x):=by
    rcases he with z | z
    ·exact absurd (hbe.trans z) hb
    ·rw [hbe]; exact z
   rw [q] at q'; cases q'
   obtain ⟨v,hv⟩:=heo
   exact ⟨v,by rw [hbe]; exact hv⟩
  ·refine (ok b u q).stay (fun c v hc r=>k c v ?_ r) (fun c r=>by rw [upd_ne (nown c b r)]; exact r) fun c xs r=>by rw [upd_ne (ntup c xs r)]; exact r
   rcases hc with rfl | hc
   ·exact hbe
   ·rintro rfl
    rcases he with z | z
    ·exact nown c b hc z
    ·rw [hc] at z; cases z; exact hb rfl
end
structure Un (fs ex:List Addr) (H H':Hp) (h h':Heap):Prop where
 keep:∀ b o,h.get? b=some o->H b=none->b ∉ fs->b ∉ ex->h'.get? b=some o
 slot:∀ b o,h.get? b=some o->H b=none->b ∈ fs->b ∉ ex->∃ sl,h'.get? b=some { o with slots:=sl }
 free:∀ b o,h.get? b=some o->H b=none->b ∉ ex->H' b=none
 there:∀ b o,h.get? b=some o->b ∉ ex->∃ o',h'.get? b=some o'
 tups:∀ b xs,H b=some (.tup xs)->H' b=some (.tup xs)
 frzs:∀ b o u,H b=some (.frz o u)->H' b=some (.frz o u)
 tbls:∀ b ps,H b=some (.tbl ps)->∃ more,H' b=some (.tbl (ps ++ more))
section
variable {fs fs' ex ex':List Addr} {H H1 H2:Hp} {h h1 h2 h':Heap} {a x e:Addr} {o:HO}
theorem Un.any (u:Un fs ex H H1 h h1) {b:Addr} {ob:Obj} (q:h.get? b=some ob) (n:H b=none) (hx:b ∉ ex):∃ sl,h1.get? b=some { ob with slots:=sl }:=by
 by_cases hb:b ∈ fs
 ·exact u.slot b ob q n hb hx
 ·exact ⟨ob.slots,u.keep b ob q n hb hx⟩
theorem Un.kept (k:∀ b u,h.get? b=some u->h'.get? b=some u):Un fs ex H H h h' :=
 ⟨fun b ob q _ _ _=>k b ob q,fun b ob q _ _ _=>⟨ob.slots,k b ob q⟩,fun _ _ _ n _=>n,fun b ob q _=>⟨ob,k b ob q⟩,fun _ _ q=>q,fun _ _ _ q=>q,fun _ ps q=>⟨#[],by rw [q]; simp⟩⟩
theorem Un.refl:Un fs ex H H h h:=Un.kept fun _ _ q=>q
theorem Un.laid (k:∀ b u,h.get? b=some u->h'.get? b=some u) (hp:h.objs.size<=a) (hn:H a=none):Un fs ex H (upd H a o) h h' where
 keep:=fun b u q _ _ _=>k b u q
 slot:=fun b u q _ _ _=>⟨u.slots,k b u q⟩
 free:=fun b u q n _=>by rw [upd_ne (Nat.ne_of_lt (Nat.lt_of_lt_of_le (Heap.lt_size q) hp))]; exact n
 there:=fun b u q _=>⟨u,k b u q⟩
 tups:=fun b xs q=>by rw [upd_ne (ne_of_none q hn)]; exact q
 frzs:=fun b u xs q=>by rw [upd_ne (ne_of_none q hn)]; exact q
 tbls:=fun b ps q=>⟨#[],by rw [upd_ne (ne_of_none q hn),q]; simp⟩
theorem Un.write (mu:Mut (H x)) (he:e=x \/ H e=some (.own x)) (k:∀ b u,b ≠ e->h.get? b=some u->h'.get? b=some u) (heo:∃ u,h'.get? e=some u):Un fs ex H (upd H x o) h h':=by
 have hx:∀ b,H b=none->b ≠ x:=fun b n z=>by subst z; rw [n] at mu; exact mu
 have hb:∀ b,H b=none->b ≠ e:=fun b n z=>by
  subst z
  rcases he with r | r
  ·exact hx b n r
  ·rw [n] at r; cases r
 have hm:∀ b u,H b=some u->¬ Mut (some u)->b ≠ x:=fun b u q nm z=>by subst z; rw [q] at mu; exact nm mu
 refine ⟨fun b u q n _ _=>k b u (hb b n) q,fun b u q n _ _=>⟨u.slots,k b u (hb b n) q⟩,fun b u q n _=>by rw [upd_ne (hx b n)]; exact n,fun b u q _=>?_,
  fun b xs q=>by rw [upd_ne (hm b _ q fun z=>z)]; exact q,fun b u xs q=>by rw [upd_ne (hm b _ q fun z=>z)]; exact q,fun b ps q=>⟨#[],by rw [upd_ne (hm b _ q fun z=>z),q]; simp⟩⟩
 by_cases hbe:b=e
 ·subst hbe; exact heo
 ·exact ⟨u,k b u hbe q⟩
end
def trk (h:Heap) (H:Hp):List Addr:=(List.range h.objs.size).filter fun a=>(H a).isSome
def hidT (h:Heap) (H:Hp):Heap:=PySem.W.hideAll h (trk h H)
theorem hidT_size (h:Heap) (H:Hp):(hidT h H).objs.size=h.objs.size:=PySem.W.hideAll_size _ _
theorem hidT_get {h:Heap} {H:Hp} {b:Addr} {o:Obj} (e:h.get? b=some o) (n:H b=none):(hidT h H).get? b=some o :=
 PySem.W.hideAll_get _ e fun hm=>by
  have q:(H b).isSome=true:=(List.mem_filter.mp hm).2
  rw [n] at q; simp at q
theorem of_hidT {h:Heap} {H:Hp} {b:Addr} {o:Obj} (e:(hidT h H).get? b=some o):h.get? b=some o/\H b=none:=by
 have e':h.get? b=some o:=PySem.W.of_hideAll (trk h H) e
 refine ⟨e',?_⟩
 cases q:H b with
 | none=>rfl
 | some x =>
  have hm:b ∈ trk h H:=List.mem_filter.mpr ⟨List.mem_range.mpr (Heap.lt_size e'),by simp [q]⟩
  have z:(hidT h H).get? b=none:=PySem.W.hideAll_none (trk h H) hm
  rw [z] at e; cases e
def allNews (g h:Heap) (L:Addr):List (Addr × Obj):=(List.range h.objs.size).filterMap fun a=>if a=L \/ (g.get? a).isSome=true then none else (h.get? a).map fun o=>(a,o)
def rest (g h:Heap) (L d:Addr):List (Addr × Obj):=(allNews g h L).filter fun p=>decide (p.1 ≠ d)
end L2
namespace L2
open PySem PySem.Spec PyProof.Rows
structure Mod (K:PySem.W.Frag) (mg:Str->Option Value) (base:Heap):Prop where
 kin:K.In base
 glob:base.Ns mainGlobals mg
 blt:∃ mb,base.Ns builtinsNs mb/\∀ x:Str,x ≠ "__name__"->mb x=bootBuiltins x
 nolimit:base.NoLimit
structure Cx where
 prog:Program
 w:World
 K:PySem.W.Frag
 mg:Str->Option Value
 base:Heap
 A:Around
 N:List Str
 s₀:Shared
 H₀:Hp
 env:Env
 outer:List Env
 stack:List Env
 ex:List Addr
 fn:Str->Bool
 calm:Bool
 pn:List (Addr × Obj)
 xe:Value->Shared->Prop
def frs (l:List Env):List Addr:=l.filterMap (·.frame)
abbrev Cx.fs (X:Cx):List Addr:=frs X.outer
def Vis (sc:Scope) (x:Str):Prop:=sc.names.lookup x=some .local \/ sc.names.lookup x=some .cell \/ sc.names.lookup x=some .free
def Loc (sc:Scope) (x:Str):Prop:=sc.names.lookup x=some .local \/ sc.names.lookup x=some .cell
def Look (env:Env) (h:Heap) (m:Str->Option Value) (x:Str) (u:Value):Prop :=
 (env.kindOf x=some .local/\m x=some u) \/ ((env.kindOf x=some .cell \/ env.kindOf x=some .free)/\∃ c,env.cells.lookup x=some c/\h.IsCell c (some u))
structure Cx.Ok (X:Cx):Prop where
 mod:Mod X.K X.mg X.base
 kind:X.env.scope.kind=.function
 glob:X.env.globals=mainGlobals
 blt:X.env.builtins=builtinsNs
 above:X.s₀.heap.objs.size<=X.env.locals
 inj:∀ x y c,X.env.cells.lookup x=some c->X.env.cells.lookup y=some c->x=y
 has:∀ x,(X.env.kindOf x=some .cell \/ X.env.kindOf x=some .free)->∃ c,X.env.cells.lookup x=some c
 cab:∀ x c,X.fn x=true->X.env.cells.lookup x=some c->X.s₀.heap.objs.size<=c
 hd:X.calm=true->Sb.QtP X.A X.pn
 frames:X.A.frames=some X.stack
 stk:X.stack=X.outer \/ (X.stack=X.env :: X.outer/\X.env.frame=some X.env.locals)
 exf:∀ b ∈ X.ex,b ≠ X.env.locals/\∀ x c,X.env.cells.lookup x=some c->c ≠ b
 bs:∀ b o,X.base.get? b=some o->X.s₀.heap.get? b=some o/\X.H₀ b=none
 bsz:X.base.objs.size<=X.s₀.heap.objs.size
 noex:∀ b o,X.base.get? b=some o->b ∉ X.ex
 exfs:∀ b ∈ X.ex,b ∉ X.fs
 funs:X.s₀.heap.FunFrames X.base X.outer
 frf:∀ b ∈ X.fs,X.H₀ b=none
structure Inv (X:Cx) (pins:List (Addr × Obj)) (σ:List (Option V)) (H:Hp) (s:Shared):Prop where
 ok:X.Ok
 os:s.os=X.s₀.os
 bare:AllBare s.gens
 base:Un X.fs X.ex X.H₀ H X.s₀.heap s.heap
 loc:∃ m,s.heap.Ns X.env.locals m/\∀ (i:Nat) (x:Str) (v:V),X.N[i]?=some x->σ[i]?=some (some v)->Vis X.env.scope x->∃ u,RelV v u/\Look X.env s.heap m x u
 cell:∀ x c,X.env.cells.lookup x=some c->∃ v,s.heap.IsCell c v
 free:H X.env.locals=none
 freeC:∀ x c,X.env.cells.lookup x=some c->H c=none
 pin:∀ p ∈ X.pn ++ pins,s.heap.get? p.1=some p.2/\H p.1=none/\p.1 ≠ X.env.locals/\p.1 ∉ X.fs/\∀ v,p.2.data ≠ .cell v
 hok:HOk X.prog X.w H s.heap
 len:σ.length=X.N.length
theorem Inv.qt {X:Cx} {pins:List (Addr × Obj)} {σ:List (Option V)} {H:Hp} {s:Shared} (I:Inv X pins σ H s) (hc:X.calm=true):Sb.Qt X.A s.heap:=(I.ok.hd hc).at fun p hp=>(I.pin p (List.mem_append_left _ hp)).1
section
variable {X:Cx} {pins:List (Addr × Obj)} {σ:List (Option V)} {H H':Hp} {s:Shared} {h':Heap}
theorem Cx.Ok.nofr (ok:X.Ok) {b:Addr} {o:Obj} (e:X.base.get? b=some o):b ∉ X.fs:=fun hb=>by
 have:=(ok.funs.mem hb).1
 rw [e] at this; cases this
theorem Inv.bs (I:Inv X pins σ H s):∀ b o,X.base.get? b=some o->s.heap.get? b=some o/\H b=none:=fun b o e =>
 ⟨I.base.keep b o (I.ok.bs b o e).1 (I.ok.bs b o e).2 (I.ok.nofr e) (I.ok.noex b o e),I.base.free b o (I.ok.bs b o e).1 (I.ok.bs b o e).2 (I.ok.noex b o e)⟩
theorem Inv.bk (I:Inv X pins σ H s):∀ b o,X.base.get? b=some o->s.heap.get? b=some o:=fun b o e=>(I.bs b o e).1
theorem Inv.mod (I:Inv X pins σ H s):Mod X.K X.mg X.base:=I.ok.mod
theorem Inv.kIn (I:Inv X pins σ H s):X.K.In s.heap:=I.ok.mod.kin.keeps I.bk
theorem Inv.lt (I:Inv X pins σ H s):X.env.locals < s.heap.objs.size:=let ⟨_,hn,_⟩:=I.loc; hn.lt
theorem Inv.sz (I:Inv X pins σ H s):X.s₀.heap.objs.size<=s.heap.objs.size:=Nat.le_trans I.ok.above (Nat.le_of_lt I.lt)
theorem Inv.nofs (I:Inv X pins σ H s) {a:Addr} (h:s.heap.objs.size<=a):a ∉ X.fs:=fun hb=>by
 obtain ⟨_,o,ho,_⟩:=I.ok.funs.mem hb
 exact absurd (Nat.lt_of_lt_of_le (Heap.lt_size ho) (Nat.le_trans I.sz h)) (Nat.lt_irrefl _)
theorem Inv.cne (I:Inv X pins σ H s):∀ x c,X.env.cells.lookup x=some c->c ≠ X.env.locals:=fun x c e z=>by
 obtain ⟨v,o,ho,hd⟩:=I.cell x c e
 obtain ⟨m,⟨o',es,ep,ho',hd',_⟩,_⟩:=I.loc
 rw [z,ho'] at ho; cases ho; rw [hd'] at hd; cases hd
theorem Inv.funs (I:Inv X pins σ H s):s.heap.FunFrames X.base X.outer:=by
 have all:∀ (l:List Env),(∀ b ∈ frs l,b ∈ X.fs)->X.s₀.heap.FunFrames X.base l->s.heap.FunFrames X.base l:=by
  intro l
  induction l with
  | nil=>intro _ _; trivial
  | cons env r ih =>
   intro hs hl
   obtain ⟨hk,⟨L,o,hf,hn,ho,hd⟩,hr⟩:=hl
   have hL:L ∈ X.fs:=hs L (by unfold frs; rw [List.filterMap_cons,hf]; exact List.mem_cons_self)
   obtain ⟨sl,e⟩:=I.base.slot L o ho (I.ok.frf L hL) hL fun z=>I.ok.exfs L z hL
   exact ⟨hk,⟨L,_,hf,hn,e,hd⟩,ih (fun b hb=>hs b (by unfold frs; rw [List.filterMap_cons,hf]; exact List.mem_cons_of_mem _ hb)) hr⟩
 exact all X.outer (fun _ hb=>hb) I.ok.funs
theorem Inv.stack (I:Inv X pins σ H s):s.heap.FunFrames X.base X.stack:=by
 rcases I.ok.stk with e | ⟨e,hf⟩
 ·rw [e]; exact I.funs
 ·rw [e]
  obtain ⟨m,hn,_⟩:=I.loc
  refine .cons (by rw [I.ok.kind]; decide) hf hn ?_ I.funs
  exact Heap.get?_none_of_le (Nat.le_trans I.ok.bsz I.ok.above)
theorem Inv.stkSub (I:Inv X pins σ H s):∀ b ∈ frs X.stack,b ∈ X.env.locals :: X.fs:=fun b hb=>by
 rcases I.ok.stk with e | ⟨e,hf⟩
 ·rw [e] at hb; exact List.mem_cons_of_mem _ hb
 ·rw [e] at hb
  unfold frs at hb
  rw [List.filterMap_cons,hf] at hb
  exact hb
theorem Inv.stkFree (I:Inv X pins σ H s):∀ b ∈ frs X.stack,H b=none:=fun b hb=>by
 rcases List.mem_cons.mp (I.stkSub b hb) with e | hb
 ·rw [e]; exact I.free
 ·obtain ⟨_,o,ho,_⟩:=I.ok.funs.mem hb
  exact I.base.free b o ho (I.ok.frf b hb) fun z=>I.ok.exfs b z hb
theorem Inv.step {g':Array GenState} {t':Nat} {d':Drawn} {ch:List Addr} (I:Inv X pins σ H s)
  (hch:∀ b ∈ ch,(b ∈ X.ex \/ X.s₀.heap.objs.size<=b)/\b ≠ X.env.locals/\(∀ x c,X.env.cells.lookup x=some c->c ≠ b)/\∀ p ∈ X.pn ++ pins,p.1 ≠ b)
  (keep:∀ b o,b ≠ X.env.locals->b ∉ X.fs->b ∉ ch->s.heap.get? b=some o->H b=none->h'.get? b=some o)
  (slot:∀ b o,b ≠ X.env.locals->b ∈ X.fs->b ∉ ch->s.heap.get? b=some o->H b=none->∃ sl,h'.get? b=some { o with slots:=sl }) (free:∀ b o,b ∉ ch->s.heap.get? b=some o->H b=none->H' b=none)
  (there:∀ b o,b ∉ ch->s.heap.get? b=some o->∃ o',h'.get? b=some o')
  (tups:∀ b xs,H b=some (.tup xs)->H' b=some (.tup xs)) (frzs:∀ b o u,H b=some (.frz o u)->H' b=some (.frz o u)) (tbls:∀ b ps,H b=some (.tbl ps)->∃ more,H' b=some (.tbl (ps ++ more)))
  (ns:∀ m,s.heap.Ns X.env.locals m->h'.Ns X.env.locals m) (hok:HOk X.prog X.w H' h') (hg:AllBare g') :
  Inv X pins σ H' { s with heap:=h',gens:=g',drawn:=d',toks:=t' }:=by
 have neL:∀ b o,X.s₀.heap.get? b=some o->b ≠ X.env.locals:=fun b o e=>Nat.ne_of_lt (Nat.lt_of_lt_of_le (Heap.lt_size e) I.ok.above)
 have neC:∀ b o,X.s₀.heap.get? b=some o->b ∉ X.ex->b ∉ ch:=fun b o e hx hb=>by
  rcases (hch b hb).1 with z | z
  ·exact hx z
  ·exact absurd (Nat.lt_of_lt_of_le (Heap.lt_size e) z) (Nat.lt_irrefl _)
 have cellK:∀ x c,X.env.cells.lookup x=some c->∀ v,s.heap.IsCell c v->h'.IsCell c v:=fun x c e v ⟨o,ho,hd⟩=>by
  have nch:c ∉ ch:=fun z=>(hch c z).2.2.1 x c e rfl
  by_cases hc:c ∈ X.fs
  ·obtain ⟨sl,q⟩:=slot c o (I.cne x c e) hc nch ho (I.freeC x c e)
   exact ⟨_,q,hd⟩
  ·exact ⟨o,keep c o (I.cne x c e) hc nch ho (I.freeC x c e),hd⟩
 refine ⟨I.ok,I.os,hg,⟨fun b o e n hb hx=>?_,fun b o e n hb hx=>?_,fun b o e n hx=>?_,fun b o e hx=>?_,fun b xs e=>tups b xs (I.base.tups b xs e),fun b o xs e=>frzs b o xs (I.base.frzs b o xs e),fun b ps e=>?_⟩,?_,fun x c e=>?_,?_,fun x c e=>?_,fun p hp=>?_,hok,I.len⟩
 ·exact keep b o (neL b o e) hb (neC b o e hx) (I.base.keep b o e n hb hx) (I.base.free b o e n hx)
 ·obtain ⟨sl,e1⟩:=I.base.slot b o e n hb hx
  obtain ⟨sl',e2⟩:=slot b _ (neL b o e) hb (neC b o e hx) e1 (I.base.free b o e n hx)
  exact ⟨sl',e2⟩
 ·obtain ⟨o',e1⟩:=I.base.there b o e hx
  exact free b o' (neC b o e hx) e1 (I.base.free b o e n hx)
 ·obtain ⟨o',e1⟩:=I.base.there b o e hx
  exact there b o' (neC b o e hx) e1
 ·obtain ⟨m1,e1⟩:=I.base.tbls b ps e
  obtain ⟨m2,e2⟩:=tbls b _ e1
  exact ⟨m1 ++ m2,by rw [e2,Array.append_assoc]⟩
 ·obtain ⟨m,hn,hl⟩:=I.loc
  refine ⟨m,ns m hn,fun i x v e1 e2 e3=>?_⟩
  obtain ⟨u,r,l⟩:=hl i x v e1 e2 e3
  refine ⟨u,r,?_⟩
  rcases l with l | ⟨k,c,e,z⟩
  ·exact .inl l
  ·exact .inr ⟨k,c,e,cellK x c e _ z⟩
 ·obtain ⟨v,z⟩:=I.cell x c e
  exact ⟨v,cellK x c e v z⟩
 ·obtain ⟨m,⟨o,_,_,ho,_⟩,_⟩:=I.loc
  exact free _ o (fun z=>(hch _ z).2.1 rfl) ho I.free
 ·obtain ⟨v,o,ho,hd⟩:=I.cell x c e
  exact free c o (fun z=>(hch c z).2.2.1 x c e rfl) ho (I.freeC x c e)
 ·obtain ⟨e,n,ne,nf,d⟩:=I.pin p hp
  have nch:p.1 ∉ ch:=fun z=>(hch p.1 z).2.2.2 p hp rfl
  exact ⟨keep p.1 p.2 ne nf nch e n,free p.1 p.2 nch e n,ne,nf,d⟩
theorem Inv.un {t':Nat} (I:Inv X pins σ H s) (u:Un X.fs [] H H' s.heap h') (hok:HOk X.prog X.w H' h'):Inv X pins σ H' { s with heap:=h',toks:=t' }:=by
 obtain ⟨m,⟨o,es,ep,ho,r⟩,_⟩:=id I.loc
 obtain ⟨sl,hL⟩:=u.any ho I.free (by simp)
 exact I.step (g':=s.gens) (d':=s.drawn) (ch:=[]) (fun _ z=>nomatch z) (fun b o _ hb _ e n=>u.keep b o e n hb (by simp)) (fun b o _ hb _ e n=>u.slot b o e n hb (by simp)) (fun b o _ e n=>u.free b o e n (by simp)) (fun b o _ e=>u.there b o e (by simp)) u.tups u.frzs u.tbls (fun m' hm=>by
  obtain ⟨o',es',ep',ho',r'⟩:=hm
  rw [ho] at ho'; cases ho'
  exact ⟨_,es',ep',hL,r'⟩) hok I.bare
theorem Inv.call {g':Array GenState} {t':Nat} {d':Drawn} {ch:List Addr} (I:Inv X pins σ H s) (u:Un (frs X.stack) ch H H' s.heap h') (hok:HOk X.prog X.w H' h') (hg:AllBare g')
  (hch:∀ b ∈ ch,(b ∈ X.ex \/ X.s₀.heap.objs.size<=b)/\b ≠ X.env.locals/\(∀ x c,X.env.cells.lookup x=some c->c ≠ b)/\∀ p ∈ X.pn ++ pins,p.1 ≠ b) :
  Inv X pins σ H' { s with heap:=h',gens:=g',drawn:=d',toks:=t' }:=by
 obtain ⟨m,⟨o,es,ep,ho,r⟩,_⟩:=id I.loc
 obtain ⟨sl,hL⟩:=u.any ho I.free fun z=>(hch _ z).2.1 rfl
 exact I.step (ch:=ch) hch (fun b o hL hb hc e n=>u.keep b o e n (fun z=>(List.mem_cons.mp (I.stkSub b z)).elim hL hb) hc) (fun b o _ _ hc e n=>u.any e n hc) (fun b o hc e n=>u.free b o e n hc) (fun b o hc e=>u.there b o e hc) u.tups u.frzs u.tbls (fun m' hm=>by
  obtain ⟨o',es',ep',ho',r'⟩:=hm
  rw [ho] at ho'; cases ho'
  exact ⟨_,es',ep',hL,r'⟩) hok hg
theorem Inv.turned {t':Nat} {it:Addr} (I:Inv X pins σ H s) (k:∀ b o,b ≠ it->s.heap.get? b=some o->h'.get? b=some o) (hn:H it=none) (hL:it ≠ X.env.locals)
  (h1:it ∈ X.ex \/ X.s₀.heap.objs.size<=it) (h2:∀ x c,X.env.cells.lookup x=some c->c ≠ it) (h3:∀ p ∈ X.pn ++ pins,p.1 ≠ it):Inv X pins σ H { s with heap:=h',toks:=t' }:=by
 have nit:∀ b u,H b=some u->b ≠ it:=fun b u e z=>by rw [z,hn] at e; cases e
 refine I.step (g':=s.gens) (d':=s.drawn) (ch:=[it]) (fun b hb=>?_) (fun b o _ _ hc e _=>k b o (fun z=>hc (by simp [z])) e) (fun b o _ _ hc e _=>⟨o.slots,k b o (fun z=>hc (by simp [z])) e⟩) (fun _ _ _ _ n=>n)
  (fun b o hc e=>⟨o,k b o (fun z=>hc (by simp [z])) e⟩) (fun _ _ e=>e) (fun _ _ _ e=>e) (fun b ps e=>⟨#[],by rw [e]; simp⟩) (fun m hm=>?_) (fun b u e=>?_) I.bare
 ·have e:b=it:=by simpa using hb
  subst e
  exact ⟨h1,hL,h2,h3⟩
 ·obtain ⟨o,es,ep,ho,r⟩:=hm
  exact ⟨o,es,ep,k _ o (Ne.symm hL) ho,r⟩
 ·refine (I.hok b u e).stay (fun c v hc q=>k c v ?_ q) (fun _ q=>q) fun _ _ q=>q
  rcases hc with z | z
  ·rw [z]; exact nit b u e
  ·exact nit c _ z
theorem Inv.tok (I:Inv X pins σ H s) (t:Nat):Inv X pins σ H { s with toks:=t }:=I.un (h':=s.heap) (t':=t) Un.refl I.hok
theorem Inv.kept {t':Nat} (I:Inv X pins σ H s) (k:∀ b u,s.heap.get? b=some u->h'.get? b=some u):Inv X pins σ H { s with heap:=h',toks:=t' }:=I.un (Un.kept k) (I.hok.kept k)
theorem Inv.laid {a:Addr} {o:HO} {t':Nat} (I:Inv X pins σ H s) (k:∀ b u,s.heap.get? b=some u->h'.get? b=some u) (hp:s.heap.objs.size<=a) (new:ObjOk X.prog X.w (upd H a o) h' a o) :
  Inv X pins σ (upd H a o) { s with heap:=h',toks:=t' }:=I.un (Un.laid k hp (I.hok.fresh hp)) (I.hok.laid k hp new)
theorem Inv.write {x e:Addr} {o:HO} {t':Nat} (I:Inv X pins σ H s) (mu:Mut (H x)) (he:e=x \/ H e=some (.own x)) (k:∀ b u,b ≠ e->s.heap.get? b=some u->h'.get? b=some u) (heo:∃ u,h'.get? e=some u)
  (new:ObjOk X.prog X.w (upd H x o) h' x o):Inv X pins σ (upd H x o) { s with heap:=h',toks:=t' }:=I.un (Un.write mu he k heo) (I.hok.write mu he k heo new)
theorem Inv.weak {σ':List (Option V)} (I:Inv X pins σ H s) (hl:σ'.length=σ.length) (w:∀ (i:Nat) v,σ'[i]?=some (some v)->σ[i]?=some (some v)):Inv X pins σ' H s :=
 ⟨I.ok,I.os,I.bare,I.base,let ⟨m,hn,hl'⟩:=I.loc; ⟨m,hn,fun i x v e1 e2 e3=>hl' i x v e1 (w i v e2) e3⟩,I.cell,I.free,I.freeC,I.pin,I.hok,hl.trans I.len⟩
theorem Inv.pins_of {pins':List (Addr × Obj)} (I:Inv X pins σ H s) (h:∀ p ∈ pins',s.heap.get? p.1=some p.2/\H p.1=none/\p.1 ≠ X.env.locals/\p.1 ∉ X.fs/\∀ v,p.2.data ≠ .cell v):Inv X pins' σ H s :=
 ⟨I.ok,I.os,I.bare,I.base,I.loc,I.cell,I.free,I.freeC,fun p hp=>(List.mem_append.mp hp).elim (fun z=>I.pin p (List.mem_append_left _ z)) (h p),I.hok,I.len⟩
theorem nodup_ix {N:List Str} (hN:N.Nodup) {i j:Nat} {x:Str} (a:N[i]?=some x) (b:N[j]?=some x):i=j:=by
 obtain ⟨h1,e1⟩:=List.getElem?_eq_some_iff.mp a
 obtain ⟨h2,e2⟩:=List.getElem?_eq_some_iff.mp b
 exact (List.getElem_inj hN).mp (e1.trans e2.symm)
theorem store_ok2 {M:Model} {A:Around} {E:Value->Shared->Prop} {i:Nat} {x:Str} {v:V} {u:Value} {Q:Unit->Shared->Prop} (I:Inv X pins σ H s) (hN:X.N.Nodup) (hi:X.N[i]?=some x) (hx:Loc X.env.scope x) (r:RelV v u)
  (h:∀ s',Inv X pins (σ.set i (some v)) H s'->(∃ a,Heap.SameBut a s.heap s'.heap/\(a=X.env.locals \/ X.env.cells.lookup x=some a))->Q () s') (hf:X.fn x=true \/ X.env.scope.names.lookup x=some .local:=by first | exact .inl rfl | exact .inr rfl | assumption):wpAny M A (storeName X.env x u) Q E s:=by
 obtain ⟨m,hn,hl⟩:=id I.loc
 have hcls:(X.env.scope.kind == .class || (X.env.scope.kind == .module && X.env.locals != X.env.globals))=false:=by rw [I.ok.kind]; rfl
 have hiσ:i < σ.length:=by rw [I.len]; exact (List.getElem?_eq_some_iff.mp hi).1
 have cne:=I.cne
 have tracked:∀ {a:Addr} {h':Heap},(∃ o,s.heap.get? a=some o/\H a=none)->Heap.SameBut a s.heap h'->HOk X.prog X.w H h':=fun {a h'} ha hs b ob e=>by
  obtain ⟨_,_,hfree⟩:=ha
  refine (I.hok b ob e).stay (fun c w' hc q=>(hs.2 c ?_).trans q) (fun _ q=>q) fun _ _ q=>q
  rintro rfl
  rcases hc with rfl | hc
  ·rw [hfree] at e; cases e
  ·rw [hfree] at hc; cases hc
 rcases hx with hk | hk
 ·refine wpAny_storeName_local hk hn (fun h' hn' hs=>?_) hcls
  obtain ⟨oL,_,_,hoL,_⟩:=id hn
  refine h _ ⟨I.ok,I.os,I.bare,⟨fun b o e n hb hx=>?_,fun b o e n hb hx=>?_,I.base.free,fun b o e hx=>?_,I.base.tups,I.base.frzs,I.base.tbls⟩,⟨_,hn',fun j y v' e1 e2 e3=>?_⟩,fun y c e=>?_,I.free,I.freeC,fun p hp=>?_,tracked ⟨oL,hoL,I.free⟩ hs,by simpa using I.len⟩ ⟨_,hs,.inl rfl⟩
  ·exact (hs.2 b (Nat.ne_of_lt (Nat.lt_of_lt_of_le (Heap.lt_size e) I.ok.above))).trans (I.base.keep b o e n hb hx)
  ·obtain ⟨sl,e1⟩:=I.base.slot b o e n hb hx
   exact ⟨sl,(hs.2 b (Nat.ne_of_lt (Nat.lt_of_lt_of_le (Heap.lt_size e) I.ok.above))).trans e1⟩
  ·obtain ⟨o',e1⟩:=I.base.there b o e hx
   exact ⟨o',(hs.2 b (Nat.ne_of_lt (Nat.lt_of_lt_of_le (Heap.lt_size e) I.ok.above))).trans e1⟩
  ·by_cases hj:j=i
   ·subst hj
    rw [hi] at e1; cases e1
    rw [List.getElem?_set_self hiσ] at e2
    cases e2
    exact ⟨u,r,.inl ⟨hk,by simp⟩⟩
   ·rw [List.getElem?_set_ne (Ne.symm hj)] at e2
    obtain ⟨u',r',q⟩:=hl j y v' e1 e2 e3
    refine ⟨u',r',?_⟩
    rcases q with ⟨k,e⟩ | ⟨k,c,e,z⟩
    ·refine .inl ⟨k,?_⟩
     have:y ≠ x:=fun e=>hj (nodup_ix hN e1 (e ▸ hi))
     simp [this,e]
    ·exact .inr ⟨k,c,e,z.sameBut hs (cne y c e)⟩
  ·obtain ⟨w',z⟩:=I.cell y c e
   exact ⟨w',z.sameBut hs (cne y c e)⟩
  ·obtain ⟨e,n,ne,nf,d⟩:=I.pin p hp
   exact ⟨(hs.2 p.1 ne).trans e,n,ne,nf,d⟩
 ·have hfn:X.fn x=true:=by
   rcases hf with z | z
   ·exact z
   ·rw [z] at hk; cases hk
  obtain ⟨c,hc⟩:=I.ok.has x (.inl hk)
  obtain ⟨w',z⟩:=I.cell x c hc
  refine wpAny_storeName_cell I.ok.kind hk hc z (fun h' hc' hs=>?_)
  obtain ⟨oc,hoc,hocd⟩:=id z
  refine h { s with heap:=h' } ⟨I.ok,I.os,I.bare,⟨fun b o e n hb hx=>?_,fun b o e n hb hx=>?_,I.base.free,fun b o e hx=>?_,I.base.tups,I.base.frzs,I.base.tbls⟩,⟨m,hn.sameBut hs (Ne.symm (cne x c hc)),fun j y v' e1 e2 e3=>?_⟩,fun y c' e=>?_,I.free,I.freeC,fun p hp=>?_,tracked ⟨oc,hoc,I.freeC x c hc⟩ hs,by simpa using I.len⟩ ⟨c,hs,.inr hc⟩
  ·exact (hs.2 b (Nat.ne_of_lt (Nat.lt_of_lt_of_le (Heap.lt_size e) (I.ok.cab x c hfn hc)))).trans (I.base.keep b o e n hb hx)
  ·obtain ⟨sl,e1⟩:=I.base.slot b o e n hb hx
   exact ⟨sl,(hs.2 b (Nat.ne_of_lt (Nat.lt_of_lt_of_le (Heap.lt_size e) (I.ok.cab x c hfn hc)))).trans e1⟩
  ·obtain ⟨o',e1⟩:=I.base.there b o e hx
   exact ⟨o',(hs.2 b (Nat.ne_of_lt (Nat.lt_of_lt_of_le (Heap.lt_size e) (I.ok.cab x c hfn hc)))).trans e1⟩
  ·by_cases hj:j=i
   ·subst hj
    rw [hi] at e1; cases e1
    rw [List.getElem?_set_self hiσ] at e2
    cases e2
    exact ⟨u,r,.inr ⟨.inl hk,c,hc,hc'⟩⟩
   ·rw [List.getElem?_set_ne (Ne.symm hj)] at e2
    obtain ⟨u',r',q⟩:=hl j y v' e1 e2 e3
    refine ⟨u',r',?_⟩
    rcases q with q | ⟨k,c',e,z'⟩
    ·exact .inl q
    ·refine .inr ⟨k,c',e,z'.sameBut hs ?_⟩
     rintro rfl
     exact hj (nodup_ix hN e1 (I.ok.inj _ _ _ e hc ▸ hi))
  ·by_cases hcc:c'=c
   ·subst hcc; exact ⟨_,hc'⟩
   ·obtain ⟨w2,z2⟩:=I.cell y c' e
    exact ⟨w2,z2.sameBut hs hcc⟩
  ·obtain ⟨e,n,ne,nf,d⟩:=I.pin p hp
   refine ⟨(hs.2 p.1 ?_).trans e,n,ne,nf,d⟩
   intro q
   rw [q,hoc] at e
   have q':oc=p.2:=Option.some.inj e
   exact d w' (by rw [← q']; exact hocd)
theorem store_ok {M:Model} {A:Around} {E:Value->Shared->Prop} {i:Nat} {x:Str} {v:V} {u:Value} {Q:Unit->Shared->Prop} (I:Inv X pins σ H s) (hN:X.N.Nodup) (hi:X.N[i]?=some x) (hx:Loc X.env.scope x) (r:RelV v u)
  (h:∀ s',Inv X pins (σ.set i (some v)) H s'->Q () s') (hf:X.fn x=true \/ X.env.scope.names.lookup x=some .local:=by first | exact .inl rfl | exact .inr rfl | assumption):wpAny M A (storeName X.env x u) Q E s :=
 store_ok2 I hN hi hx r (fun s' I' _=>h s' I') hf
theorem Inv.call' {s':Shared} {ch:List Addr} (I:Inv X pins σ H s) (ho:s'.os=s.os) (u:Un (frs X.stack) ch H H' s.heap s'.heap) (hok:HOk X.prog X.w H' s'.heap) (hg:AllBare s'.gens)
  (hch:∀ b ∈ ch,(b ∈ X.ex \/ X.s₀.heap.objs.size<=b)/\b ≠ X.env.locals/\(∀ x c,X.env.cells.lookup x=some c->c ≠ b)/\∀ p ∈ X.pn ++ pins,p.1 ≠ b):Inv X pins σ H' s':=by
 obtain ⟨h',g',d',t',o'⟩:=s'
 have e:o'=s.os:=ho
 subst e
 exact I.call (g':=g') (t':=t') (d':=d') u hok hg hch
end
abbrev XK:=Value->Option Addr->Hp->Prop
abbrev St:=List (Option V)
abbrev VK:=V->Hp->Prop
abbrev TE:=St->Hp->VK->Prop
abbrev TT:=St->Hp->(Bool->Hp->Prop)->Prop
abbrev TA:=St->Hp->(List V->Hp->Prop)->Prop
structure Ends where
 nx:St->Hp->Prop
 rt:VK
 bk:St->Hp->Prop:=fun _ _=>False
 ct:St->Hp->Prop:=fun _ _=>False
abbrev TS:=Ends->St->Hp->Prop
def EP (X:Cx) (pins:List (Addr × Obj)) (σ:St) (Q:VK) (u:Value) (s':Shared):Prop:=∃ v H',Inv X pins σ H' s'/\RelV v u/\Q v H'
def TP (X:Cx) (pins:List (Addr × Obj)) (σ:St) (Q:Bool->Hp->Prop) (b:Bool) (s':Shared):Prop:=∃ H',Inv X pins σ H' s'/\Q b H'
def AP (X:Cx) (pins:List (Addr × Obj)) (σ:St) (Q:List V->Hp->Prop) (us:List Value) (s':Shared):Prop:=∃ vs H',Inv X pins σ H' s'/\Vals vs us/\Q vs H'
def SP (X:Cx) (pins:List (Addr × Obj)) (D:Ends) (f:Flow) (s':Shared):Prop :=
 match f with
 | .next=>∃ σ' H',Inv X pins σ' H' s'/\D.nx σ' H'
 | .brk=>∃ σ' H',Inv X pins σ' H' s'/\D.bk σ' H'
 | .cont=>∃ σ' H',Inv X pins σ' H' s'/\D.ct σ' H'
 | .ret u=>∃ v σ' H',Inv X pins σ' H' s'/\RelV v u/\D.rt v H'
def PE (X:Cx) (e:Expr) (t:TE):Prop :=
 ∀ (pins:List (Addr × Obj)) (s:Shared) (σ:St) (H:Hp) (Q:VK),Inv X pins σ H s->t σ H Q->wpAny (model X.prog X.w) X.A (eval e X.env) (EP X pins σ Q) X.xe s
def PT (X:Cx) (e:Expr) (t:TT):Prop :=
 ∀ (pins:List (Addr × Obj)) (s:Shared) (σ:St) (H:Hp) (Q:Bool->Hp->Prop),Inv X pins σ H s->t σ H Q->wpAny (model X.prog X.w) X.A (isTrue e X.env (eval e X.env)) (TP X pins σ Q) X.xe s
def PW (X:Cx) (e:Expr) (t:TT):Prop :=
 ∀ (whole:Sem Value) (pins:List (Addr × Obj)) (s:Shared) (σ:St) (H:Hp) (Q:Bool->Hp->Prop),Inv X pins σ H s->t σ H Q->wpAny (model X.prog X.w) X.A (isTrue e X.env whole) (TP X pins σ Q) X.xe s
theorem PW.pt {X:Cx} {e:Expr} {t:TT} (h:PW X e t):PT X e t:=h _
def PA (X:Cx) (es:List Expr) (t:TA):Prop :=
 ∀ (pos:Pos) (pins:List (Addr × Obj)) (s:Shared) (σ:St) (H:Hp) (Q:List V->Hp->Prop),Inv X pins σ H s->t σ H Q->wpAny (model X.prog X.w) X.A (spliced (backTo pos (starEach es X.env))) (AP X pins σ Q) X.xe s
def PS (X:Cx) (st:Stmt) (t:TS):Prop :=
 ∀ (pins:List (Addr × Obj)) (s:Shared) (σ:St) (H:Hp) (D:Ends),Inv X pins σ H s->t D σ H->wpAny (model X.prog X.w) X.A (exec st X.env) (SP X pins D) X.xe s
def PSs (X:Cx) (st:List Stmt) (t:TS):Prop :=
 ∀ (pins:List (Addr × Obj)) (s:Shared) (σ:St) (H:Hp) (D:Ends),Inv X pins σ H s->t D σ H->wpAny (model X.prog X.w) X.A (execs st X.env) (SP X pins D) X.xe s
theorem thn {α:Type} {t:Sem α} {Q Q':α->Shared->Prop} {M:Model} {A:Around} {E:Value->Shared->Prop} {s:Shared} (h:wpAny M A t Q E s) (hQ:∀ a s,Q a s->Q' a s):wpAny M A t Q' E s:=wpAny_mono h hQ fun _ _ x=>x
end L2
namespace L2
open PySem PySem.Spec PyProof.Rows
section
variable {X:Cx}
inductive tVar (i:Nat) (σ:L2.St) (H:Hp) (Q:VK):Prop
 | mk (v:_) (zz0:σ[i]?=some (some v)) (zz1:Q v H)
def tC (v:V):TE:=fun _ H Q=>Q v H
theorem pe_var {i:Nat} {x:Str} {pos:Pos} (hN:X.N[i]?=some x) (hv:Vis X.env.scope x) (hd:(x == ("__debug__":Str))=false:=by decide) (hcd:(x == ("__classdict__":Str))=false:=by decide):PE X (.Name x pos) (tVar i):=by
 intro pins s σ H Q I h
 obtain ⟨v,e,h⟩:=h
 obtain ⟨m,hn,hl⟩:=I.loc
 obtain ⟨u,r,l⟩:=hl i x v hN e hv
 have fin:EP X pins σ Q u s:=⟨v,H,I,r,h⟩
 rcases l with ⟨hk,hm⟩ | ⟨hk,c,hc,hcell⟩
 ·exact wpAny_Name (wpAny_loadName_local I.ok.kind hk hn hm fin) hd
 ·rcases hk with hk | hk
  ·exact wpAny_Name (wpAny_loadName_cell I.ok.kind hk hc hcell fin) hd
  ·exact wpAny_Name (wpAny_loadName_free I.ok.kind hk hc hcell fin hcd) hd
theorem pe_int {i j pos}:PE X (.Constant (.int i) j pos) (tC (.int i)):=fun _ _ _ H _ I h=>wpAny_Constant_int ⟨.int i,H,I.tok _,⟨_,rfl⟩,h⟩
theorem pe_bl {b j pos}:PE X (.Constant (.bool b) j pos) (tC (.bl b)):=fun _ _ _ H _ I h=>Constant_bool ⟨.bl b,H,I,rfl,h⟩
theorem pe_non {j pos}:PE X (.Constant .none j pos) (tC .non):=fun _ _ _ H _ I h=>Constant_none ⟨.non,H,I,rfl,h⟩
theorem pe_str {x j pos}:PE X (.Constant (.str x) j pos) (tC (.str x)):=fun _ _ _ H _ I h=>Calls.Constant_str ⟨.str x,H,I.tok _,⟨_,rfl⟩,h⟩
def Gl (X:Cx) (x:Str):Prop:=X.env.kindOf x=some .globalImplicit
theorem ld_glob {E:Value->Shared->Prop} {pins:List (Addr × Obj)} {s:Shared} {σ:St} {H:Hp} {x:Str} {u:Value} {pos:Pos} {Q:Value->Shared->Prop} (I:Inv X pins σ H s) (hg:Gl X x) (hm:X.mg x=some u) (h:Q u s)
  (hd:(x == ("__debug__":Str))=false:=by decide):wpAny (model X.prog X.w) X.A (eval (.Name x pos) X.env) Q E s :=
 Calls.Name_function_global I.ok.kind hg (Calls.loadGlobal_global (by rw [I.ok.glob]; exact I.mod.glob.keeps I.bk) hm h) hd
theorem ld_blt {E:Value->Shared->Prop} {pins:List (Addr × Obj)} {s:Shared} {σ:St} {H:Hp} {x:Str} {u:Value} {pos:Pos} {Q:Value->Shared->Prop} (I:Inv X pins σ H s) (hg:Gl X x) (hm:X.mg x=none) (hv:bootBuiltins x=some u) (h:Q u s)
  (hn:x ≠ "__name__":=by decide) (hd:(x == ("__debug__":Str))=false:=by decide):wpAny (model X.prog X.w) X.A (eval (.Name x pos) X.env) Q E s:=by
 obtain ⟨mb,h1,h2⟩:=I.mod.blt
 exact Calls.Name_function_global I.ok.kind hg (Calls.loadGlobal_builtin (by rw [I.ok.glob]; exact I.mod.glob.keeps I.bk) hm (by rw [I.ok.blt]; exact h1.keeps I.bk) ((h2 x hn).trans hv) h) hd
theorem pe_glob {x:Str} {v:V} {u:Value} {pos:Pos} (hg:Gl X x) (hm:X.mg x=some u) (r:RelV v u) (hd:(x == ("__debug__":Str))=false:=by decide):PE X (.Name x pos) (tC v) :=
 fun _ _ _ H _ I h=>ld_glob I hg hm ⟨v,H,I,r,h⟩ hd
theorem pe_bltn {x:Str} {v:V} {u:Value} {pos:Pos} (hg:Gl X x) (hm:X.mg x=none) (hv:bootBuiltins x=some u) (r:RelV v u) (hn:x ≠ "__name__":=by decide) (hd:(x == ("__debug__":Str))=false:=by decide):PE X (.Name x pos) (tC v) :=
 fun _ _ _ H _ I h=>ld_blt I hg hm hv ⟨v,H,I,r,h⟩ hn hd
variable {a b:Expr} {ta tb:TE} {pos:Pos}
inductive tB_i (Q:(Bool->Hp->Prop)) (x:V) (H1:Hp):Prop
 | mk (c:_) (zz0:x=.bl c) (zz1:Q c H1)
def tB (t:TE):TT:=fun σ H Q=>t σ H (tB_i Q)
theorem pt_val {e:Expr} {t:TE} (h:PE X e t) (he:∀ whole,isTrue e X.env whole=(do let v ← whole; standAt e.pos; holding [v] (truthy v)):=by intro _; rfl):PT X e (tB t):=by
 intro pins s σ H Q I hw
 refine isTrue_plain (thn (h pins s σ H _ I hw) fun v s1 ⟨x,H1,I1,r1,q1⟩=>?_) (he _)
 obtain ⟨d,rfl,q⟩:=q1
 cases r1
 exact wpAny_truthy_bool ⟨H1,I1,q⟩
variable {tA tB':TT} {rest:List Expr}
def tAnd (t u:TT):TT:=fun σ H Q=>t σ H fun c H1=>if c=true then u σ H1 Q else Q false H1
def tOr (t u:TT):TT:=fun σ H Q=>t σ H fun c H1=>if c=true then Q true H1 else u σ H1 Q
def tNot (t:TT):TT:=fun σ H Q=>t σ H fun c H1=>Q (!c) H1
theorem pw_and1 (ha:PT X a tA):PW X (.BoolOp .And [a] pos) tA:=by
 intro wh pins s σ H Q I h
 refine isTrue_and (thn (ha pins s σ H Q I h) fun c s1 e=>?_)
 cases c with
 | true=>exact isTrue_and_nil e
 | false=>exact e
theorem pw_or1 (ha:PT X a tA):PW X (.BoolOp .Or [a] pos) tA:=by
 intro wh pins s σ H Q I h
 refine isTrue_or (thn (ha pins s σ H Q I h) fun c s1 e=>?_)
 cases c with
 | false=>exact isTrue_or_nil e
 | true=>exact e
theorem pw_and (ha:PT X a tA) (hb:PW X (.BoolOp .And (b :: rest) pos) tB'):PW X (.BoolOp .And (a :: b :: rest) pos) (tAnd tA tB'):=by
 intro wh pins s σ H Q I h
 refine isTrue_and (thn (ha pins s σ H _ I h) fun c s1 ⟨H1,I1,q1⟩=>?_)
 cases c with
 | true=>exact hb wh pins s1 σ H1 Q I1 q1
 | false=>exact ⟨H1,I1,q1⟩
theorem pw_or (ha:PT X a tA) (hb:PW X (.BoolOp .Or (b :: rest) pos) tB'):PW X (.BoolOp .Or (a :: b :: rest) pos) (tOr tA tB'):=by
 intro wh pins s σ H Q I h
 refine isTrue_or (thn (ha pins s σ H _ I h) fun c s1 ⟨H1,I1,q1⟩=>?_)
 cases c with
 | true=>exact ⟨H1,I1,q1⟩
 | false=>exact hb wh pins s1 σ H1 Q I1 q1
theorem pt_not (ha:PT X a tA):PT X (.UnaryOp .Not a pos) (tNot tA):=by
 intro pins s σ H Q I h
 exact isTrue_not (ha pins s σ H (fun c H1=>Q (!c) H1) I h)
inductive tAndV_i (tb:TE) (σ:L2.St) (Q:VK) (x:V) (H1:Hp):Prop
 | mk (c:_) (zz0:x=.bl c) (zz1:if c=true then tb σ H1 Q else Q (.bl false) H1)
def tAndV (ta tb:TE):TE:=fun σ H Q=>ta σ H (tAndV_i tb σ Q)
inductive tOrV_i (tb:TE) (σ:L2.St) (Q:VK) (x:V) (H1:Hp):Prop
 | mk (c:_) (zz0:x=.bl c) (zz1:if c=true then Q (.bl true) H1 else tb σ H1 Q)
def tOrV (ta tb:TE):TE:=fun σ H Q=>ta σ H (tOrV_i tb σ Q)
inductive tNotV_i (Q:VK) (x:V) (H1:Hp):Prop
 | mk (c:_) (zz0:x=.bl c) (zz1:Q (.bl (!c)) H1)
def tNotV (ta:TE):TE:=fun σ H Q=>ta σ H (tNotV_i Q)
theorem pe_one {op} {t:TE} (h:PE X a t):PE X (.BoolOp op [a] pos) t:=fun pins s σ H Q I hw=>BoolOp_one (h pins s σ H Q I hw)
theorem pe_and (ha:PE X a ta) (hb:PE X (.BoolOp .And (b :: rest) pos) tb):PE X (.BoolOp .And (a :: b :: rest) pos) (tAndV ta tb):=by
 intro pins s σ H Q I h
 refine BoolOp_and (thn (ha pins s σ H _ I h) fun v s1 ⟨x,H1,I1,r1,q1⟩=>?_)
 obtain ⟨c,rfl,q1⟩:=q1
 cases r1
 refine wpAny_truthy_bool ?_
 cases c with
 | true=>exact hb pins s1 σ H1 Q I1 q1
 | false=>exact ⟨.bl false,H1,I1,rfl,q1⟩
theorem pe_or (ha:PE X a ta) (hb:PE X (.BoolOp .Or (b :: rest) pos) tb):PE X (.BoolOp .Or (a :: b :: rest) pos) (tOrV ta tb):=by
 intro pins s σ H Q I h
 refine BoolOp_or (thn (ha pins s σ H _ I h) fun v s1 ⟨x,H1,I1,r1,q1⟩=>?_)
 obtain ⟨c,rfl,q1⟩:=q1
 cases r1
 refine wpAny_truthy_bool ?_
 cases c with
 | false=>exact hb pins s1 σ H1 Q I1 q1
 | true=>exact ⟨.bl true,H1,I1,rfl,q1⟩
theorem pe_not (ha:PE X a ta):PE X (.UnaryOp .Not a pos) (tNotV ta):=by
 intro pins s σ H Q I h
 refine UnaryOp_ (thn (ha pins s σ H _ I h) fun v s1 ⟨x,H1,I1,r1,q1⟩=>?_)
 obtain ⟨c,rfl,q1⟩:=q1
 cases r1
 exact not_of (wpAny_truthy_bool ⟨.bl (!c),H1,I1,rfl,q1⟩)
def tIf (t:TT) (ta tb:TE):TE:=fun σ H Q=>t σ H fun c H1=>if c=true then ta σ H1 Q else tb σ H1 Q
theorem pe_ifExp {c:Expr} (hc:PT X c tA) (ha:PE X a ta) (hb:PE X b tb):PE X (.IfExp c a b pos) (tIf tA ta tb):=by
 intro pins s σ H Q I h
 refine wpAny_IfExp (thn (hc pins s σ H _ I h) fun d s1 ⟨H1,I1,q1⟩=>?_)
 cases d with
 | true=>exact ha pins s1 σ H1 Q I1 q1
 | false=>exact hb pins s1 σ H1 Q I1 q1
end
end L2
namespace L2
open PySem PySem.Spec PyProof.Rows
def SqL (K:PySem.W.Frag) (H:Hp) (a:Addr) (xs:List V):Prop :=
 Rd H a (.lst xs) ∨
  ∃ (o:Obj) (its:Array Value) (n:Nat),K.lookup a=some o/\o.cls=.type "list"/\o.dict=none/\o.data=.seq its n/\its.size<=sizeLine/\Vals xs its.toList
def SqT (K:PySem.W.Frag) (H:Hp) (a:Addr) (xs:List V):Prop :=
 Rd H a (.tup xs) ∨
  ∃ (o:Obj) (its:Array Value) (n:Nat),K.lookup a=some o/\o.cls=.type "tuple"/\o.data=.seq its n/\its.size<=sizeLine/\Vals xs its.toList
def absV:Value->Option V
 | .none=>some .non
 | .bool b=>some (.bl b)
 | .int i _=>some (.int i)
 | .str x _=>some (.str x)
 | .bytes b _=>some (.byt b)
 | .float b _=>some (.flt b)
 | .ref a=>some (.ref a)
 | .type n=>some (.ty n)
 | _=>none
theorem RelV.abs {x:V} {u:Value} (r:RelV x u):absV u=some x:=by
 cases x with
 | non=>cases r; rfl
 | bl _=>cases r; rfl
 | int _=>obtain ⟨t,rfl⟩:=r; rfl
 | str _=>obtain ⟨t,rfl⟩:=r; rfl
 | byt _=>obtain ⟨t,rfl⟩:=r; rfl
 | flt _=>obtain ⟨t,rfl⟩:=r; rfl
 | ref _=>cases r; rfl
 | ty _=>cases r; rfl
theorem RelV.inj {x y:V} {u:Value} (r:RelV x u) (q:RelV y u):x=y:=Option.some.inj (r.abs.symm.trans q.abs)
theorem Vals.inj:∀ {xs ys:List V} {us:List Value},Vals xs us->Vals ys us->xs=ys
 | _,_,_,.nil,.nil=>rfl
 | _,_,_,.cons r t,.cons r' t'=>by rw [r.inj r',Vals.inj t t']
section
variable {X:Cx} {pins:List (Addr × Obj)} {σ:St} {H:Hp} {s:Shared} {a:Addr} {xs ys:List V}
theorem SqL.of {K:PySem.W.Frag} (h:H a=some (.lst xs)):SqL K H a xs:=.inl (.inl h)
theorem SqT.of {K:PySem.W.Frag} (h:H a=some (.tup xs)):SqT K H a xs:=.inl (.inl h)
theorem Inv.list (I:Inv X pins σ H s) (h:SqL X.K H a xs):∃ its:List Value,Vals xs its/\PlainL s.heap a its.toArray/\xs.length<=sizeLine:=by
 rcases h with h | ⟨o,its,n,hk,hc,hd,hs,hz,r⟩
 ·obtain ⟨z,its,n,r,e⟩:=h.ok I.hok
  exact ⟨its,r,⟨_,n,e,rfl,rfl,rfl⟩,z⟩
 ·refine ⟨its.toList,r,⟨o,n,I.kIn a o hk,hc,hd,by simpa using hs⟩,?_⟩
  have e:=r.length
  simp only [Array.length_toList] at e
  omega
theorem Inv.tuple (I:Inv X pins σ H s) (h:SqT X.K H a xs):∃ its:List Value,Vals xs its/\IsTup s.heap a its.toArray/\xs.length<=sizeLine:=by
 rcases h with h | ⟨o,its,n,hk,hc,hs,hz,r⟩
 ·obtain ⟨z,its,r,p⟩:=h.ok I.hok
  exact ⟨its,r,p,z⟩
 ·refine ⟨its.toList,r,⟨o,I.kIn a o hk,hc,n,by simpa using hs⟩,?_⟩
  have e:=r.length
  simp only [Array.length_toList] at e
  omega
theorem Inv.list_inj (I:Inv X pins σ H s) (h:SqL X.K H a xs) (h':SqL X.K H a ys):xs=ys:=by
 obtain ⟨its,r,⟨o,n,e,_,_,d⟩,_⟩:=I.list h
 obtain ⟨its',r',⟨o',n',e',_,_,d'⟩,_⟩:=I.list h'
 rw [e] at e'; cases e'
 rw [d] at d'
 injection d' with d1 _
 have:its=its':=by simpa using congrArg Array.toList d1
 subst this
 exact r.inj r'
theorem Inv.tuple_inj (I:Inv X pins σ H s) (h:SqT X.K H a xs) (h':SqT X.K H a ys):xs=ys:=by
 obtain ⟨its,r,⟨o,e,_,n,d⟩,_⟩:=I.tuple h
 obtain ⟨its',r',⟨o',e',_,n',d'⟩,_⟩:=I.tuple h'
 rw [e] at e'; cases e'
 rw [d] at d'
 injection d' with d1 _
 have:its=its':=by simpa using congrArg Array.toList d1
 subst this
 exact r.inj r'
end
abbrev Cx.wish (X:Cx) (E:Value->Shared->Prop):Cx:={ X with xe:=E }
abbrev Cx.nox (X:Cx):Cx:=X.wish fun _ _=>False
theorem Cx.Ok.wish {X:Cx} (ok:X.Ok) (E:Value->Shared->Prop):(X.wish E).Ok :=
 ⟨ok.mod,ok.kind,ok.glob,ok.blt,ok.above,ok.inj,ok.has,ok.cab,ok.hd,ok.frames,ok.stk,ok.exf,ok.bs,ok.bsz,ok.noex,ok.exfs,ok.funs,ok.frf⟩
theorem Cx.Ok.unwish {X:Cx} {E:Value->Shared->Prop} (ok:(X.wish E).Ok):X.Ok :=
 ⟨ok.mod,ok.kind,ok.glob,ok.blt,ok.above,ok.inj,ok.has,ok.cab,ok.hd,ok.frames,ok.stk,ok.exf,ok.bs,ok.bsz,ok.noex,ok.exfs,ok.funs,ok.frf⟩
section
variable {X:Cx} {pins:List (Addr × Obj)} {σ:St} {H:Hp} {s:Shared} {E:Value->Shared->Prop}
theorem Inv.wish (I:Inv X pins σ H s) (E:Value->Shared->Prop):Inv (X.wish E) pins σ H s:=⟨I.ok.wish E,I.os,I.bare,I.base,I.loc,I.cell,I.free,I.freeC,I.pin,I.hok,I.len⟩
theorem Inv.unwish (I:Inv (X.wish E) pins σ H s):Inv X pins σ H s:=⟨I.ok.unwish,I.os,I.bare,I.base,I.loc,I.cell,I.free,I.freeC,I.pin,I.hok,I.len⟩
theorem SP.unwish {D:Ends} {f:Flow} {s':Shared} (h:SP (X.wish E) pins D f s'):SP X pins D f s':=by
 cases f with
 | next=>obtain ⟨σ',H',I,q⟩:=h; exact ⟨σ',H',I.unwish,q⟩
 | brk=>obtain ⟨σ',H',I,q⟩:=h; exact ⟨σ',H',I.unwish,q⟩
 | cont=>obtain ⟨σ',H',I,q⟩:=h; exact ⟨σ',H',I.unwish,q⟩
 | ret u=>obtain ⟨v,σ',H',I,r,q⟩:=h; exact ⟨v,σ',H',I.unwish,r,q⟩
theorem PSs.nox {st:List Stmt} {t:TS} (h:PSs X.nox st t):PSs X st t:=fun pins s σ H D I hw =>
 wpAny_mono (h pins s σ H D (I.wish _) hw) (fun _ _ q=>q.unwish) fun _ _ z=>False.elim z
end
section
variable {X:Cx} {st:Stmt} {rest:List Stmt} {t u:TS} {e:Expr} {te:TE} {pos:Pos}
def tNext:TS:=fun D σ H=>D.nx σ H
def tSeq (t u:TS):TS:=fun D σ H=>t { D with nx:=u D } σ H
theorem pss_nil:PSs X [] tNext:=fun _ _ σ H _ I h=>wpAny_execs_nil ⟨σ,H,I,h⟩
theorem pss_cons (h1:PS X st t) (h2:PSs X rest u):PSs X (st :: rest) (tSeq t u):=by
 intro pins s σ H D I h
 refine wpAny_execs_cons (thn (h1 pins s σ H { D with nx:=u D } I h) fun f s1 q=>?_)
 cases f with
 | next =>
  obtain ⟨σ',H',I',q⟩:=q
  exact h2 pins s1 σ' H' D I' q
 | ret v=>exact q
 | brk=>exact q
 | cont=>exact q
theorem pss_one (h1:PS X st t):PSs X [st] t:=by
 intro pins s σ H D I h
 refine wpAny_execs_cons (thn (h1 pins s σ H D I h) fun f s1 q=>?_)
 cases f with
 | next=>exact wpAny_execs_nil q
 | ret v=>exact q
 | brk=>exact q
 | cont=>exact q
theorem Inv.quiet {pins:List (Addr × Obj)} {σ:St} {H:Hp} {s:Shared} (I:Inv X pins σ H s):interactive X.env=false:=by simp [interactive,I.ok.kind]
def tDrop (te:TE):TS:=fun D σ H=>te σ H fun _ H1=>D.nx σ H1
theorem ps_expr (he:PE X e te) (hs:swapsWith e none pos.line X.env=pure false:=by rfl):PS X (.Expr e pos) (tDrop te):=by
 intro pins s σ H D I h
 exact wpAny_Expr_any (thn (he pins s σ H _ I h) fun v s1 ⟨x,H1,I1,r1,q1⟩=>⟨σ,H1,I1,q1⟩) I.quiet hs
def tRet (te:TE):TS:=fun D σ H=>te σ H D.rt
theorem ps_ret (he:PE X e te):PS X (.Return (some e) pos) (tRet te):=by
 intro pins s σ H D I h
 exact wpAny_Return_some (thn (he pins s σ H _ I h) fun v s1 ⟨x,H1,I1,r1,q1⟩=>⟨x,σ,H1,I1,r1,q1⟩)
def tIfS (c:TT) (t u:TS):TS:=fun D σ H=>c σ H fun b H1=>if b=true then t D σ H1 else u D σ H1
theorem ps_if {c:Expr} {a b:List Stmt} {tc:TT} (hc:PT X c tc) (ha:PSs X a t) (hb:PSs X b u):PS X (.If c a b pos) (tIfS tc t u):=by
 intro pins s σ H D I h
 refine wpAny_If (thn (hc pins s σ H _ I h) fun d s1 ⟨H1,I1,q1⟩=>?_)
 cases d with
 | true=>exact ha pins s1 σ H1 D I1 q1
 | false=>exact hb pins s1 σ H1 D I1 q1
def tNever:TS:=fun _ _ _=>False
theorem ps_never:PS X st tNever:=fun _ _ _ _ _ _ h=>h.elim
end
abbrev TG:=V->St->Hp->(St->Hp->Prop)->Prop
abbrev TGs:=List V->St->Hp->(St->Hp->Prop)->Prop
def PG (X:Cx) (target:Expr) (t:TG):Prop :=
 ∀ (pins:List (Addr × Obj)) (s:Shared) (σ:St) (H:Hp) (v:V) (u:Value) (Q:St->Hp->Prop),Inv X pins σ H s->RelV v u->t v σ H Q →
  wpAny (model X.prog X.w) X.A (assign target X.env u) (fun _ s'=>∃ σ' H',Inv X pins σ' H' s'/\Q σ' H') X.xe s
def PGs (X:Cx) (ts:List Expr) (t:TGs):Prop :=
 ∀ (pins:List (Addr × Obj)) (s:Shared) (σ:St) (H:Hp) (vs:List V) (us:List Value) (Q:St->Hp->Prop),Inv X pins σ H s->Vals vs us->t vs σ H Q →
  wpAny (model X.prog X.w) X.A (assignInOrder ((assignEach ts X.env).map (·.2)) us) (fun _ s'=>∃ σ' H',Inv X pins σ' H' s'/\Q σ' H') X.xe s
abbrev TSet:=V->V->V->Hp->(Hp->Prop)->Prop
def PSet (X:Cx) (t:TSet):Prop :=
 ∀ (pins:List (Addr × Obj)) (s:Shared) (σ:St) (H:Hp) (o i v:V) (ov iv u:Value) (Q:Hp->Prop),Inv X pins σ H s->RelV o ov->RelV i iv->RelV v u->t o i v H Q →
  wpAny (model X.prog X.w) X.A (setItem ov iv u) (fun _ s'=>∃ H',Inv X pins σ H' s'/\Q H') X.xe s
section
variable {X:Cx} {pos:Pos}
def gName (i:Nat):TG:=fun v σ H Q=>Q (σ.set i (some v)) H
theorem pg_name {i:Nat} {x:Str} (hN:X.N.Nodup) (hi:X.N[i]?=some x) (hx:Loc X.env.scope x) (hf:X.fn x=true \/ X.env.scope.names.lookup x=some .local:=by first | exact .inl rfl | exact .inr rfl | assumption):PG X (.Name x pos) (gName i):=by
 intro pins s σ H v u Q I r h
 exact wpAny_assign_Name (store_ok I hN hi hx r (fun s' I'=>⟨_,H,I',h⟩) hf)
def gNil:TGs:=fun vs σ H Q=>vs=[]/\Q σ H
inductive gCons (t:TG) (u:TGs) (vs:List V) (σ:L2.St) (H:Hp) (Q:(L2.St->Hp->Prop)):Prop
 | mk (v r:_) (zz0:vs=v :: r) (zz1:t v σ H fun σ' H'=>u r σ' H' Q)
theorem pgs_nil:PGs X [] gNil:=by
 intro pins s σ H vs us Q I r h
 obtain ⟨e,h⟩:=h
 subst e
 cases r
 exact assignInOrder_nil ⟨σ,H,I,h⟩
theorem pgs_cons {e:Expr} {es:List Expr} {t:TG} {u:TGs} (h1:PG X e t) (h2:PGs X es u)
  (hs:(assignEach (e :: es) X.env).map (·.2)=assign e X.env :: (assignEach es X.env).map (·.2):=by rfl):PGs X (e :: es) (gCons t u):=by
 intro pins s σ H vs us Q I r h
 obtain ⟨v,vr,e1,h⟩:=h
 subst e1
 cases r with
 | cons r rr =>
  rw [hs]
  refine assignInOrder_cons (thn (h1 pins s σ H _ _ _ I r h) fun _ s1 ⟨σ1,H1,I1,q1⟩=>?_)
  exact h2 pins s1 σ1 H1 _ _ Q I1 rr q1
inductive gTup (K:PySem.W.Frag) (n:Nat) (t:TGs) (v:V) (σ:L2.St) (H:Hp) (Q:(L2.St->Hp->Prop)):Prop
 | mk (a xs:_) (zz0:v=.ref a) (zz1:SqT K H a xs) (zz2:xs.length=n) (zz3:t xs σ H Q)
theorem pg_tup {es:List Expr} {k:Nat} {t:TGs} {n:Nat} (hc:X.calm=true) (h:PGs X es t)
  (hn:(assignEach es X.env).length=n:=by rfl) (hst:(assignEach es X.env).findIdx? (·.1)=none:=by rfl):PG X (.Tuple es k pos) (gTup X.K n t):=by
 intro pins s σ H v u Q I r hw
 obtain ⟨a,xs,e1,hq,hl,hw⟩:=hw
 subst e1
 cases r
 obtain ⟨its,rv,ht,hz⟩:=I.tuple hq
 refine Sb.assign_Tuple_q (I.qt hc) ht (by simp [hn,← hl,rv.length]) hst fun h' hx=>?_
 have I1:Inv X pins σ H { s with heap:=h' }:=I.kept (t':=s.toks) fun b o e=>hx b o (Nat.ne_of_lt (Heap.lt_size e)) e
 exact h pins _ σ H xs _ Q I1 (by simpa using rv) hw
def gSub (to ti:TE) (t:TSet):TG:=fun v σ H Q=>to σ H fun o H1=>ti σ H1 fun i H2=>t o i v H2 fun H3=>Q σ H3
theorem pg_sub {o i:Expr} {to ti:TE} {t:TSet} (ho:PE X o to) (hi:PE X i ti) (hs:PSet X t)
  (ha:∀ v,assign (.Subscript o i pos) X.env v=(do
   let ov ← holding [v] (eval o X.env)
   let iv ← holding [v,ov] (eval i X.env)
   standAt pos
   holding [v,ov,iv] (setItem ov iv v)
   release [v,ov,iv] []):=by intro _; rfl):PG X (.Subscript o i pos) (gSub to ti t):=by
 intro pins s σ H v u Q I r h
 rw [ha]
 refine wpAny_bind (wpAny_holding (thn (ho pins s σ H _ I h) fun ov s1 ⟨x,H1,I1,r1,q1⟩=>?_))
 refine wpAny_bind (wpAny_holding (thn (hi pins s1 σ H1 _ I1 q1) fun iv s2 ⟨y,H2,I2,r2,q2⟩=>?_))
 refine wpAny_bind (wpAny_standAt (wpAny_bind (wpAny_holding (thn (hs pins s2 σ H2 x y v ov iv u _ I2 r1 r2 r q2) fun _ s3 ⟨H3,I3,q3⟩=>?_))))
 exact wpAny_release ⟨σ,H3,I3,q3⟩
def tAsg (te:TE) (g:TG):TS:=fun D σ H=>te σ H fun x H1=>g x σ H1 D.nx
theorem ps_asg {tg e:Expr} {te:TE} {g:TG} (he:PE X e te) (hg:PG X tg g) (hs:swapsWithSole [tg] e pos.line X.env=pure false:=by rfl) (hw:swappedStores [tg] e X.env=pure none:=by rfl)
  (h1:(assignEach [tg] X.env).map (·.2)=[assign tg X.env]:=by rfl):PS X (.Assign [tg] e pos) (tAsg te g):=by
 intro pins s σ H D I h
 refine wpAny_Assign_stores (thn (he pins s σ H _ I h) fun v s1 ⟨x,H1,I1,r1,q1⟩=>?_) hs hw
 rw [h1]
 exact thn (hg pins s1 σ H1 x v _ I1 r1 q1) fun _ s2 q=>q
theorem ps_set {i:Nat} {x:Str} {e:Expr} {te:TE} {pos':Pos} (hN:X.N.Nodup) (hi:X.N[i]?=some x) (hx:Loc X.env.scope x) (he:PE X e te) (hs:swapsWith e (some (.Name x pos')) pos.line X.env=pure false:=by rfl) (hf:X.fn x=true \/ X.env.scope.names.lookup x=some .local:=by first | exact .inl rfl | exact .inr rfl | assumption) :
  PS X (.Assign [.Name x pos'] e pos) (tAsg te (gName i)):=by
 intro pins s σ H D I h
 refine wpAny_Assign_Name (thn (he pins s σ H _ I h) fun v s1 ⟨y,H1,I1,r1,q1⟩=>?_) hs
 exact store_ok I1 hN hi hx r1 (fun s2 I2=>⟨_,H1,I2,q1⟩) hf
end
section
variable {X:Cx} {pos:Pos}
def tWhile (c:TT) (tb:TS):TS:=fun D σ H=>∃ W:Nat->St->Hp->Prop,(∃ m,W m σ H)/\∀ m σ H,W m σ H →
 c σ H fun b H1=>if b=true then ∃ N:St->Hp->Prop,(∀ σ' H',N σ' H'->∃ m',m' < m/\W m' σ' H')/\tb { D with nx:=N,ct:=N,bk:=D.nx } σ H1 else D.nx σ H1
theorem ps_while {c:Expr} {body:List Stmt} {tc:TT} {tb:TS} (hp:PassesOwn (model X.prog X.w) X.A X.env X.xe) (hc:PT X c tc) (hb:PSs X body tb):PS X (.While c body [] pos) (tWhile tc tb):=by
 intro pins s σ H D I h
 obtain ⟨W,⟨m0,w0⟩,turn⟩:=h
 refine wpAny_While (codeAny_whileLoop (fun n s'=>∃ σ' H',Inv X pins σ' H' s'/\W n σ' H') ?_ m0 ⟨σ,H,I,w0⟩)
 rintro n s1 ⟨σ1,H1,I1,w1⟩
 refine wpAny_passesOwn hp (thn (hc pins s1 σ1 H1 _ I1 (turn n σ1 H1 w1)) fun b s2 ⟨H2,I2,q2⟩=>?_)
 cases b with
 | true =>
  obtain ⟨N,hN,q2⟩:=q2
  rw [if_pos rfl]
  refine wpAny_passesOwn hp (thn (hb pins s2 σ1 H2 _ I2 q2) fun f s3 q3=>?_)
  cases f with
  | next =>
   obtain ⟨σ3,H3,I3,n3⟩:=q3
   obtain ⟨m',hm,w3⟩:=hN σ3 H3 n3
   exact ⟨m',hm,σ3,H3,I3,w3⟩
  | cont =>
   obtain ⟨σ3,H3,I3,n3⟩:=q3
   obtain ⟨m',hm,w3⟩:=hN σ3 H3 n3
   exact ⟨m',hm,σ3,H3,I3,w3⟩
  | brk=>exact q3
  | ret v=>exact q3
 | false =>
  rw [if_neg Bool.false_ne_true]
  exact wpAny_execs_nil ⟨σ1,H2,I2,q2⟩
end
structure It where
 go:Nat->Hp->Prop
 yld:Nat->Hp->V->Hp->Prop
 stop:Nat->Hp->Prop
def FpOk (X:Cx) (pins:List (Addr × Obj)) (H:Hp) (b:Addr):Prop :=
 H b=none/\b ≠ X.env.locals/\b ∉ X.fs/\(b ∈ X.ex \/ X.s₀.heap.objs.size<=b)/\(∀ x c,X.env.cells.lookup x=some c->c ≠ b)/\∀ p ∈ X.pn ++ pins,p.1 ≠ b
theorem Inv.fpOk {X:Cx} {pins:List (Addr × Obj)} {σ:St} {H H':Hp} {s:Shared} {b:Addr} (I:Inv X pins σ H s) (hb:s.heap.objs.size<=b) (hn:H' b=none):FpOk X pins H' b:=by
 refine ⟨hn,Nat.ne_of_gt (Nat.lt_of_lt_of_le I.lt hb),I.nofs hb,.inr (Nat.le_trans I.sz hb),fun x c e z=>?_,fun p hp z=>?_⟩
 ·obtain ⟨v,q⟩:=I.cell x c e
  exact absurd (Nat.lt_of_lt_of_le q.lt (by rw [z]; exact hb)) (Nat.lt_irrefl _)
 ·exact absurd (Nat.lt_of_lt_of_le (Heap.lt_size (I.pin p hp).1) (by rw [z]; exact hb)) (Nat.lt_irrefl _)
structure Turn (P:Program) (w:World) (K:PySem.W.Frag) (tg:Expr) (J:It) (fp:List Addr) (it:Addr) (tn:Nat->Heap->Prop):Prop where
 mem:it ∈ fp
 obj:∀ i h,tn i h->∀ b ∈ fp,∃ o,h.get? b=some o/\∀ v,o.data ≠ .cell v
 keep:∀ i h h',tn i h->(∀ b ∈ fp,∀ o,h.get? b=some o->h'.get? b=some o)->tn i h'
 item:∀ (X:Cx),X.prog=P->X.w=w->X.K=K->X.calm=true->∀ (i:Nat) (pins:List (Addr × Obj)) (s:Shared) (σ:St) (H:Hp) (E:Value->Shared->Prop),Inv X pins σ H s->(∀ b ∈ fp,FpOk X pins H b)->tn i s.heap->J.go i H →
  wpAny (model P w) X.A (pyNext (.ref it)) (fun r s1=>∃ u,r=some u ∧
   wpAny (model P w) X.A (letOwnedTupleGo tg (.ref it) u) (fun _ s2=>∃ x H',Inv X pins σ H' s2/\RelV x u/\J.yld i H x H'/\tn (i + 1) s2.heap/\∀ b ∈ fp,H' b=none) E s1) E s
 done:∀ (X:Cx),X.prog=P->X.w=w->X.K=K->X.calm=true->∀ (i:Nat) (pins:List (Addr × Obj)) (s:Shared) (σ:St) (H:Hp) (E:Value->Shared->Prop),Inv X pins σ H s->(∀ b ∈ fp,FpOk X pins H b)->tn i s.heap->J.stop i H →
  wpAny (model P w) X.A (pyNext (.ref it)) (fun r s1=>r=none/\Inv X pins σ H s1) E s
 self:∀ (A:Around) (i:Nat) (s:Shared) (Q:Value->Shared->Prop) (E:Value->Shared->Prop),tn i s.heap->Q (.ref it) s->wpAny (model P w) A (pyIter (.ref it)) Q E s
abbrev TI:=St->Hp->(It->Hp->Prop)->Prop
def PIE (X:Cx) (pins:List (Addr × Obj)) (σ:St) (tg:Expr) (R:It->Hp->Prop) (itv:Value) (s2:Shared):Prop :=
 ∃ (it:Addr) (fp:List Addr) (tn:Nat->Heap->Prop) (J:It) (H':Hp),itv=.ref it/\Inv X pins σ H' s2/\Turn X.prog X.w X.K tg J fp it tn/\tn 0 s2.heap/\(∀ b ∈ fp,FpOk X pins H' b)/\R J H'
def PI (X:Cx) (tg iter:Expr) (wi:TI):Prop :=
 ∀ (pins:List (Addr × Obj)) (s:Shared) (σ:St) (H:Hp) (R:It->Hp->Prop),Inv X pins σ H s->wi σ H R →
  wpAny (model X.prog X.w) X.A (eval iter X.env) (fun v s1=>wpAny (model X.prog X.w) X.A (pyIter v) (PIE X pins σ tg R) X.xe s1) X.xe s
theorem go_of {M:Model} {A:Around} {E:Value->Shared->Prop} {s:Shared} {tg:Expr} {it:Addr} {u:Value} {o:Obj} {n:String} {vs:Array Value} {Q:Unit->Shared->Prop} (ho:s.heap.get? it=some o) (hc:o.cls=.type n) (hd:o.data=.fields vs)
  (hn:["enumerate","zip","dict_itemiterator","dict_reverseitemiterator","odict_iterator","itertools.zip_longest","itertools.pairwise"].contains n=false) (hQ:Q () s):wpAny M A (letOwnedTupleGo tg (.ref it) u) Q E s:=by
 unfold letOwnedTupleGo
 cases tg <;> first
  | exact wpAny_pure hQ
  | (cases u <;> first
    | exact wpAny_pure hQ
    | (refine wpAny_bind (wpAny_load ho ?_)
       rw [hc,hd]
       show wpAny M A (if (["enumerate","zip","dict_itemiterator","dict_reverseitemiterator","odict_iterator","itertools.zip_longest","itertools.pairwise"].contains n && vs[0]? == some (rawInt _))=true then _ else _) Q E s
       rw [if_neg (by intro h; rw [hn,Bool.false_and] at h; cases h)]
       exact wpAny_pure hQ))
def Itl (K:PySem.W.Frag) (a:Addr):It :=
 ⟨fun i H=>∃ xs x,SqL K H a xs/\xs[i]?=some x,fun i H x H'=>H'=H/\∀ xs,SqL K H a xs->xs[i]?=some x,fun i H=>∃ xs,SqL K H a xs/\xs.length<=i⟩
def Itt (K:PySem.W.Frag) (a:Addr):It :=
 ⟨fun i H=>∃ xs x,SqT K H a xs/\xs[i]?=some x,fun i H x H'=>H'=H/\∀ xs,SqT K H a xs->xs[i]?=some x,fun i H=>∃ xs,SqT K H a xs/\xs.length<=i⟩
def Itr (lo:Int) (n:Nat):It:=⟨fun i _=>i < n,fun i H x H'=>H'=H/\x=.int (lo + i),fun i _=>n<=i⟩
theorem turn_list {P:Program} {w:World} {K:PySem.W.Frag} {tg:Expr} (a it:Addr):Turn P w K tg (Itl K a) [it] it (fun i h=>h.IsListIter it a i) where
 mem:=by simp
 obj:=fun i h st b hb=>by
  have e:b=it:=by simpa using hb
  subst e
  obtain ⟨o,e,c,d⟩:=st
  exact ⟨o,e,fun v z=>by rw [d] at z; cases z⟩
 keep:=fun i h h' st k=>st.at fun o e=>k it (by simp) o e
 item:=by
  intro X hP hw hK hc i pins s σ H E I hf st hg
  subst hP hw hK
  obtain ⟨xs,x,hq,hx⟩:=hg
  obtain ⟨its,rv,p,hz⟩:=I.list hq
  obtain ⟨u,hu,ru⟩:=rv.get hx
  obtain ⟨f0,f1,f2,f3,f4,f5⟩:=hf it (by simp)
  refine wpAny_pyNext_list_item st p.isList (x:=u) (by simpa using hu) fun h' st' sb=>?_
  have I1:Inv X pins σ H { s with heap:=h' }:=I.turned (t':=s.toks) (fun b o hb e=>(sb.2 b hb).trans e) f0 f1 f3 f4 f5
  obtain ⟨o,e,c,d⟩:=id st'
  exact ⟨u,rfl,go_of (s:={ s with heap:=h' }) e c d (by decide) ⟨x,H,I1,ru,⟨rfl,fun ys hy=>by rw [I.list_inj hy hq]; exact hx⟩,st',fun b hb=>(hf b hb).1⟩⟩
 done:=by
  intro X hP hw hK hc i pins s σ H E I hf st hg
  subst hP hw hK
  obtain ⟨xs,hq,hx⟩:=hg
  obtain ⟨its,rv,p,hz⟩:=I.list hq
  obtain ⟨f0,f1,f2,f3,f4,f5⟩:=hf it (by simp)
  have hl:=rv.length
  exact Sb.list_end_q (I.qt hc) st p.isList (by simp; omega) fun h' eb=>⟨rfl,I.turned (t':=s.toks) (fun b o hb e=>eb b o hb e) f0 f1 f3 f4 f5⟩
 self:=fun _ _ _ _ _ st h=>wpAny_pyIter_listiter st h
theorem turn_tuple {P:Program} {w:World} {K:PySem.W.Frag} {tg:Expr} (a it:Addr):Turn P w K tg (Itt K a) [it] it (fun i h=>h.IsTupleIter it a i) where
 mem:=by simp
 obj:=fun i h st b hb=>by
  have e:b=it:=by simpa using hb
  subst e
  obtain ⟨o,e,c,d⟩:=st
  exact ⟨o,e,fun v z=>by rw [d] at z; cases z⟩
 keep:=fun i h h' st k=>st.at fun o e=>k it (by simp) o e
 item:=by
  intro X hP hw hK hc i pins s σ H E I hf st hg
  subst hP hw hK
  obtain ⟨xs,x,hq,hx⟩:=hg
  obtain ⟨its,rv,p,hz⟩:=I.tuple hq
  obtain ⟨u,hu,ru⟩:=rv.get hx
  obtain ⟨f0,f1,f2,f3,f4,f5⟩:=hf it (by simp)
  refine wpAny_pyNext_tuple_item st (show s.heap.IsTuple a its.toArray from p) (x:=u) (by simpa using hu) fun h' st' sb=>?_
  have I1:Inv X pins σ H { s with heap:=h' }:=I.turned (t':=s.toks) (fun b o hb e=>(sb.2 b hb).trans e) f0 f1 f3 f4 f5
  obtain ⟨o,e,c,d⟩:=id st'
  exact ⟨u,rfl,go_of (s:={ s with heap:=h' }) e c d (by decide) ⟨x,H,I1,ru,⟨rfl,fun ys hy=>by rw [I.tuple_inj hy hq]; exact hx⟩,st',fun b hb=>(hf b hb).1⟩⟩
 done:=by
  intro X hP hw hK hc i pins s σ H E I hf st hg
  subst hP hw hK
  obtain ⟨xs,hq,hx⟩:=hg
  obtain ⟨its,rv,p,hz⟩:=I.tuple hq
  obtain ⟨f0,f1,f2,f3,f4,f5⟩:=hf it (by simp)
  have hl:=rv.length
  exact Sb.tuple_end_q (I.qt hc) st (show s.heap.IsTuple a its.toArray from p) (by simp; omega) fun h' eb=>⟨rfl,I.turned (t':=s.toks) (fun b o hb e=>eb b o hb e) f0 f1 f3 f4 f5⟩
 self:=fun _ _ _ _ _ st h=>wpAny_pyIter_tupleiter st h
theorem turn_range {P:Program} {w:World} {K:PySem.W.Frag} {tg:Expr} (it:Addr) (lo:Int) (n:Nat):Turn P w K tg (Itr lo n) [it] it (fun i h=>IsRangeIter h it (lo + (i:Nat) * 1) ((n:Int) - (i:Nat)) 1) where
 mem:=by simp
 obj:=fun i h st b hb=>by
  have e:b=it:=by simpa using hb
  subst e
  exact ⟨_,st,fun v z=>by
   have z':Data.fields _=Data.cell v:=z
   cases z'⟩
 keep:=fun i h h' st k=>k it (by simp) _ st
 item:=by
  intro X hP hw hK hc i pins s σ H E I hf st hg
  subst hP hw hK
  obtain ⟨f0,f1,f2,f3,f4,f5⟩:=hf it (by simp)
  refine Sb.range_item i s _ _ hg st fun v h' tk hv st' kk=>?_
  obtain ⟨t,rfl⟩:=hv
  have I1:Inv X pins σ H { s with heap:=h',toks:=tk }:=I.turned (fun b o hb e=>kk b o (by simpa using hb) e) f0 f1 f3 f4 f5
  refine ⟨_,rfl,go_of (s:={ s with heap:=h',toks:=tk }) (n:="range_iterator") st' rfl rfl (by decide) ⟨.int (lo + i),H,I1,⟨t,?_⟩,⟨rfl,rfl⟩,st',fun b hb=>(hf b hb).1⟩⟩
  rw [Int.mul_one]
 done:=by
  intro X hP hw hK hc i pins s σ H E I hf st hg
  subst hP hw hK
  obtain ⟨f0,f1,f2,f3,f4,f5⟩:=hf it (by simp)
  exact Sb.range_end_q (I.qt hc) st (by have:n<=i:=hg; omega) fun h' eb=>⟨rfl,I.turned (t':=s.toks) (fun b o hb e=>eb b o hb e) f0 f1 f3 f4 f5⟩
 self:=fun _ _ _ _ _ st h=>wpAny_pyIter_rangeiter st h
end L2
namespace L2
open PySem PySem.Spec PyProof.Rows
section
variable {X:Cx} {tg:Expr}
inductive iList_i (K:PySem.W.Frag) (R:(It->Hp->Prop)) (x:V) (H1:Hp):Prop
 | mk (a:_) (zz0:x=.ref a) (zz1:(∃ xs,SqL K H1 a xs)) (zz2:R (Itl K a) H1)
def iList (K:PySem.W.Frag) (tl:TE):TI:=fun σ H R=>tl σ H (iList_i K R)
inductive iTup_i (K:PySem.W.Frag) (R:(It->Hp->Prop)) (x:V) (H1:Hp):Prop
 | mk (a:_) (zz0:x=.ref a) (zz1:(∃ xs,SqT K H1 a xs)) (zz2:R (Itt K a) H1)
def iTup (K:PySem.W.Frag) (tl:TE):TI:=fun σ H R=>tl σ H (iTup_i K R)
theorem pi_list {l:Expr} {tl:TE} (hl:PE X l tl):PI X tg l (iList X.K tl):=by
 intro pins s σ H R I h
 refine thn (hl pins s σ H _ I h) fun v s1 ⟨x,H1,I1,r1,q1⟩=>?_
 obtain ⟨a,e,⟨xs,hq⟩,q⟩:=q1
 subst e
 cases r1
 obtain ⟨its,rv,p,hz⟩:=I1.list hq
 refine wpAny_pyIter_list p.isList ?_
 refine ⟨s1.heap.objs.size,[s1.heap.objs.size],_,_,H1,rfl,I1.kept (t':=s1.toks) fun b o e=>Heap.get?_push_of_some _ e,turn_list a _,⟨_,Heap.get?_push_size _ rfl,rfl,rfl⟩,fun b hb=>?_,q⟩
 have e:b=s1.heap.objs.size:=by simpa using hb
 subst e
 exact I1.fpOk (Nat.le_refl _) (I1.hok.fresh (Nat.le_refl _))
theorem pi_tup {l:Expr} {tl:TE} (hl:PE X l tl):PI X tg l (iTup X.K tl):=by
 intro pins s σ H R I h
 refine thn (hl pins s σ H _ I h) fun v s1 ⟨x,H1,I1,r1,q1⟩=>?_
 obtain ⟨a,e,⟨xs,hq⟩,q⟩:=q1
 subst e
 cases r1
 obtain ⟨its,rv,p,hz⟩:=I1.tuple hq
 refine wpAny_pyIter_tuple (show s1.heap.IsTuple a its.toArray from p) ?_
 refine ⟨s1.heap.objs.size,[s1.heap.objs.size],_,_,H1,rfl,I1.kept (t':=s1.toks) fun b o e=>Heap.get?_push_of_some _ e,turn_tuple a _,⟨_,Heap.get?_push_size _ rfl,rfl,rfl⟩,fun b hb=>?_,q⟩
 have e:b=s1.heap.objs.size:=by simpa using hb
 subst e
 exact I1.fpOk (Nat.le_refl _) (I1.hok.fresh (Nat.le_refl _))
theorem range_it {pins:List (Addr × Obj)} {σ:St} {H:Hp} {s:Shared} {R:It->Hp->Prop} {E:Value->Shared->Prop} {lo hi:Int} {t u v:Tok} {tk:Nat} (I:Inv X pins σ H s) (h1:-(2 ^ 62)<=lo) (h2:lo < 2 ^ 62) (h3:-(2 ^ 62)<=hi) (h4:hi < 2 ^ 62)
  (q:R (Itr lo (hi - lo).toNat) H):wpAny (model X.prog X.w) X.A (pyIter (.ref s.heap.objs.size)) (PIE X pins σ tg R) E { s with heap:=s.heap.push { cls:=.type "range",data:=.fields #[.int lo t,.int hi u,.int 1 v] },toks:=tk }:=by
 refine wpAny_pyIter_range (IsRange.new ..) (small_one h1 h2 h3 h4) ?_
 have I1:Inv X pins σ H { s with heap:=s.heap.push { cls:=.type "range",data:=.fields #[.int lo t,.int hi u,.int 1 v] },toks:=tk }:=I.kept fun b o e=>Heap.get?_push_of_some _ e
 refine ⟨(s.heap.push { cls:=.type "range",data:=.fields #[.int lo t,.int hi u,.int 1 v] }).objs.size,[(s.heap.push { cls:=.type "range",data:=.fields #[.int lo t,.int hi u,.int 1 v] }).objs.size],_,_,H,rfl,
  I1.kept (t':=tk) fun b o e=>Heap.get?_push_of_some _ e,turn_range _ lo (hi - lo).toNat,?_,fun b hb=>?_,q⟩
 ·have e1:lo + ((0:Nat):Int) * 1=lo:=by simp
  have e2:(((hi - lo).toNat:Nat):Int) - ((0:Nat):Int)=Builtin.Range.rangeSize lo hi 1:=by rw [rangeSize_one]; split <;> omega
  show IsRangeIter _ _ (lo + ((0:Nat):Int) * 1) ((((hi - lo).toNat:Nat):Int) - ((0:Nat):Int)) 1
  rw [e1,e2]
  exact Heap.get?_push_size _ rfl
 ·have e:b=(s.heap.push { cls:=.type "range",data:=.fields #[.int lo t,.int hi u,.int 1 v] }).objs.size:=by simpa using hb
  subst e
  exact I1.fpOk (Nat.le_refl _) (I1.hok.fresh (Nat.le_refl _))
inductive iRng1_i (R:(It->Hp->Prop)) (vs:List V) (H1:Hp):Prop
 | mk (j:Int) (zz0:vs=[.int j]) (zz1:-(2 ^ 62)<=j) (zz2:j < 2 ^ 62) (zz3:R (Itr 0 j.toNat) H1)
def iRng1 (ta:TA):TI:=fun σ H R=>ta σ H (iRng1_i R)
theorem pi_range1 {a:Expr} {ta:TA} {p pos:Pos} (hg:Gl X "range") (hm:X.mg "range"=none) (ha:PA X [a] ta) (hs:starEach [a] X.env=[(false,eval a X.env)]:=by rfl):PI X tg (.Call (.Name "range" p) [a] [] pos) (iRng1 ta):=by
 intro pins s σ H R I h
 refine Call_ (ld_blt I hg hm boot_range (PyProof.Rows.callWith_type1 (thn (ha pos pins s σ H _ I h) fun us s1 ⟨vs,H1,I1,r1,q1⟩=>?_) hs rfl))
 obtain ⟨j,e,q1,q2,q⟩:=q1
 subst e
 cases r1 with
 | cons r rr =>
  cases rr
  obtain ⟨t,rfl⟩:=r
  exact call_range_1 (range_it I1 (by omega) (by omega) q1 q2 (by simpa using q))
def tFor (wi:TI) (g:TG) (tb:TS):TS:=fun D σ H=>wi σ H fun J H1=>∃ W:Nat->Nat->St->Hp->Prop,(∃ m,W 0 m σ H1)/\∀ i m σ H,W i m σ H →
 (J.stop i H/\D.nx σ H) \/ (J.go i H/\∃ N:St->Hp->Prop,(∀ σ' H',N σ' H'->∃ m',m' < m/\W (i + 1) m' σ' H')/\∀ x H',J.yld i H x H'->g x σ H' fun σ2 H2=>tb { D with nx:=N,ct:=N,bk:=D.nx } σ2 H2)
def pinsAt (fp:List Addr) (h:Heap):List (Addr × Obj):=fp.filterMap fun b=>(h.get? b).map fun o=>(b,o)
theorem mem_pinsAt {fp:List Addr} {h:Heap} {b:Addr} {o:Obj} (hb:b ∈ fp) (e:h.get? b=some o):(b,o) ∈ pinsAt fp h:=List.mem_filterMap.mpr ⟨b,hb,by rw [e]; rfl⟩
theorem of_pinsAt {fp:List Addr} {h:Heap} {p:Addr × Obj} (hp:p ∈ pinsAt fp h):p.1 ∈ fp/\h.get? p.1=some p.2:=by
 obtain ⟨b,hb,e⟩:=List.mem_filterMap.mp hp
 cases q:h.get? b with
 | none=>rw [q] at e; cases e
 | some o =>
  rw [q] at e
  have e':(b,o)=p:=Option.some.inj e
  subst e'
  exact ⟨hb,q⟩
theorem Inv.pinned {pins:List (Addr × Obj)} {σ:St} {H:Hp} {s:Shared} {fp:List Addr} (I:Inv X pins σ H s) (hf:∀ b ∈ fp,FpOk X pins H b) (ho:∀ b ∈ fp,∃ o,s.heap.get? b=some o/\∀ v,o.data ≠ .cell v):Inv X (pins ++ pinsAt fp s.heap) σ H s :=
 I.pins_of fun p hp=>(List.mem_append.mp hp).elim (fun z=>I.pin p (List.mem_append_right _ z)) fun z=>by
  obtain ⟨hb,e⟩:=of_pinsAt z
  obtain ⟨f0,f1,f2,_⟩:=hf p.1 hb
  obtain ⟨o,e',d⟩:=ho p.1 hb
  rw [e] at e'; cases e'
  exact ⟨e,f0,f1,f2,d⟩
theorem Inv.unpinned {pins pl:List (Addr × Obj)} {σ:St} {H:Hp} {s:Shared} (I:Inv X (pins ++ pl) σ H s):Inv X pins σ H s:=I.pins_of fun p hp=>I.pin p (List.mem_append_right _ (List.mem_append_left _ hp))
theorem ps_for {iter:Expr} {body:List Stmt} {wi:TI} {g:TG} {tb:TS} {pos:Pos} (hp:PassesOwn (model X.prog X.w) X.A X.env X.xe) (hc:X.calm=true) (hi:PI X tg iter wi) (hg:PG X tg g) (hb:PSs X body tb)
  (hs:∀ x,foldedSetIterable iter X.env x=pure x:=by intro _; rfl):PS X (.For tg iter body [] pos) (tFor wi g tb):=by
 intro pins s σ H D I h
 refine wpAny_For (thn (hi pins s σ H _ I h) fun v s1 h1=>thn h1 fun itv s2 h2=>?_) hs
 obtain ⟨it,fp,tn,J,H2,e,I2,T,st2,f2,W,⟨m0,w0⟩,turn⟩:=h2
 subst e
 have stat:∀ {H':Hp},(∀ b ∈ fp,H' b=none)->∀ b ∈ fp,FpOk X pins H' b:=fun hn b hb=>⟨hn b hb,(f2 b hb).2⟩
 refine codeAny_forLoop_any (fun n s'=>∃ i σ' H',Inv X pins σ' H' s'/\tn i s'.heap/\(∀ b ∈ fp,H' b=none)/\W i n σ' H') ?_ m0 ⟨0,σ,H2,I2,st2,fun b hb=>(f2 b hb).1,w0⟩
 rintro n s3 ⟨i,σ3,H3,I3,st3,fr3,w3⟩
 rcases turn i n σ3 H3 w3 with ⟨stop,qn⟩ | ⟨go,N,hN,step⟩
 ·refine wpAny_passesOwn hp (thn (T.done X rfl rfl rfl hc i pins s3 σ3 H3 X.xe I3 (stat fr3) st3 stop) fun r s4 ⟨hr,I4⟩=>?_)
  subst hr
  exact wpAny_execs_nil ⟨σ3,H3,I4,qn⟩
 ·refine wpAny_passesOwn hp (thn (T.item X rfl rfl rfl hc i pins s3 σ3 H3 X.xe I3 (stat fr3) st3 go) fun r s4 ⟨u,hr,h4⟩=>?_)
  subst hr
  refine wpAny_passesOwn hp (thn h4 fun _ s5 ⟨x,H5,I5,r5,y5,st5,fr5⟩=>?_)
  have I5':=I5.pinned (stat fr5) (T.obj _ _ st5)
  refine wpAny_passesOwn hp (thn (hg _ s5 σ3 H5 x u _ I5' r5 (step x H5 y5)) fun _ s6 ⟨σ6,H6,I6,q6⟩=>?_)
  refine wpAny_passesOwn hp (thn (hb _ s6 σ6 H6 _ I6 q6) fun f s7 q7=>?_)
  have again:∀ {σ7:St} {H7:Hp},Inv X (pins ++ pinsAt fp s5.heap) σ7 H7 s7->N σ7 H7->∃ m,m < n/\∃ i σ' H',Inv X pins σ' H' s7/\tn i s7.heap/\(∀ b ∈ fp,H' b=none)/\W i m σ' H':=fun {σ7 H7} I7 n7=>by
   obtain ⟨m',hm,w7⟩:=hN σ7 H7 n7
   refine ⟨m',hm,i + 1,σ7,H7,I7.unpinned,T.keep _ _ _ st5 fun b hb o e=>(I7.pin (b,o) (List.mem_append_right _ (List.mem_append_right _ (mem_pinsAt hb e)))).1,fun b hb=>?_,w7⟩
   obtain ⟨o,e,d⟩:=T.obj _ _ st5 b hb
   exact (I7.pin (b,o) (List.mem_append_right _ (List.mem_append_right _ (mem_pinsAt hb e)))).2.1
  cases f with
  | next=>obtain ⟨σ7,H7,I7,n7⟩:=q7; exact again I7 n7
  | cont=>obtain ⟨σ7,H7,I7,n7⟩:=q7; exact again I7 n7
  | brk=>obtain ⟨σ7,H7,I7,q7⟩:=q7; exact ⟨σ7,H7,I7.unpinned,q7⟩
  | ret v=>obtain ⟨x7,σ7,H7,I7,r7,q7⟩:=q7; exact ⟨x7,σ7,H7,I7.unpinned,r7,q7⟩
end
theorem for_list {K:PySem.W.Frag} {a:Addr} {xs:List V} {g:TG} {tb:TS} {D:Ends} {σ:St} {H:Hp} (Pv:Nat->St->Hp->Prop) (h0:Pv 0 σ H) (hl:∀ i σ H,i<=xs.length->Pv i σ H->SqL K H a xs)
  (hs:∀ i x σ H,xs[i]?=some x->Pv i σ H->g x σ H fun σ2 H2=>tb { D with nx:=Pv (i + 1),ct:=Pv (i + 1),bk:=D.nx } σ2 H2) (hd:∀ σ H,Pv xs.length σ H->D.nx σ H) :
  ∃ W:Nat->Nat->St->Hp->Prop,(∃ m,W 0 m σ H)/\∀ i m σ H,W i m σ H →
   ((Itl K a).stop i H/\D.nx σ H) \/ ((Itl K a).go i H/\∃ N:St->Hp->Prop,(∀ σ' H',N σ' H'->∃ m',m' < m/\W (i + 1) m' σ' H')/\∀ x H',(Itl K a).yld i H x H'->g x σ H' fun σ2 H2=>tb { D with nx:=N,ct:=N,bk:=D.nx } σ2 H2):=by
 refine ⟨fun i m σ H=>m=xs.length - i/\i<=xs.length/\Pv i σ H,⟨xs.length,by simp,Nat.zero_le _,h0⟩,?_⟩
 rintro i m σ H ⟨rfl,hi,p⟩
 have q:=hl i σ H hi p
 by_cases hlt:i < xs.length
 ·refine .inr ⟨⟨xs,xs[i],q,by simp [hlt]⟩,Pv (i + 1),fun σ' H' p'=>⟨xs.length - (i + 1),by omega,rfl,hlt,p'⟩,fun x H' y=>?_⟩
  obtain ⟨e,y⟩:=y
  subst e
  exact hs i x σ _ (y xs q) p
 ·have e:i=xs.length:=by omega
  subst e
  exact .inl ⟨⟨xs,q,Nat.le_refl _⟩,hd σ H p⟩
theorem for_tup {K:PySem.W.Frag} {a:Addr} {xs:List V} {g:TG} {tb:TS} {D:Ends} {σ:St} {H:Hp} (Pv:Nat->St->Hp->Prop) (h0:Pv 0 σ H) (hl:∀ i σ H,i<=xs.length->Pv i σ H->SqT K H a xs)
  (hs:∀ i x σ H,xs[i]?=some x->Pv i σ H->g x σ H fun σ2 H2=>tb { D with nx:=Pv (i + 1),ct:=Pv (i + 1),bk:=D.nx } σ2 H2) (hd:∀ σ H,Pv xs.length σ H->D.nx σ H) :
  ∃ W:Nat->Nat->St->Hp->Prop,(∃ m,W 0 m σ H)/\∀ i m σ H,W i m σ H →
   ((Itt K a).stop i H/\D.nx σ H) \/ ((Itt K a).go i H/\∃ N:St->Hp->Prop,(∀ σ' H',N σ' H'->∃ m',m' < m/\W (i + 1) m' σ' H')/\∀ x H',(Itt K a).yld i H x H'->g x σ H' fun σ2 H2=>tb { D with nx:=N,ct:=N,bk:=D.nx } σ2 H2):=by
 refine ⟨fun i m σ H=>m=xs.length - i/\i<=xs.length/\Pv i σ H,⟨xs.length,by simp,Nat.zero_le _,h0⟩,?_⟩
 rintro i m σ H ⟨rfl,hi,p⟩
 have q:=hl i σ H hi p
 by_cases hlt:i < xs.length
 ·refine .inr ⟨⟨xs,xs[i],q,by simp [hlt]⟩,Pv (i + 1),fun σ' H' p'=>⟨xs.length - (i + 1),by omega,rfl,hlt,p'⟩,fun x H' y=>?_⟩
  obtain ⟨e,y⟩:=y
  subst e
  exact hs i x σ _ (y xs q) p
 ·have e:i=xs.length:=by omega
  subst e
  exact .inl ⟨⟨xs,q,Nat.le_refl _⟩,hd σ H p⟩
theorem for_range {lo:Int} {n:Nat} {g:TG} {tb:TS} {D:Ends} {σ:St} {H:Hp} (Pv:Nat->St->Hp->Prop) (h0:Pv 0 σ H)
  (hs:∀ i σ H,i < n->Pv i σ H->g (.int (lo + i)) σ H fun σ2 H2=>tb { D with nx:=Pv (i + 1),ct:=Pv (i + 1),bk:=D.nx } σ2 H2) (hd:∀ σ H,Pv n σ H->D.nx σ H) :
  ∃ W:Nat->Nat->St->Hp->Prop,(∃ m,W 0 m σ H)/\∀ i m σ H,W i m σ H →
   ((Itr lo n).stop i H/\D.nx σ H) \/ ((Itr lo n).go i H/\∃ N:St->Hp->Prop,(∀ σ' H',N σ' H'->∃ m',m' < m/\W (i + 1) m' σ' H')/\∀ x H',(Itr lo n).yld i H x H'->g x σ H' fun σ2 H2=>tb { D with nx:=N,ct:=N,bk:=D.nx } σ2 H2):=by
 refine ⟨fun i m σ H=>m=n - i/\i<=n/\Pv i σ H,⟨n,by simp,Nat.zero_le _,h0⟩,?_⟩
 rintro i m σ H ⟨rfl,hi,p⟩
 by_cases hlt:i < n
 ·refine .inr ⟨hlt,Pv (i + 1),fun σ' H' p'=>⟨n - (i + 1),by omega,rfl,hlt,p'⟩,fun x H' y=>?_⟩
  obtain ⟨e,y⟩:=y
  subst e y
  exact hs i σ _ hlt p
 ·have e:i=n:=by omega
  subst e
  exact .inl ⟨Nat.le_refl _,hd σ H p⟩
theorem while_by {c:TT} {tb:TS} {D:Ends} {σ:St} {H:Hp} (Pv:St->Hp->Prop) (μ:St->Hp->Nat) (h0:Pv σ H)
  (hs:∀ σ H,Pv σ H->c σ H fun b H1=>if b=true then tb { D with nx:=fun σ' H'=>Pv σ' H'/\μ σ' H' < μ σ H,ct:=fun σ' H'=>Pv σ' H'/\μ σ' H' < μ σ H,bk:=D.nx } σ H1 else D.nx σ H1)
  (mono:∀ σ H Q Q',(∀ b H1,Q b H1->Q' b H1)->c σ H Q->c σ H Q'):tWhile c tb D σ H:=by
 refine ⟨fun m σ H=>m=μ σ H/\Pv σ H,⟨_,rfl,h0⟩,?_⟩
 rintro m σ H ⟨rfl,p⟩
 refine mono σ H _ _ (fun b H1 q=>?_) (hs σ H p)
 cases b with
 | true=>exact ⟨_,fun σ' H' ⟨p',l⟩=>⟨_,l,rfl,p'⟩,q⟩
 | false=>exact q
end L2
namespace L2
open PySem PySem.Spec PyProof.Rows
abbrev R2:=V->V->Hp->VK->Prop
def OpR (X:Cx) (f:Value->Value->Sem Value) (r:R2):Prop :=
 ∀ (pins:List (Addr × Obj)) (s:Shared) (σ:St) (H:Hp) (x y:V) (v u:Value) (Q:VK),Inv X pins σ H s->RelV x v->RelV y u->r x y H Q →
  wpAny (model X.prog X.w) X.A (f v u) (EP X pins σ Q) X.xe s
def UnR (X:Cx) (f:Value->Sem Value) (r:V->Hp->VK->Prop):Prop :=
 ∀ (pins:List (Addr × Obj)) (s:Shared) (σ:St) (H:Hp) (x:V) (v:Value) (Q:VK),Inv X pins σ H s->RelV x v->r x H Q →
  wpAny (model X.prog X.w) X.A (f v) (EP X pins σ Q) X.xe s
def CallR (X:Cx) (f:Value) (r:List V->Hp->VK->Prop):Prop :=
 ∀ (pins:List (Addr × Obj)) (s:Shared) (σ:St) (H:Hp) (xs:List V) (us:List Value) (Q:VK),Inv X pins σ H s->Vals xs us->r xs H Q →
  wpAny (model X.prog X.w) X.A (call f us) (EP X pins σ Q) X.xe s
def tOp (r:R2) (ta tb:TE):TE:=fun σ H Q=>ta σ H fun x H1=>tb σ H1 fun y H2=>r x y H2 Q
def tUn (r:V->Hp->VK->Prop) (ta:TE):TE:=fun σ H Q=>ta σ H fun x H1=>r x H1 Q
inductive rI (C:Int->Int->Prop) (g:Int->Int->V) (x:V) (y:V) (H:Hp) (Q:VK):Prop
 | mk (i j:_) (zz0:x=.int i) (zz1:y=.int j) (zz2:C i j) (zz3:Q (g i j) H)
inductive rI0 (g:Int->Int->V) (x:V) (y:V) (H:Hp) (Q:VK):Prop
 | mk (i j:_) (zz0:x=.int i) (zz1:y=.int j) (zz2:Q (g i j) H)
inductive rU (g:Int->V) (x:V) (H:Hp) (Q:VK):Prop
 | mk (i:_) (zz0:x=.int i) (zz1:Q (g i) H)
section
variable {X:Cx} {a b c:Expr} {ta tb tc:TE} {pos:Pos}
theorem binT (ha:PE X a ta) (hb:PE X b tb) {pins:List (Addr × Obj)} {s:Shared} {σ:St} {H:Hp} {R:V->V->Hp->Prop} (I:Inv X pins σ H s)
  (h:ta σ H fun x H1=>tb σ H1 fun y H2=>R x y H2) {Q:Value->Shared->Prop} {f:Value->Value->Sem Value}
  (hf:∀ v u s2 x y H2,Inv X pins σ H2 s2->RelV x v->RelV y u->R x y H2->wpAny (model X.prog X.w) X.A (f v u) Q X.xe s2) :
  wpAny (model X.prog X.w) X.A (eval a X.env) (fun v s₁=>wpAny (model X.prog X.w) X.A (eval b X.env) (fun u s₂=>wpAny (model X.prog X.w) X.A (f v u) Q X.xe s₂) X.xe s₁) X.xe s:=by
 refine thn (ha pins s σ H _ I h) fun v s1 ⟨x,H1,I1,r1,q1⟩=>?_
 refine thn (hb pins s1 σ H1 _ I1 q1) fun u s2 ⟨y,H2,I2,r2,q2⟩=>?_
 exact hf v u s2 x y H2 I2 r1 r2 q2
theorem pe_op {op:Operator} {r:R2} (ho:OpR X (binaryOp op) r) (ha:PE X a ta) (hb:PE X b tb):PE X (.BinOp a op b pos) (tOp r ta tb):=by
 intro pins s σ H Q I h
 exact wpAny_BinOp (binT ha hb I h fun v u s2 x y H2 I2 rx ry q=>ho pins s2 σ H2 x y v u Q I2 rx ry q)
theorem pe_un {op:UnaryOp} {r:V->Hp->VK->Prop} (ho:UnR X (unaryOp op) r) (ha:PE X a ta):PE X (.UnaryOp op a pos) (tUn r ta):=by
 intro pins s σ H Q I h
 exact UnaryOp_ (thn (ha pins s σ H _ I h) fun v s1 ⟨x,H1,I1,r1,q1⟩=>ho pins s1 σ H1 x v Q I1 r1 q1)
theorem opI {f:Value->Value->Sem Value} {C:Int->Int->Prop} {g:Int->Int->Int}
  (rule:∀ (i j:Int) (t u:Tok) (s:Shared) (Q:Value->Shared->Prop) (E:Value->Shared->Prop),C i j->Q (.int (g i j) s.toks) { s with toks:=s.toks + 1 }->wpAny (model X.prog X.w) X.A (f (.int i t) (.int j u)) Q E s) :
  OpR X f (rI C fun i j=>.int (g i j)):=by
 intro pins s σ H x y v u Q I rx ry h
 obtain ⟨i,j,rfl,rfl,hc,q⟩:=h
 obtain ⟨t,rfl⟩:=rx
 obtain ⟨t',rfl⟩:=ry
 exact rule i j t t' s _ _ hc ⟨.int (g i j),H,I.tok _,⟨_,rfl⟩,q⟩
theorem opI0 {f:Value->Value->Sem Value} {g:Int->Int->Int}
  (rule:∀ (i j:Int) (t u:Tok) (s:Shared) (Q:Value->Shared->Prop) (E:Value->Shared->Prop),Q (.int (g i j) s.toks) { s with toks:=s.toks + 1 }->wpAny (model X.prog X.w) X.A (f (.int i t) (.int j u)) Q E s) :
  OpR X f (rI0 fun i j=>.int (g i j)):=by
 intro pins s σ H x y v u Q I rx ry h
 obtain ⟨i,j,rfl,rfl,q⟩:=h
 obtain ⟨t,rfl⟩:=rx
 obtain ⟨t',rfl⟩:=ry
 exact rule i j t t' s _ _ ⟨.int (g i j),H,I.tok _,⟨_,rfl⟩,q⟩
theorem opB0 {f:Value->Value->Sem Value} {g:Int->Int->Bool}
  (rule:∀ (i j:Int) (t u:Tok) (s:Shared) (Q:Value->Shared->Prop) (E:Value->Shared->Prop),Q (.bool (g i j)) s->wpAny (model X.prog X.w) X.A (f (.int i t) (.int j u)) Q E s) :
  OpR X f (rI0 fun i j=>.bl (g i j)):=by
 intro pins s σ H x y v u Q I rx ry h
 obtain ⟨i,j,rfl,rfl,q⟩:=h
 obtain ⟨t,rfl⟩:=rx
 obtain ⟨t',rfl⟩:=ry
 exact rule i j t t' s _ _ ⟨.bl (g i j),H,I,rfl,q⟩
def CPow (i j:Int):Prop:=0<=j/\j<=1000000/\i.natAbs < 2 ^ 64
def CMul (i j:Int):Prop:=(-(2 ^ 64) < i/\i < 2 ^ 64) \/ (-(2 ^ 64) < j/\j < 2 ^ 64)
theorem op_add:OpR X (binaryOp .Add) (rI0 fun i j=>.int (i + j)):=opI0 fun _ _ _ _ _ _ _ q=>add_int q
theorem op_sub:OpR X (binaryOp .Sub) (rI0 fun i j=>.int (i - j)):=opI0 fun _ _ _ _ _ _ _ q=>sub_int q
theorem op_mod:OpR X (binaryOp .Mod) (rI (fun _ j=>0 < j) fun i j=>.int (i % j)):=opI fun i j _ _ _ _ _ hc q=>by
 have h1:(0:Int) < j:=hc
 exact mod_int' (by omega) (by rw [Int.fmod_eq_emod_of_nonneg i (by omega)]; exact q)
theorem op_modN:OpR X (binaryOp .Mod) (rI (fun _ j=>j ≠ 0) fun i j=>.int (i.fmod j)):=opI fun _ _ _ _ _ _ _ hc q=>mod_int' hc q
theorem op_pow:OpR X (binaryOp .Pow) (rI CPow fun i j=>.int (i ^ j.toNat)):=opI fun _ _ _ _ _ _ _ hc q=>pow_int_small hc.1 hc.2.1 hc.2.2 q
theorem unI {f:Value->Sem Value} {g:Int->Int}
  (rule:∀ (i:Int) (t:Tok) (s:Shared) (Q:Value->Shared->Prop) (E:Value->Shared->Prop),Q (.int (g i) s.toks) { s with toks:=s.toks + 1 }->wpAny (model X.prog X.w) X.A (f (.int i t)) Q E s) :
  UnR X f (rU fun i=>.int (g i)):=by
 intro pins s σ H x v Q I rx h
 obtain ⟨i,rfl,q⟩:=h
 obtain ⟨t,rfl⟩:=rx
 exact rule i t s _ _ ⟨.int (g i),H,I.tok _,⟨_,rfl⟩,q⟩
theorem un_neg:UnR X (unaryOp .USub) (rU fun i=>.int (-i)):=unI fun _ _ _ _ _ q=>neg_int q
end
def scal:V->V->Bool
 | .non,.non=>true | .non,.int _=>true | .int _,.non=>true | .non,.bl _=>true | .bl _,.non=>true | .non,.str _=>true | .str _,.non=>true
 | .int _,.int _=>true | .bl _,.bl _=>true | .str _,.str _=>true | .byt _,.byt _=>true
 | .int _,.str _=>true | .str _,.int _=>true | .bl _,.str _=>true | .str _,.bl _=>true
 | _,_=>false
def rEq:R2:=fun x y H Q=>scal x y=true/\Q (.bl (decide (x=y))) H
def rNe:R2:=fun x y H Q=>scal x y=true/\Q (.bl (!decide (x=y))) H
theorem dec_int {i j:Int}:decide (V.int i=V.int j)=(i == j):=by
 rw [Bool.eq_iff_iff]
 simp
theorem dec_bl {i j:Bool}:decide (V.bl i=V.bl j)=(i == j):=by
 rw [Bool.eq_iff_iff]
 simp
theorem dec_str {i j:Str}:decide (V.str i=V.str j)=(i == j):=by
 rw [Bool.eq_iff_iff]
 simp
theorem dec_byt {i j:Array UInt8}:decide (V.byt i=V.byt j)=(i.toList == j.toList):=by
 rw [Bool.eq_iff_iff]
 cases i
 cases j
 simp
section
variable {X:Cx} {a b c:Expr} {ta tb tc:TE} {pos:Pos}
theorem fin_bl {pins:List (Addr × Obj)} {σ:St} {H:Hp} {s:Shared} {Q:VK} {k k':Bool} (I:Inv X pins σ H s) (q:Q (.bl k) H) (e:k=k'):EP X pins σ Q (.bool k') s:=by
 subst e
 exact ⟨.bl k,H,I,rfl,q⟩
theorem op_eq:OpR X (compareOp .Eq) rEq:=by
 intro pins s σ H x y v u Q I rx ry h
 obtain ⟨hs,q⟩:=h
 cases x with
 | non =>
  cases rx
  cases y with
  | non=>cases ry; exact PySem.EqNone.eq_none_none (fin_bl I q (by simp))
  | bl j=>cases ry; exact PySem.EqNone.eq_none_bool (fin_bl I q (by simp))
  | int j=>obtain ⟨t',rfl⟩:=ry; exact PySem.EqNone.eq_none_int (fin_bl I q (by simp))
  | str j=>obtain ⟨t',rfl⟩:=ry; exact PySem.EqNone.eq_none_str (fin_bl I q (by simp))
  | _=>exact absurd (show false=true from hs) Bool.false_ne_true
 | bl i =>
  cases rx
  cases y with
  | non=>cases ry; exact PySem.EqNone.eq_bool_none (fin_bl I q (by simp))
  | bl j=>cases ry; exact eq_bool (fin_bl I q dec_bl)
  | str j=>obtain ⟨t',rfl⟩:=ry; exact PySem.EqMixed.eq_bool_str (fin_bl I q (by simp))
  | _=>exact absurd (show false=true from hs) Bool.false_ne_true
 | int i =>
  obtain ⟨t,rfl⟩:=rx
  cases y with
  | non=>cases ry; exact PySem.EqNone.eq_int_none (fin_bl I q (by simp))
  | int j=>obtain ⟨t',rfl⟩:=ry; exact eq_int (fin_bl I q dec_int)
  | str j=>obtain ⟨t',rfl⟩:=ry; exact PySem.EqMixed.eq_int_str (fin_bl I q (by simp))
  | _=>exact absurd (show false=true from hs) Bool.false_ne_true
 | str i =>
  obtain ⟨t,rfl⟩:=rx
  cases y with
  | non=>cases ry; exact PySem.EqNone.eq_str_none (fin_bl I q (by simp))
  | bl j=>cases ry; exact PySem.EqMixed.eq_str_bool (fin_bl I q (by simp))
  | int j=>obtain ⟨t',rfl⟩:=ry; exact PySem.EqMixed.eq_str_int (fin_bl I q (by simp))
  | str j=>obtain ⟨t',rfl⟩:=ry; exact eq_str (fin_bl I q dec_str)
  | _=>exact absurd (show false=true from hs) Bool.false_ne_true
 | byt i =>
  obtain ⟨t,rfl⟩:=rx
  cases y with
  | byt j=>obtain ⟨t',rfl⟩:=ry; exact PySem.W.eq_bytes (fin_bl I q dec_byt)
  | _=>exact absurd (show false=true from hs) Bool.false_ne_true
 | _=>cases y <;> exact absurd (show false=true from hs) Bool.false_ne_true
theorem op_ne:OpR X (compareOp .NotEq) rNe:=by
 intro pins s σ H x y v u Q I rx ry h
 obtain ⟨hs,q⟩:=h
 cases x with
 | non =>
  cases rx
  cases y with
  | non=>cases ry; exact PySem.EqNone.ne_none_none (fin_bl I q (by simp))
  | bl j=>cases ry; exact PySem.EqNone.ne_none_bool (fin_bl I q (by simp))
  | int j=>obtain ⟨t',rfl⟩:=ry; exact PySem.EqNone.ne_none_int (fin_bl I q (by simp))
  | str j=>obtain ⟨t',rfl⟩:=ry; exact PySem.EqNone.ne_none_str (fin_bl I q (by simp))
  | _=>exact absurd (show false=true from hs) Bool.false_ne_true
 | bl i =>
  cases rx
  cases y with
  | non=>cases ry; exact PySem.EqNone.ne_bool_none (fin_bl I q (by simp))
  | bl j=>cases ry; exact ne_bool (fin_bl I q (congrArg not dec_bl))
  | str j=>obtain ⟨t',rfl⟩:=ry; exact PySem.EqMixed.ne_bool_str (fin_bl I q (by simp))
  | _=>exact absurd (show false=true from hs) Bool.false_ne_true
 | int i =>
  obtain ⟨t,rfl⟩:=rx
  cases y with
  | non=>cases ry; exact PySem.EqNone.ne_int_none (fin_bl I q (by simp))
  | int j=>obtain ⟨t',rfl⟩:=ry; exact ne_int (fin_bl I q (congrArg not dec_int))
  | str j=>obtain ⟨t',rfl⟩:=ry; exact PySem.EqMixed.ne_int_str (fin_bl I q (by simp))
  | _=>exact absurd (show false=true from hs) Bool.false_ne_true
 | str i =>
  obtain ⟨t,rfl⟩:=rx
  cases y with
  | non=>cases ry; exact PySem.EqNone.ne_str_none (fin_bl I q (by simp))
  | bl j=>cases ry; exact PySem.EqMixed.ne_str_bool (fin_bl I q (by simp))
  | int j=>obtain ⟨t',rfl⟩:=ry; exact PySem.EqMixed.ne_str_int (fin_bl I q (by simp))
  | str j=>obtain ⟨t',rfl⟩:=ry; exact ne_str (fin_bl I q (congrArg not dec_str))
  | _=>exact absurd (show false=true from hs) Bool.false_ne_true
 | byt i =>
  obtain ⟨t,rfl⟩:=rx
  cases y with
  | byt j=>obtain ⟨t',rfl⟩:=ry; exact PySem.W.ne_bytes (fin_bl I q (congrArg not dec_byt))
  | _=>exact absurd (show false=true from hs) Bool.false_ne_true
 | _=>cases y <;> exact absurd (show false=true from hs) Bool.false_ne_true
theorem op_lt:OpR X (compareOp .Lt) (rI0 fun i j=>.bl (decide (i < j))):=opB0 fun _ _ _ _ _ _ _ q=>lt_int q
theorem op_le:OpR X (compareOp .LtE) (rI0 fun i j=>.bl (decide (i<=j))):=opB0 fun _ _ _ _ _ _ _ q=>le_int q
theorem op_gt:OpR X (compareOp .Gt) (rI0 fun i j=>.bl (decide (j < i))):=opB0 fun _ _ _ _ _ _ _ q=>gt_int q
theorem op_ge:OpR X (compareOp .GtE) (rI0 fun i j=>.bl (decide (j<=i))):=opB0 fun _ _ _ _ _ _ _ q=>ge_int q
theorem op_isN:OpR X (compareOp .Is) (fun x y H Q=>y=.non/\Q (.bl (decide (x=.non))) H):=by
 intro pins s σ H x y v u Q I rx ry h
 obtain ⟨rfl,q⟩:=h
 cases ry
 refine is_none_gen (fin_bl I q ?_)
 cases x <;> first
  | (cases rx; rfl)
  | (obtain ⟨t,rfl⟩:=rx; rfl)
theorem op_notN:OpR X (compareOp .IsNot) (fun x y H Q=>y=.non/\Q (.bl (!decide (x=.non))) H):=by
 intro pins s σ H x y v u Q I rx ry h
 obtain ⟨rfl,q⟩:=h
 cases ry
 refine isnot_none_gen (fin_bl I q ?_)
 cases x <;> first
  | (cases rx; rfl)
  | (obtain ⟨t,rfl⟩:=rx; rfl)
theorem nomark (b:Expr) {op:CmpOp} (h:op ≠ .In:=by decide) (h2:op ≠ .NotIn:=by decide):behindInMarks op b=false:=by
 have e1:(op == CmpOp.In)=false:=by cases op <;> first | rfl | exact absurd rfl h
 have e2:(op == CmpOp.NotIn)=false:=by cases op <;> first | rfl | exact absurd rfl h2
 cases b <;> simp [behindInMarks,e1,e2]
theorem pe_cmpR {op:CmpOp} {r:R2} (ho:OpR X (compareOp op) r) (ha:PE X a ta) (hb:PE X b tb) (hm:behindInMarks op b=false):PE X (.Compare a [op] [b] pos) (tOp r ta tb):=by
 intro pins s σ H Q I h
 exact wpAny_Compare1 (binT ha hb I h fun v u s2 x y H2 I2 rx ry q=>ho pins s2 σ H2 x y v u Q I2 rx ry q) hm
def tTest (t:TE):TT:=fun σ H Q=>t σ H fun x H'=>∃ k,x=.bl k/\Q k H'
theorem pt_cmpR {op:CmpOp} {r:R2} (ho:OpR X (compareOp op) r) (ha:PE X a ta) (hb:PE X b tb) (hm:behindInMarks op b=false):PT X (.Compare a [op] [b] pos) (tTest (tOp r ta tb)):=by
 intro pins s σ H Q I h
 refine wpAny_isTrue_Compare1 (thn (ha pins s σ H _ I h) fun v s1 ⟨x,H1,I1,r1,q1⟩=>thn (hb pins s1 σ H1 _ I1 q1) fun u s2 ⟨y,H2,I2,r2,q2⟩ =>
  thn (ho pins s2 σ H2 x y v u _ I2 r1 r2 q2) fun c s3 ⟨z,H3,I3,r3,k,e,q3⟩=>?_) hm
 subst e
 cases r3
 exact wpAny_truthy_bool ⟨H3,I3,q3⟩
theorem line63:(sizeLine:Nat) < 2 ^ 63:=by rw [sizeLine_eq]; decide
theorem vals1 {x:V} {us:List Value} (r:Vals [x] us):∃ u,us=[u]/\RelV x u:=by
 cases r with
 | cons r1 r2=>cases r2; exact ⟨_,rfl,r1⟩
theorem vals2 {x y:V} {us:List Value} (r:Vals [x,y] us):∃ u w',us=[u,w']/\RelV x u/\RelV y w':=by
 cases r with
 | cons r1 r2 =>
  cases r2 with
  | cons r3 r4=>cases r4; exact ⟨_,_,rfl,r1,r3⟩
theorem call_abs:CallR X (.builtin "abs") (fun xs H Q=>∃ i,xs=[.int i]/\Q (.int (if i < 0 then -i else i)) H):=by
 intro pins s σ H xs us Q I r h
 obtain ⟨i,rfl,q⟩:=h
 obtain ⟨u,rfl,t,rfl⟩:=vals1 r
 exact call_abs_int fun u tk=>⟨.int (if i < 0 then -i else i),H,I.tok _,⟨_,rfl⟩,q⟩
theorem call_int1:CallR X (.type "int") (fun xs H Q=>(∃ i,xs=[.int i]/\Q (.int i) H) \/ ∃ k,xs=[.bl k]/\Q (.int (if k then 1 else 0)) H):=by
 intro pins s σ H xs us Q I r h
 rcases h with ⟨i,rfl,q⟩ | ⟨k,rfl,q⟩
 ·obtain ⟨u,rfl,t,rfl⟩:=vals1 r
  exact call_int_int ⟨.int i,H,I,⟨_,rfl⟩,q⟩
 ·obtain ⟨u,rfl,r1⟩:=vals1 r
  cases r1
  exact call_int_bool ⟨.int (if k then 1 else 0),H,I.tok _,⟨_,rfl⟩,q⟩
end
end L2
namespace L2
open PySem PySem.Spec PyProof.Rows
structure ObjM (h:Heap) (x dx C:Addr) (mA:Str->Option Value):Prop where
 obj:h.get? x=some (PySem.W.instObj C dx)
 ns:h.Ns1 dx mA
 ne:dx ≠ x
theorem lookIn_ns {h:Heap} {dx:Addr} {mA:Str->Option Value} (n:h.Ns1 dx mA):∃ od,h.get? dx=some od/\∀ name,PySem.W.lookIn name od=some (mA name):=by
 obtain ⟨o,es,ep,ho,hd,hk,_,hm⟩:=n
 refine ⟨o,ho,fun name=>?_⟩
 have e:=hm name
 unfold nsFind findBy at e
 rw [← Array.find?_toList] at e
 unfold PySem.W.lookIn
 rw [hd]
 dsimp only
 split
 ·rename_i y q
  rw [q] at e
  exact congrArg some e
 ·rename_i q
  rw [q] at e
  have a:es.toList.any (·.refKey)=false:=by
   rw [List.any_eq_false]
   intro y hy
   obtain ⟨z,t,hkey⟩:=hk y (Array.mem_toList_iff.mp hy)
   simp [DictEntry.refKey,hkey]
  have a':¬ es.toList.any (·.refKey)=true:=by rw [a]; exact Bool.false_ne_true
  rw [if_neg a']
  exact congrArg some e
theorem ObjM.look {h:Heap} {x dx C:Addr} {mA:Str->Option Value} (I:ObjM h x dx C mA):∃ od,PySem.W.InstAt h x (PySem.W.instObj C dx) C (some od)/\∀ name,PySem.W.lookIn name od=some (mA name) :=
 let ⟨od,ho,hl⟩:=lookIn_ns I.ns
 ⟨od,⟨I.obj,rfl,rfl,ho⟩,hl⟩
section
variable {prog:Program} {w:World} {A:Around} {E:Value->Shared->Prop} {s:Shared} {K:PySem.W.Frag} {x dx C f:Addr} {mA:Str->Option Value} {name:Str} {v:Value}
end
section
variable {P:Program} {w:World} {H H':Hp} {h h':Heap} {a C dx:Addr} {fs fs':List (Str × V)}
theorem ins_get (hok:HOk P w H h) (e:H a=some (.ins C dx fs)):∃ mA,ObjM h a dx C mA/\(∀ f,RelO (fs.lookup f) (mA f))/\PySem.Within mA (fs.map (·.1))/\fs.length<=1000/\H dx=some (.own a):=by
 obtain ⟨d,z,ne,ob,mA,n,r,q⟩:=(show ObjOk P w H h a (.ins C dx fs) from hok a _ e)
 exact ⟨mA,⟨ob,n,ne⟩,r,q,z,d⟩
end
structure Cls (K:PySem.W.Frag) (C:Addr):Prop where
 pg:PySem.W.plainGet K C Str.empty=true
 hd:PySem.W.hasDictIn K C=true
 po:PySem.W.plainOver K C=true
 sa:PySem.W.findIn K (.ref C) "__setattr__"=some (some (.builtin "object.__setattr__"))
theorem Cls.get {K:PySem.W.Frag} {C:Addr} (c:Cls K C) (f:Str):PySem.W.plainGet K C f=true:=c.pg
structure Con (K:PySem.W.Frag) (C:Addr) (f:Str) (v:V) (u:Value):Prop where
 at_:PySem.W.findIn K (.ref C) f=some (some u)
 rel:RelV v u
 get:PySem.W.specialIn K u "__get__"=some none
 cp:PySem.W.copiedNames.contains f=false
section
variable {X:Cx} {pins:List (Addr × Obj)} {σ:St} {H:Hp} {s:Shared} {a C dx:Addr} {fs:List (Str × V)} {f:Str} {v:V} {A:Around} {E:Value->Shared->Prop}
end
section
variable {X:Cx} {o e value:Expr} {f:Str} {pos pos' tpos:Pos} {ta tv:TE}
end
section
variable {X:Cx} {pins:List (Addr × Obj)} {σ:St} {H:Hp} {s:Shared} {A:Around} {E:Value->Shared->Prop} {Q:Value->Shared->Prop} {c:Value} {b:Bool}
inductive TyOf (K:PySem.W.Frag) (H:Hp):V->Value->Prop where
 | non:TyOf K H .non (.type "NoneType")
 | bl (x:Bool):TyOf K H (.bl x) (.type "bool")
 | int (i:Int):TyOf K H (.int i) (.type "int")
 | str (x:Str):TyOf K H (.str x) (.type "str")
 | flt (x:UInt64):TyOf K H (.flt x) (.type "float")
 | lst {a:Addr} {xs:List V} (e:H a=some (.lst xs)):TyOf K H (.ref a) (.type "list")
 | frz {a:Addr} {o:Obj} {xs:List V} (e:H a=some (.frz o (.lst xs))):TyOf K H (.ref a) (.type "list")
 | tup {a:Addr} {xs:List V} (e:H a=some (.tup xs)):TyOf K H (.ref a) (.type "tuple")
 | dK {a:Addr} {kvs:List (Key × V)} (e:H a=some (.dK kvs)):TyOf K H (.ref a) (.type "dict")
 | dT {a:Addr} {kvs:List (List Key × V)} (e:H a=some (.dT kvs)):TyOf K H (.ref a) (.type "dict")
 | ins {a C dx:Addr} {fs:List (Str × V)} (e:H a=some (.ins C dx fs)) (cl:Cls K C) (ha:PySem.W.findIn K (.ref C) "__class__"=some (some (.builtin "object.__class__")))
   (hn:PySem.W.specialIn K (.builtin "object.__class__") "__get__"=some (some (.builtin "getset_descriptor.__get__"))) (htk:PySem.W.takesIn K (.builtin "object.__class__")=some true)
   (hm:PySem.W.mroIn K C (.type "object")=some true):TyOf K H (.ref a) (.ref C)
theorem isinst_ok {x:V} {u t:Value} (I:Inv X pins σ H s) (rx:RelV x u) (ty:TyOf X.K H x t) (e:PySem.W.kitOne X.K t c=some b) (h:∀ tk,Q (.bool b) { s with toks:=tk }) :
  wpAny (model X.prog X.w) A (call (.builtin "isinstance") [u,c]) Q E s:=by
 cases ty with
 | non=>cases (show u=Value.none from rx); exact PySem.W.kia_one PySem.W.kitx_none I.kIn True.intro e (fun z=>nomatch z) h
 | bl y=>cases (show u=Value.bool y from rx); exact PySem.W.kia_one PySem.W.kitx_bool I.kIn True.intro e (fun z=>nomatch z) h
 | int i=>obtain ⟨t,q⟩:=(show ∃ t,u=Value.int i t from rx); cases q; exact PySem.W.kia_one PySem.W.kitx_int I.kIn True.intro e (fun z=>nomatch z) h
 | str y=>obtain ⟨t,q⟩:=(show ∃ t,u=Value.str y t from rx); cases q; exact PySem.W.kia_one PySem.W.kitx_str I.kIn True.intro e (fun z=>nomatch z) h
 | flt y=>obtain ⟨t,q⟩:=(show ∃ t,u=Value.float y t from rx); cases q; exact PySem.W.kia_one PySem.W.kitx_float I.kIn True.intro e (fun z=>nomatch z) h
 | @lst a xs ea =>
  cases (show u=Value.ref a from rx)
  obtain ⟨_,_,n,_,h1⟩:=(show ObjOk X.prog X.w H s.heap a (.lst xs) from I.hok a _ ea)
  exact PySem.W.kia_one PySem.W.kitx_list I.kIn ⟨_,h1,rfl⟩ e (fun z=>nomatch z) h
 | @frz a ob xs ea =>
  cases (show u=Value.ref a from rx)
  obtain ⟨_,_,_,n,_,h1⟩:=(show ObjOk X.prog X.w H s.heap a (.frz ob (.lst xs)) from I.hok a _ ea)
  exact PySem.W.kia_one PySem.W.kitx_list I.kIn ⟨_,h1,rfl⟩ e (fun z=>nomatch z) h
 | @tup a xs ea =>
  cases (show u=Value.ref a from rx)
  obtain ⟨_,_,_,p⟩:=(show ObjOk X.prog X.w H s.heap a (.tup xs) from I.hok a _ ea)
  obtain ⟨o,h1,h2,_⟩:=p
  exact PySem.W.kia_one PySem.W.kitx_tuple I.kIn ⟨o,h1,h2⟩ e (fun z=>nomatch z) h
 | @dK a kvs ea =>
  cases (show u=Value.ref a from rx)
  obtain ⟨_,_,vs,_,p⟩:=(show ObjOk X.prog X.w H s.heap a (.dK kvs) from I.hok a _ ea)
  obtain ⟨o,es,ep,h1,h2,_⟩:=p
  exact PySem.W.kia_one PySem.W.kitx_dict I.kIn ⟨o,h1,h2.1⟩ e (fun z=>nomatch z) h
 | @dT a kvs ea =>
  cases (show u=Value.ref a from rx)
  obtain ⟨_,_,xs,_,o,es,ep,h1,h2,_⟩:=(show ObjOk X.prog X.w H s.heap a (.dT kvs) from I.hok a _ ea)
  exact PySem.W.kia_one PySem.W.kitx_dict I.kIn ⟨o,h1,h2.1⟩ e (fun z=>nomatch z) h
 | @ins a C dx fs ea cl ha hn htk hm =>
  cases (show u=Value.ref a from rx)
  obtain ⟨mA,O,_⟩:=ins_get I.hok ea
  obtain ⟨od,J,_⟩:=O.look
  exact PySem.W.kia_one (PySem.W.kitx_own (cl.get _) cl.hd ha hn htk hm) I.kIn J e (fun z=>nomatch z) h
end
end L2
namespace L2
open PySem PySem.Spec PyProof.Rows
structure Room (k:Nat) (A:Around) (sr:Bool:=false):Prop where
 hd:sr=true->A.handled=none
 dp:A.depth + 3 * k + 5 < recursionLimit
 un:A.units + 16 * k + 200 < cLine
theorem Room.mono {j k:Nat} {A:Around} {sr:Bool} (r:Room k A sr) (h:j<=k):Room j A sr:=⟨r.hd,by have:=r.dp; omega,by have:=r.un; omega⟩
theorem Room.deeper {k:Nat} {A:Around} {sr:Bool} (r:Room (k + 1) A sr) (env:Env):Room k (A.deeper env) sr :=
 ⟨r.hd,by have:=r.dp; show A.depth + 1 + 3 * k + 5 < _; omega,by have:=r.un; show A.units + 3 + 16 * k + 200 < _; omega⟩
theorem Room.in1 {k:Nat} {A:Around} {sr:Bool} (r:Room (k + 1) A sr):Room k A.in1 sr :=
 ⟨r.hd,by have:=r.dp; show A.depth + 3 * k + 5 < _; omega,by have:=r.un; show A.units + 1 + 16 * k + 200 < _; omega⟩
theorem Room.depth {k:Nat} {A:Around} {sr:Bool} (r:Room k A sr):A.depth < recursionLimit:=by have:=r.dp; omega
theorem Room.units {k:Nat} {A:Around} {sr:Bool} (r:Room k A sr):A.units + 64 < cLine:=by have:=r.un; omega
theorem Room.loose {k:Nat} {A:Around} {sr:Bool} (r:Room k A sr):Room k A:=⟨(fun z=>nomatch z),r.dp,r.un⟩
def tNil:TA:=fun _ H Q=>Q [] H
def tCons (ta:TE) (tr:TA):TA:=fun σ H Q=>ta σ H fun x H1=>tr σ H1 fun xs H2=>Q (x :: xs) H2
section
variable {X:Cx} {e:Expr} {es:List Expr} {te:TE} {t:TA} {pos:Pos}
theorem pa_nil:PA X [] tNil:=fun _ _ _ _ H Q I h=>Calls.spliced_nil ⟨[],H,I,.nil,h⟩
theorem pa_cons (ha:PE X e te) (hr:PA X es t) (hs:starEach (e :: es) X.env=(false,eval e X.env) :: starEach es X.env:=by rfl):PA X (e :: es) (tCons te t):=by
 intro pos pins s σ H Q I h
 rw [hs]
 show wpAny _ _ (spliced ((false,eval e X.env) :: backTo pos (starEach es X.env))) _ _ s
 refine Calls.spliced_cons (thn (ha pins s σ H _ I h) fun u s1 ⟨x,H1,I1,r1,q1⟩=>?_)
 exact thn (hr pos pins s1 σ H1 _ I1 q1) fun us s2 ⟨xs,H2,I2,r2,q2⟩=>⟨x :: xs,H2,I2,.cons r1 r2,q2⟩
def tTup (t:TA):TE:=fun σ H Q=>t σ H fun xs H1=>xs.length<=sizeLine/\∀ p,H1 p=none->Q (.ref p) (upd H1 p (.tup xs))
def tLst (t:TA):TE:=fun σ H Q=>t σ H fun xs H1=>xs.length<=sizeLine/\∀ p,H1 p=none->Q (.ref p) (upd H1 p (.lst xs))
theorem pe_tup {x1} (h:PA X es t):PE X (.Tuple es x1 pos) (tTup t):=by
 intro pins s σ H Q I hq
 refine wpAny_Tuple_spliced (thn (h pos pins s σ H _ I hq) fun us s1 ⟨xs,H1,I1,r,z,q⟩=>⟨by rw [← r.length]; exact z,?_⟩)
 have hf:H1 s1.heap.objs.size=none:=I1.hok.fresh (Nat.le_refl _)
 refine ⟨.ref s1.heap.objs.size,upd H1 s1.heap.objs.size (.tup xs),I1.laid (t':=s1.toks) (fun b u e=>Heap.get?_push_of_some _ e) (Nat.le_refl _) ?_,rfl,q _ hf⟩
 exact ⟨z,us,r,⟨_,Heap.get?_push_size _ rfl,rfl,_,rfl⟩⟩
theorem pe_lst (h:PA X es t):PE X (.List es pos) (tLst t):=by
 intro pins s σ H Q I hq
 refine wpAny_List_spliced (thn (h pos pins s σ H _ I hq) fun us s1 ⟨xs,H1,I1,r,z,q⟩=>⟨by rw [← r.length]; exact z,?_⟩)
 have hf:H1 s1.heap.objs.size=none:=I1.hok.fresh (Nat.le_refl _)
 refine ⟨.ref s1.heap.objs.size,upd H1 s1.heap.objs.size (.lst xs),I1.laid (t':=s1.toks) (fun b u e=>Heap.get?_push_of_some _ e) (Nat.le_refl _) ?_,rfl,q _ hf⟩
 exact ⟨z,us,0,r,Heap.get?_push_size _ rfl⟩
end
abbrev Sp:=List V->Hp->VK->XK->Prop
abbrev CXT:=List Env->Hp->Shared->XK->Value->Shared->Prop
structure Env0 (P:Program) (w:World) (K:PySem.W.Frag) (mg:Str->Option Value) (base:Heap) (A:Around) (outer:List Env) (s:Shared) (H:Hp):Prop where
 frames:A.frames=some outer
 mod:Mod K mg base
 bs:∀ b o,base.get? b=some o->s.heap.get? b=some o/\H b=none
 bsz:base.objs.size<=s.heap.objs.size
 funs:s.heap.FunFrames base outer
 frf:∀ b ∈ frs outer,H b=none
 hok:HOk P w H s.heap
 bare:AllBare s.gens
 qt:Sb.QtE A s.heap H (frs outer)
def CE (outer:List Env) (P:Program) (w:World) (H:Hp) (s:Shared) (Q:VK) (u:Value) (s':Shared):Prop :=
 ∃ v H',s'.os=s.os/\AllBare s'.gens/\Un (frs outer) [] H H' s.heap s'.heap/\HOk P w H' s'.heap/\RelV v u/\Q v H'
def CR (CX:CXT) (outer:List Env) (P:Program) (w:World) (H:Hp) (s:Shared) (Q:VK) (E:XK) (r:Result) (s':Shared):Prop :=
 match r with
 | .ok (.ret u)=>CE outer P w H s Q u s'
 | .ok _=>False
 | .error e=>CX outer H s E e s'
structure FnOk (P:Program) (w:World) (K:PySem.W.Frag) (mg:Str->Option Value) (base:Heap) (CX:CXT) (k:Nat) (f:Addr) (fd:FuncData) (ps:List Str) (sp:Sp) (sr:Bool:=false):Prop where
 len:∀ vs H Q E,sp vs H Q E->vs.length=ps.length
 run:∀ (A:Around) (outer:List Env) (s:Shared) (H:Hp) (args:Args) (us:List Value) (vs:List V) (Q:VK) (E:XK),Room k A sr->Env0 P w K mg base A outer s H->BindsTo s fd args (ps.zip us)->Vals vs us->sp vs H Q E →
  codeAny (model P w) A (.call (.ref f) args) (CR CX outer P w H s Q E) s
theorem Env0.in1 {P:Program} {w:World} {K:PySem.W.Frag} {mg:Str->Option Value} {base:Heap} {A:Around} {outer:List Env} {s:Shared} {H:Hp} (e:Env0 P w K mg base A outer s H) :
  Env0 P w K mg base A.in1 outer s H:=⟨e.frames,e.mod,e.bs,e.bsz,e.funs,e.frf,e.hok,e.bare,e.qt⟩
section
variable {X:Cx} {pins:List (Addr × Obj)} {σ:St} {H:Hp} {s s':Shared}
theorem Inv.env0 (I:Inv X pins σ H s) (hc:X.calm=true):Env0 X.prog X.w X.K X.mg X.base X.A X.stack s H :=
 ⟨I.ok.frames,I.ok.mod,I.bs,Nat.le_trans I.ok.bsz I.sz,I.stack,I.stkFree,I.hok,I.bare,(I.ok.hd hc).imp id fun ⟨p,hp,e,n⟩=>by
  obtain ⟨a1,a2,a3,a4,a5⟩:=I.pin p (List.mem_append_left _ hp)
  exact ⟨p.1,p.2,e,a1,n,a2,fun z=>(List.mem_cons.mp (I.stkSub p.1 z)).elim a3 a4,a5⟩⟩
theorem Inv.after {Q:VK} {u:Value} (I:Inv X pins σ H s) (h:CE X.stack X.prog X.w H s Q u s'):EP X pins σ Q u s':=by
 obtain ⟨v,H',os,bare,un,hok,r,q⟩:=h
 obtain ⟨hh,g,d,t,os'⟩:=s'
 obtain rfl:os'=s.os:=os
 exact ⟨v,H',I.call (h':=hh) (g':=g) (d':=d) (t':=t) (ch:=[]) un hok bare (fun b z=>absurd z (by simp)),r,q⟩
end
def tCall (sp:Sp) (dvs:List V) (E:XK) (t:TA):TE:=fun σ H Q=>t σ H fun vs H1=>sp (vs ++ dvs) H1 Q E
def Binds (K:PySem.W.Frag) (fd:FuncData) (ps:List Str) (ds:List Value):Prop :=
 ∀ (s:Shared) (us:List Value),K.In s.heap->(us ++ ds).length=ps.length->BindsTo s fd ⟨us,[]⟩ (ps.zip (us ++ ds))
theorem Binds.all {K:PySem.W.Frag} {fd:FuncData} {ps:List Str} (h:∀ us:List Value,us.length=ps.length->bindArgs fd ⟨us,[]⟩=pure (ps.zip us)):Binds K fd ps []:=fun s us _ hl=>by
 rw [List.append_nil] at hl ⊢
 exact .of_eq (h us hl)
def Passes (CX:CXT) (X:Cx) (E:XK):Prop:=∀ (pins:List (Addr × Obj)) (σ:St) (H:Hp) (s:Shared) (e:Value) (s':Shared),Inv X pins σ H s->CX X.stack H s E e s'->X.xe e s'
section
variable {X:Cx} {CX:CXT} {k:Nat} {f C:Addr} {fd:FuncData} {ps:List Str} {sp:Sp} {dvs:List V} {ds:List Value} {E:XK} {x m:Str} {p pos apos:Pos} {e o:Expr} {es:List Expr} {ta:TE} {t:TA}
theorem run_fn {pins:List (Addr × Obj)} {σ:St} {H:Hp} {s:Shared} {Q:VK} {us:List Value} {vs:List V} {sr:Bool} (F:FnOk X.prog X.w X.K X.mg X.base CX k f fd ps sp sr) (hr:Room k X.A sr) (hb:Binds X.K fd ps ds) (hd:Vals dvs ds) (hx:Passes CX X E) (hc:X.calm=true)
  (I:Inv X pins σ H s) (r:Vals vs us) (h:sp (vs ++ dvs) H Q E):wpAny (model X.prog X.w) X.A (call (.ref f) us) (EP X pins σ Q) X.xe s:=by
 have r2:Vals (vs ++ dvs) (us ++ ds):=r.append hd
 have hl:(us ++ ds).length=ps.length:=by rw [← r2.length]; exact F.len _ _ _ _ h
 refine wpAny_call (codeAny_mono (F.run X.A X.stack s H ⟨us,[]⟩ (us ++ ds) (vs ++ dvs) Q E hr (I.env0 hc) (hb s us I.kIn hl) r2 h) fun r s' hq=>?_)
 cases r with
 | error e=>exact hx pins σ H s e s' I hq
 | ok fl =>
  cases fl with
  | ret u=>exact I.after hq
  | next=>exact False.elim hq
  | brk=>exact False.elim hq
  | cont=>exact False.elim hq
theorem pe_call {sr:Bool} (F:FnOk X.prog X.w X.K X.mg X.base CX k f fd ps sp sr) (hr:Room k X.A sr) (hg:Gl X x) (hm:X.mg x=some (.ref f)) (hk:PySem.W.keepIn X.K (.ref f)=true) (hb:Binds X.K fd ps ds) (hd:Vals dvs ds) (hx:Passes CX X E)
  (ha:PA X (e :: es) t) (hdb:(x == ("__debug__":Str))=false:=by decide) (he:starEach (e :: es) X.env=(false,eval e X.env) :: starEach es X.env:=by rfl) (hpl:(backTo pos (starEach es X.env)).any (·.1)=false:=by rfl) (hc:X.calm=true:=by rfl) :
  PE X (.Call (.Name x p) (e :: es) [] pos) (tCall sp dvs E t):=by
 intro pins s σ H Q I h
 refine wpAny_Call_Name_kw (ld_glob I hg hm ?_ hdb)
 refine PySem.W.callWith_K (h₀:=X.base) I.ok.mod.kin hk (thn (ha pos pins s σ H _ I h) fun us s1 ⟨vs,H1,I1,r,q⟩=>⟨I1.kIn,?_⟩) he hpl
 exact run_fn F hr hb hd hx hc I1 r q
end
section
variable {X:Cx} {CX:CXT} {k:Nat} {f C:Addr} {fd:FuncData} {ps ks:List Str} {sp:Sp} {E:XK} {x m:Str} {p pos apos kpos:Pos} {e o:Expr} {es:List Expr} {kws:List Keyword} {te ta:TE} {t tk:TA} {nm:Option Str}
variable {g:List Value->List Value->List Value} {gV:List V->List V->List V}
end
structure FnScope (N P:List Str) (sc:Scope):Prop where
 kind:sc.kind=.function
 co:sc.isCoroutine=false
 gen:sc.isGenerator=false
 nd:N.Nodup
 pre:N.take P.length=P
 par:∀ x ∈ P,sc.names.lookup x=some .local \/ sc.names.lookup x=some .cell
 nofree:∀ y ∈ sc.names,y.2 ≠ .free
theorem bindL_out {kindOf:Str->Option NameKind} {x:Str}:∀ {binds:List (Str × Value)} {m:Str->Option Value},(∀ v,(x,v) ∉ binds)->bindL kindOf binds m x=m x
 | [],_,_=>rfl
 | (n,v) :: r,m,h=>by
  unfold bindL
  rw [bindL_out fun w hw=>h w (List.mem_cons_of_mem _ hw)]
  split
  ·have:x ≠ n:=by rintro rfl; exact h v List.mem_cons_self
   simp [this]
  ·rfl
theorem bindC_out {kindOf:Str->Option NameKind} {x:Str}:∀ {binds:List (Str × Value)} {m:Str->Option Value},(∀ v,(x,v) ∉ binds)->bindC kindOf binds m x=m x
 | [],_,_=>rfl
 | (n,v) :: r,m,h=>by
  unfold bindC
  rw [bindC_out fun w hw=>h w (List.mem_cons_of_mem _ hw)]
  split
  ·rfl
  ·have:x ≠ n:=by rintro rfl; exact h v List.mem_cons_self
   simp [this]
theorem bindL_get {kindOf:Str->Option NameKind} {x:Str} {v:Value}:∀ {P:List Str} {vs:List Value} {i:Nat} {m:Str->Option Value},P.Nodup->P[i]?=some x->vs[i]?=some v->kindOf x=some .local →
  bindL kindOf (P.zip vs) m x=some v
 | [],_,_,_,_,h,_,_=>by simp at h
 | _ :: _,[],_,_,_,_,h,_=>by simp at h
 | p :: P,w :: vs,0,m,nd,h1,h2,hk=>by
  simp at h1 h2; subst h1; subst h2
  show bindL kindOf ((p,w) :: P.zip vs) m p=_
  unfold bindL
  rw [bindL_out fun v hv=>(List.nodup_cons.mp nd).1 (List.of_mem_zip hv).1,if_pos hk]
  simp
 | p :: P,w :: vs,i + 1,m,nd,h1,h2,hk=>by
  show bindL kindOf ((p,w) :: P.zip vs) m x=_
  unfold bindL
  exact bindL_get (i:=i) (List.nodup_cons.mp nd).2 (by simpa using h1) (by simpa using h2) hk
theorem bindC_get {kindOf:Str->Option NameKind} {x:Str} {v:Value}:∀ {P:List Str} {vs:List Value} {i:Nat} {m:Str->Option Value},P.Nodup->P[i]?=some x->vs[i]?=some v->kindOf x ≠ some .local →
  bindC kindOf (P.zip vs) m x=some v
 | [],_,_,_,_,h,_,_=>by simp at h
 | _ :: _,[],_,_,_,_,h,_=>by simp at h
 | p :: P,w :: vs,0,m,nd,h1,h2,hk=>by
  simp at h1 h2; subst h1; subst h2
  show bindC kindOf ((p,w) :: P.zip vs) m p=_
  unfold bindC
  rw [bindC_out fun v hv=>(List.nodup_cons.mp nd).1 (List.of_mem_zip hv).1,if_neg hk]
  simp
 | p :: P,w :: vs,i + 1,m,nd,h1,h2,hk=>by
  show bindC kindOf ((p,w) :: P.zip vs) m x=_
  unfold bindC
  exact bindC_get (i:=i) (List.nodup_cons.mp nd).2 (by simpa using h1) (by simpa using h2) hk
def start (N:List Str) (vs:List V):St:=vs.map some ++ List.replicate (N.length - vs.length) none
def cxOf (CX:CXT) (P:Program) (w:World) (K:PySem.W.Frag) (mg:Str->Option Value) (base:Heap) (N:List Str) (qual:Str) (scope:Scope) (f:Addr) (cd:Value) (A:Around) (outer:List Env) (s:Shared) (H:Hp) (E:XK):Cx where
 prog:=P
 w:=w
 K:=K
 mg:=mg
 base:=base
 A:=A.deeper (envOfC qual scope s.heap.objs.size f cd)
 N:=N
 s₀:=s
 H₀:=H
 env:=envOfC qual scope s.heap.objs.size f cd
 outer:=outer
 stack:=envOfC qual scope s.heap.objs.size f cd :: outer
 ex:=[]
 calm:=true
 fn:=fun _=>true
 pn:=Sb.qpin A s.heap
 xe:=fun e s'=>wpAny (model P w) (A.deeper (envOfC qual scope s.heap.objs.size f cd)) (leaving (envOfC qual scope s.heap.objs.size f cd) e) (fun _ s''=>CX outer H s E e s'') (fun e' s''=>CX outer H s E e' s'') s'
theorem cell_has {sc:Scope} {n:Nat} {x:Str} (h:sc.names.lookup x=some .cell):∃ c,(cellsFrom n sc.names []).lookup x=some c:=by
 have q:=PySem.W.cellsFrom_some sc.names n [] (.inl h)
 exact Option.isSome_iff_exists.mp q
theorem inv_start {CX:CXT} {P:Program} {w:World} {K:PySem.W.Frag} {mg:Str->Option Value} {base:Heap} {N ps:List Str} {qual:Str} {scope:Scope} {f:Addr} {cd:Value} {A:Around} {outer:List Env} {s s1:Shared} {H:Hp} {E:XK} {us:List Value} {vs:List V}
  (S:FnScope N ps scope) (e0:Env0 P w K mg base A outer s H) (hl:vs.length=ps.length) (r:Vals vs us)
  (x:InCallC s s.heap.objs.size (bindL (envOfC qual scope s.heap.objs.size f cd).kindOf (ps.zip us) fun _=>none) (cellsFrom (s.heap.objs.size + 1) scope.names []) (bindC (envOfC qual scope s.heap.objs.size f cd).kindOf (ps.zip us) fun _=>none) s1) :
  Inv (cxOf CX P w K mg base N qual scope f cd A outer s H E) [] (start N vs) H s1:=by
 have hpl:ps.length<=N.length:=by have:=congrArg List.length S.pre; rw [List.length_take] at this; omega
 obtain ⟨h1,tk,rfl,hk⟩:=x.done
 have noA:∀ b:Addr,b ∉ (cxOf CX P w K mg base N qual scope f cd A outer s H E).ex:=fun b z=>absurd (show b ∈ ([]:List Addr) from z) (by simp)
 refine ⟨⟨e0.mod,S.kind,rfl,rfl,Nat.le_refl _,fun y z c h1 h2=>?_,fun y hy=>?_,fun y c _ h=>?_,fun _=>e0.qt.pin,Around.frames_deeper e0.frames,.inr ⟨rfl,rfl⟩,fun b z=>absurd z (noA b),e0.bs,e0.bsz,fun b _ _=>noA b,fun b z=>absurd z (noA b),e0.funs,e0.frf⟩,
  rfl,e0.bare,Un.kept hk,⟨_,x.toInCall.ns,fun i y v h1 h2 h3=>?_⟩,fun y c h=>⟨_,x.cell y c h⟩,e0.hok.fresh (Nat.le_refl _),fun y c h=>?_,fun p hp=>?_,e0.hok.kept hk,?_⟩
 rotate_right 2
 ·obtain ⟨a1,a2,a3,a4⟩:=e0.qt.mem p ((List.mem_append.mp hp).elim id fun z=>absurd z (by simp))
  exact ⟨hk _ _ a1,a2,Nat.ne_of_lt (Heap.lt_size a1),a3,a4⟩
 rotate_left 1
 ·exact name_of_addr x.apart (PySem.mem_of_lookup h1) (PySem.mem_of_lookup h2)
 ·have hy:scope.names.lookup y=some .cell \/ scope.names.lookup y=some .free:=hy
  rcases hy with hy | hy
  ·exact cell_has hy
  ·exact absurd rfl (S.nofree _ (PySem.mem_of_lookup hy))
 ·exact Nat.le_of_lt (x.above y c (PySem.mem_of_lookup h))
 ·have hi:i < vs.length:=by
   unfold start at h2
   by_cases hi:i < vs.length
   ·exact hi
   ·rw [List.getElem?_append_right (by simpa using hi)] at h2
    rw [List.getElem?_replicate] at h2
    split at h2 <;> cases h2
  have ha:vs[i]?=some v:=by
   unfold start at h2
   rw [List.getElem?_append_left (by simpa using hi),List.getElem?_map] at h2
   cases e:vs[i]? with
   | none=>rw [e] at h2; cases h2
   | some a=>rw [e] at h2; cases h2; rfl
  obtain ⟨u,hu,rv⟩:=r.get ha
  have hp:ps[i]?=some y:=by
   rw [← S.pre,List.getElem?_take_of_lt (by omega)]; exact h1
  have ndP:ps.Nodup:=by rw [← S.pre]; exact S.nd.sublist (List.take_sublist _ _)
  refine ⟨u,rv,?_⟩
  rcases S.par y (List.mem_of_getElem? hp) with k | k
  ·exact .inl ⟨k,bindL_get ndP hp hu k⟩
  ·obtain ⟨c,e⟩:=cell_has (n:=s.heap.objs.size + 1) k
   refine .inr ⟨.inl k,c,e,?_⟩
   have q:=x.cell y c e
   rw [bindC_get ndP hp hu (by show scope.names.lookup y ≠ _; rw [k]; decide)] at q
   exact q
 ·exact e0.hok.fresh (Nat.le_of_lt (x.above y c (PySem.mem_of_lookup h)))
 ·unfold start
  show _=N.length
  rw [List.length_append,List.length_map,List.length_replicate]
  omega
theorem fn_of {CX:CXT} {P:Program} {w:World} {K:PySem.W.Frag} {mg:Str->Option Value} {base:Heap} {k:Nat} {f:Addr} {name qual:Str} {params:Arguments} {body:List Stmt} {scope:Scope} {dV kV doc pm cdv ct oc:Value} {an od:Option Addr}
  {osl:Array (Option Value)} {N ps:List Str} {sp:Sp} {sr:Bool} (lk:K.lookup f=some ⟨oc,od,.func (PySem.W.fnOf name qual params body scope dV kV doc pm an cdv ct),osl⟩) (hcd:PySem.W.codeIn K cdv qual=true) (S:FnScope N ps scope)
  (len:∀ vs H Q E,sp vs H Q E->vs.length=ps.length)
  (hbody:∀ (A:Around) (outer:List Env) (s:Shared) (H:Hp) (vs:List V) (Q:VK) (E:XK),Room k (A.deeper (envOfC qual scope s.heap.objs.size f cdv)) sr->sp vs H Q E →
   ∃ t,PSs (cxOf CX P w K mg base N qual scope f cdv A outer s H E) body t/\t { nx:=fun _ H'=>Q .non H',rt:=Q } (start N vs) H) :
  FnOk P w K mg base CX (k + 1) f (PySem.W.fnOf name qual params body scope dV kV doc pm an cdv ct) ps sp sr:=by
 refine ⟨len,fun A outer s H args us vs Q E hr e0 hb r hsp=>?_⟩
 have hl:=len _ _ _ _ hsp
 have KX:K.In s.heap:=e0.mod.kin.keeps fun b o e=>(e0.bs b o e).1
 have lim:s.heap.NoLimit:=e0.mod.nolimit.keeps fun b o e=>(e0.bs b o e).1
 have hkind:∀ y ∈ ps.zip us,scope.names.lookup y.1=some .local \/ (scope.names.lookup y.1=some .cell/\((cellsFrom (s.heap.objs.size + 1) scope.names []).lookup y.1).isSome=true):=fun ⟨n,v⟩ hy=>by
  rcases S.par n (List.of_mem_zip hy).1 with q | q
  ·exact .inl q
  ·exact .inr ⟨q,PySem.W.cellsFrom_some _ _ _ (.inl q)⟩
 refine codeAny_call_function hr.depth (KX _ _ lk) rfl S.co S.gen rfl (PySem.W.codeRec_of KX hcd) (hb _ _ _ _ ?_)
 refine wpAny_newFunctionEnv_cells S.kind hkind fun env he s1 x=>?_
 subst he
 refine ⟨lim.keeps x.toInCall.keep,codeAny_func ?_⟩
 obtain ⟨t,ht,hq⟩:=hbody A outer s H vs Q E (hr.deeper _) hsp
 have I:Inv (cxOf CX P w K mg base N qual scope f cdv A outer s H E) [] (start N vs) H s1:=inv_start S e0 hl r x
 refine wpAny_mono (ht [] s1 (start N vs) H _ I hq) (fun fl s' hs=>?_) fun e s' hs=>hs
 have fin:∀ {σ':St} {H':Hp} {v:V} {u:Value},Inv (cxOf CX P w K mg base N qual scope f cdv A outer s H E) [] σ' H' s'->RelV v u->Q v H'->CE outer P w H s Q u s' :=
  fun {σ' H' v u} J rv q=>⟨v,H',J.os,J.bare,J.base,J.hok,rv,q⟩
 cases fl with
 | ret u =>
  obtain ⟨v,σ',H',J,rv,q⟩:=hs
  exact fin J rv q
 | next =>
  obtain ⟨σ',H',J,q⟩:=hs
  exact fin (v:=V.non) (u:=Value.none) J rfl q
 | brk =>
  obtain ⟨_,_,_,q⟩:=hs
  exact False.elim q
 | cont =>
  obtain ⟨_,_,_,q⟩:=hs
  exact False.elim q
end L2
namespace L2
open PySem PySem.Spec PyProof.Rows
section
variable {X:Cx} {x:Str} {p pos:Pos} {e:Expr} {es:List Expr} {t:TA} {id T:String} {r:List V->Hp->VK->Prop}
def tCB (r:List V->Hp->VK->Prop) (t:TA):TE:=fun σ H Q=>t σ H fun vs H1=>r vs H1 Q
theorem pe_callB (hc:CallR X (.builtin id) r) (hg:Gl X x) (hm:X.mg x=none) (hv:bootBuiltins x=some (.builtin id)) (ha:PA X (e :: es) t) (hn:x ≠ "__name__":=by decide) (hdb:(x == ("__debug__":Str))=false:=by decide)
  (he:starEach (e :: es) X.env=(false,eval e X.env) :: starEach es X.env:=by rfl) (hpl:(backTo pos (starEach es X.env)).any (·.1)=false:=by rfl):PE X (.Call (.Name x p) (e :: es) [] pos) (tCB r t):=by
 intro pins s σ H Q I h
 refine wpAny_Call_Name_kw (ld_blt I hg hm hv ?_ hn hdb)
 exact PyProof.Rows.callWith_builtin1 (thn (ha pos pins s σ H _ I h) fun us s1 ⟨vs,H1,I1,r1,q1⟩=>hc pins s1 σ H1 vs us Q I1 r1 q1) he hpl
theorem pe_callTy (hc:CallR X (.type T) r) (hg:Gl X x) (hm:X.mg x=none) (hv:bootBuiltins x=some (.type T)) (ha:PA X (e :: es) t) (hn:x ≠ "__name__":=by decide) (hdb:(x == ("__debug__":Str))=false:=by decide)
  (he:starEach (e :: es) X.env=(false,eval e X.env) :: starEach es X.env:=by rfl) (hpl:(backTo pos (starEach es X.env)).any (·.1)=false:=by rfl):PE X (.Call (.Name x p) (e :: es) [] pos) (tCB r t):=by
 intro pins s σ H Q I h
 refine wpAny_Call_Name_kw (ld_blt I hg hm hv ?_ hn hdb)
 exact PyProof.Rows.callWith_type1 (thn (ha pos pins s σ H _ I h) fun us s1 ⟨vs,H1,I1,r1,q1⟩=>hc pins s1 σ H1 vs us Q I1 r1 q1) he hpl
end
end L2
namespace HT
open PySem PyProof.Rows
section
open PySem.SeqAt
open PySem.AutoSeq1 (wpAny_loadPart')
open PySem.MeetsSeq PySem.MeetsSeq2 PySem.MeetsSeq3
end
section
variable {prog:Program} {w:World} {A:Around} {E:Value->Shared->Prop} {s:Shared}
end
end HT
namespace L2
open PySem PySem.Spec PyProof.Rows
abbrev TO:=St->Hp->(Option Int->Hp->Prop)->Prop
theorem intsAre_of {ns:List Int}:∀ {us:List Value},Vals (ns.map V.int) us->IntsAre us ns:=by
 induction ns with
 | nil=>intro us r; rw [List.map_nil] at r; cases r; exact .nil
 | cons n ns ih =>
  intro us r
  rw [List.map_cons] at r
  cases r with
  | cons r1 r2 =>
   obtain ⟨t,e⟩:=r1
   subst e
   exact .cons n t (ih r2)
section
variable {X:Cx} {e:Expr} {te:TE} {lo hi:Option Expr} {tl th:TO} {pos p2:Pos}
end
end L2
namespace L2
open PySem PySem.Spec PyProof.Rows
def ixN (n:Nat) (i:Int):Option Nat:=if 0<=i then (if i < n then some i.toNat else none) else if -(n:Int)<=i then some (i + n).toNat else none
def atI {α:Type} (xs:List α) (i:Int):Option α:=(ixN xs.length i).bind fun j=>xs[j]?
theorem ixN_seq {n:Nat} {i:Int} {j:Nat} (h:ixN n i=some j):seqIndex? i n=some j/\j < n/\-(n:Int)<=i/\i < n:=by
 unfold ixN at h
 by_cases h0:0<=i
 ·rw [if_pos h0] at h
  by_cases h1:i < n
  ·rw [if_pos h1] at h
   have e:i.toNat=j:=Option.some.inj h
   exact ⟨by rw [seqIndex_of h0 h1,e],by omega,by omega,h1⟩
  ·rw [if_neg h1] at h; cases h
 ·rw [if_neg h0] at h
  by_cases h1:-(n:Int)<=i
  ·rw [if_pos h1] at h
   have e:(i + n).toNat=j:=Option.some.inj h
   exact ⟨by rw [seqIndex_neg (by omega) h1,e],by omega,h1,by omega⟩
  ·rw [if_neg h1] at h; cases h
theorem atI_get {α:Type} {xs:List α} {i:Int} {v:α} (h:atI xs i=some v):∃ j,seqIndex? i xs.length=some j/\xs[j]?=some v/\j < xs.length/\-(xs.length:Int)<=i/\i < xs.length:=by
 unfold atI at h
 cases e:ixN xs.length i with
 | none=>rw [e] at h; cases h
 | some j =>
  rw [e] at h
  obtain ⟨h1,h2,h3,h4⟩:=ixN_seq e
  exact ⟨j,h1,h,h2,h3,h4⟩
theorem atI_nat {α:Type} {xs:List α} {j:Nat} {v:α} (h:xs[j]?=some v):atI xs (j:Int)=some v:=by
 have hj:j < xs.length:=(List.getElem?_eq_some_iff.mp h).1
 have e:ixN xs.length (j:Int)=some j:=by
  unfold ixN
  rw [if_pos (by omega),if_pos (by omega)]; simp
 unfold atI; rw [e]; exact h
def PlainIx (b:Expr):Prop:=∀ o i,subscripted b false o i=operate [o,i] (getItem o i)
def IxR (X:Cx) (r:R2):Prop :=
 ∀ (value slice:Expr) (pins:List (Addr × Obj)) (s:Shared) (σ:St) (H:Hp) (x y:V) (v u:Value) (Q:VK),Inv X pins σ H s->RelV x v->RelV y u->r x y H Q →
  subscripted slice false v u=operate [v,u] (getItem v u)->wpAny (model X.prog X.w) X.A (subscriptTail value slice v u) (EP X pins σ Q) X.xe s
def MtR (X:Cx) (id:String) (r:V->List V->Hp->VK->Prop):Prop :=
 ∀ (pins:List (Addr × Obj)) (s:Shared) (σ:St) (H:Hp) (x:V) (xs:List V) (v:Value) (us:List Value) (Q:VK),Inv X pins σ H s->RelV x v->Vals xs us->r x xs H Q →
  wpAny (model X.prog X.w) X.A (call (.builtin id) (v :: us)) (EP X pins σ Q) X.xe s
section
variable {X:Cx} {a b:Expr} {ta tb:TE} {pos:Pos}
theorem pe_ix {r:R2} (hr:IxR X r) (ha:PE X a ta) (hb:PE X b tb) (hs:PlainIx b):PE X (.Subscript a b pos) (tOp r ta tb):=by
 intro pins s σ H Q I h
 exact Subscript_ (binT ha hb I h fun v u s2 x y H2 I2 rx ry q=>hr a b pins s2 σ H2 x y v u Q I2 rx ry q (hs _ _))
inductive rIxL (K:PySem.W.Frag) (x:V) (y:V) (H:Hp) (Q:VK):Prop
 | mk (p xs i v:_) (zz0:x=.ref p) (zz1:y=.int i) (zz2:SqL K H p xs) (zz3:atI xs i=some v) (zz4:Q v H)
inductive rIxT (K:PySem.W.Frag) (x:V) (y:V) (H:Hp) (Q:VK):Prop
 | mk (p xs i v:_) (zz0:x=.ref p) (zz1:y=.int i) (zz2:SqT K H p xs) (zz3:atI xs i=some v) (zz4:Q v H)
theorem ix_list:IxR X (rIxL X.K):=by
 intro value slice pins s σ H x y v u Q I rx ry h hs
 obtain ⟨p,xs,i,z,rfl,rfl,hq,he,q⟩:=h
 cases rx
 obtain ⟨t,rfl⟩:=ry
 obtain ⟨its,r,pl,hz⟩:=I.list hq
 obtain ⟨j,h1,h2,h3,h4,h5⟩:=atI_get he
 obtain ⟨w,ew,rw'⟩:=r.get h2
 have hl:=r.length
 have hn:=line63
 have fin:EP X pins σ Q w s:=⟨z,H,I,rw',q⟩
 by_cases h0:0<=i
 ·have hj:i.toNat=j:=by
   rw [seqIndex_of h0 h5] at h1
   exact Option.some.inj h1
  exact item_listR pl.isList h0 (by omega) (by rw [hj]; simpa using ew) fin hs
 ·have hj:(i + (its.toArray.size:Int)).toNat=j:=by
   rw [seqIndex_neg (by omega) h4] at h1
   rw [List.size_toArray,← hl]
   exact Option.some.inj h1
  exact subscriptTail_builtinR (x:=w) pl.isList.typeIs slot_list_getitem.lookup
   (wpAny_getItem_list_neg (Q:=fun r s'=>r=w/\EP X pins σ Q r s') pl.isList (by omega) (by rw [List.size_toArray] <;> omega) (by omega) (by rw [hj]; simpa using ew) ⟨rfl,fin⟩) hs
theorem ix_tup:IxR X (rIxT X.K):=by
 intro value slice pins s σ H x y v u Q I rx ry h hs
 obtain ⟨p,xs,i,z,rfl,rfl,hq,he,q⟩:=h
 cases rx
 obtain ⟨t,rfl⟩:=ry
 obtain ⟨its,r,pl,hz⟩:=I.tuple hq
 obtain ⟨j,h1,h2,h3,h4,h5⟩:=atI_get he
 obtain ⟨w,ew,rw'⟩:=r.get h2
 have hl:=r.length
 have hn:=line63
 have fin:EP X pins σ Q w s:=⟨z,H,I,rw',q⟩
 exact subscriptTail_builtinR (x:=w) pl.typeIs slot_tuple_getitem.lookup
  (getItem_tuple (j:=j) (Q:=fun r s'=>r=w/\EP X pins σ Q r s') pl (by omega) (by omega) (by rw [List.size_toArray,← hl]; exact h1) (by simpa using ew) ⟨rfl,fin⟩) hs
theorem mapSeq_set (its:List Value) (n j:Nat) (u:Value):Obj.mapSeq (·.setIfInBounds j u) { cls:=.type "list",data:=.seq its.toArray n }={ cls:=.type "list",data:=.seq (its.set j u).toArray n }:=by
 simp [Obj.mapSeq]
theorem Inv.lst {pins:List (Addr × Obj)} {σ:St} {H:Hp} {s:Shared} {p:Addr} {xs:List V} (I:Inv X pins σ H s) (h:H p=some (.lst xs)) :
  ∃ (its:List Value) (n:Nat),Vals xs its/\s.heap.get? p=some { cls:=.type "list",data:=.seq its.toArray n }/\xs.length<=sizeLine:=by
 obtain ⟨z,its,n,r,e⟩:=I.hok p _ h
 exact ⟨its,n,r,e,z⟩
theorem Inv.lstUpd {pins:List (Addr × Obj)} {σ:St} {H:Hp} {s:Shared} {p:Addr} {xs ys:List V} {its its':List Value} {n n':Nat} {f:Obj->Obj} (I:Inv X pins σ H s) (h:H p=some (.lst xs))
  (ho:s.heap.get? p=some { cls:=.type "list",data:=.seq its.toArray n }) (hf:f { cls:=.type "list",data:=.seq its.toArray n }={ cls:=.type "list",data:=.seq its'.toArray n' }) (r:Vals ys its') (hz:ys.length<=sizeLine) (t:Nat) :
  Inv X pins σ (upd H p (.lst ys)) { s with heap:=s.heap.update p f,toks:=t }:=by
 have e:(s.heap.update p f).get? p=some { cls:=.type "list",data:=.seq its'.toArray n' }:=by
  rw [Heap.get?_update_self f ho (by rw [hf] <;> rfl),hf]
 refine I.write (x:=p) (e:=p) (by rw [h]; trivial) (.inl rfl) (fun b u hb q=>(Heap.get?_update_other _ _ (Ne.symm hb)).trans q) ⟨_,e⟩ ?_
 exact ⟨hz,its',n',r,e⟩
inductive rSetL (o:V) (i:V) (v:V) (H:Hp) (Q:(Hp->Prop)):Prop
 | mk (p xs k j:_) (zz0:o=.ref p) (zz1:i=.int k) (zz2:H p=some (.lst xs)) (zz3:ixN xs.length k=some j) (zz4:Q (upd H p (.lst (xs.set j v))))
theorem set_list:PSet X rSetL:=by
 intro pins s σ H o i v ov iv u Q I ro ri rv h
 obtain ⟨p,xs,k,j,rfl,rfl,hp,hj,q⟩:=h
 cases ro
 obtain ⟨t,rfl⟩:=ri
 obtain ⟨its,n,r,ho,hz⟩:=I.lst hp
 obtain ⟨h1,h2,h3,h4⟩:=ixN_seq hj
 have hl:=r.length
 have hn:=line63
 have I':Inv X pins σ (upd H p (.lst (xs.set j v))) { s with heap:=s.heap.update p (Obj.mapSeq (·.setIfInBounds j u)) } :=
  I.lstUpd hp ho (mapSeq_set its n j u) (r.set rv j) (by rw [List.length_set]; exact hz) s.toks
 by_cases h0:0<=k
 ·have hk:k.toNat=j:=by
   rw [seqIndex_of h0 h4] at h1
   exact Option.some.inj h1
  exact PySem.W.ki_setAt ho h0 (by omega) (by rw [List.size_toArray,← hl]; exact h4) (by rw [hk]; exact ⟨_,I',q⟩)
 ·have hk:(k + (its.toArray.size:Int)).toNat=j:=by
   rw [seqIndex_neg (by omega) h3] at h1
   rw [List.size_toArray,← hl]
   exact Option.some.inj h1
  exact PySem.W.ki_setBack ho (by omega) (by rw [List.size_toArray,← hl]; exact h3) (by omega) (by rw [hk]; exact ⟨_,I',q⟩)
def flatV:V->Bool
 | .non=>true
 | .bl _=>true
 | .int _=>true
 | .str _=>true
 | _=>false
def eqV:V->V->Bool
 | .non,.non=>true
 | .bl a,.bl b=>a == b
 | .bl a,.int b=>(if a then 1 else 0) == b
 | .int a,.bl b=>a == (if b then 1 else 0)
 | .int a,.int b=>a == b
 | .str a,.str b=>a == b
 | _,_=>false
theorem eqAt_V {A:Around} {s:Shared} {y x:V} {u v:Value} (ry:RelV y u) (rx:RelV x v) (fy:flatV y=true) (fx:flatV x=true):SeqAt.EqAt A s u v (eqV y x):=by
 cases y with
 | non =>
  cases ry
  cases x with
  | non=>cases rx; exact SeqAt.EqAt.same _
  | bl b=>cases rx; exact SeqAt.EqAt.none_bool b
  | int b=>obtain ⟨t,rfl⟩:=rx; exact SeqAt.EqAt.none_int b t
  | str b=>obtain ⟨t,rfl⟩:=rx; exact SeqAt.EqAt.none_str b t
  | _=>exact absurd (show false=true from fx) Bool.false_ne_true
 | bl a =>
  cases ry
  cases x with
  | non=>cases rx; exact SeqAt.EqAt.bool_none a
  | bl b=>cases rx; exact SeqAt.EqAt.bool_bool a b
  | int b=>obtain ⟨t,rfl⟩:=rx; exact SeqAt.EqAt.bool_int a b t
  | str b=>obtain ⟨t,rfl⟩:=rx; exact SeqAt.EqAt.bool_str a b t
  | _=>exact absurd (show false=true from fx) Bool.false_ne_true
 | int a =>
  obtain ⟨t',rfl⟩:=ry
  cases x with
  | non=>cases rx; exact SeqAt.EqAt.int_none a t'
  | bl b=>cases rx; exact SeqAt.EqAt.int_bool a t' b
  | int b=>obtain ⟨t,rfl⟩:=rx; exact SeqAt.EqAt.int_int a t' b t
  | str b=>obtain ⟨t,rfl⟩:=rx; exact SeqAt.EqAt.int_str a t' b t
  | _=>exact absurd (show false=true from fx) Bool.false_ne_true
 | str a =>
  obtain ⟨t',rfl⟩:=ry
  cases x with
  | non=>cases rx; exact SeqAt.EqAt.str_none a t'
  | bl b=>cases rx; exact SeqAt.EqAt.str_bool a t' b
  | int b=>obtain ⟨t,rfl⟩:=rx; exact SeqAt.EqAt.str_int a t' b t
  | str b=>obtain ⟨t,rfl⟩:=rx; exact SeqAt.EqAt.str_str a t' b t
  | _=>exact absurd (show false=true from fx) Bool.false_ne_true
 | _=>exact absurd (show false=true from fy) Bool.false_ne_true
def eqU (x:V) (u:Value):Bool:=match u with
 | .none=>eqV .non x
 | .bool b=>eqV (.bl b) x
 | .int i _=>eqV (.int i) x
 | .str z _=>eqV (.str z) x
 | _=>false
theorem eqU_of {x y:V} {u:Value} (r:RelV y u) (f:flatV y=true):eqU x u=eqV y x:=by
 cases y with
 | non=>cases r; rfl
 | bl b=>cases r; rfl
 | int i=>obtain ⟨t,rfl⟩:=r; rfl
 | str z=>obtain ⟨t,rfl⟩:=r; rfl
 | _=>exact absurd (show false=true from f) Bool.false_ne_true
theorem any_eqU {x:V}:∀ {xs:List V} {us:List Value},Vals xs us->xs.all flatV=true->us.any (eqU x)=xs.any fun y=>eqV y x
 | _,_,.nil,_=>rfl
 | y :: xs,u :: us,.cons r t,f=>by
  rw [List.all_cons,Bool.and_eq_true] at f
  rw [List.any_cons,List.any_cons,eqU_of r f.1,any_eqU t f.2]
theorem mem_eqAt {A:Around} {s:Shared} {x:V} {v:Value} (rx:RelV x v) (fx:flatV x=true):∀ {xs:List V} {us:List Value},Vals xs us->xs.all flatV=true->∀ u ∈ us,SeqAt.EqAt A s u v (eqU x u)
 | _,_,.nil,_=>fun u hu=>by cases hu
 | y :: xs,u :: us,.cons r t,f=>fun u' hu=>by
  rw [List.all_cons,Bool.and_eq_true] at f
  rcases List.mem_cons.mp hu with rfl | hu
  ·rw [eqU_of r f.1]; exact eqAt_V r rx f.1 fx
  ·exact mem_eqAt rx fx t f.2 u' hu
def inV (x:V) (xs:List V):Bool:=xs.any fun y=>eqV y x
inductive rIn (K:PySem.W.Frag) (neg:Bool) (x:V) (y:V) (H:Hp) (Q:VK):Prop
 | mk (p xs:_) (zz0:y=.ref p) (zz1:(SqL K H p xs \/ SqT K H p xs)) (zz2:flatV x=true) (zz3:xs.all flatV=true) (zz4:Q (.bl (if neg then !inV x xs else inV x xs)) H)
theorem op_in_seq:OpR X (compareOp .In) (rIn X.K false):=by
 intro pins s σ H x y v u Q I rx ry h
 obtain ⟨p,xs,rfl,hq,fx,fs,q⟩:=h
 cases ry
 rcases hq with hq | hq
 ·obtain ⟨its,r,pl,hz⟩:=I.list hq
  refine SeqAt.in_listAt (eqU x) pl.isList (fun w hw=>mem_eqAt rx fx r fs w (by simpa using hw)) ⟨.bl _,H,I,rfl,?_⟩
  rw [show its.toArray.any (eqU x)=its.any (eqU x) by simp,any_eqU r fs]
  exact q
 ·obtain ⟨its,r,pl,hz⟩:=I.tuple hq
  refine SeqAt.in_tupleAt (eqU x) pl (fun w hw=>mem_eqAt rx fx r fs w (by simpa using hw)) ⟨.bl _,H,I,rfl,?_⟩
  rw [show its.toArray.any (eqU x)=its.any (eqU x) by simp,any_eqU r fs]
  exact q
theorem call_len_seq:CallR X (.builtin "len") (fun xs H Q=>∃ p ys,xs=[.ref p]/\(SqL X.K H p ys \/ SqT X.K H p ys)/\Q (.int ys.length) H):=by
 intro pins s σ H xs us Q I r h
 obtain ⟨p,ys,rfl,hq,q⟩:=h
 obtain ⟨u,rfl,rx⟩:=vals1 r
 cases rx
 have hn:=line63
 rcases hq with hq | hq
 ·obtain ⟨its,r',pl,hz⟩:=I.list hq
  have hlen:=r'.length
  exact Calls.call_len_list pl.isList (by simp only [List.size_toArray] <;> omega) ⟨.int ys.length,H,I.tok _,⟨s.toks + 1,by rw [List.size_toArray,hlen]⟩,q⟩
 ·obtain ⟨its,r',pl,hz⟩:=I.tuple hq
  have hlen:=r'.length
  exact len_tuple pl (by simp only [List.size_toArray] <;> omega) ⟨.int ys.length,H,I.tok _,⟨s.toks + 1,by rw [List.size_toArray,hlen]⟩,q⟩
theorem call_list_of:CallR X (.type "list") (fun xs H Q=>∃ p ys,xs=[.ref p]/\(SqL X.K H p ys \/ SqT X.K H p ys)/\∀ l,H l=none->Q (.ref l) (upd H l (.lst ys))):=by
 intro pins s σ H xs us Q I r h
 obtain ⟨p,ys,rfl,hq,q⟩:=h
 obtain ⟨u,rfl,rx⟩:=vals1 r
 cases rx
 have fin:∀ (its:List Value),Vals ys its->ys.length<=sizeLine->∀ (h':Heap) (c':Nat),(∀ b o',s.heap.get? b=some o'->h'.get? b=some o') →
   h'.get? s.heap.objs.size=some { cls:=.type "list",dict:=none,data:=.seq its.toArray c',slots:=#[] }->EP X pins σ Q (.ref s.heap.objs.size) { s with heap:=h' }:=fun its r' hz h' c' kp e =>
  ⟨.ref s.heap.objs.size,_,I.laid (t':=s.toks) kp (Nat.le_refl _) (show ObjOk X.prog X.w _ h' _ (.lst ys) from ⟨hz,its,c',r',e⟩),rfl,q _ (I.hok.fresh (Nat.le_refl _))⟩
 rcases hq with hq | hq
 ·obtain ⟨its,r',pl,hz⟩:=I.list hq
  have hlen:=r'.length
  obtain ⟨o,ho,hc,n,hd⟩:=pl.isList
  exact call_list_seq p (.inl rfl) ho hc hd (fun h' c' kp e=>fin its r' hz h' c' kp e) (by simp only [List.size_toArray] <;> omega)
 ·obtain ⟨its,r',pl,hz⟩:=I.tuple hq
  have hlen:=r'.length
  obtain ⟨o,ho,hc,n,hd⟩:=pl
  exact call_list_seq p (.inr rfl) ho hc hd (fun h' c' kp e=>fin its r' hz h' c' kp e) (by simp only [List.size_toArray] <;> omega)
theorem call_tuple_of:CallR X (.type "tuple") (fun xs H Q=>∃ p ys,xs=[.ref p]/\((SqL X.K H p ys/\∀ l,H l=none->Q (.ref l) (upd H l (.tup ys))) \/ (SqT X.K H p ys/\Q (.ref p) H))):=by
 intro pins s σ H xs us Q I r h
 obtain ⟨p,ys,rfl,h⟩:=h
 obtain ⟨u,rfl,rx⟩:=vals1 r
 cases rx
 rcases h with ⟨hq,q⟩ | ⟨hq,q⟩
 ·obtain ⟨its,r',pl,hz⟩:=I.list hq
  have hlen:=r'.length
  refine call_tuple_list pl.isList (fun h' kp=>?_) (by simp only [List.size_toArray] <;> omega)
  have I1:Inv X pins σ H { s with heap:=h' }:=I.kept (t':=s.toks) kp
  have I2:Inv X pins σ (upd H h'.objs.size (.tup ys)) { s with heap:=h'.push { cls:=.type "tuple",data:=.seq its.toArray } } :=
   I1.laid (t':=s.toks) (fun b o e=>Heap.get?_push_of_some _ e) (Nat.le_refl _) (show ObjOk X.prog X.w _ _ _ (.tup ys) from ⟨hz,its,r',IsTup.new _ _⟩)
  exact ⟨.ref h'.objs.size,_,I2,rfl,q _ (I1.hok.fresh (Nat.le_refl _))⟩
 ·obtain ⟨its,r',pl,hz⟩:=I.tuple hq
  exact call_tuple_same pl ⟨.ref p,H,I,rfl,q⟩
def tyV (K:PySem.W.Frag) (T:String) (x:V) (H:Hp):Prop:=match x with
 | .str _=>T="str"
 | .int _=>T="int"
 | .ref p=>(T="list"/\∃ xs,SqL K H p xs) \/ (T="tuple"/\∃ o,K.lookup p=some o/\o.cls=.type "tuple"/\o.dict=none) ∨
   (T="dict"/\((∃ kvs,H p=some (.dK kvs)) \/ ∃ kvs,H p=some (.dT kvs))) \/ (T="set"/\∃ S n,H p=some (.set S n))
 | _=>False
theorem tyV_is {pins:List (Addr × Obj)} {σ:St} {H:Hp} {s:Shared} {T:String} {x:V} {v:Value} (I:Inv X pins σ H s) (r:RelV x v) (ty:tyV X.K T x H) :
  s.TypeIs v T/\∀ a,v=.ref a->∃ ob,s.heap.get? a=some ob/\ob.dict=none:=by
 cases x with
 | str z =>
  obtain ⟨t,rfl⟩:=r
  cases (show T="str" from ty)
  exact ⟨typeIs_str s z t,fun _ e=>nomatch e⟩
 | int i =>
  obtain ⟨t,rfl⟩:=r
  cases (show T="int" from ty)
  exact ⟨typeIs_int s i t,fun _ e=>nomatch e⟩
 | ref p =>
  cases r
  rcases ty with ⟨rfl,xs,hq⟩ | ⟨rfl,o,hk,hc,hd⟩ | ⟨rfl,hk⟩ | ⟨rfl,S,n,hk⟩
  ·obtain ⟨its,_,pl,_⟩:=I.list hq
   refine ⟨pl.isList.typeIs,fun a e=>?_⟩
   cases e
   obtain ⟨o,n,e,c,hd,_⟩:=pl
   exact ⟨o,e,hd⟩
  ·refine ⟨⟨o,I.kIn p o hk,hc⟩,fun a e=>?_⟩
   cases e
   exact ⟨o,I.kIn _ o hk,hd⟩
  ·have z:∃ o,s.heap.get? p=some o/\o.ExactDict:=by
    rcases hk with ⟨kvs,hk⟩ | ⟨kvs,hk⟩
    ·obtain ⟨_,_,_,_,o,_,_,e,ex,_⟩:=I.hok p _ hk
     exact ⟨o,e,ex⟩
    ·obtain ⟨_,_,_,_,o,_,_,e,ex,_⟩:=I.hok p _ hk
     exact ⟨o,e,ex⟩
   obtain ⟨o,e,ex⟩:=z
   refine ⟨⟨o,e,ex.1⟩,fun a e2=>?_⟩
   cases e2
   exact ⟨o,e,ex.2.1⟩
  ·obtain ⟨o,_,_,_,e,ex,_⟩:=I.hok p _ hk
   refine ⟨⟨o,e,ex.1⟩,fun a e2=>?_⟩
   cases e2
   exact ⟨o,e,ex.2.1⟩
 | _=>exact False.elim ty
def tBM (K:PySem.W.Frag) (T:String) (r:V->List V->Hp->VK->Prop) (to:TE) (t:TA):TE:=fun σ H Q=>to σ H fun x H1=>tyV K T x H1/\t σ H1 fun xs H2=>r x xs H2 Q
variable {o e:Expr} {es:List Expr} {to:TE} {t:TA} {name:Str} {apos cpos:Pos} {T id:String} {r:V->List V->Hp->VK->Prop}
theorem pe_bm (pa:PlainAttrs T) (slot:Slot T name id) (hty:typeOf (.builtin id)=pure (.type "method_descriptor")) (hm:MtR X id r) (ho:PE X o to) (ha:PA X (e :: es) t)
  (hbase:attributeBase o name X.env (eval o X.env)=eval o X.env:=by rfl)
  (hfew:((backTo cpos (starEach (e :: es) X.env)).all (fun x=>!x.1) && (backToKw cpos (keywordEach [] X.env)).all (fun x=>x.1.isSome)
   && decide ((e :: es).length + ([]:List Keyword).length + (if ([]:List Keyword).isEmpty then 0 else 1) < 30))=true:=by rfl)
  (hline:(apos.endLine == cpos.line)=true:=by rfl) (hs:starEach (e :: es) X.env=(false,eval e X.env) :: starEach es X.env:=by rfl) (hplain:(backTo cpos (starEach es X.env)).any (·.1)=false:=by rfl) :
  PE X (.Call (.Attribute o name apos) (e :: es) [] cpos) (tBM X.K T r to t):=by
 intro pins s σ H Q I h
 refine wpAny_Call_method_late hbase hfew hline rfl (thn (ho pins s σ H _ I h) fun v s1 ⟨x,H1,I1,r1,ty,q1⟩=>?_)
 obtain ⟨h1,h2⟩:=tyV_is I1 r1 ty
 refine ⟨T,id,pa,slot,hty,h1,h2,?_⟩
 have hA:=ha cpos pins s1 σ H1 _ I1 q1
 rw [hs] at hA ⊢
 refine Calls.callWith_builtin (by show (false || (backTo cpos (starEach es X.env)).any (·.1))=false; rw [hplain] <;> rfl) (Calls.evalArgs_plain ?_)
 exact thn hA fun us s2 ⟨vs,H2,I2,r2,q2⟩=>hm pins s2 σ H2 x vs v us Q I2 r1 r2 q2
end
end L2
namespace L2
open PySem PySem.Spec PyProof.Rows
def MtM (X:Cx) (id:String) (r:V->List V->Hp->VK->Prop):Prop :=
 ∀ (pins:List (Addr × Obj)) (s:Shared) (σ:St) (H:Hp) (x:V) (xs:List V) (v:Value) (us:List Value) (Q:VK),Inv X pins σ H s->RelV x v->Vals xs us->r x xs H Q →
  wpAny (model X.prog X.w) X.A (call (.builtin id) (v :: us)) (EP X pins σ Q) X.xe s
theorem Vals.one:∀ {x:V} {us:List Value},Vals [x] us->∃ u,us=[u]/\RelV x u
 | _,_,.cons r .nil=>⟨_,rfl,r⟩
theorem Vals.two:∀ {x y:V} {us:List Value},Vals [x,y] us->∃ u v,us=[u,v]/\RelV x u/\RelV y v
 | _,_,_,.cons r (.cons q .nil)=>⟨_,_,rfl,r,q⟩
theorem Vals.rep {xs:List V} {us:List Value} (h:Vals xs us):∀ k:Nat,Vals (List.replicate k xs).flatten (List.replicate k us).flatten
 | 0=>.nil
 | k + 1=>by
  rw [List.replicate_succ,List.replicate_succ,List.flatten_cons,List.flatten_cons]
  exact Vals.append h (Vals.rep h k)
theorem foldl_rep (its:List Value):∀ (k:Nat) (acc:List Value),
  List.foldl (fun x1 x2=>x1 ++ x2) acc.toArray (List.replicate k its.toArray)=(acc ++ (List.replicate k its).flatten).toArray
 | 0,acc=>by simp
 | k + 1,acc=>by
  have e:acc.toArray ++ its.toArray=(acc ++ its).toArray:=by simp
  have e2:(acc ++ its) ++ (List.replicate k its).flatten=acc ++ (List.replicate (k + 1) its).flatten:=by
   rw [List.replicate_succ,List.flatten_cons,List.append_assoc]
  rw [← e2,← foldl_rep its k (acc ++ its),← e,List.replicate_succ,List.foldl_cons]
section
variable {X:Cx} {pins:List (Addr × Obj)} {σ:St} {H:Hp} {s:Shared} {l b:Addr} {xs ys zs:List V}
theorem Inv.lset {its its':List Value} {n:Nat} {f:Array Value->Array Value} {t':Nat} (I:Inv X pins σ H s) (hH:H l=some (.lst xs))
  (e:s.heap.get? l=some { cls:=.type "list",data:=.seq its.toArray n }) (hf:f its.toArray=its'.toArray) (hv:Vals ys its') (hz:ys.length<=sizeLine) :
  Inv X pins σ (upd H l (.lst ys)) { s with heap:=s.heap.update l (Obj.mapSeq f),toks:=t' }:=by
 have q:=PySem.IsL.update e f
 rw [hf] at q
 refine I.write (x:=l) (e:=l) (by rw [hH]; exact trivial) (.inl rfl) (fun b' u hb hu=>(Heap.get?_update_other s.heap (Obj.mapSeq f) (Ne.symm hb)).trans hu) ⟨_,q⟩ ?_
 exact ⟨hz,its',_,hv,q⟩
theorem Inv.lnew {its:List Value} {t':Nat} (I:Inv X pins σ H s) (hv:Vals ys its) (hz:ys.length<=sizeLine) :
  Inv X pins σ (upd H s.heap.objs.size (.lst ys)) { s with heap:=s.heap.push { cls:=.type "list",data:=.seq its.toArray },toks:=t' } :=
 I.laid (fun _ _ q=>Heap.get?_push_of_some _ q) (Nat.le_refl _) ⟨hz,its,0,hv,Heap.get?_push_size _ rfl⟩
theorem Inv.fresh (I:Inv X pins σ H s):H s.heap.objs.size=none:=I.hok.fresh (Nat.le_refl _)
theorem Inv.lstM (I:Inv X pins σ H s) (hH:H l=some (.lst xs)):xs.length<=sizeLine/\∃ (its:List Value) (n:Nat),Vals xs its/\xs.length=its.length/\s.heap.get? l=some { cls:=.type "list",data:=.seq its.toArray n }:=by
 obtain ⟨z,its,n,r,e⟩:=I.hok l _ hH
 exact ⟨z,its,n,r,r.length,e⟩
theorem notLongL {n:Nat} (h:n<=sizeLine):Builtin.List.listTooLong n=false:=by
 unfold Builtin.List.listTooLong
 exact decide_eq_false (by omega)
end
section
variable {X:Cx}
inductive rAppend (x:V) (vs:List V) (H:Hp) (Q:VK):Prop
 | mk (l xs y:_) (zz0:x=.ref l) (zz1:vs=[y]) (zz2:H l=some (.lst xs)) (zz3:xs.length < sizeLine) (zz4:Q .non (upd H l (.lst (xs ++ [y]))))
theorem mt_append:MtM X "list.append" rAppend:=by
 intro pins s σ H x vs v us Q I rx rv h
 obtain ⟨l,xs,y,rfl,rfl,hH,hz,q⟩:=h
 cases rx
 obtain ⟨u,rfl,ru⟩:=rv.one
 obtain ⟨z,its,n,r,hl,e⟩:=I.lstM hH
 refine call_meets F.slot_list_append ⟨_,e,rfl⟩ F.entry_list_append (F.args_list_append_2 _ _) (PySem.list_append l its.toArray n u (by rw [List.size_toArray]; omega)) ⟨e,?_⟩
 refine ⟨.non,_,I.lset (its':=its ++ [u]) hH e (by simp) (r.append (.cons ru .nil)) ?_,rfl,q⟩
 rw [List.length_append,List.length_singleton]
 omega
inductive rExtend (x:V) (vs:List V) (H:Hp) (Q:VK):Prop
 | mk (l b xs zs:_) (zz0:x=.ref l) (zz1:vs=[.ref b]) (zz2:H l=some (.lst xs)) (zz3:H b=some (.lst zs)) (zz4:xs.length + zs.length<=sizeLine) (zz5:Q .non (upd H l (.lst (xs ++ zs))))
theorem mt_extend:MtM X "list.extend" rExtend:=by
 intro pins s σ H x vs v us Q I rx rv h
 obtain ⟨l,b,xs,zs,rfl,rfl,hH,hB,hz,q⟩:=h
 cases rx
 obtain ⟨u,rfl,ru⟩:=rv.one
 cases ru
 obtain ⟨z,its,n,r,hl,e⟩:=I.lstM hH
 obtain ⟨z2,its2,n2,r2,hl2,e2⟩:=I.lstM hB
 have hsz:its.toArray.size + its2.toArray.size<=sizeLine:=by rw [List.size_toArray,List.size_toArray]; omega
 have hlong:¬ (!its.toArray.isEmpty && Builtin.List.listTooLong (its.toArray.size + its2.toArray.size))=true:=by
  rw [notLongL hsz,Bool.and_false]
  exact Bool.false_ne_true
 refine call_meets F.slot_list_extend ⟨_,e,rfl⟩ F.entry_list_extend (F.args_list_extend_2 _ _)
  (AutoSeq1.list_extend_list_list_0 l its.toArray n b its2.toArray n2 hlong (by rw [List.size_toArray]; omega) (by omega)) ⟨e,e2,?_⟩
 refine ⟨.non,_,I.lset (its':=its ++ its2) hH e (by simp) (r.append r2) ?_,rfl,q⟩
 rw [List.length_append]
 omega
inductive rCat (x:V) (y:V) (H:Hp) (Q:VK):Prop
 | mk (l b xs zs:_) (zz0:x=.ref l) (zz1:y=.ref b) (zz2:H l=some (.lst xs)) (zz3:H b=some (.lst zs)) (zz4:xs.length + zs.length<=sizeLine) (zz5:∀ p,H p=none->Q (.ref p) (upd H p (.lst (xs ++ zs))))
theorem op_cat:OpR X (binaryOp .Add) rCat:=by
 intro pins s σ H x y v u Q I rx ry h
 obtain ⟨l,b,xs,zs,rfl,rfl,hH,hB,hz,q⟩:=h
 cases rx
 cases ry
 obtain ⟨z,its,n,r,hl,e⟩:=I.lstM hH
 obtain ⟨z2,its2,n2,r2,hl2,e2⟩:=I.lstM hB
 refine PySem.P.add_list e e2 ?_ (by rw [List.size_toArray,List.size_toArray]; omega)
 have ea:its.toArray ++ its2.toArray=(its ++ its2).toArray:=by simp
 rw [ea]
 exact ⟨.ref _,_,I.lnew (t':=s.toks) (r.append r2) (by rw [List.length_append]; omega),rfl,q _ I.fresh⟩
theorem len_rep {α:Type} (xs:List α) (k:Nat):(List.replicate k xs).flatten.length=k * xs.length:=by
 induction k with
 | zero=>simp
 | succ k ih=>rw [List.replicate_succ,List.flatten_cons,List.length_append,ih,Nat.succ_mul,Nat.add_comm]
end
section
variable {prog:Program} {w:World} {A:Around} {E:Value->Shared->Prop} {s:Shared}
end
section
variable {X:Cx}
end
end L2
namespace Att
open PySem PySem.W PySem.Calls PyProof.Rows
theorem ints_of_wellAll {P:Params} {h:Heap}:∀ (ns:List Int) (vs:List Value),WellAll P h vs (ns.map WData.int)->IntsAre vs ns:=by
 intro ns
 induction ns with
 | nil =>
  intro vs w
  rw [List.map_nil] at w
  cases w
  exact .nil
 | cons n ns ih =>
  intro vs w
  rw [List.map_cons] at w
  cases w with
  | cons a b =>
   cases a
   exact .cons _ _ (ih _ b)
theorem script_of {l:OpenLaw} {n:Nat} (hn:l.most=some n) {P:Params} {h:Heap} {args:List WData} {vals:List Value}
  (hpre:l.row.toRowW.claim.pre args=true) (hwl:WellAll P h vals args) :
  ∃ a vs ns,vals=[Value.ref a]/\args=[WData.list (ns.map WData.int)]/\h.get? a=some { cls:=.type "list",data:=.seq vs.toArray }/\IntsAre vs ns/\ns.length<=n:=by
 have hsh:WShape.hasAll [] args [.list .int]=true:=(pre_splitW hpre).1
 have hc:l.pre.holds [] { args:=args }=true:=(pre_splitW hpre).2
 obtain ⟨d,r,rfl,h1,h2⟩:=hasAllW_cons hsh
 obtain rfl:=hasAllW_nil h2
 obtain ⟨xs,rfl,h3⟩:=hasW_list h1
 obtain ⟨ns,rfl⟩:=items_int h3
 have hlen:ns.length<=n:=by
  unfold OpenLaw.pre at hc
  have h4:(WTm.not (.lt (.lit (.int (n:Int))) (.len (.arg 0)))).holds [] { args:=[.list (ns.map .int)] }=true:=by
   have h4:=(holds_andW hc).1
   rw [hn] at h4
   exact h4
  have h5:=condW_of h4 (w_not (w_lt w_lit (w_len_list (w_arg rfl))))
  rw [List.length_map] at h5
  refine Nat.le_of_not_lt fun q=>?_
  have q':(n:Int) < ((ns.length:Nat):Int):=by omega
  first
   | (rw [decide_eq_true q'] at h5; exact absurd h5 (by decide))
   | (simp at h5; omega)
 cases hwl with
 | cons w1 w2 =>
  cases w2
  cases w1 with
  | list ho hall=>exact ⟨_,_,ns,rfl,rfl,ho,ints_of_wellAll ns _ hall,hlen⟩
theorem post_true (l:OpenLaw) (args:List WData):l.row.toRowW.claim.post args (.bool true) args=true :=
 postW_of (r:=l.row.toRowW) (X:=(true == true))
  (show WShape.has [] (.bool true) .bool=true by first | rfl | decide | simp [WShape.has,WShape.arms,WShape.armsAll])
  (show (WTm.eq .res (.lit (.bool true))).value [] { args:=args,res:=some (.bool true),after:=args }=some (.bool (true == true)) from w_eq_bool (w_res rfl) w_lit) rfl
theorem attach_call {l:OpenLaw} {n:Nat} {q:Program} {loose:List Str} {XP:(Str->Option Value)->Heap->Prop} {YP:World->Heap->Prop} {d:DefRec}
  (hn:l.most=some n) (hdf:d.params.defaults=[])
  (call:∀ (w:World) (s₀ s₁:Shared) (mg mb:Str->Option Value) (fa:Addr) (o:Obj) (pm cd doc:Value) (a:Addr) (vs:List Value) (ns:List Int),
   Ground q loose [] XP w s₀ mg mb s₁.heap->YP w s₁.heap →
   s₁.heap.get? fa=some o->o.data=.func (docDef d.name d.params d.body d.scope pm cd doc)->s₁.heap.CodeRec cd d.name->mg d.name=some (.ref fa) →
   s₁.heap.get? a=some { cls:=.type "list",data:=.seq vs.toArray }->IntsAre vs ns->ns.length<=n->s₁.gens=#[] →
   codeAny (model l.prog w) callerA (.call (.ref fa) ⟨[.ref a],[]⟩) (fun r s'=>r=.ok (.ret (.bool true))/\OldK s₁.heap s'.heap/\s'.os=s₁.os/\AllBare s'.gens) s₁) :
  WalkO q loose XP YP l.row.toRowW d [] (fun f vs=>PySem.call f vs):=by
 intro w s₀ s₁ mg mb G Y fa o pm cd doc dV kV ho hd hcd hD hmg hg args vals as hpre hlay hrd hwl hlo
 obtain rfl:dV=.none:=Dflts.none hD hdf
 obtain rfl:kV=.none:=Dflts.noKw hD
 obtain ⟨a,vs,ns,rfl,rfl,hobj,hints,hlen⟩:=script_of hn hpre hwl
 refine enter_call (codeAny_mono (call w s₀ s₁ mg mb fa o pm cd doc a vs ns G Y ho (fd_plain hd) hcd hmg hobj hints hlen hg) fun r s' hq=>?_)
 obtain ⟨rfl,h2,h3,h4⟩:=hq
 exact ⟨.inl ⟨.bool true,.bool true,[],rfl,fun _=>rfl,.bool true,post_true l _,fun _=>⟨List.Pairwise.nil,fun _ hm=>(nomatch hm)⟩⟩,h2,h3,h4⟩
section
variable {prog:Program} {w:World} {A:Around} {E:Value->Shared->Prop} {s:Shared} {K:Frag}
def ledger (h:Heap) (L d:Addr):List (Addr × Obj):=(List.range h.objs.size).filterMap fun a=>if a=L \/ a=d then none else (h.get? a).map fun o=>(a,o)
end
end Att
namespace L2
open PySem PySem.Spec PyProof.Rows
theorem vals_ints:∀ {vs:List Value} {ns:List Int},IntsAre vs ns->Vals (ns.map V.int) vs
 | _,_,.nil=>.nil
 | _,_,.cons n t h=>.cons ⟨t,rfl⟩ (vals_ints h)
end L2
namespace L2
open PySem PySem.Spec PyProof.Rows
abbrev KOf {K:PySem.W.Frag} {h:Heap} (_:K.In h):PySem.W.Frag:=K
end L2
namespace L2
open PySem PySem.Spec PyProof.Rows
def defArgs (s:Stmt):Arguments:=match s with
 | .FunctionDef _ a _ _ _ _ _ _ _ _=>a
 | _=>{ posonlyargs:=[],args:=[],vararg:=none,kwonlyargs:=[],kw_defaults:=[],kwarg:=none,defaults:=[] }
def defBody (s:Stmt):List Stmt:=match s with
 | .FunctionDef _ _ b _ _ _ _ _ _ _=>b
 | _=>[]
def defScope (s:Stmt):Scope:=match s with
 | .FunctionDef _ _ _ _ _ _ sc _ _ _=>sc
 | _=>{ kind:=.function,names:=[],isGenerator:=false,isCoroutine:=false }
abbrev CX0:CXT:=fun _ _ _ _ _ _=>False
abbrev E0:XK:=fun _ _ _=>False
theorem pass0 {X:Cx}:Passes CX0 X E0:=fun _ _ _ _ _ _ _ h=>h.elim
structure Fun (K:PySem.W.Frag) (x qual:Str) (st:Stmt) (f:Addr) (fd:FuncData):Prop where
 ex:∃ (oc:Value) (od:Option Addr) (kV doc pm:Value) (an:Option Addr) (cdv ct:Value) (osl:Array (Option Value)),
  fd=PySem.W.fnOf x qual (defArgs st) (defBody st) (defScope st) .none kV doc pm an cdv ct/\K.lookup f=some ⟨oc,od,.func fd,osl⟩/\PySem.W.codeIn K cdv qual=true
 kp:PySem.W.keepIn K (.ref f)=true
section
variable {P:Program} {w:World} {K:PySem.W.Frag} {mg:Str->Option Value} {base:Heap}
theorem Fun.ok {x qual:Str} {st:Stmt} {f:Addr} {fd:FuncData} {N ps:List Str} {k:Nat} {sp:Sp} {sr:Bool} (F:Fun K x qual st f fd) (S:FnScope N ps (defScope st)) (len:∀ vs H Q E,sp vs H Q E->vs.length=ps.length)
  (hbody:∀ (cdv:Value) (A:Around) (outer:List Env) (s:Shared) (H:Hp) (vs:List V) (Q:VK) (E:XK),Room k (A.deeper (envOfC qual (defScope st) s.heap.objs.size f cdv)) sr->sp vs H Q E →
   ∃ t,PSs (cxOf CX0 P w K mg base N qual (defScope st) f cdv A outer s H E).nox (defBody st) t/\t { nx:=fun _ H'=>Q .non H',rt:=Q } (start N vs) H):FnOk P w K mg base CX0 (k + 1) f fd ps sp sr:=by
 obtain ⟨oc,od,kV,doc,pm,an,cdv,ct,osl,rfl,lk,hcd⟩:=F.ex
 refine fn_of lk hcd S len fun A outer s H vs Q E hr hsp=>?_
 obtain ⟨t,h,q⟩:=hbody cdv A outer s H vs Q E hr hsp
 exact ⟨t,h.nox,q⟩
theorem Fun.binds {x qual:Str} {st:Stmt} {f:Addr} {fd:FuncData} {ps:List Str} (F:Fun K x qual st f fd)
  (h:∀ (kV doc pm:Value) (an:Option Addr) (cdv ct:Value) (us:List Value),us.length=ps.length->bindArgs (PySem.W.fnOf x qual (defArgs st) (defBody st) (defScope st) .none kV doc pm an cdv ct) ⟨us,[]⟩=pure (ps.zip us)):Binds K fd ps []:=by
 obtain ⟨oc,od,kV,doc,pm,an,cdv,ct,osl,rfl,lk,hcd⟩:=F.ex
 exact .all (h kV doc pm an cdv ct)
theorem fun_mk {x qual:Str} {st:Stmt} {f:Addr} {oc:Value} {od an:Option Addr} {osl:Array (Option Value)} {kV doc pm cdv ct:Value} (l:K.lookup f=some ⟨oc,od,.func (PySem.W.fnOf x qual (defArgs st) (defBody st) (defScope st) .none kV doc pm an cdv ct),osl⟩)
  (c:PySem.W.codeIn K cdv qual=true) (k:PySem.W.keepIn K (.ref f)=true):Fun K x qual st f (PySem.W.fnOf x qual (defArgs st) (defBody st) (defScope st) .none kV doc pm an cdv ct):=⟨⟨oc,od,kV,doc,pm,an,cdv,ct,osl,rfl,l,c⟩,k⟩
end
theorem hu_of {A:Around} {k:Nat} {sr:Bool} (hr:Room k A sr):A.units + 1 < cLine:=Nat.lt_of_le_of_lt (Nat.add_le_add_left (by decide:1<=64) _) hr.units
theorem small1000 {n:Nat} (h:n<=1000):n < sizeLine:=Nat.lt_of_le_of_lt h (by decide)
section
variable {X:Cx}
theorem pv (i:Nat) {x:Str} {pos:Pos} (hN:X.N[i]?=some x:=by rfl) (hv:Vis X.env.scope x:=by first | exact Or.inl rfl | exact Or.inr (Or.inl rfl) | exact Or.inr (Or.inr rfl)) (hd:(x == ("__debug__":Str))=false:=by decide)
  (hcd:(x == ("__classdict__":Str))=false:=by decide):PE X (.Name x pos) (tVar i):=pe_var hN hv hd hcd
end
theorem iteF {A B:Prop} (h:B):if false=true then A else B:=by
 rw [if_neg Bool.false_ne_true]
 exact h
theorem iteT {A B:Prop} (h:A):if true=true then A else B:=by
 rw [if_pos rfl]
 exact h
theorem ite2 {c A B:Prop} [Decidable c] (h1:c->A) (h2:¬ c->B):if c then A else B:=by
 by_cases h:c
 ·rw [if_pos h]
  exact h1 h
 ·rw [if_neg h]
  exact h2 h
theorem iteNS {c A B:Prop} [Decidable c] (hc:c) (h:B):if (!decide c)=true then A else B:=by
 rw [decide_eq_true hc]
 exact iteF h
def Same (H H':Hp):Prop:=∀ b o,H b=some o->H' b=some o
theorem Same.refl (H:Hp):Same H H:=fun _ _ h=>h
theorem Same.trans {H H1 H2:Hp} (a:Same H H1) (b:Same H1 H2):Same H H2:=fun c o h=>b c o (a c o h)
theorem Same.free {H H':Hp} (e:Same H H') {l:Addr} (h:H' l=Option.none):H l=Option.none:=by
 cases q:H l with
 | none=>rfl
 | some o =>
  rw [e l o q] at h
  cases h
end L2
namespace Sb
def Bd (n:Nat) (x:Int):Prop:=x.natAbs < 2 ^ n
theorem Bd.mono {m n:Nat} {x:Int} (h:Bd m x) (k:m<=n):Bd n x:=Nat.lt_of_lt_of_le h (Nat.pow_le_pow_right (by decide) k)
theorem Bd.mul {m n:Nat} {x y:Int} (h:Bd m x) (k:Bd n y):Bd (m + n) (x * y):=by
 unfold Bd at *
 rw [Int.natAbs_mul,Nat.pow_add]
 exact Nat.mul_lt_mul'' h k
theorem Bd.add {n:Nat} {x y:Int} (h:Bd n x) (k:Bd n y):Bd (n + 1) (x + y):=by
 unfold Bd at *
 rw [Nat.pow_succ]
 omega
theorem Bd.sub {n:Nat} {x y:Int} (h:Bd n x) (k:Bd n y):Bd (n + 1) (x - y):=by
 unfold Bd at *
 rw [Nat.pow_succ]
 omega
theorem Bd.neg {n:Nat} {x:Int} (h:Bd n x):Bd n (-x):=by
 unfold Bd at *
 omega
theorem Bd.of_le {n:Nat} {x y:Int} (h:x.natAbs<=y.natAbs) (k:Bd n y):Bd n x:=Nat.lt_of_le_of_lt h k
theorem Bd.of_le' {n:Nat} {x y:Int} (k:Bd n y) (h:x.natAbs<=y.natAbs):Bd n x:=Nat.lt_of_le_of_lt h k
theorem Bd.log {n:Nat} {x:Int} (h:Bd n x) (k:n < 9000):x.natAbs.log2 < 9000:=by
 rcases Nat.eq_zero_or_pos x.natAbs with h0 | hp
 ·rw [h0]; decide
 ·have:=(Nat.log2_lt (Nat.ne_of_gt hp)).mpr h
  omega
def gI (p q:Int):Int:=(Int.gcd p q:Int)
def sg (p q:Int):Int:=if q < 0 then -(gI p q) else gI p q
def nT (p q:Int):Int:=p.fdiv (sg p q)
def nB (p q:Int):Int:=q.fdiv (sg p q)
theorem gI_pos {p q:Int} (h:q ≠ 0):0 < gI p q:=by
 have:=Int.gcd_pos_of_ne_zero_right p h
 unfold gI; omega
theorem sg_ne {p q:Int} (h:q ≠ 0):sg p q ≠ 0:=by
 have:=gI_pos (p:=p) h
 unfold sg; split <;> omega
theorem sg_dvd_top (p q:Int):sg p q ∣ p:=by
 unfold sg gI; split
 ·exact Int.neg_dvd.mpr (Int.gcd_dvd_left ..)
 ·exact Int.gcd_dvd_left ..
theorem sg_dvd_bot (p q:Int):sg p q ∣ q:=by
 unfold sg gI; split
 ·exact Int.neg_dvd.mpr (Int.gcd_dvd_right ..)
 ·exact Int.gcd_dvd_right ..
theorem fdiv_exact {a b:Int} (h:b ∣ a):a.fdiv b * b=a:=by
 rw [Int.fdiv_eq_ediv_of_dvd h]
 exact Int.ediv_mul_cancel h
theorem nT_mul (p q:Int):nT p q * sg p q=p:=fdiv_exact (sg_dvd_top p q)
theorem nB_mul (p q:Int):nB p q * sg p q=q:=fdiv_exact (sg_dvd_bot p q)
theorem nB_pos {p q:Int} (h:q ≠ 0):0 < nB p q:=by
 have e:=nB_mul p q
 have g:=gI_pos (p:=p) h
 by_cases hq:q < 0
 ·have s:sg p q=-(gI p q):=by unfold sg; rw [if_pos hq]
  rw [s] at e
  rcases Int.lt_trichotomy 0 (nB p q) with k | k | k
  ·exact k
  ·rw [← k] at e; simp at e; omega
  ·have:=Int.mul_pos_of_neg_of_neg k (show -(gI p q) < 0 by omega); omega
 ·have s:sg p q=gI p q:=by unfold sg; rw [if_neg hq]
  rw [s] at e
  rcases Int.lt_trichotomy 0 (nB p q) with k | k | k
  ·exact k
  ·rw [← k] at e; simp at e; omega
  ·have:=Int.mul_neg_of_neg_of_pos k g; omega
theorem n_cross (p q:Int):nT p q * q=p * nB p q:=by
 have h1:=nT_mul p q
 have h2:=nB_mul p q
 calc nT p q * q=nT p q * (nB p q * sg p q):=by rw [h2]
  _=(nT p q * sg p q) * nB p q:=by rw [Int.mul_comm (nB p q),Int.mul_assoc]
  _=p * nB p q:=by rw [h1]
theorem n_gcd {p q:Int} (h:q ≠ 0):Int.gcd (nT p q) (nB p q)=1:=by
 have g:=gI_pos (p:=p) h
 have e1:=nT_mul p q
 have e2:=nB_mul p q
 have e:Int.gcd p q=Int.gcd (nT p q) (nB p q) * (sg p q).natAbs:=by
  have z:=Int.gcd_mul_right (nT p q) (sg p q) (nB p q)
  rw [e1,e2] at z
  exact z
 have s:(sg p q).natAbs=Int.gcd p q:=by
  unfold sg gI; split <;> simp
 rw [s] at e
 have gp:0 < Int.gcd p q:=by unfold gI at g; omega
 have e':1 * Int.gcd p q=Int.gcd (nT p q) (nB p q) * Int.gcd p q:=by omega
 exact (Nat.eq_of_mul_eq_mul_right gp e').symm
theorem sg_abs {p q:Int} (h:q ≠ 0):1<=(sg p q).natAbs:=by
 have:=sg_ne (p:=p) h
 omega
theorem le_of_mul {a b c:Int} (h:a * b=c) (hb:1<=b.natAbs):a.natAbs<=c.natAbs:=by
 rw [← h,Int.natAbs_mul]
 exact Nat.le_mul_of_pos_right _ hb
theorem nT_le {p q:Int} (h:q ≠ 0):(nT p q).natAbs<=p.natAbs:=le_of_mul (nT_mul p q) (sg_abs h)
theorem nB_le {p q:Int} (h:q ≠ 0):(nB p q).natAbs<=q.natAbs:=le_of_mul (nB_mul p q) (sg_abs h)
theorem sg_le {p q:Int} (h:q ≠ 0):(sg p q).natAbs<=q.natAbs:=by
 have e:=nB_mul p q
 rw [Int.mul_comm] at e
 have:=nB_pos (p:=p) h
 exact le_of_mul e (by omega)
theorem gcd_step {a b:Int}:Int.gcd b (a % b)=Int.gcd a b:=by
 rw [Int.gcd_comm b,Int.emod_def]
 rw [Int.gcd_sub_mul_left_left]
theorem gcd_fstep (a b:Int):Int.gcd b (a.fmod b)=Int.gcd a b:=by
 rw [Int.gcd_comm b,Int.fmod_def]
 rw [Int.gcd_sub_mul_left_left]
theorem fmod_abs (a:Int) {b:Int} (h:b ≠ 0):(a.fmod b).natAbs < b.natAbs:=by
 rcases Int.lt_or_gt_of_ne h with k | k
 ·have h0:=Int.neg_fmod_neg a b
  have h1:=Int.fmod_nonneg_of_pos (-a) (show 0 < -b by omega)
  have h2:=Int.fmod_lt_of_pos (-a) (show 0 < -b by omega)
  omega
 ·have h1:=Int.fmod_nonneg_of_pos a k
  have h2:=Int.fmod_lt_of_pos a k
  omega
theorem gcd_nn (a b:Int) (ha:0<=a) (h:b=0):a=(Int.gcd a b:Int):=by
 subst h
 simp
 omega
end Sb
namespace Sb
open PySem PySem.Spec PyProof.Rows L2
theorem Bd.bits {n:Nat} {x:Int} (h:Bd n x):Builtin.Int.intBits x<=n:=by
 unfold Builtin.Int.intBits
 split
 ·exact Nat.zero_le _
 ·rename_i h0
  have hn:x.natAbs ≠ 0:=by
   intro z
   have:x=0:=by omega
   exact h0 (by simp [this])
  have:=(Nat.log2_lt hn).mpr h
  omega
theorem Bd.mulOk {m n:Nat} {x y:Int} (h:Bd m x) (k:Bd n y) (hm:m<=1048576) (hn:n<=1048576):IntMulOk x y :=
 IntMulOk.of_bits (Nat.le_trans h.bits (Nat.le_trans hm (by decide))) (Nat.le_trans k.bits (Nat.le_trans hn (by decide)))
theorem mulL {x y:Int} (h1:-(2 ^ 64) < x) (h2:x < 2 ^ 64):IntMulOk x y:=IntMulOk.of_left (intBits_le_64 h1 h2)
theorem mulR {x y:Int} (h1:-(2 ^ 64) < y) (h2:y < 2 ^ 64):IntMulOk x y:=IntMulOk.of_right (intBits_le_64 h1 h2)
section
variable {X:Cx}
theorem op_mulB:OpR X (binaryOp .Mult) (rI IntMulOk fun i j=>.int (i * j)):=opI fun _ _ _ _ _ _ _ hc q=>mul_int q hc
def DivOk (_ j:Int):Prop:=j ≠ 0/\j.natAbs.log2 < 9000
theorem op_divB:OpR X (binaryOp .FloorDiv) (rI DivOk fun i j=>.int (i.fdiv j)):=opI fun _ _ _ _ _ _ _ hc q=>floordiv_int hc.1 q (.inl (PyProof.noPylong_of_log2 hc.2))
inductive rP0 (K:PySem.W.Frag) (x:V) (y:V) (H:Hp) (Q:VK):Prop
 | mk (p u v:_) (zz0:x=.ref p) (zz1:y=.int 0) (zz2:SqT K H p [u,v]) (zz3:Q u H)
inductive rP1 (K:PySem.W.Frag) (x:V) (y:V) (H:Hp) (Q:VK):Prop
 | mk (p u v:_) (zz0:x=.ref p) (zz1:y=.int 1) (zz2:SqT K H p [u,v]) (zz3:Q v H)
inductive rL0 (K:PySem.W.Frag) (x:V) (y:V) (H:Hp) (Q:VK):Prop
 | mk (p u v:_) (zz0:x=.ref p) (zz1:y=.int 0) (zz2:SqL K H p [u,v]) (zz3:Q u H)
inductive rL1 (K:PySem.W.Frag) (x:V) (y:V) (H:Hp) (Q:VK):Prop
 | mk (p u v:_) (zz0:x=.ref p) (zz1:y=.int 1) (zz2:SqL K H p [u,v]) (zz3:Q v H)
theorem at0 {α:Type} (x:α) (xs:List α):atI (x :: xs) 0=some x:=atI_nat (j:=0) rfl
theorem at1 {α:Type} (x y:α) (xs:List α):atI (x :: y :: xs) 1=some y:=atI_nat (j:=1) rfl
theorem ix_p0:IxR X (rP0 X.K):=fun vl sl pins s σ H x y v u Q I rx ry ⟨p,a,b,e1,e2,h,q⟩ hs=>ix_tup vl sl pins s σ H x y v u Q I rx ry ⟨p,_,_,_,e1,e2,h,at0 _ _,q⟩ hs
theorem ix_p1:IxR X (rP1 X.K):=fun vl sl pins s σ H x y v u Q I rx ry ⟨p,a,b,e1,e2,h,q⟩ hs=>ix_tup vl sl pins s σ H x y v u Q I rx ry ⟨p,_,_,_,e1,e2,h,at1 _ _ _,q⟩ hs
theorem ix_l0:IxR X (rL0 X.K):=fun vl sl pins s σ H x y v u Q I rx ry ⟨p,a,b,e1,e2,h,q⟩ hs=>ix_list vl sl pins s σ H x y v u Q I rx ry ⟨p,_,_,_,e1,e2,h,at0 _ _,q⟩ hs
theorem ix_l1:IxR X (rL1 X.K):=fun vl sl pins s σ H x y v u Q I rx ry ⟨p,a,b,e1,e2,h,q⟩ hs=>ix_list vl sl pins s σ H x y v u Q I rx ry ⟨p,_,_,_,e1,e2,h,at1 _ _ _,q⟩ hs
theorem pe_ty {x:Str} {T:String} {pos:Pos} (hm:X.mg x=none) (hv:bootBuiltins x=some (.type T)) (hg:Gl X x:=by rfl) (hn:x ≠ "__name__":=by decide) (hd:(x == ("__debug__":Str))=false:=by decide):PE X (.Name x pos) (tC (.ty T)) :=
 pe_bltn hg hm hv rfl hn hd
theorem call_isinst:CallR X (.builtin "isinstance") (fun xs H Q=>∃ x T t b,xs=[x,.ty T]/\TyOf X.K H x t/\PySem.W.kitOne X.K t (.type T)=some b/\Q (.bl b) H):=by
 intro pins s σ H xs us Q I r h
 obtain ⟨x,T,t,b,rfl,ty,k,q⟩:=h
 obtain ⟨u,w',rfl,rx,ry⟩:=vals2 r
 cases (show w'=Value.type T from ry)
 exact isinst_ok I rx ty k fun tk=>⟨.bl b,H,I.tok tk,rfl,q⟩
theorem call_isinstT:CallR X (.builtin "isinstance") (fun xs H Q=>∃ a ys T b,xs=[.ref a,.ty T]/\SqT X.K H a ys/\PySem.W.kitOne X.K (.type "tuple") (.type T)=some b/\Q (.bl b) H):=by
 intro pins s σ H xs us Q I r h
 obtain ⟨a,ys,T,b,rfl,hs,k,q⟩:=h
 obtain ⟨u,w',rfl,rx,ry⟩:=vals2 r
 cases (show w'=Value.type T from ry)
 cases (show u=Value.ref a from rx)
 obtain ⟨its,_,tup,_⟩:=I.tuple hs
 obtain ⟨o,h1,h2,_⟩:=tup
 exact PySem.W.kia_one PySem.W.kitx_tuple I.kIn ⟨o,h1,h2⟩ k (fun z=>nomatch z) fun tk=>⟨.bl b,H,I.tok tk,rfl,q⟩
end
theorem kit_same {K:PySem.W.Frag} {T:String}:PySem.W.kitOne K (.type T) (.type T)=some true:=by
 unfold PySem.W.kitOne
 rw [if_pos (by simp)]
theorem kit_int_bool {K:PySem.W.Frag}:PySem.W.kitOne K (.type "int") (.type "bool")=some false:=by
 show (if (Value.type "int" == Value.type "bool")=true then some true else (if PySem.W.kitMeta "bool"=true then (fastBuiltinMro "int").map (·.contains (Value.type "bool")) else none))=some false
 decide +kernel
def Has (P:Program) (w:World) (K:PySem.W.Frag) (mg:Str->Option Value) (base:Heap) (k:Nat) (x:Str) (ps:List Str) (sp:Sp) (sr:Bool:=false):Prop :=
 ∃ (f:Addr) (fd:FuncData),FnOk P w K mg base CX0 k f fd ps sp sr/\mg x=some (.ref f)/\PySem.W.keepIn K (.ref f)=true/\Binds K fd ps []
def Def (K:PySem.W.Frag) (mg:Str->Option Value) (x:Str) (st:Stmt) (ps:List Str):Prop :=
 ∃ (f:Addr) (fd:FuncData),Fun K x x st f fd/\mg x=some (.ref f)/\Binds K fd ps []
theorem Def.has {P:Program} {w:World} {K:PySem.W.Frag} {mg:Str->Option Value} {base:Heap} {k:Nat} {x:Str} {st:Stmt} {ps:List Str} {sp:Sp} {sr:Bool} (D:Def K mg x st ps)
  (h:∀ (f:Addr) (fd:FuncData),Fun K x x st f fd->FnOk P w K mg base CX0 k f fd ps sp sr):Has P w K mg base k x ps sp sr:=by
 obtain ⟨f,fd,F,hm,b⟩:=D
 exact ⟨f,fd,h f fd F,hm,F.kp,b⟩
section
variable {X:Cx} {k:Nat} {x:Str} {ps:List Str} {sp:Sp} {e:Expr} {es:List Expr} {t:TA} {p pos:Pos}
theorem pe_use {sr:Bool} (h:Has X.prog X.w X.K X.mg X.base k x ps sp) (hr:Room k X.A sr) (hg:Gl X x) (ha:PA X (e :: es) t) (hdb:(x == ("__debug__":Str))=false:=by decide)
  (he:starEach (e :: es) X.env=(false,eval e X.env) :: starEach es X.env:=by rfl) (hpl:(backTo pos (starEach es X.env)).any (·.1)=false:=by rfl) (hc:X.calm=true:=by rfl):PE X (.Call (.Name x p) (e :: es) [] pos) (tCall sp [] E0 t):=by
 obtain ⟨f,fd,F,hm,hk,hb⟩:=h
 exact pe_call F hr.loose hg hm hk hb .nil pass0 ha hdb he hpl hc
theorem pe_useS (h:Has X.prog X.w X.K X.mg X.base k x ps sp true) (hr:Room k X.A true) (hg:Gl X x) (ha:PA X (e :: es) t) (hdb:(x == ("__debug__":Str))=false:=by decide)
  (he:starEach (e :: es) X.env=(false,eval e X.env) :: starEach es X.env:=by rfl) (hpl:(backTo pos (starEach es X.env)).any (·.1)=false:=by rfl) (hc:X.calm=true:=by rfl):PE X (.Call (.Name x p) (e :: es) [] pos) (tCall sp [] E0 t):=by
 obtain ⟨f,fd,F,hm,hk,hb⟩:=h
 exact pe_call F hr hg hm hk hb .nil pass0 ha hdb he hpl hc
end
section
variable {X:Cx} {st:Stmt} {t:TS} {e:Expr} {te:TE} {tt:TT}
inductive tJ (t:TS) (D:Ends) (σ:L2.St) (H:Hp):Prop
 | mk (J:L2.St->Hp->Prop) (zz0:t { D with nx:=J } σ H) (zz1:∀ σ' H',J σ' H'->D.nx σ' H')
theorem ps_join (h:PS X st t):PS X st (tJ t):=by
 intro pins s σ H D I ⟨J,a,b⟩
 refine thn (h pins s σ H _ I a) fun f s' q=>?_
 cases f with
 | next=>obtain ⟨σ',H',I',q⟩:=q; exact ⟨σ',H',I',b _ _ q⟩
 | brk=>exact q
 | cont=>exact q
 | ret v=>exact q
end
def SameX (a:Addr) (H H':Hp):Prop:=∀ b o,H b=some o->b ≠ a->H' b=some o
theorem SameX.refl (a:Addr) (H:Hp):SameX a H H:=fun _ _ h _=>h
theorem SameX.trans {a:Addr} {H H1 H2:Hp} (x:SameX a H H1) (y:SameX a H1 H2):SameX a H H2:=fun b o h n=>y b o (x b o h n) n
theorem SameX.of {a:Addr} {H H':Hp} (x:Same H H'):SameX a H H':=fun b o h _=>x b o h
theorem SameX.upd (a:Addr) (H:Hp) (o:HO):SameX a H (upd H a o):=fun b u h n=>by rw [upd_ne n]; exact h
theorem Same.new {H:Hp} {a:Addr} {o:HO} (h:H a=none):Same H (upd H a o):=fun b u e=>by rw [upd_ne (ne_of_none e h)]; exact e
theorem sameT {K:PySem.W.Frag} {H H':Hp} {a:Addr} {xs:List V} (e:Same H H') (h:SqT K H a xs):SqT K H' a xs:=by
 rcases h with (h | ⟨o,h⟩) | h
 ·exact .inl (.inl (e _ _ h))
 ·exact .inl (.inr ⟨o,e _ _ h⟩)
 ·exact .inr h
def BagAt (H:Hp) (a:Addr) (n:Nat):Prop:=∃ x y:Int,H a=some (.lst [.int x,.int y])/\0<=y/\y<=n
theorem BagAt.mono {H:Hp} {a:Addr} {m n:Nat} (h:BagAt H a m) (k:m<=n):BagAt H a n:=by
 obtain ⟨x,y,e,h1,h2⟩:=h
 exact ⟨x,y,e,h1,by omega⟩
theorem BagAt.same {H H':Hp} {a:Addr} {n:Nat} (h:BagAt H a n) (x:Same H H'):BagAt H' a n:=by
 obtain ⟨p,q,e,r⟩:=h
 exact ⟨p,q,x _ _ e,r⟩
theorem BagAt.upd {H:Hp} {a l:Addr} {o:HO} {n:Nat} (h:BagAt H a n) (k:a ≠ l):BagAt (L2.upd H l o) a n:=by
 obtain ⟨p,q,e,r⟩:=h
 exact ⟨p,q,by rw [upd_ne k]; exact e,r⟩
theorem BagAt.lst {H:Hp} {a:Addr} {n:Nat} (h:BagAt H a n):∃ ys,H a=some (.lst ys):=by
 obtain ⟨x,y,e,_⟩:=h
 exact ⟨_,e⟩
theorem def_mk {K:PySem.W.Frag} {h:Heap} {mg:Str->Option Value} {x:Str} {st:Stmt} {ps:List Str} {f:Addr} {oc:Value} {od an:Option Addr} {sl:Array (Option Value)} {kV dc pm cd ct:Value} (X:K.In h) (G:h.Ns mainGlobals mg)
  (a:PySem.W.nsIn K mainGlobals x=some (some (.ref f))) (l:K.lookup f=some ⟨oc,od,.func (PySem.W.fnOf x x (defArgs st) (defBody st) (defScope st) .none kV dc pm an cd ct),sl⟩) (c:PySem.W.codeIn K cd x=true) (k:PySem.W.keepIn K (.ref f)=true)
  (b:∀ (kV doc pm:Value) (an:Option Addr) (cdv ct:Value) (us:List Value),us.length=ps.length->bindArgs (PySem.W.fnOf x x (defArgs st) (defBody st) (defScope st) .none kV doc pm an cdv ct) ⟨us,[]⟩=pure (ps.zip us)):Def K mg x st ps :=
 ⟨f,_,fun_mk l c k,PySem.W.mg_of X G a,(fun_mk l c k).binds b⟩
end Sb
namespace Sb
open PySem PySem.Spec PyProof.Rows L2
theorem closure_ok (env:Env):∀ (ns:List (Str × NameKind)) (cs:List (Str × Addr)),(∀ y ∈ ns,y.2=.free->∃ c,env.cells.lookup y.1=some c)->(∀ y c,cs.lookup y=some c->env.cells.lookup y=some c) →
  ∃ cl,(forIn ns cs (fun (x:Str × NameKind) (r:List (Str × Addr))=>(if (x.2 == .free)=true then do let a ← cellOf env x.1; pure (ForInStep.yield ((x.1,a) :: r)) else pure (ForInStep.yield r):Sem (ForInStep (List (Str × Addr))))))=pure cl ∧
   (∀ y c,cl.lookup y=some c->env.cells.lookup y=some c)/\(∀ y c,cs.lookup y=some c->∃ c',cl.lookup y=some c')/\∀ y ∈ ns,y.2=.free->∃ c,cl.lookup y.1=some c
 | [],cs,_,hs=>⟨cs,by simp,hs,fun y c e=>⟨c,e⟩,fun y hy=>nomatch hy⟩
 | (n,k) :: r,cs,hf,hs=>by
  have hr:∀ y ∈ r,y.2=.free->∃ c,env.cells.lookup y.1=some c:=fun y hy=>hf y (List.mem_cons_of_mem _ hy)
  by_cases hk:k=.free
  ·subst hk
   obtain ⟨c,hc⟩:=hf (n,.free) List.mem_cons_self rfl
   have hc':env.cells.lookup n=some c:=hc
   have hs':∀ y d,((n,c) :: cs).lookup y=some d->env.cells.lookup y=some d:=fun y d e=>by
    by_cases hy:y=n
    ·subst hy
     simp only [List.lookup_cons,beq_self_eq_true] at e
     cases e
     exact hc'
    ·have hb:(y == n)=false:=beq_eq_false_iff_ne.mpr hy
     simp only [List.lookup_cons,hb] at e
     exact hs y d e
   obtain ⟨cl,h1,h2,h3,h4⟩:=closure_ok env r ((n,c) :: cs) hr hs'
   have up:∃ c',cl.lookup n=some c':=h3 n c (by simp [List.lookup_cons])
   refine ⟨cl,?_,h2,fun y d e=>?_,fun y hy hyf=>?_⟩
   ·have e:cellOf env n=pure c:=by unfold cellOf; rw [hc']
    simp only [List.forIn_cons,beq_self_eq_true,if_true,e]
    exact h1
   ·by_cases hy:y=n
    ·subst hy; exact up
    ·have hb:(y == n)=false:=beq_eq_false_iff_ne.mpr hy
     exact h3 y d (by simp only [List.lookup_cons,hb]; exact e)
   ·rcases List.mem_cons.mp hy with z | z
    ·subst z; exact up
    ·exact h4 y z hyf
  ·obtain ⟨cl,h1,h2,h3,h4⟩:=closure_ok env r cs hr hs
   refine ⟨cl,?_,h2,h3,fun y hy hyf=>?_⟩
   ·have hb:(k == NameKind.free)=false:=beq_eq_false_iff_ne.mpr hk
    simp only [List.forIn_cons,hb,Bool.false_eq_true,if_false]
    exact h1
   ·rcases List.mem_cons.mp hy with z | z
    ·subst z; exact absurd hyf hk
    ·exact h4 y z hyf
theorem closureFor_ok {env:Env} {scope:Scope} (hf:∀ y ∈ scope.names,y.2=.free->∃ c,env.cells.lookup y.1=some c) :
  ∃ cl,closureFor scope env=pure cl/\(∀ y c,cl.lookup y=some c->env.cells.lookup y=some c)/\∀ y ∈ scope.names,y.2=.free->∃ c,cl.lookup y.1=some c:=by
 obtain ⟨cl,h1,h2,_,h4⟩:=closure_ok env scope.names [] hf (fun y c e=>by simp at e)
 refine ⟨cl,?_,h2,h4⟩
 have e:closureFor scope env=((forIn scope.names ([]:List (Str × Addr)) (fun (x:Str × NameKind) (r:List (Str × Addr))=>(if (x.2 == .free)=true then do let a ← cellOf env x.1; pure (ForInStep.yield ((x.1,a) :: r)) else pure (ForInStep.yield r):Sem (ForInStep (List (Str × Addr)))))) >>= fun r=>pure r):=by
  unfold closureFor
  congr 1
 rw [e,h1]
 rfl
end Sb
namespace Sb
open PySem PySem.Spec PyProof.Rows L2
theorem mem_lookup {l:List (Str × NameKind)} {x:Str} {q:NameKind} (h:l.lookup x=some q):(x,q) ∈ l:=by
 obtain ⟨a,b,e,_⟩:=List.lookup_eq_some_iff.mp h
 rw [e]
 simp
theorem relabel_cell {env:Env} (hf:env.scope.kind=.function):∀ {names:List (Str × NameKind)} {x:Str},names.lookup x=some .free->env.kindOf x=some .cell →
  (names.map fun (n,k)=>if (k == .free && env.scope.kind == .function && env.kindOf n == some .cell) then (n,NameKind.cell) else (n,k)).lookup x=some .cell
 | [],_,h,_=>by simp at h
 | (n,k) :: r,x,h,hx=>by
  by_cases e:x=n
  ·subst e
   simp only [List.lookup_cons,beq_self_eq_true] at h
   cases h
   simp [List.lookup_cons,hf,hx]
  ·have hb:(x == n)=false:=beq_eq_false_iff_ne.mpr e
   simp only [List.lookup_cons,hb] at h
   have ih:=relabel_cell hf h hx
   show List.lookup x ((if (k == .free && env.scope.kind == .function && env.kindOf n == some .cell)=true then (n,NameKind.cell) else (n,k)) :: _)=_
   by_cases c:(k == .free && env.scope.kind == .function && env.kindOf n == some .cell)=true
   ·rw [if_pos c]; simp only [List.lookup_cons,hb]; exact ih
   ·rw [if_neg c]; simp only [List.lookup_cons,hb]; exact ih
theorem relabel_back {env:Env}:∀ {names:List (Str × NameKind)} {x:Str} {q:NameKind},(q=.cell \/ q=.free) →
  (names.map fun (n,k)=>if (k == .free && env.scope.kind == .function && env.kindOf n == some .cell) then (n,NameKind.cell) else (n,k)).lookup x=some q →
  ∃ y ∈ names,y.1=x/\(y.2=.free \/ y.2=.cell)
 | [],_,_,_,h=>by simp at h
 | (n,k) :: r,x,q,hq,h=>by
  by_cases e:x=n
  ·subst e
   refine ⟨(x,k),List.mem_cons_self,rfl,?_⟩
   replace h:List.lookup x ((if (k == .free && env.scope.kind == .function && env.kindOf x == some .cell)=true then (x,NameKind.cell) else (x,k)) :: _)=some q:=h
   by_cases c:(k == .free && env.scope.kind == .function && env.kindOf x == some .cell)=true
   ·have:k=.free:=by
     rw [Bool.and_eq_true,Bool.and_eq_true] at c
     exact beq_iff_eq.mp c.1.1
    exact .inl this
   ·rw [if_neg c] at h
    simp only [List.lookup_cons,beq_self_eq_true] at h
    cases h
    rcases hq with z | z
    ·exact .inr z
    ·exact .inl z
  ·have hb:(x == n)=false:=beq_eq_false_iff_ne.mpr e
   replace h:List.lookup x ((if (k == .free && env.scope.kind == .function && env.kindOf n == some .cell)=true then (n,NameKind.cell) else (n,k)) :: _)=some q:=h
   have h':(r.map fun (n,k)=>if (k == .free && env.scope.kind == .function && env.kindOf n == some .cell) then (n,NameKind.cell) else (n,k)).lookup x=some q:=by
    by_cases c:(k == .free && env.scope.kind == .function && env.kindOf n == some .cell)=true
    ·rw [if_pos c] at h; simp only [List.lookup_cons,hb] at h; exact h
    ·rw [if_neg c] at h; simp only [List.lookup_cons,hb] at h; exact h
   obtain ⟨y,hy,z⟩:=relabel_back hq h'
   exact ⟨y,List.mem_cons_of_mem _ hy,z⟩
section
variable {prog:Program} {w:World} {A:Around} {R:Result->Shared->Prop} {s:Shared}
abbrev noX:Value->Shared->Prop:=fun _ _=>False
theorem comp_loop {elt tg iter:Expr} {ifs:List Expr} {scope:Scope} {pos:Pos} {it acc:Value} {env:Env} (J:Nat->Shared->Prop)
  (turn:∀ n s,J n s->wpAny (model prog w) A (pyNext it) (fun r s1=>match r with
   | none=>R (.ok .next) s1
   | some v=>wpAny (model prog w) A (letOwnedTupleGo tg it v) (fun _ s2=>wpAny (model prog w) A (assign tg env v) (fun _ s3 =>
     wpAny (model prog w) A (forIn ifs true fun c r=>if r=true then do let ok ← isTrue c env (eval c env); pure (ForInStep.yield ok) else pure (ForInStep.yield r)) (fun ok s4 =>
      if ok=true then wpAny (model prog w) A (eval elt env) (fun x s5=>wpAny (model prog w) A (call (.builtin "list.append") [acc,x]) (fun _ s6=>∃ m,m < n/\J m s6) noX s5) noX s4
      else ∃ m,m < n/\J m s4) noX s3) noX s2) noX s1) noX s)
  (n:Nat) (h:J n s):codeAny (model prog w) A (.compLoop (.ListComp elt [⟨tg,iter,ifs,0⟩] scope pos) 0 it acc env) R s:=by
 have no:∀ {Z:Value->Shared->Prop} (a:Value) (b:Shared),noX a b->Z a b:=fun _ _ f=>f.elim
 refine codeAny_loop rfl J (fun n s hJ=>?_) n h
 show wpAny _ A ((compTurn (.ListComp elt [⟨tg,iter,ifs,0⟩] scope pos) 0 it acc env).onRaise (fun x=>do noteFrame x env; theTreesLotGoes x)) _ _ s
 refine wpAny_noted ?_
 rw [compTurn_list]
 refine wpAny_bind (wpAny_standAt (wpAny_bind (wpAny_mono (turn n s hJ) (fun r s1 h1=>?_) no)))
 cases r with
 | none=>exact wpAny_pure h1
 | some v =>
  refine wpAny_bind (wpAny_mono h1 (fun _ s2 h2=>wpAny_bind (wpAny_mono h2 (fun _ s3 h3=>wpAny_bind (wpAny_mono h3 (fun ok s4 h4=>?_) no)) no)) no)
  cases ok with
  | false=>exact wpAny_pure ⟨rfl,h4⟩
  | true=>exact wpAny_bind (wpAny_bind (wpAny_mono h4 (fun x s5 h5=>wpAny_bind (wpAny_mono h5 (fun _ s6 h6=>wpAny_pure (wpAny_pure ⟨rfl,h6⟩)) no)) no))
end
def compCx (X:Cx) (N:List Str) (scope:Scope) (cl:List (Str × Addr)) (C:Addr) (fp:List Addr) (s:Shared) (H:Hp):Cx where
 prog:=X.prog
 w:=X.w
 K:=X.K
 mg:=X.mg
 base:=X.base
 A:=X.A
 N:=N
 s₀:=s
 H₀:=H
 env:=compEnvC scope cl C X.env
 outer:=X.stack
 stack:=X.stack
 ex:=fp
 fn:=fun _=>false
 calm:=true
 pn:=X.pn
 xe:=noX
def comp0 (k:Nat) (fv:List Nat) (σ:L2.St):L2.St:=List.replicate k none ++ fv.map fun j=>σ.getD j none
def PTs (X:Cx) (ifs:List Expr) (t:TT):Prop :=
 ∀ (pins:List (Addr × Obj)) (s:Shared) (σ:L2.St) (H:Hp) (Q:Bool->Hp->Prop),Inv X pins σ H s->t σ H Q →
  wpAny (model X.prog X.w) X.A (forIn ifs true fun c r=>if r=true then do let ok ← isTrue c X.env (eval c X.env); pure (ForInStep.yield ok) else pure (ForInStep.yield r)) (TP X pins σ Q) X.xe s
def tYes:TT:=fun _ H Q=>Q true H
theorem pts_nil {X:Cx}:PTs X [] tYes:=fun _ _ _ H _ I h=>wpAny_tests_nil ⟨H,I,h⟩
theorem pts_one {X:Cx} {c:Expr} {t:TT} (h:PT X c t):PTs X [c] t:=fun pins s σ H Q I q=>wpAny_tests_one (h pins s σ H Q I q)
def Weaker (σ4 σ0:L2.St):Prop:=σ0.length=σ4.length/\∀ (i:Nat) (v:V),σ0[i]?=some (some v)->σ4[i]?=some (some v)
def tComp (wi:TI) (g:TG) (tt:TT) (te:TE) (k:Nat) (fv:List Nat):TE:=fun σ H Q=>wi σ H fun J H1=>∀ d,H1 d=none->∃ (n:Nat) (W:Nat->List V->Hp->Prop),n<=sizeLine/\W 0 [] (upd H1 d (.lst [])) ∧
 (∀ i ys H2,i < n->W i ys H2->H2 d=some (.lst ys)->J.go i H2/\∀ x H3,J.yld i H2 x H3->g x (comp0 k fv σ) H3 fun σ4 H4=>tt σ4 H4 fun b H5 =>
  if b=true then te σ4 H5 fun y H6=>H6 d=some (.lst ys)/\W (i + 1) (ys ++ [y]) (upd H6 d (.lst (ys ++ [y]))) else H5 d=some (.lst ys)/\W (i + 1) ys H5) ∧
 (∀ ys H2,W n ys H2->H2 d=some (.lst ys)->J.stop n H2/\Q (.ref d) H2)
theorem hok_but {P:Program} {w:World} {H:Hp} {h h':Heap} {C:Addr} (x:HOk P w H h) (hn:H C=none) (k:∀ b,b ≠ C->h'.get? b=h.get? b):HOk P w H h':=fun a o e =>
 (x a o e).stay (fun b u hb q=>by
  rw [k b]
  ·exact q
  ·rintro rfl
   rcases hb with rfl | hb
   ·rw [hn] at e; cases e
   ·rw [hn] at hb; cases hb) (fun _ q=>q) fun _ _ q=>q
theorem un_but {fs ex:List Addr} {H H':Hp} {h h1 h2:Heap} {C:Addr} (u:Un fs ex H H' h h1) (hC:h.get? C=none) (k:∀ b,b ≠ C->h2.get? b=h1.get? b):Un fs ex H H' h h2:=by
 have ne:∀ b o,h.get? b=some o->b ≠ C:=fun b o e z=>by rw [z,hC] at e; cases e
 exact ⟨fun b o e n hf hx=>by rw [k b (ne b o e)]; exact u.keep b o e n hf hx,fun b o e n hf hx=>by rw [k b (ne b o e)]; exact u.slot b o e n hf hx,u.free,fun b o e hx=>by rw [k b (ne b o e)]; exact u.there b o e hx,u.tups,u.frzs,u.tbls⟩
section
variable {X:Cx} {pins:List (Addr × Obj)} {σ:L2.St} {H:Hp} {s:Shared} {N:List Str} {scope:Scope} {cl:List (Str × Addr)} {fp:List Addr} {k:Nat} {fv:List Nat}
theorem comp_ok (I:Inv X pins σ H s) (hc:X.calm=true) (hf:∀ b ∈ fp,FpOk X pins H b) (hl:∀ b ∈ fp,b < s.heap.objs.size) (hkind:scope.kind=.function) (hcell:∀ y ∈ scope.names,y.2 ≠ .cell)
  (h1:∀ y c,cl.lookup y=some c->X.env.cells.lookup y=some c) (h2:∀ y ∈ scope.names,y.2=.free->∃ c,cl.lookup y.1=some c):(compCx X N scope cl s.heap.objs.size fp s H).Ok where
 mod:=I.ok.mod
 kind:=hkind
 glob:=I.ok.glob
 blt:=I.ok.blt
 above:=Nat.le_refl _
 inj:=fun x y c a b=>I.ok.inj x y c (h1 x c a) (h1 y c b)
 has:=fun x hx=>by
  have:∃ y ∈ scope.names,y.1=x/\(y.2=.free \/ y.2=.cell):=by
   rcases hx with z | z
   ·exact relabel_back (.inl rfl) z
   ·exact relabel_back (.inr rfl) z
  obtain ⟨y,hy,e,z⟩:=this
  rcases z with z | z
  ·obtain ⟨c,hcl⟩:=h2 y hy z
   exact ⟨c,by rw [← e]; exact hcl⟩
  ·exact absurd z (hcell y hy)
 cab:=fun x c z=>by cases z
 hd:=fun _=>I.ok.hd hc
 frames:=I.ok.frames
 stk:=.inl rfl
 exf:=fun b hb=>⟨Nat.ne_of_lt (hl b hb),fun x c e=>(hf b hb).2.2.2.2.1 x c (h1 x c e)⟩
 bs:=I.bs
 bsz:=Nat.le_trans I.ok.bsz I.sz
 noex:=fun b o e hb=>by
  rcases (hf b hb).2.2.2.1 with z | z
  ·exact I.ok.noex b o e z
  ·exact absurd (Nat.lt_of_lt_of_le (Heap.lt_size (I.ok.bs b o e).1) z) (Nat.lt_irrefl _)
 exfs:=fun b hb z=>(List.mem_cons.mp (I.stkSub b z)).elim (fun e=>(hf b hb).2.1 e) fun e=>(hf b hb).2.2.1 e
 funs:=I.stack
 frf:=I.stkFree
theorem comp_inv (I:Inv X pins σ H s) (hc:X.calm=true) (hf:∀ b ∈ fp,FpOk X pins H b) (hl:∀ b ∈ fp,b < s.heap.objs.size) (hkind:scope.kind=.function) (hcell:∀ y ∈ scope.names,y.2 ≠ .cell)
  (h1:∀ y c,cl.lookup y=some c->X.env.cells.lookup y=some c) (h2:∀ y ∈ scope.names,y.2=.free->∃ c,cl.lookup y.1=some c)
  (hN:N.length=k + fv.length) (hfv:fv.map (fun j=>X.N[j]?)=(N.drop k).map some) (hk:(N.drop k).map X.env.kindOf=(N.drop k).map fun _=>some .cell) (hfl:∀ y ∈ N.drop k,scope.names.lookup y=some .free)
  {h':Heap} {tk:Nat} (hn:h'.Ns s.heap.objs.size fun _=>none) (hb:∀ b o,s.heap.get? b=some o->h'.get? b=some o) :
  Inv (compCx X N scope cl s.heap.objs.size fp s H) [] (comp0 k fv σ) H { s with heap:=h',toks:=tk } where
 ok:=comp_ok I hc hf hl hkind hcell h1 h2
 os:=rfl
 bare:=I.bare
 base:=Un.kept hb
 loc:=⟨_,hn,fun i x v e1 e2 e3=>by
  have hik:k<=i:=by
   apply Nat.le_of_not_lt
   intro z
   have:(comp0 k fv σ)[i]?=some none:=by
    unfold comp0
    rw [List.getElem?_append_left (by simpa using z)]
    simp [z]
   rw [this] at e2
   cases e2
  obtain ⟨j,rfl⟩:∃ j,i=k + j:=⟨i - k,by omega⟩
  have e2':(fv.map fun j=>σ.getD j none)[j]?=some (some v):=by
   have:(comp0 k fv σ)[k + j]?=(fv.map fun j=>σ.getD j none)[j]?:=by
    unfold comp0
    rw [List.getElem?_append_right (by simp)]
    simp
   rw [← this]
   exact e2
  rw [List.getElem?_map] at e2'
  cases hj:fv[j]? with
  | none=>rw [hj] at e2'; cases e2'
  | some m =>
   rw [hj] at e2'
   have e4:σ.getD m none=some v:=Option.some.inj e2'
   have e5:(N.drop k)[j]?=some x:=by rw [List.getElem?_drop]; exact e1
   have e6:X.N[m]?=some x:=by
    have a:=congrArg (fun l=>l[j]?) hfv
    simp only [List.getElem?_map,hj,e5,Option.map_some] at a
    exact Option.some.inj a
   have e7:X.env.kindOf x=some .cell:=by
    have a:=congrArg (fun l=>l[j]?) hk
    simp only [List.getElem?_map,e5,Option.map_some] at a
    exact Option.some.inj a
   have e8:σ[m]?=some (some v):=by
    cases q:σ[m]? with
    | none=>rw [List.getD,q] at e4; cases e4
    | some o=>rw [List.getD,q] at e4; rw [show o=some v from e4]
   obtain ⟨m0,hm0,hl0⟩:=I.loc
   obtain ⟨u,ru,lk⟩:=hl0 m x v e6 e8 (.inr (.inl e7))
   refine ⟨u,ru,?_⟩
   rcases lk with ⟨z,_⟩ | ⟨_,c,hcc,ic⟩
   ·rw [e7] at z; cases z
   ·have mem:x ∈ N.drop k:=List.mem_of_getElem? e5
    have fr:=hfl x mem
    obtain ⟨c',hc'⟩:=h2 (x,.free) (mem_lookup fr) rfl
    have ec:=h1 x c' hc'
    rw [hcc] at ec
    cases ec
    refine .inr ⟨.inl (relabel_cell I.ok.kind fr e7),c,hc',?_⟩
    obtain ⟨o,ho,hd⟩:=ic
    exact ⟨o,hb _ _ ho,hd⟩⟩
 cell:=fun x c e=>by
  obtain ⟨v,o,ho,hd⟩:=I.cell x c (h1 x c e)
  exact ⟨v,o,hb _ _ ho,hd⟩
 free:=I.hok.fresh (Nat.le_refl _)
 freeC:=fun x c e=>I.freeC x c (h1 x c e)
 pin:=fun p hp=>by
  obtain ⟨a1,a2,a3,a4,a5⟩:=I.pin p (List.mem_append_left _ ((List.mem_append.mp hp).elim id fun z=>nomatch z))
  exact ⟨hb _ _ a1,a2,Nat.ne_of_lt (Heap.lt_size a1),fun z=>(List.mem_cons.mp (I.stkSub p.1 z)).elim a3 a4,a5⟩
 hok:=I.hok.kept hb
 len:=by
  show (comp0 k fv σ).length=N.length
  unfold comp0
  simp [hN]
end
end Sb
namespace Sb
open PySem PySem.Spec PyProof.Rows L2
section
variable {X:Cx}
set_option maxHeartbeats 1000000 in
theorem comp_block {elt iter tg:Expr} {ifs:List Expr} {scope:Scope} {pos:Pos} {g:TG} {tt:TT} {te:TE} {N:List Str} {k:Nat} {fv:List Nat} {cl:List (Str × Addr)}
  {pins:List (Addr × Obj)} {σ:L2.St} {H:Hp} {s:Shared} {it:Addr} {fp:List Addr} {tn:Nat->Heap->Prop} {J:It} {Q:VK} {RR:Value->Addr->Result->Shared->Prop} {E:Value->Shared->Prop}
  (hc:X.calm=true) (hg:∀ cl C fp s H,PG (compCx X N scope cl C fp s H) tg g) (ht:∀ cl C fp s H,PTs (compCx X N scope cl C fp s H) ifs tt) (he:∀ cl C fp s H,PE (compCx X N scope cl C fp s H) elt te)
  (hw:∀ r x H Q,g x (List.replicate k none ++ r) H Q->g x (List.replicate k none ++ r) H fun σ4 H4=>Q σ4 H4/\Weaker σ4 (List.replicate k none ++ r))
  (hN:N.length=k + fv.length) (hfv:fv.map (fun j=>X.N[j]?)=(N.drop k).map some) (hk:(N.drop k).map X.env.kindOf=(N.drop k).map fun _=>some .cell) (hfl:∀ y ∈ N.drop k,scope.names.lookup y=some .free)
  (hcell:∀ y ∈ scope.names,y.2 ≠ .cell) (hkind:scope.kind=.function) (h1:∀ y c,cl.lookup y=some c->X.env.cells.lookup y=some c) (h2:∀ y ∈ scope.names,y.2=.free->∃ c,cl.lookup y.1=some c)
  (I:Inv X pins σ H s) (T:Turn X.prog X.w X.K tg J fp it tn) (st:tn 0 s.heap) (f:∀ b ∈ fp,FpOk X pins H b)
  (body:∀ d,H d=none->∃ (n:Nat) (W:Nat->List V->Hp->Prop),n<=sizeLine/\W 0 [] (upd H d (.lst [])) ∧
   (∀ i ys H2,i < n->W i ys H2->H2 d=some (.lst ys)->J.go i H2/\∀ x H3,J.yld i H2 x H3->g x (comp0 k fv σ) H3 fun σ4 H4=>tt σ4 H4 fun b H5 =>
    if b=true then te σ4 H5 fun y H6=>H6 d=some (.lst ys)/\W (i + 1) (ys ++ [y]) (upd H6 d (.lst (ys ++ [y]))) else H5 d=some (.lst ys)/\W (i + 1) ys H5) ∧
   (∀ ys H2,W n ys H2->H2 d=some (.lst ys)->J.stop n H2/\Q (.ref d) H2))
  (hR:∀ (D C:Addr) (H':Hp) (s':Shared),(∃ m,s'.heap.Ns C m)->FpOk X pins H' C->Q (.ref D) H'->(∀ h',Heap.SameBut C s'.heap h'->Inv X pins σ H' { s' with heap:=h' })->RR (.ref D) C (.ok .next) s') :
  wpAny (model X.prog X.w) X.A (newList []) (fun acc s3=>wpAny (model X.prog X.w) X.A (newFunctionEnv scope X.env.globals cl [] X.env.qual none .none (some X.env)) (fun cenv s4 =>
   codeAny (model X.prog X.w) X.A (.compStart (.ListComp elt [⟨tg,iter,ifs,0⟩] scope pos) 0 (.ref it) acc { cenv with scope:=relabel scope X.env }) (RR acc cenv.locals) s4) E s3) E s:=by
 refine wpAny_newObj_type ?_
 have I3:=I.lnew (its:=[]) (ys:=[]) (t':=s.toks) .nil (Nat.zero_le _)
 have fresh:=I.fresh
 generalize hD:s.heap.objs.size=D at I3 fresh ⊢
 have f3:∀ b ∈ fp,FpOk X pins (upd H D (.lst [])) b:=fun b hb=>by
  refine ⟨?_,(f b hb).2⟩
  have hne:b ≠ D:=by
   obtain ⟨o,e,_⟩:=T.obj 0 _ st b hb
   rw [← hD]
   exact Nat.ne_of_lt (Heap.lt_size e)
  rw [upd_ne hne]
  exact (f b hb).1
 have up3:∀ b o,s.heap.get? b=some o->(s.heap.push { cls:=.type "list",data:=.seq ([]:List Value).toArray }).get? b=some o:=fun b o e=>Heap.get?_push_of_some _ e
 have st3:tn 0 (s.heap.push { cls:=.type "list",data:=.seq ([]:List Value).toArray }):=T.keep 0 _ _ st fun b _ o e=>up3 b o e
 have hl3:∀ b ∈ fp,b < (s.heap.push { cls:=.type "list",data:=.seq ([]:List Value).toArray }).objs.size:=fun b hb=>by
  obtain ⟨o,e,_⟩:=T.obj 0 _ st3 b hb
  exact Heap.lt_size e
 obtain ⟨n,W,hn,w0,step,fin⟩:=body D fresh
 generalize hS3:({ s with heap:=s.heap.push { cls:=.type "list",data:=.seq ([]:List Value).toArray },toks:=s.toks }:Shared)=s3 at I3
 have eS3:s3.heap=s.heap.push { cls:=.type "list",data:=.seq ([]:List Value).toArray }:=by rw [← hS3]
 rw [← eS3] at st3 hl3
 refine wpAny_newFunctionEnv hcell (fun y hy=>nomatch hy) (fun h4 hns hsb=>?_) hkind
 have old:∀ b o,s3.heap.get? b=some o->h4.get? b=some o:=fun b o e=>(hsb.2 b (Nat.ne_of_lt (Heap.lt_size e))).trans (Heap.get?_push_of_some _ e)
 have I4:=comp_inv (N:=N) (tk:=s3.toks + ([]:List (Str × Value)).length) I3 hc f3 hl3 hkind hcell h1 h2 hN hfv hk hfl (h':=h4) hns old
 have st4:tn 0 h4:=T.keep 0 _ _ st3 fun b _ o e=>old b o e
 have hCn:s3.heap.get? s3.heap.objs.size=none:=by
  cases e:s3.heap.get? s3.heap.objs.size with
  | none=>rfl
  | some o=>exact absurd (Heap.lt_size e) (Nat.lt_irrefl _)
 generalize hC:s3.heap.objs.size=C at I4 hCn ⊢
 have stat:∀ {H':Hp} {ps:List (Addr × Obj)},(∀ b ∈ fp,H' b=none)->(∀ p ∈ ps,p.1 ∉ fp)->∀ b ∈ fp,FpOk (compCx X N scope cl C fp s3 (upd H D (.lst []))) ps H' b:=fun {H' ps} hn hp b hb =>
  ⟨hn b hb,by rw [← hC]; exact Nat.ne_of_lt (hl3 b hb),fun z=>(List.mem_cons.mp (I3.stkSub b z)).elim (fun e=>(f3 b hb).2.1 e) fun e=>(f3 b hb).2.2.1 e,.inl hb,fun x c e=>(f3 b hb).2.2.2.2.1 x c (h1 x c e),fun p q z=>(List.mem_append.mp q).elim (fun q=>(f3 b hb).2.2.2.2.2 p (List.mem_append_left _ q) z) fun q=>hp p q (by rw [z]; exact hb)⟩
 have loop:∀ s4:Shared,s4={ s3 with heap:=h4,toks:=s3.toks + ([]:List (Str × Value)).length } →
   codeAny (model X.prog X.w) X.A (.compLoop (.ListComp elt [⟨tg,iter,ifs,0⟩] scope pos) 0 (.ref it) (.ref D) (compEnvC scope cl C X.env)) (RR (.ref D) C) s4:=by
  rintro s4 rfl
  refine comp_loop (fun m s'=>∃ i ys H',Inv (compCx X N scope cl C fp s3 (upd H D (.lst []))) [] (comp0 k fv σ) H' s'/\tn i s'.heap/\(∀ b ∈ fp,H' b=none)/\i<=n/\m=n + 1 - i/\ys.length<=i/\H' D=some (.lst ys)/\W i ys H') ?_ (n + 1)
   ⟨0,[],_,I4,st4,fun b hb=>(f3 b hb).1,Nat.zero_le _,rfl,Nat.le_refl _,upd_same,w0⟩
  rintro m s5 ⟨i,ys,H5,I5,st5,fr5,hi,rfl,hys,hD5,w5⟩
  by_cases hlt:i < n
  ·obtain ⟨go,stp⟩:=step i ys H5 hlt w5 hD5
   refine thn (T.item (compCx X N scope cl C fp s3 (upd H D (.lst []))) rfl rfl rfl rfl i [] s5 _ H5 noX I5 (stat fr5 (by simp)) st5 go) fun r s6 ⟨u,er,h6⟩=>?_
   subst er
   refine thn h6 fun _ s7 ⟨x,H7,I7,r7,y7,st7,fr7⟩=>?_
   have I7':=I7.pinned (stat fr7 (by simp)) (T.obj _ _ st7)
   refine thn (hg cl C fp s3 _ _ s7 _ H7 x u _ I7' r7 (hw _ x H7 _ (stp x H7 y7))) fun _ s8 ⟨σ8,H8,I8,q8,wk⟩=>?_
   refine thn (ht cl C fp s3 _ _ s8 σ8 H8 _ I8 q8) fun ok s9 ⟨H9,I9,q9⟩=>?_
   have back:∀ {σ':L2.St} {H':Hp} {s':Shared},Inv (compCx X N scope cl C fp s3 (upd H D (.lst []))) ([] ++ pinsAt fp s7.heap) σ' H' s'->Weaker σ' (comp0 k fv σ) →
     Inv (compCx X N scope cl C fp s3 (upd H D (.lst []))) [] (comp0 k fv σ) H' s'/\tn (i + 1) s'.heap/\∀ b ∈ fp,H' b=none:=fun {σ' H' s'} I' wk'=>by
    refine ⟨I'.unpinned.weak wk'.1 wk'.2,T.keep _ _ _ st7 fun b hb o e=>(I'.pin (b,o) (List.mem_append_right _ (List.mem_append_right _ (mem_pinsAt hb e)))).1,fun b hb=>?_⟩
    obtain ⟨o,e,_⟩:=T.obj _ _ st7 b hb
    exact (I'.pin (b,o) (List.mem_append_right _ (List.mem_append_right _ (mem_pinsAt hb e)))).2.1
   cases ok with
   | false =>
    rw [if_neg Bool.false_ne_true] at q9 ⊢
    obtain ⟨hD9,w9⟩:=q9
    obtain ⟨a1,a2,a3⟩:=back I9 wk
    exact ⟨n + 1 - (i + 1),by omega,i + 1,ys,H9,a1,a2,a3,hlt,rfl,Nat.le_succ_of_le hys,hD9,w9⟩
   | true =>
    rw [if_pos rfl] at q9 ⊢
    refine thn (he cl C fp s3 _ _ s9 σ8 H9 _ I9 q9) fun y s10 ⟨yv,H10,I10,r10,hD10,w10⟩=>?_
    refine thn (mt_append _ s10 σ8 H10 (.ref D) [yv] (.ref D) [y] (fun _ H'=>H'=upd H10 D (.lst (ys ++ [yv]))) I10 rfl (.cons r10 .nil) ⟨D,ys,yv,rfl,rfl,hD10,Nat.lt_of_le_of_lt hys (Nat.lt_of_lt_of_le hlt hn),rfl⟩) fun _ s11 ⟨_,H11,I11,_,e11⟩=>?_
    subst e11
    obtain ⟨a1,a2,a3⟩:=back I11 wk
    exact ⟨n + 1 - (i + 1),by omega,i + 1,ys ++ [yv],_,a1,a2,a3,hlt,rfl,by rw [List.length_append]; show ys.length + 1<=i + 1; omega,upd_same,w10⟩
  ·obtain rfl:i=n:=Nat.le_antisymm hi (Nat.not_lt.mp hlt)
   obtain ⟨stop,q⟩:=fin ys H5 w5 hD5
   refine thn (T.done (compCx X N scope cl C fp s3 (upd H D (.lst []))) rfl rfl rfl rfl i [] s5 _ H5 noX I5 (stat fr5 (by simp)) st5 stop) fun r s6 ⟨er,I6⟩=>?_
   subst er
   refine hR D C H5 s6 ?_ (I3.fpOk (by rw [hC]; exact Nat.le_refl _) I6.free) q fun h' hs'=>?_
   ·obtain ⟨m,hm,_⟩:=I6.loc
    exact ⟨m,hm⟩
   ·have hs2:∀ b,b ≠ C->h'.get? b=s6.heap.get? b:=fun b hb=>hs'.2 b hb
    refine I3.call' (s':={ s6 with heap:=h' }) (ch:=fp) ?_ (un_but I6.base hCn hs2) (hok_but I6.hok I6.free hs2) I6.bare fun b hb=>?_
    ·exact I6.os
    ·exact ⟨(f3 b hb).2.2.2.1,(f3 b hb).2.1,(f3 b hb).2.2.2.2.1,(f3 b hb).2.2.2.2.2⟩
 exact codeAny_compStart_list (loop _ rfl) (T.self _ 0 _ _ _ st4 (loop _ rfl))
theorem pe_comp {elt iter tg:Expr} {ifs:List Expr} {scope:Scope} {pos:Pos} {wi:TI} {g:TG} {tt:TT} {te:TE} {N:List Str} {k:Nat} {fv:List Nat}
  (hc:X.calm=true) (hi:PI X tg iter wi) (hg:∀ cl C fp s H,PG (compCx X N scope cl C fp s H) tg g) (ht:∀ cl C fp s H,PTs (compCx X N scope cl C fp s H) ifs tt) (he:∀ cl C fp s H,PE (compCx X N scope cl C fp s H) elt te)
  (hw:∀ r x H Q,g x (List.replicate k none ++ r) H Q->g x (List.replicate k none ++ r) H fun σ4 H4=>Q σ4 H4/\Weaker σ4 (List.replicate k none ++ r))
  (hN:N.length=k + fv.length:=by rfl) (hfv:fv.map (fun j=>X.N[j]?)=(N.drop k).map some:=by rfl) (hk:(N.drop k).map X.env.kindOf=(N.drop k).map (fun _=>some .cell):=by rfl)
  (hfl:∀ y ∈ N.drop k,scope.names.lookup y=some .free:=by decide +kernel) (hfr:∀ y ∈ scope.names,y.2=.free->y.1 ∈ N.drop k:=by decide +kernel)
  (hcell:∀ y ∈ scope.names,y.2 ≠ .cell:=by decide +kernel) (hkind:scope.kind=.function:=by rfl) (hnames:∀ y ∈ scope.names,y.2=.local->scope.names.lookup y.1=some .local:=by decide +kernel)
  (hs:∀ x,foldedSetIterable iter X.env x=pure x:=by intro _; rfl):PE X (.ListComp elt [⟨tg,iter,ifs,0⟩] scope pos) (tComp wi g tt te k fv):=by
 intro pins s σ H Q I h
 have kc:∀ y ∈ N.drop k,X.env.kindOf y=some .cell:=fun y hy=>by
  obtain ⟨j,hj⟩:=List.getElem?_of_mem hy
  have a:=congrArg (fun l=>l[j]?) hk
  simp only [List.getElem?_map,hj,Option.map_some] at a
  exact Option.some.inj a
 obtain ⟨cl,hclos,h1,h2⟩:=closureFor_ok (env:=X.env) (scope:=scope) fun y hy hf=>I.ok.has y.1 (.inl (kc y.1 (hfr y hy hf)))
 rw [eval_ListComp]
 refine wpAny_comprehension_free (use:=none) rfl hs hclos hkind hnames (thn (hi pins s σ H _ I h) fun xv s1 h1'=>thn h1' fun itv s2 h2'=>?_)
 obtain ⟨it,fp,tn,J,H2,e,I2,T,st2,f2,body⟩:=h2'
 subst e
 exact comp_block (RR:=fun acc C=>compPost (model X.prog X.w) X.A X.xe none (EP X pins σ Q) acc C) hc hg ht he hw hN hfv hk hfl hcell hkind h1 h2 I2 T st2 f2 body fun D C H' s' ⟨m,hm⟩ _ q iv=>⟨m,hm,fun h' hs'=>⟨.ref D,H',iv h' hs',rfl,q⟩⟩
theorem weak_name:∀ (r:L2.St) (x:V) (H:Hp) (Q:L2.St->Hp->Prop),gName 0 x (List.replicate 1 none ++ r) H Q->gName 0 x (List.replicate 1 none ++ r) H fun σ4 H4=>Q σ4 H4/\Weaker σ4 (List.replicate 1 none ++ r):=fun r x H Q h =>
 ⟨h,by simp,fun i v e=>by
  cases i with
  | zero=>cases e
  | succ j=>exact e⟩
theorem weak_pair {K:PySem.W.Frag}:∀ (r:L2.St) (x:V) (H:Hp) (Q:L2.St->Hp->Prop),gTup K 2 (gCons (gName 0) (gCons (gName 1) gNil)) x (List.replicate 2 none ++ r) H Q →
  gTup K 2 (gCons (gName 0) (gCons (gName 1) gNil)) x (List.replicate 2 none ++ r) H fun σ4 H4=>Q σ4 H4/\Weaker σ4 (List.replicate 2 none ++ r):=by
 rintro r x H Q ⟨a,xs,e1,hq,hl,v,t,e2,v',t',e3,e4,q⟩
 refine ⟨a,xs,e1,hq,hl,v,t,e2,v',t',e3,e4,q,by simp,fun i z e=>?_⟩
 cases i with
 | zero=>cases e
 | succ j =>
  cases j with
  | zero=>cases e
  | succ j=>exact e
end
theorem nameyes {x:V} {σ:L2.St} {H:Hp} {A B:L2.St->Hp->Prop} (h:A (σ.set 0 (some x)) H):gName 0 x σ H fun σ4 H4=>tYes σ4 H4 fun b H5=>if b=true then A σ4 H5 else B σ4 H5:=by
 show if true=true then A (σ.set 0 (some x)) H else B (σ.set 0 (some x)) H
 exact iteT h
end Sb
namespace Sb
open PySem PySem.Spec PyProof.Rows L2
section
variable {X:Cx}
inductive rIxA (K:PySem.W.Frag) (x:V) (y:V) (H:Hp) (Q:VK):Prop
 | mk (p xs i v:_) (zz0:x=.ref p) (zz1:y=.int i) (zz2:(SqL K H p xs \/ SqT K H p xs)) (zz3:atI xs i=some v) (zz4:Q v H)
theorem ix_any:IxR X (rIxA X.K):=fun vl sl pins s σ H x y v u Q I rx ry ⟨p,xs,i,z,e1,e2,h,ea,q⟩ hs=>by
 rcases h with h | h
 ·exact ix_list vl sl pins s σ H x y v u Q I rx ry ⟨p,xs,i,z,e1,e2,h,ea,q⟩ hs
 ·exact ix_tup vl sl pins s σ H x y v u Q I rx ry ⟨p,xs,i,z,e1,e2,h,ea,q⟩ hs
end
section
variable {X:Cx} {K:PySem.W.Frag}
theorem ix_tK (h:X.K=K:=by rfl):IxR X (rIxT K):=h ▸ ix_tup
theorem ix_lK (h:X.K=K:=by rfl):IxR X (rIxL K):=h ▸ ix_list
theorem ix_aK (h:X.K=K:=by rfl):IxR X (rIxA K):=h ▸ ix_any
theorem ix_p0K (h:X.K=K:=by rfl):IxR X (rP0 K):=h ▸ ix_p0
theorem ix_p1K (h:X.K=K:=by rfl):IxR X (rP1 K):=h ▸ ix_p1
end
theorem nameyes0 {x:V} {σ:L2.St} {H:Hp} {A B:L2.St->Hp->Prop} {t:TT} (h:t (σ.set 0 (some x)) H fun b H5=>if b=true then A (σ.set 0 (some x)) H5 else B (σ.set 0 (some x)) H5) :
  gName 0 x σ H fun σ4 H4=>t σ4 H4 fun b H5=>if b=true then A σ4 H5 else B σ4 H5:=h
theorem pairyes {K:PySem.W.Frag} {p:Addr} {u v:V} {σ:L2.St} {H:Hp} {A B:L2.St->Hp->Prop} (hp:SqT K H p [u,v]) (h:A ((σ.set 0 (some u)).set 1 (some v)) H) :
  gTup K 2 (gCons (gName 0) (gCons (gName 1) gNil)) (.ref p) σ H fun σ4 H4=>tYes σ4 H4 fun b H5=>if b=true then A σ4 H5 else B σ4 H5:=by
 refine ⟨p,[u,v],rfl,hp,rfl,u,[v],rfl,v,[],rfl,rfl,?_⟩
 show if true=true then A ((σ.set 0 (some u)).set 1 (some v)) H else B ((σ.set 0 (some u)).set 1 (some v)) H
 exact iteT h
end Sb
namespace Sb
open PySem PySem.Spec PyProof.Rows L2
section
variable {X:Cx}
end
end Sb
namespace Sb
open PySem PySem.Builtin.SmallTypes
section
variable {prog:Program} {w:World} {A:Around} {E:Value->Shared->Prop} {s:Shared}
theorem next_tup {it t:Addr} {j:Nat} {ys:Array Value} {y:Value} {Q:Value->Shared->Prop} (ti:s.heap.IsTupleIter it t j) (tt:s.heap.IsTuple t ys) (ey:ys[j]?=some y)
  (hQ:∀ h',h'.IsTupleIter it t (j + 1)->Heap.SameBut it s.heap h'->Q y { s with heap:=h' }):wpAny (model prog w) A (nextOf (.ref it)) Q E s:=by
 obtain ⟨oi,ei,ci,di⟩:=id ti
 obtain ⟨ot,et,_,nt,dt⟩:=tt
 unfold nextOf
 refine wpAny_bind (wpAny_callSpecial?_slot (name:=Str.ofString "__next__") ti.typeIs F.slot_tuple_iterator_next (wpAny_call_entry F.slot_tuple_iterator_next ti.typeIs F.entry_tuple_iterator_next ?_ (F.args_tuple_iterator_next_1 _)))
 show wpAny _ _ (field (.ref it) 0 >>= _) _ _ _
 refine wpAny_bind (wpAny_field ei di (x:=.ref t) rfl ?_)
 show wpAny _ _ (if (Value.ref t == Value.none)=true then _ else _) _ _ _
 rw [if_neg (show ¬ ((Value.ref t == Value.none)=true) from fun q=>Bool.false_ne_true q)]
 show wpAny _ _ (field (.ref it) 1 >>= _) _ _ _
 refine wpAny_bind (wpAny_field ei di (x:=.int j 0) rfl ?_)
 show wpAny _ _ (seqItems? (.ref t) >>= _) _ _ _
 refine wpAny_bind (wpAny_seqItems et dt ?_)
 simp only [Int.toNat_natCast,ey]
 refine wpAny_bind (wpAny_setField ei di (by simp) (wpAny_pure ⟨y,rfl,wpAny_pure (hQ _ ?_ (Heap.SameBut.update ..))⟩))
 refine ⟨_,Heap.get?_update_self _ ei (Obj.isFreed_of_fields (Obj.data_mapFields di _)),(Obj.cls_mapFields ..).trans ci,?_⟩
 rw [Obj.data_mapFields di]
 simp [rawInt]
theorem next_tup_end {it t:Addr} {j:Nat} {ys:Array Value} {Q:Value->Shared->Prop} (hq:Qt A s.heap) (ti:s.heap.IsTupleIter it t j) (tt:s.heap.IsTuple t ys) (ey:ys[j]?=none)
  (hE:∀ h' e,Heap.ExtBut it s.heap h'->(∃ o,h'.get? e=some o/\o.cls=.type "StopIteration")->E (.ref e) { s with heap:=h' }):wpAny (model prog w) A (nextOf (.ref it)) Q E s:=by
 obtain ⟨oi,ei,ci,di⟩:=id ti
 obtain ⟨ot,et,_,nt,dt⟩:=tt
 unfold nextOf
 refine wpAny_bind (wpAny_callSpecial?_slot (name:=Str.ofString "__next__") ti.typeIs F.slot_tuple_iterator_next (wpAny_call_entry F.slot_tuple_iterator_next ti.typeIs F.entry_tuple_iterator_next ?_ (F.args_tuple_iterator_next_1 _)))
 show wpAny _ _ (field (.ref it) 0 >>= _) _ _ _
 refine wpAny_bind (wpAny_field ei di (x:=.ref t) rfl ?_)
 show wpAny _ _ (if (Value.ref t == Value.none)=true then _ else _) _ _ _
 rw [if_neg (show ¬ ((Value.ref t == Value.none)=true) from fun q=>Bool.false_ne_true q)]
 show wpAny _ _ (field (.ref it) 1 >>= _) _ _ _
 refine wpAny_bind (wpAny_field ei di (x:=.int j 0) rfl ?_)
 show wpAny _ _ (seqItems? (.ref t) >>= _) _ _ _
 refine wpAny_bind (wpAny_seqItems et dt ?_)
 simp only [Int.toNat_natCast,ey]
 refine wpAny_bind (wpAny_rule (wpAny_bind (wpAny_setField ei di (by simp) ?_)))
 refine stop_q (hq:=(hq.but ei fun n=>?_)) fun h' e k he=>hE _ _ (fun b o hb e=>k b o ((Heap.SameBut.update ..).extBut b o hb e)) he
 obtain ⟨vs,e1,e2⟩:=n
 rw [di] at e1
 cases e1
 simp at e2
theorem draws_tup {qs:List (Addr × Obj)} (hq:QtP A qs) (it t:Addr) (ne:t ≠ it) (hqs:∀ p ∈ qs,p.1 ≠ it) (ys:Array Value) :
  Draws prog w A it (it :: t :: qs.map Prod.fst) ys.size (fun i x=>ys[i]?=some x) (fun i h=>h.IsTupleIter it t i/\h.IsTuple t ys/\∀ p ∈ qs,h.get? p.1=some p.2) where
 live:=fun i h st=>by
  obtain ⟨⟨o,e,_⟩,_⟩:=st
  exact ⟨o,e⟩
 frame:=fun i h h' st k=>by
  obtain ⟨⟨o,e,r⟩,⟨o',e',r'⟩,st⟩:=st
  exact ⟨⟨o,k it (by simp) o e,r⟩,⟨o',k t (by simp) o' e',r'⟩,fun p hp=>k p.1 (by simp; exact .inr (.inr ⟨p.2,hp⟩)) p.2 (st p hp)⟩
 item:=fun i s Q E lt st hQ=>next_tup st.1 st.2.1 (Array.getElem?_eq_getElem lt) fun h' a b=>hQ _ h' s.toks (Array.getElem?_eq_getElem lt) ⟨a,st.2.1.extBut b.extBut ne,fun p hp=>b.extBut p.1 p.2 (hqs p hp) (st.2.2 p hp)⟩ b
 done:=fun s Q E st hE=>next_tup_end (hq.at st.2.2) st.1 st.2.1 (Array.getElem?_eq_none (Nat.le_refl _)) hE
end
structure Off (z TI TO i1 i2:Addr) (f1 f2:List Addr):Prop where
 a1:TI ≠ z
 a2:TO ≠ z
 a3:i1 ≠ z
 a4:i2 ≠ z
 a5:TI ≠ TO
 a6:TI ≠ i1
 a7:TI ≠ i2
 a8:TO ≠ i1
 a9:TO ≠ i2
 b1:i1 ≠ i2
 z1:z ∉ f1
 o1:TO ∉ f1
 n1:i2 ∉ f1
 z2:z ∉ f2
 o2:TO ∉ f2
 n2:i1 ∉ f2
section
variable {prog:Program} {w:World} {A:Around} {E:Value->Shared->Prop} {s:Shared} {z TI TO i1 i2:Addr} {f1 f2:List Addr} {n1 n2:Nat} {P1 P2:Nat->Value->Prop} {S1 S2:Nat->Heap->Prop}
set_option maxHeartbeats 1000000 in
theorem zipD_next {k:Nat} {a b:Value} {Q:Value->Shared->Prop} (D:Off z TI TO i1 i2 f1 f2) (D1:Draws prog w A i1 f1 n1 P1 S1) (D2:Draws prog w A i2 f2 n2 P2 S2)
  (hz:IsZip s.heap z TI TO .none) (hTI:IsPair s.heap TI (.ref i1) (.ref i2)) (hTO:IsPair s.heap TO a b) (c1:S1 k s.heap) (c2:S2 k s.heap) (l1:k < n1) (l2:k < n2)
  (hQ:∀ x y h' tk,P1 k x->P2 k y->IsZip h' z TI TO (rawInt s.heap.objs.size)->IsPair h' TO x y->S1 (k + 1) h'->S2 (k + 1) h'->IsPair h' s.heap.objs.size x y->h'.objs.size=s.heap.objs.size + 1 →
   (∀ c o,c ≠ z->c ≠ TO->c ≠ i1->c ≠ i2->s.heap.get? c=some o->h'.get? c=some o)->Q (.ref s.heap.objs.size) { s with heap:=h',toks:=tk }) :
  wpAny (model prog w) A (Builtin.«zip.__next__» ⟨[.ref z],[]⟩) (fun fin s'=>∃ v,fin=.done (.ret v)/\Q v s') E s:=by
 show wpAny _ _ (field (.ref z) 2 >>= _) _ _ _
 refine wpAny_bind (wpAny_field hz rfl (x:=.bool false) rfl ?_)
 show wpAny _ _ (field (.ref z) 3 >>= _) _ _ _
 refine wpAny_bind (wpAny_field hz rfl (x:=.ref TI) rfl ?_)
 refine wpAny_bind (wpAny_seqItems hTI rfl ?_)
 show wpAny _ _ (ownedTupleIsFree (.ref z) >>= _) _ _ _
 refine wpAny_bind ?_
 unfold ownedTupleIsFree
 refine wpAny_bind (wpAny_field hz rfl (x:=.none) rfl (wpAny_pure ?_))
 simp only [if_true]
 refine wpAny_bind (wpAny_rule ?_)
 refine wpAny_bind (wpAny_field hz rfl (x:=.ref TO) rfl ?_)
 refine wpAny_bind (wpAny_setField_rec hz (by simp) fun g1 z1 s1=>?_)
 replace z1:IsZip g1 z TI TO .ellipsis:=z1
 refine wpAny_bind ?_
 simp only [List.zipIdx_cons,List.zipIdx_nil,List.forIn_cons,List.forIn_nil]
 refine wpAny_bind (wpAny_bind (wpAny_onRaise ?_))
 show wpAny _ _ (nextOf (.ref i1) >>= _) _ _ _
 have c11:S1 k g1:=D1.frame _ _ _ c1 fun b hb o e=>s1.extBut b o (fun q=>D.z1 (q ▸ hb)) e
 refine wpAny_bind (D1.item k _ _ _ l1 c11 fun x g2 tk2 p1 c12 s2=>wpAny_pure ?_)
 replace s2:Heap.SameBut i1 g1 g2:=s2
 have t2:IsPair g2 TO a b:=s2.extBut _ _ D.a8 (s1.extBut _ _ D.a2 hTO)
 refine wpAny_bind (wpAny_seqItems t2 rfl ?_)
 refine wpAny_bind (wpAny_updateSeq_pair t2 fun g3 t3 s3=>?_)
 replace t3:IsPair g3 TO x b:=t3
 replace s3:Heap.SameBut TO g2 g3:=s3
 refine wpAny_bind (wpAny_letGo (wpAny_pure ?_))
 refine wpAny_bind (wpAny_bind (wpAny_onRaise ?_))
 show wpAny _ _ (nextOf (.ref i2) >>= _) _ _ _
 have c23:S2 k g3:=D2.frame _ _ _ c2 fun b hb o e=>s3.extBut b o (fun q=>D.o2 (q ▸ hb)) (s2.extBut b o (fun q=>D.n2 (q ▸ hb)) (s1.extBut b o (fun q=>D.z2 (q ▸ hb)) e))
 have c13:S1 (k + 1) g3:=D1.frame _ _ _ c12 fun b hb o e=>s3.extBut b o (fun q=>D.o1 (q ▸ hb)) e
 refine wpAny_bind (D2.item k _ _ _ l2 c23 fun y g4 tk4 p2 c24 s4=>wpAny_pure ?_)
 replace s4:Heap.SameBut i2 g3 g4:=s4
 have t4:IsPair g4 TO x b:=s4.extBut _ _ D.a9 t3
 refine wpAny_bind (wpAny_seqItems t4 rfl ?_)
 refine wpAny_bind (wpAny_updateSeq_pair t4 fun g5 t5 s5=>?_)
 replace t5:IsPair g5 TO x y:=t5
 replace s5:Heap.SameBut TO g4 g5:=s5
 refine wpAny_bind (wpAny_letGo (wpAny_pure (wpAny_pure ?_)))
 refine wpAny_bind (wpAny_seqItems t5 rfl ?_)
 refine wpAny_bind (wpAny_newTuple ?_)
 have sz:g5.objs.size=s.heap.objs.size:=by rw [s5.1,s4.1,s3.1,s2.1,s1.1]
 have z5:IsZip g5 z TI TO .ellipsis:=s5.extBut _ _ D.a2.symm (s4.extBut _ _ D.a4.symm (s3.extBut _ _ D.a2.symm (s2.extBut _ _ D.a3.symm z1)))
 have k5:∀ c o,c ≠ z->c ≠ TO->c ≠ i1->c ≠ i2->s.heap.get? c=some o->g5.get? c=some o:=fun c o q1 q2 q3 q4 e =>
  s5.extBut _ _ q2 (s4.extBut _ _ q4 (s3.extBut _ _ q2 (s2.extBut _ _ q3 (s1.extBut _ _ q1 e))))
 have c15:S1 (k + 1) g5:=D1.frame _ _ _ c13 fun b hb o e=>s5.extBut b o (fun q=>D.o1 (q ▸ hb)) (s4.extBut b o (fun q=>D.n1 (q ▸ hb)) e)
 have c25:S2 (k + 1) g5:=D2.frame _ _ _ c24 fun b hb o e=>s5.extBut b o (fun q=>D.o2 (q ▸ hb)) e
 have zlt:z < g5.objs.size:=Heap.lt_size z5
 show wpAny _ _ (ownedTupleHandOut (.ref z) (.ref g5.objs.size) >>= _) _ _ _
 refine wpAny_bind ?_
 unfold ownedTupleHandOut
 have z6:IsZip (g5.push { cls:=.type "tuple",data:=.seq #[x,y] }) z TI TO .ellipsis:=Heap.get?_push_of_some _ z5
 refine wpAny_bind (wpAny_setField_rec z6 (by simp) fun g7 z7 s7=>?_)
 replace z7:IsZip g7 z TI TO (rawInt g5.objs.size):=z7
 refine wpAny_setField_rec z7 (by simp) fun g8 z8 s8=>?_
 replace z8:IsZip g8 z TI TO (rawInt g5.objs.size):=z8
 have up:∀ c o,c ≠ z->g5.get? c=some o->g8.get? c=some o:=fun c o q e=>s8.extBut _ _ q (s7.extBut _ _ q (Heap.get?_push_of_some _ e))
 have t8:IsPair g8 g5.objs.size x y:=s8.extBut _ _ (Nat.ne_of_gt zlt) (s7.extBut _ _ (Nat.ne_of_gt zlt) (Heap.get?_push_size _ rfl))
 have sz8:g8.objs.size=g5.objs.size + 1:=by rw [s8.1,s7.1,Heap.size_push]
 rw [sz] at z8 t8 sz8
 refine wpAny_pure ⟨_,rfl,?_⟩
 show Q (.ref g5.objs.size) _
 rw [sz]
 exact hQ x y g8 tk4 p1 p2 z8 (up _ _ D.a2 t5) (D1.frame _ _ _ c15 fun b hb o e=>up b o (fun q=>D.z1 (q ▸ hb)) e) (D2.frame _ _ _ c25 fun b hb o e=>up b o (fun q=>D.z2 (q ▸ hb)) e) t8 sz8
  fun c o q1 q2 q3 q4 e=>up c o q1 (k5 c o q1 q2 q3 q4 e)
theorem zipD_stop {k:Nat} {a b:Value} {Q:Fin->Shared->Prop} (D:Off z TI TO i1 i2 f1 f2) (D1:Draws prog w A i1 f1 n1 P1 S1) (hz:IsZip s.heap z TI TO .none) (hTI:IsPair s.heap TI (.ref i1) (.ref i2)) (c1:S1 n1 s.heap)
  (hE:∀ h' e,(∀ c o,c ≠ z->c ≠ i1->s.heap.get? c=some o->h'.get? c=some o)->(∃ o,h'.get? e=some o/\o.cls=.type "StopIteration")->E (.ref e) { s with heap:=h' }) :
  wpAny (model prog w) A (Builtin.«zip.__next__» ⟨[.ref z],[]⟩) Q E s:=by
 show wpAny _ _ (field (.ref z) 2 >>= _) _ _ _
 refine wpAny_bind (wpAny_field hz rfl (x:=.bool false) rfl ?_)
 show wpAny _ _ (field (.ref z) 3 >>= _) _ _ _
 refine wpAny_bind (wpAny_field hz rfl (x:=.ref TI) rfl ?_)
 refine wpAny_bind (wpAny_seqItems hTI rfl ?_)
 show wpAny _ _ (ownedTupleIsFree (.ref z) >>= _) _ _ _
 refine wpAny_bind ?_
 unfold ownedTupleIsFree
 refine wpAny_bind (wpAny_field hz rfl (x:=.none) rfl (wpAny_pure ?_))
 simp only [if_true]
 refine wpAny_bind (wpAny_rule ?_)
 refine wpAny_bind (wpAny_field hz rfl (x:=.ref TO) rfl ?_)
 refine wpAny_bind (wpAny_setField_rec hz (by simp) fun g1 z1 s1=>?_)
 replace z1:IsZip g1 z TI TO .ellipsis:=z1
 refine wpAny_bind ?_
 simp only [List.zipIdx_cons,List.zipIdx_nil,List.forIn_cons,List.forIn_nil]
 refine wpAny_bind (wpAny_bind (wpAny_onRaise ?_))
 show wpAny _ _ (nextOf (.ref i1) >>= _) _ _ _
 have c11:S1 n1 g1:=D1.frame _ _ _ c1 fun b hb o e=>s1.extBut b o (fun q=>D.z1 (q ▸ hb)) e
 refine wpAny_bind (D1.done _ _ _ c11 fun g2 e s2 he=>?_)
 obtain ⟨oe,eo,ce⟩:=he
 replace s2:Heap.ExtBut i1 g1 g2:=s2
 have z2:IsZip g2 z TI TO .ellipsis:=s2 _ _ D.a3.symm z1
 have ez:e ≠ z:=fun q=>by
  subst q
  rw [z2] at eo
  cases eo
  simp at ce
 exact wpAny_setField_rec z2 (by simp) fun g3 _ s3=>hE g3 e (fun c o q1 q3 h=>s3.extBut _ _ q1 (s2 _ _ q3 (s1.extBut _ _ q1 h))) ⟨oe,s3.extBut _ _ ez eo,ce⟩
theorem pyNext_zipD {k:Nat} {a b:Value} {Q:Option Value->Shared->Prop} (D:Off z TI TO i1 i2 f1 f2) (D1:Draws prog w A.in1 i1 f1 n1 P1 S1) (D2:Draws prog w A.in1 i2 f2 n2 P2 S2)
  (hz:IsZip s.heap z TI TO .none) (hTI:IsPair s.heap TI (.ref i1) (.ref i2)) (hTO:IsPair s.heap TO a b) (c1:S1 k s.heap) (c2:S2 k s.heap) (l1:k < n1) (l2:k < n2)
  (hQ:∀ x y h' tk,P1 k x->P2 k y->IsZip h' z TI TO (rawInt s.heap.objs.size)->IsPair h' TO x y->S1 (k + 1) h'->S2 (k + 1) h'->IsPair h' s.heap.objs.size x y->h'.objs.size=s.heap.objs.size + 1 →
   (∀ c o,c ≠ z->c ≠ TO->c ≠ i1->c ≠ i2->s.heap.get? c=some o->h'.get? c=some o)->Q (some (.ref s.heap.objs.size)) { s with heap:=h',toks:=tk }):wpAny (model prog w) A (pyNext (.ref z)) Q E s:=by
 have hT:s.TypeIs (.ref z) "zip":=⟨_,hz,rfl⟩
 unfold pyNext
 exact wpAny_bind (wpAny_attempt (wpAny_callSpecial?_slot (name:=Str.ofString "__next__") hT F.slot_zip_next (wpAny_call_entry F.slot_zip_next hT F.entry_zip_next
   (zipD_next D D1 D2 hz hTI hTO c1 c2 l1 l2 fun x y h' tk p1 p2 q1 q2 q3 q4 q5 q6 q7=>wpAny_pure (hQ x y h' tk p1 p2 q1 q2 q3 q4 q5 q6 q7)) (F.args_zip_next_1 _))))
theorem pyNext_zipD_end {Q:Option Value->Shared->Prop} (D:Off z TI TO i1 i2 f1 f2) (D1:Draws prog w A.in1 i1 f1 n1 P1 S1) (hz:IsZip s.heap z TI TO .none) (hTI:IsPair s.heap TI (.ref i1) (.ref i2)) (c1:S1 n1 s.heap)
  (hQ:∀ h',(∀ c o,c ≠ z->c ≠ i1->s.heap.get? c=some o->h'.get? c=some o)->Q none { s with heap:=h' }):wpAny (model prog w) A (pyNext (.ref z)) Q E s:=by
 have hT:s.TypeIs (.ref z) "zip":=⟨_,hz,rfl⟩
 unfold pyNext
 refine wpAny_bind (wpAny_attempt (wpAny_callSpecial?_slot (name:=Str.ofString "__next__") hT F.slot_zip_next (wpAny_call_entry F.slot_zip_next hT F.entry_zip_next
  (zipD_stop (k:=0) (a:=.none) (b:=.none) D D1 hz hTI c1 fun h' e hk he=>?_) (F.args_zip_next_1 _))))
 obtain ⟨o,ho,hc⟩:=he
 exact wpAny_bind (wpAny_isInstance (T:="StopIteration") (b:=true) ⟨o,ho,hc⟩ isSubtype_stop (wpAny_pure (hQ _ hk)))
end
abbrev zH1 (h:Heap) (t:Addr):Heap:=h.push { cls:=.type "tuple_iterator",data:=.fields #[.ref t,.int 0 0] }
abbrev zH2 (h:Heap) (t u:Addr):Heap:=(zH1 h t).push { cls:=.type "tuple_iterator",data:=.fields #[.ref u,.int 0 0] }
abbrev zH3 (h:Heap) (t u:Addr):Heap:=(zH2 h t u).push { cls:=.type "tuple",data:=.seq #[.ref h.objs.size,.ref (zH1 h t).objs.size] }
abbrev zH4 (h:Heap) (t u:Addr):Heap:=(zH3 h t u).push { cls:=.type "tuple",data:=.seq #[.none,.none] }
abbrev zH5 (h:Heap) (t u:Addr):Heap:=(zH4 h t u).push { cls:=.type "zip",data:=.fields #[.none,.bool false,.bool false,.ref (zH2 h t u).objs.size,.ref (zH3 h t u).objs.size] }
theorem meets_zipT (t u:Addr) (xs ys:Array Value):Meets (Builtin.«zip.__new__» ⟨[.type "zip",.ref t,.ref u],[]⟩) (fun _ R s=>s.heap.IsTuple t xs/\s.heap.IsTuple u ys ∧
  R (.ok (.ret (.ref (zH4 s.heap t u).objs.size))) { s with heap:=zH5 s.heap t u }) :=
 .of_wp fun prog w A R s h=>by
  obtain ⟨hp,g,d,tk,os⟩:=s
  obtain ⟨h1,h2,h⟩:=h
  have hsub:=sub_zip
  have T1:Heap.IsTuple (Shared.heap ⟨hp,g,d,tk,os⟩) t xs:=h1
  have T2:Heap.IsTuple (Shared.heap ⟨hp.push { cls:=.type "tuple_iterator",data:=.fields #[.ref t,.int 0 0] },g,d,tk,os⟩) u ys:=Heap.IsTuple.push h2 _
  wp_walk using wpAny_pyIter_tuple T1,wpAny_pyIter_tuple T2
  exact ⟨_,rfl,h⟩
theorem call_zipT {prog:Program} {w:World} {A:Around} {E:Value->Shared->Prop} {s:Shared} {t u:Addr} {xs ys:Array Value} {Q:Value->Shared->Prop} (h1:s.heap.IsTuple t xs) (h2:s.heap.IsTuple u ys)
  (h:∀ h',IsZip h' (s.heap.objs.size + 4) (s.heap.objs.size + 2) (s.heap.objs.size + 3) .none->IsPair h' (s.heap.objs.size + 2) (.ref s.heap.objs.size) (.ref (s.heap.objs.size + 1))->IsPair h' (s.heap.objs.size + 3) .none .none →
   h'.IsTupleIter s.heap.objs.size t 0->h'.IsTupleIter (s.heap.objs.size + 1) u 0->h'.objs.size=s.heap.objs.size + 5->(∀ c o,s.heap.get? c=some o->h'.get? c=some o)->Q (.ref (s.heap.objs.size + 4)) { s with heap:=h' }) :
  wpAny (model prog w) A (call (.type "zip") [.ref t,.ref u]) Q E s:=by
 refine callType_new F.called_zip (by decide) (F.typeCall_zip_2 _ _) (F.newCall_zip_2 _ _) (fun obj=>F.args_object_init_3 obj _ _) F.entry_zip_new (meets_zipT t u xs ys) ⟨h1,h2,?_⟩
 have e1:(zH1 s.heap t).objs.size=s.heap.objs.size + 1:=Heap.size_push ..
 have e2:(zH2 s.heap t u).objs.size=s.heap.objs.size + 2:=by rw [Heap.size_push,e1]
 have e3:(zH3 s.heap t u).objs.size=s.heap.objs.size + 3:=by rw [Heap.size_push,e2]
 have e4:(zH4 s.heap t u).objs.size=s.heap.objs.size + 4:=by rw [Heap.size_push,e3]
 have e5:(zH5 s.heap t u).objs.size=s.heap.objs.size + 5:=by rw [Heap.size_push,e4]
 have p5:(zH5 s.heap t u).get? (zH4 s.heap t u).objs.size=some _:=Heap.get?_push_size _ rfl
 have p4:(zH5 s.heap t u).get? (zH3 s.heap t u).objs.size=some _:=Heap.get?_push_of_some _ (Heap.get?_push_size _ rfl)
 have p3:(zH5 s.heap t u).get? (zH2 s.heap t u).objs.size=some _:=Heap.get?_push_of_some _ (Heap.get?_push_of_some _ (Heap.get?_push_size _ rfl))
 have p2:(zH5 s.heap t u).get? (zH1 s.heap t).objs.size=some _:=Heap.get?_push_of_some _ (Heap.get?_push_of_some _ (Heap.get?_push_of_some _ (Heap.get?_push_size _ rfl)))
 have p1:(zH5 s.heap t u).get? s.heap.objs.size=some _:=Heap.get?_push_of_some _ (Heap.get?_push_of_some _ (Heap.get?_push_of_some _ (Heap.get?_push_of_some _ (Heap.get?_push_size _ rfl))))
 show _/\_
 rw [e2,e3,e4] at p5
 rw [e1,e2] at p3
 rw [e3] at p4
 rw [e1] at p2
 rw [e4]
 refine ⟨⟨_,p5,rfl⟩,h _ p5 p3 p4 ⟨_,p1,rfl,rfl⟩ ⟨_,p2,rfl,rfl⟩ e5 fun c o x=>?_⟩
 exact Heap.get?_push_of_some _ (Heap.get?_push_of_some _ (Heap.get?_push_of_some _ (Heap.get?_push_of_some _ (Heap.get?_push_of_some _ x))))
theorem meets_enumT (t:Addr) (ys:Array Value) (n:Nat) (dd:Option Addr) (sl:Array (Option Value)):Meets (Builtin.«enumerate.__new__» ⟨[.type "enumerate",.ref t],[]⟩) (fun _ R s=>s.heap.get? t=some { cls:=.type "tuple",dict:=dd,data:=.seq ys n,slots:=sl } ∧
  R (.ok (.ret (.ref (zH1 s.heap t).objs.size))) { s with heap:=(zH1 s.heap t).push { cls:=.type "enumerate",data:=.fields #[.none,.bool false,.ref s.heap.objs.size,rawInt 0,.none,.none] } }) :=
 .of_wp fun prog w A R s h=>by
  obtain ⟨hp,g,d,tk,os⟩:=s
  obtain ⟨hl,h⟩:=h
  have hsub:=sub_enumerate
  have hL:Heap.IsTuple (Shared.heap ⟨hp,g,d,tk,os⟩) t ys:=⟨_,hl,rfl,n,rfl⟩
  wp_walk using wpAny_loadPart' hl
  refine wpAny_stack_any fun st=>wpAny_pure ?_
  split
  ·rename_i c _ _ _ _ _
   cases (c == Value.type "enumerate")
   ·wp_walk using wpAny_loadPart' hl,wpAny_pyIter_tuple hL
    exact ⟨_,rfl,h⟩
   ·wp_walk using wpAny_loadPart' hl,wpAny_pyIter_tuple hL
    exact ⟨_,rfl,h⟩
  ·wp_walk using wpAny_loadPart' hl,wpAny_pyIter_tuple hL
   exact ⟨_,rfl,h⟩
theorem call_enumT {prog:Program} {w:World} {A:Around} {E:Value->Shared->Prop} {s:Shared} {t:Addr} {ys:Array Value} {Q:Value->Shared->Prop} (ht:s.heap.IsTuple t ys)
  (h:∀ h',IsEnum h' (s.heap.objs.size + 1) s.heap.objs.size 0 .none->h'.IsTupleIter s.heap.objs.size t 0->h'.objs.size=s.heap.objs.size + 2->(∀ b o,s.heap.get? b=some o->h'.get? b=some o)->Q (.ref (s.heap.objs.size + 1)) { s with heap:=h' }) :
  wpAny (model prog w) A (call (.type "enumerate") [.ref t]) Q E s:=by
 obtain ⟨⟨c,dd,dt,sl⟩,e,c1,n,d1⟩:=ht
 cases c1
 cases d1
 refine callType_new F.called_enumerate (by decide) (F.typeCall_enumerate_1 _) (F.newCall_enumerate_1 _) (fun obj=>F.args_object_init_2 obj _) F.entry_enumerate_new (meets_enumT t ys n dd sl) ⟨e,?_⟩
 have hz:(zH1 s.heap t).objs.size=s.heap.objs.size + 1:=Heap.size_push ..
 show _/\_
 rw [hz]
 have he:IsEnum ((zH1 s.heap t).push { cls:=.type "enumerate",data:=.fields #[.none,.bool false,.ref s.heap.objs.size,rawInt 0,.none,.none] }) (s.heap.objs.size + 1) s.heap.objs.size 0 .none:=by
  have q:=Heap.get?_push_size (zH1 s.heap t) (o:={ cls:=.type "enumerate",data:=.fields #[.none,.bool false,.ref s.heap.objs.size,rawInt 0,.none,.none] }) rfl
  rw [hz] at q
  exact q
 exact ⟨⟨_,he,rfl⟩,h _ he ⟨_,Heap.get?_push_of_some _ (Heap.get?_push_size _ rfl),rfl,rfl⟩ (by rw [Heap.size_push,hz]) fun b o x=>Heap.get?_push_of_some _ (Heap.get?_push_of_some _ x)⟩
end Sb
namespace Sb
open PySem PySem.Spec PyProof.Rows L2
section
variable {X:Cx} {pins:List (Addr × Obj)} {σ:L2.St} {H:Hp} {s:Shared} {h':Heap} {t':Nat} {ch:List Addr}
theorem hok_recs (I:Inv X pins σ H s) (hn:∀ b ∈ ch,H b=none) (k:∀ b o,b ∉ ch->s.heap.get? b=some o->h'.get? b=some o):HOk X.prog X.w H h':=fun a o e =>
 (I.hok a o e).stay (fun b u hb q=>k b u (fun z=>by
  have n:=hn b z
  rcases hb with rfl | hb
  ·rw [n] at e; cases e
  ·rw [n] at hb; cases hb) q) (fun _ q=>q) fun _ _ q=>q
theorem inv_recs (I:Inv X pins σ H s) (hf:∀ b ∈ ch,FpOk X pins H b) (k:∀ b o,b ∉ ch->s.heap.get? b=some o->h'.get? b=some o):Inv X pins σ H { s with heap:=h',toks:=t' }:=by
 refine I.step (g':=s.gens) (d':=s.drawn) (ch:=ch) (fun b hb=>?_) (fun b o _ _ hc e _=>k b o hc e) (fun b o _ _ hc e _=>⟨o.slots,k b o hc e⟩) (fun _ _ _ _ n=>n) (fun b o hc e=>⟨o,k b o hc e⟩) (fun _ _ e=>e) (fun _ _ _ e=>e)
  (fun b ps e=>⟨#[],by rw [e]; simp⟩) (fun m hm=>?_) (hok_recs I (fun b hb=>(hf b hb).1) k) I.bare
 ·exact ⟨(hf b hb).2.2.2.1,(hf b hb).2.1,(hf b hb).2.2.2.2.1,(hf b hb).2.2.2.2.2⟩
 ·obtain ⟨o,es,ep,ho,r⟩:=hm
  exact ⟨o,es,ep,k _ o (fun z=>(hf _ z).2.1 rfl) ho,r⟩
theorem inv_recs_new {p:Addr} {u:HO} (I:Inv X pins σ H s) (hf:∀ b ∈ ch,FpOk X pins H b) (k:∀ b o,b ∉ ch->s.heap.get? b=some o->h'.get? b=some o) (hp:s.heap.objs.size<=p) (new:ObjOk X.prog X.w (upd H p u) h' p u) :
  Inv X pins σ (upd H p u) { s with heap:=h',toks:=t' }:=by
 have lt:∀ b o,s.heap.get? b=some o->b ≠ p:=fun b o e z=>absurd (Nat.lt_of_lt_of_le (Heap.lt_size e) hp) (by rw [z]; exact Nat.lt_irrefl _)
 have ltH:∀ b o,H b=some o->b ≠ p:=fun b o e z=>absurd (Nat.lt_of_lt_of_le (I.hok.lt e) hp) (by rw [z]; exact Nat.lt_irrefl _)
 have hk:=hok_recs I (fun b hb=>(hf b hb).1) k
 refine I.step (g':=s.gens) (d':=s.drawn) (ch:=ch) (fun b hb=>?_) (fun b o _ _ hc e _=>k b o hc e) (fun b o _ _ hc e _=>⟨o.slots,k b o hc e⟩) (fun b o _ e n=>by rw [upd_ne (lt b o e)]; exact n) (fun b o hc e=>⟨o,k b o hc e⟩)
  (fun b _ e=>by rw [upd_ne (ltH b _ e)]; exact e) (fun b _ _ e=>by rw [upd_ne (ltH b _ e)]; exact e) (fun b ps e=>⟨#[],by rw [upd_ne (ltH b _ e),e]; simp⟩) (fun m hm=>?_) (fun b o e=>?_) I.bare
 ·exact ⟨(hf b hb).2.2.2.1,(hf b hb).2.1,(hf b hb).2.2.2.2.1,(hf b hb).2.2.2.2.2⟩
 ·obtain ⟨o,es,ep,ho,r⟩:=hm
  exact ⟨o,es,ep,k _ o (fun z=>(hf _ z).2.1 rfl) ho,r⟩
 ·by_cases hb:b=p
  ·subst hb
   rw [upd_same] at e
   cases e
   exact new
  ·rw [upd_ne hb] at e
   exact (hk b o e).stay (fun _ _ _ q=>q) (fun c q=>by rw [upd_ne (ltH c _ q)]; exact q) fun c xs q=>by rw [upd_ne (ltH c _ q)]; exact q
theorem tup_ne {b t:Addr} {xs:List V} (I:Inv X pins σ H s) (hf:FpOk X pins H b) (h:SqT X.K H t xs):t ≠ b:=by
 rintro rfl
 rcases h with (h | ⟨o,h⟩) | ⟨o,its,n,h,_⟩
 ·rw [hf.1] at h; cases h
 ·rw [hf.1] at h; cases h
 ·have e:=I.ok.mod.kin _ _ h
  rcases hf.2.2.2.1 with z | z
  ·exact I.ok.noex _ _ e z
  ·exact absurd (Nat.lt_of_lt_of_le (Heap.lt_size (I.ok.bs _ _ e).1) z) (Nat.lt_irrefl _)
end
def Itz (K:PySem.W.Frag) (t u:Addr):It :=
 ⟨fun i H=>∃ xs ys,SqT K H t xs/\SqT K H u ys/\i < xs.length/\i < ys.length,
   fun i H v H'=>∃ p x y,v=.ref p/\H p=none/\H'=upd H p (.tup [x,y])/\(∀ xs,SqT K H t xs->xs[i]?=some x)/\∀ ys,SqT K H u ys->ys[i]?=some y,
   fun i H=>∃ xs ys,SqT K H t xs/\SqT K H u ys/\i=xs.length⟩
structure ZOff (z TI TO i1 i2:Addr):Prop where
 a1:TI ≠ z
 a2:TO ≠ z
 a3:i1 ≠ z
 a4:i2 ≠ z
 a5:TI ≠ TO
 a6:TI ≠ i1
 a7:TI ≠ i2
 a8:TO ≠ i1
 a9:TO ≠ i2
 b1:i1 ≠ i2
theorem turn_zip {P:Program} {w:World} {K:PySem.W.Frag} {es:List Expr} {kk:Nat} {tp:Pos} {z TI TO i1 i2:Addr} (O:ZOff z TI TO i1 i2) (t u:Addr) :
  Turn P w K (.Tuple es kk tp) (Itz K t u) [z,TI,TO,i1,i2] z (fun i h=>IsZip h z TI TO .none/\IsPair h TI (.ref i1) (.ref i2)/\(∃ a b,IsPair h TO a b)/\h.IsTupleIter i1 t i/\h.IsTupleIter i2 u i) where
 mem:=by simp
 obj:=fun i h ⟨hz,hTI,⟨a,b,hTO⟩,⟨o1,e1,_,d1⟩,⟨o2,e2,_,d2⟩⟩ b hb=>by
  simp only [List.mem_cons,List.not_mem_nil,or_false] at hb
  rcases hb with rfl | rfl | rfl | rfl | rfl
  ·exact ⟨_,hz,fun v q=>by have q':Data.fields _=Data.cell v:=q; cases q'⟩
  ·exact ⟨_,hTI,fun v q=>by have q':Data.seq _ _=Data.cell v:=q; cases q'⟩
  ·exact ⟨_,hTO,fun v q=>by have q':Data.seq _ _=Data.cell v:=q; cases q'⟩
  ·exact ⟨_,e1,fun v q=>by rw [d1] at q; cases q⟩
  ·exact ⟨_,e2,fun v q=>by rw [d2] at q; cases q⟩
 keep:=fun i h h' ⟨hz,hTI,⟨a,b,hTO⟩,⟨o1,e1,r1⟩,⟨o2,e2,r2⟩⟩ k=>⟨k z (by simp) _ hz,k TI (by simp) _ hTI,⟨a,b,k TO (by simp) _ hTO⟩,⟨o1,k i1 (by simp) _ e1,r1⟩,⟨o2,k i2 (by simp) _ e2,r2⟩⟩
 item:=by
  intro X hP hw hK hc i pins s σ H E I hf st hg
  subst hP hw hK
  obtain ⟨xs,ys,hx,hy,lx,ly⟩:=hg
  obtain ⟨hz,hTI,⟨a,b,hTO⟩,c1,c2⟩:=st
  obtain ⟨u1,v1,p1,_⟩:=I.tuple hx
  obtain ⟨u2,v2,p2,_⟩:=I.tuple hy
  have n1:=v1.length
  have n2:=v2.length
  have ne:∀ b ∈ [z,TI,TO,i1,i2],t ≠ b/\u ≠ b:=fun b hb=>⟨tup_ne I (hf b hb) hx,tup_ne I (hf b hb) hy⟩
  have off:∀ b ∈ [z,TI,TO,i1,i2],∀ x,(b,x) ∉ X.pn:=fun b hb x m=>(hf b hb).2.2.2.2.2 _ (List.mem_append_left _ m) rfl
  have qI:∀ p ∈ X.pn,s.heap.get? p.1=some p.2:=fun p hp=>(I.pin p (List.mem_append_left _ hp)).1
  have qO:∀ b ∈ [z,TI,TO,i1,i2],∀ p ∈ X.pn,p.1 ≠ b:=fun b hb p hp=>(hf b hb).2.2.2.2.2 p (List.mem_append_left _ hp)
  have D:Off z TI TO i1 i2 (i1 :: t :: X.pn.map Prod.fst) (i2 :: u :: X.pn.map Prod.fst):=⟨O.a1,O.a2,O.a3,O.a4,O.a5,O.a6,O.a7,O.a8,O.a9,O.b1,
   by simp [O.a3.symm,(ne z (by simp)).1.symm,off z (by simp)],by simp [O.a8,(ne TO (by simp)).1.symm,off TO (by simp)],by simp [O.b1.symm,(ne i2 (by simp)).1.symm,off i2 (by simp)],
   by simp [O.a4.symm,(ne z (by simp)).2.symm,off z (by simp)],by simp [O.a9,(ne TO (by simp)).2.symm,off TO (by simp)],by simp [O.b1,(ne i1 (by simp)).2.symm,off i1 (by simp)]⟩
  have D1:=draws_tup (prog:=X.prog) (w:=X.w) (A:=X.A.in1) (I.ok.hd hc) i1 t (ne i1 (by simp)).1 (qO i1 (by simp)) u1.toArray
  have D2:=draws_tup (prog:=X.prog) (w:=X.w) (A:=X.A.in1) (I.ok.hd hc) i2 u (ne i2 (by simp)).2 (qO i2 (by simp)) u2.toArray
  refine pyNext_zipD D D1 D2 hz hTI hTO ⟨c1,p1,qI⟩ ⟨c2,p2,qI⟩ (by simp; omega) (by simp; omega) fun x y g tk px py z' to' s1 s2 pr sz kp=>?_
  refine ⟨_,rfl,wpAny_letOwnedTupleGo_zip z' fun g2 z2 sb=>?_⟩
  obtain ⟨x0,ex⟩:∃ x0,xs[i]?=some x0:=⟨xs[i],by simp [lx]⟩
  obtain ⟨y0,ey⟩:∃ y0,ys[i]?=some y0:=⟨ys[i],by simp [ly]⟩
  obtain ⟨x1,ex1,rx⟩:=v1.get ex
  obtain ⟨y1,ey1,ry⟩:=v2.get ey
  have qx:x1=x:=by
   have:u1.toArray[i]?=some x:=px
   rw [List.getElem?_toArray,ex1] at this
   exact Option.some.inj this
  have qy:y1=y:=by
   have:u2.toArray[i]?=some y:=py
   rw [List.getElem?_toArray,ey1] at this
   exact Option.some.inj this
  subst qx qy
  have zlt:z < s.heap.objs.size:=Heap.lt_size hz
  have pz:s.heap.objs.size ≠ z:=Nat.ne_of_gt zlt
  have sb2:∀ b,b ≠ z->g2.get? b=g.get? b:=fun b hb=>sb.2 b hb
  have keep:∀ b o,b ∉ [z,TI,TO,i1,i2]->s.heap.get? b=some o->g2.get? b=some o:=fun b o hb e=>by
   simp only [List.mem_cons,List.not_mem_nil,or_false,not_or] at hb
   rw [sb2 b hb.1]
   exact kp b o hb.1 hb.2.2.1 hb.2.2.2.1 hb.2.2.2.2 e
  have new:ObjOk X.prog X.w (upd H s.heap.objs.size (.tup [x0,y0])) g2 s.heap.objs.size (.tup [x0,y0]) :=
   ⟨by show 2<=sizeLine; decide,[x1,y1],.cons rx (.cons ry .nil),⟨_,by rw [sb2 _ pz]; exact pr,rfl,0,rfl⟩⟩
  have I2:=inv_recs_new (t':=tk) I hf keep (Nat.le_refl _) new
  have nn:∀ b ∈ [z,TI,TO,i1,i2],upd H s.heap.objs.size (.tup [x0,y0]) b=none:=fun b hb=>by
   have:b ≠ s.heap.objs.size:=by
    have ob:∃ o,s.heap.get? b=some o:=by
     simp only [List.mem_cons,List.not_mem_nil,or_false] at hb
     obtain ⟨o1,e1,_⟩:=c1
     obtain ⟨o2,e2,_⟩:=c2
     rcases hb with rfl | rfl | rfl | rfl | rfl
     ·exact ⟨_,hz⟩
     ·exact ⟨_,hTI⟩
     ·exact ⟨_,hTO⟩
     ·exact ⟨_,e1⟩
     ·exact ⟨_,e2⟩
    obtain ⟨o,e⟩:=ob
    exact Nat.ne_of_lt (Heap.lt_size e)
   rw [upd_ne this]
   exact (hf b hb).1
  refine ⟨.ref s.heap.objs.size,_,I2,rfl,⟨_,x0,y0,rfl,I.fresh,rfl,fun xs' h1=>by rw [I.tuple_inj h1 hx]; exact ex,fun ys' h2=>by rw [I.tuple_inj h2 hy]; exact ey⟩,⟨z2,?_,⟨x1,y1,?_⟩,?_,?_⟩,nn⟩
  ·exact (sb2 TI O.a1).trans (kp _ _ O.a1 O.a5 O.a6 O.a7 hTI)
  ·exact (sb2 TO O.a2).trans to'
  ·exact s1.1.extBut sb.extBut O.a3
  ·exact s2.1.extBut sb.extBut O.a4
 done:=by
  intro X hP hw hK hc i pins s σ H E I hf st hg
  subst hP hw hK
  obtain ⟨xs,ys,hx,hy,rfl⟩:=hg
  obtain ⟨hz,hTI,⟨a,b,hTO⟩,c1,c2⟩:=st
  obtain ⟨u1,v1,p1,_⟩:=I.tuple hx
  have n1:=v1.length
  have ne:∀ b ∈ [z,TI,TO,i1,i2],t ≠ b/\u ≠ b:=fun b hb=>⟨tup_ne I (hf b hb) hx,tup_ne I (hf b hb) hy⟩
  have off:∀ b ∈ [z,TI,TO,i1,i2],∀ x,(b,x) ∉ X.pn:=fun b hb x m=>(hf b hb).2.2.2.2.2 _ (List.mem_append_left _ m) rfl
  have qI:∀ p ∈ X.pn,s.heap.get? p.1=some p.2:=fun p hp=>(I.pin p (List.mem_append_left _ hp)).1
  have qO:∀ b ∈ [z,TI,TO,i1,i2],∀ p ∈ X.pn,p.1 ≠ b:=fun b hb p hp=>(hf b hb).2.2.2.2.2 p (List.mem_append_left _ hp)
  have D:Off z TI TO i1 i2 (i1 :: t :: X.pn.map Prod.fst) (i2 :: u :: X.pn.map Prod.fst):=⟨O.a1,O.a2,O.a3,O.a4,O.a5,O.a6,O.a7,O.a8,O.a9,O.b1,
   by simp [O.a3.symm,(ne z (by simp)).1.symm,off z (by simp)],by simp [O.a8,(ne TO (by simp)).1.symm,off TO (by simp)],by simp [O.b1.symm,(ne i2 (by simp)).1.symm,off i2 (by simp)],
   by simp [O.a4.symm,(ne z (by simp)).2.symm,off z (by simp)],by simp [O.a9,(ne TO (by simp)).2.symm,off TO (by simp)],by simp [O.b1,(ne i1 (by simp)).2.symm,off i1 (by simp)]⟩
  have D1:=draws_tup (prog:=X.prog) (w:=X.w) (A:=X.A.in1) (I.ok.hd hc) i1 t (ne i1 (by simp)).1 (qO i1 (by simp)) u1.toArray
  have c1':s.heap.IsTupleIter i1 t u1.toArray.size:=by
   rw [List.size_toArray,← n1]
   exact c1
  refine pyNext_zipD_end D D1 hz hTI ⟨c1',p1,qI⟩ fun g kp=>⟨rfl,?_⟩
  exact inv_recs (t':=s.toks) I hf fun b o hb e=>by
   simp only [List.mem_cons,List.not_mem_nil,or_false,not_or] at hb
   exact kp b o hb.1 hb.2.2.2.1 e
 self:=fun _ _ _ _ _ st h=>wpAny_pyIter_zip st.1 h
section
variable {X:Cx}
inductive iZip_i (K:PySem.W.Frag) (R:(It->Hp->Prop)) (vs:List V) (H1:Hp):Prop
 | mk (t u:_) (zz0:vs=[.ref t,.ref u]) (zz1:(∃ xs,SqT K H1 t xs)) (zz2:(∃ ys,SqT K H1 u ys)) (zz3:R (Itz K t u) H1)
def iZip (K:PySem.W.Frag) (ta:TA):TI:=fun σ H R=>ta σ H (iZip_i K R)
theorem pi_zip {a b:Expr} {ta:TA} {p pos:Pos} {es:List Expr} {kk:Nat} {tp:Pos} (hg:Gl X "zip") (hm:X.mg "zip"=none) (ha:PA X [a,b] ta) (hs:starEach [a,b] X.env=[(false,eval a X.env),(false,eval b X.env)]:=by rfl)
  (hs2:starEach [b] X.env=[(false,eval b X.env)]:=by rfl):PI X (.Tuple es kk tp) (.Call (.Name "zip" p) [a,b] [] pos) (iZip X.K ta):=by
 intro pins s σ H R I h
 refine Call_ (ld_blt I hg hm boot_zip (PyProof.Rows.callWith_type1 (thn (ha pos pins s σ H _ I h) fun us s1 ⟨vs,H1,I1,r1,q1⟩=>?_) (by rw [hs,hs2]) (by rw [hs2]; rfl)))
 obtain ⟨t,u,e,⟨xs,hx⟩,⟨ys,hy⟩,q⟩:=q1
 subst e
 obtain ⟨t0,u0,e0,rt,ru⟩:=vals2 r1
 cases (show t0=Value.ref t from rt)
 cases (show u0=Value.ref u from ru)
 subst e0
 obtain ⟨u1,v1,p1,_⟩:=I1.tuple hx
 obtain ⟨u2,v2,p2,_⟩:=I1.tuple hy
 refine call_zipT (xs:=u1.toArray) (ys:=u2.toArray) p1 p2 fun g z0 ti to i1 i2 sz kp=>?_
 refine wpAny_pyIter_zip z0 ?_
 have I2:Inv X pins σ H1 { s1 with heap:=g }:=I1.kept (t':=s1.toks) kp
 refine ⟨s1.heap.objs.size + 4,[s1.heap.objs.size + 4,s1.heap.objs.size + 2,s1.heap.objs.size + 3,s1.heap.objs.size,s1.heap.objs.size + 1],_,Itz X.K t u,H1,rfl,I2,turn_zip (O:=?_) t u,⟨z0,ti,⟨_,_,to⟩,i1,i2⟩,fun b hb=>?_,q⟩
 ·refine ⟨?_,?_,?_,?_,?_,?_,?_,?_,?_,?_⟩ <;> (show @Ne Nat _ _; omega)
 ·have hb':s1.heap.objs.size<=b:=by
   simp only [List.mem_cons,List.not_mem_nil,or_false] at hb
   rcases hb with rfl | rfl | rfl | rfl | rfl
   ·exact Nat.le_add_right _ _
   ·exact Nat.le_add_right _ _
   ·exact Nat.le_add_right _ _
   ·exact Nat.le_refl _
   ·exact Nat.le_add_right _ _
  exact I1.fpOk hb' (I1.hok.fresh hb')
end
end Sb
namespace Sb
open PySem PySem.Spec PyProof.Rows L2
def Ite (K:PySem.W.Frag) (t:Addr):It :=
 ⟨fun i H=>∃ xs,SqT K H t xs/\i < xs.length,
   fun i H v H'=>∃ p x,v=.ref p/\H p=none/\H'=upd H p (.tup [.int (i:Int),x])/\∀ xs,SqT K H t xs->xs[i]?=some x,
   fun i H=>∃ xs,SqT K H t xs/\i=xs.length⟩
theorem turn_enum {P:Program} {w:World} {K:PySem.W.Frag} {es:List Expr} {kk:Nat} {tp:Pos} {e it:Addr} (O:e ≠ it) (t:Addr) :
  Turn P w K (.Tuple es kk tp) (Ite K t) [e,it] e (fun i h=>(∃ old,IsEnum h e it (i:Int) old)/\h.IsTupleIter it t i) where
 mem:=by simp
 obj:=fun i h ⟨⟨old,he⟩,⟨o1,e1,_,d1⟩⟩ b hb=>by
  simp only [List.mem_cons,List.not_mem_nil,or_false] at hb
  rcases hb with rfl | rfl
  ·exact ⟨_,he,fun v q=>by have q':Data.fields _=Data.cell v:=q; cases q'⟩
  ·exact ⟨_,e1,fun v q=>by rw [d1] at q; cases q⟩
 keep:=fun i h h' ⟨⟨old,he⟩,⟨o1,e1,r1⟩⟩ k=>⟨⟨old,k e (by simp) _ he⟩,⟨o1,k it (by simp) _ e1,r1⟩⟩
 item:=by
  intro X hP hw hK hc i pins s σ H E I hf st hg
  subst hP hw hK
  obtain ⟨xs,hx,lx⟩:=hg
  obtain ⟨⟨old,he⟩,c1⟩:=st
  obtain ⟨u1,v1,p1,_⟩:=I.tuple hx
  have n1:=v1.length
  have ne:∀ b ∈ [e,it],t ≠ b:=fun b hb=>tup_ne I (hf b hb) hx
  have off:∀ b ∈ [e,it],∀ x,(b,x) ∉ X.pn:=fun b hb x m=>(hf b hb).2.2.2.2.2 _ (List.mem_append_left _ m) rfl
  have qI:∀ p ∈ X.pn,s.heap.get? p.1=some p.2:=fun p hp=>(I.pin p (List.mem_append_left _ hp)).1
  have qO:∀ b ∈ [e,it],∀ p ∈ X.pn,p.1 ≠ b:=fun b hb p hp=>(hf b hb).2.2.2.2.2 p (List.mem_append_left _ hp)
  have D1:=draws_tup (prog:=X.prog) (w:=X.w) (A:=X.A.in1) (I.ok.hd hc) it t (ne it (by simp)) (qO it (by simp)) u1.toArray
  refine wpAny_pyNext_enum_itemD D1 he ⟨c1,p1,qI⟩ (by simp; omega) O (by simp [O,(ne e (by simp)).symm,off e (by simp)]) fun x g tk px out s1 pr sz kp=>?_
  refine ⟨_,rfl,wpAny_letOwnedTupleGo_enum out fun g2 z2 sb=>?_⟩
  obtain ⟨x0,ex⟩:∃ x0,xs[i]?=some x0:=⟨xs[i],by simp [lx]⟩
  obtain ⟨x1,ex1,rx⟩:=v1.get ex
  have qx:x1=x:=by
   have:u1.toArray[i]?=some x:=px
   rw [List.getElem?_toArray,ex1] at this
   exact Option.some.inj this
  subst qx
  have elt:e < s.heap.objs.size:=Heap.lt_size he
  have pe:s.heap.objs.size ≠ e:=Nat.ne_of_gt elt
  have sb2:∀ b,b ≠ e->g2.get? b=g.get? b:=fun b hb=>sb.2 b hb
  have keep:∀ b o,b ∉ [e,it]->s.heap.get? b=some o->g2.get? b=some o:=fun b o hb q=>by
   simp only [List.mem_cons,List.not_mem_nil,or_false,not_or] at hb
   rw [sb2 b hb.1]
   exact kp b o hb.1 hb.2 q
  have new:ObjOk X.prog X.w (upd H s.heap.objs.size (.tup [.int (i:Int),x0])) g2 s.heap.objs.size (.tup [.int (i:Int),x0]) :=
   ⟨by show 2<=sizeLine; decide,[.int (i:Int) tk,x1],.cons ⟨tk,rfl⟩ (.cons rx .nil),⟨_,by rw [sb2 _ pe]; exact pr,rfl,0,rfl⟩⟩
  have I2:=inv_recs_new (t':=tk + 1) I hf keep (Nat.le_refl _) new
  have nn:∀ b ∈ [e,it],upd H s.heap.objs.size (.tup [.int (i:Int),x0]) b=none:=fun b hb=>by
   have:b ≠ s.heap.objs.size:=by
    have ob:∃ o,s.heap.get? b=some o:=by
     simp only [List.mem_cons,List.not_mem_nil,or_false] at hb
     obtain ⟨o1,e1,_⟩:=c1
     rcases hb with rfl | rfl
     ·exact ⟨_,he⟩
     ·exact ⟨_,e1⟩
    obtain ⟨o,q⟩:=ob
    exact Nat.ne_of_lt (Heap.lt_size q)
   rw [upd_ne this]
   exact (hf b hb).1
  refine ⟨.ref s.heap.objs.size,_,I2,rfl,⟨_,x0,rfl,I.fresh,rfl,fun xs' h1=>by rw [I.tuple_inj h1 hx]; exact ex⟩,⟨⟨x1,?_⟩,?_⟩,nn⟩
  ·exact z2
  ·exact s1.1.extBut sb.extBut O.symm
 done:=by
  intro X hP hw hK hc i pins s σ H E I hf st hg
  subst hP hw hK
  obtain ⟨xs,hx,rfl⟩:=hg
  obtain ⟨⟨old,he⟩,c1⟩:=st
  obtain ⟨u1,v1,p1,_⟩:=I.tuple hx
  have n1:=v1.length
  have ne:∀ b ∈ [e,it],t ≠ b:=fun b hb=>tup_ne I (hf b hb) hx
  have off:∀ b ∈ [e,it],∀ x,(b,x) ∉ X.pn:=fun b hb x m=>(hf b hb).2.2.2.2.2 _ (List.mem_append_left _ m) rfl
  have qI:∀ p ∈ X.pn,s.heap.get? p.1=some p.2:=fun p hp=>(I.pin p (List.mem_append_left _ hp)).1
  have qO:∀ b ∈ [e,it],∀ p ∈ X.pn,p.1 ≠ b:=fun b hb p hp=>(hf b hb).2.2.2.2.2 p (List.mem_append_left _ hp)
  have D1:=draws_tup (prog:=X.prog) (w:=X.w) (A:=X.A.in1) (I.ok.hd hc) it t (ne it (by simp)) (qO it (by simp)) u1.toArray
  have c1':s.heap.IsTupleIter it t u1.toArray.size:=by
   rw [List.size_toArray,← n1]
   exact c1
  refine wpAny_pyNext_enum_endD D1 he ⟨c1',p1,qI⟩ fun g kp=>⟨rfl,?_⟩
  exact inv_recs (t':=s.toks) I hf fun b o hb q=>by
   simp only [List.mem_cons,List.not_mem_nil,or_false,not_or] at hb
   exact kp b o hb.2 q
 self:=fun _ _ _ _ _ st h=>by
  obtain ⟨⟨old,he⟩,_⟩:=st
  exact wpAny_pyIter_enum he h
section
variable {X:Cx}
inductive iEnum_i (K:PySem.W.Frag) (R:(It->Hp->Prop)) (vs:List V) (H1:Hp):Prop
 | mk (t:_) (zz0:vs=[.ref t]) (zz1:(∃ xs,SqT K H1 t xs)) (zz2:R (Ite K t) H1)
def iEnum (K:PySem.W.Frag) (ta:TA):TI:=fun σ H R=>ta σ H (iEnum_i K R)
theorem pi_enum {a:Expr} {ta:TA} {p pos:Pos} {es:List Expr} {kk:Nat} {tp:Pos} (hg:Gl X "enumerate") (hm:X.mg "enumerate"=none) (ha:PA X [a] ta) (hs:starEach [a] X.env=[(false,eval a X.env)]:=by rfl) :
  PI X (.Tuple es kk tp) (.Call (.Name "enumerate" p) [a] [] pos) (iEnum X.K ta):=by
 intro pins s σ H R I h
 refine Call_ (ld_blt I hg hm boot_enumerate (PyProof.Rows.callWith_type1 (thn (ha pos pins s σ H _ I h) fun us s1 ⟨vs,H1,I1,r1,q1⟩=>?_) hs rfl))
 obtain ⟨t,e,⟨xs,hx⟩,q⟩:=q1
 subst e
 obtain ⟨t0,e0,rt⟩:=vals1 r1
 cases (show t0=Value.ref t from rt)
 subst e0
 obtain ⟨u1,v1,p1,_⟩:=I1.tuple hx
 refine call_enumT (ys:=u1.toArray) p1 fun g z0 i1 sz kp=>?_
 refine wpAny_pyIter_enum z0 ?_
 have I2:Inv X pins σ H1 { s1 with heap:=g }:=I1.kept (t':=s1.toks) kp
 refine ⟨s1.heap.objs.size + 1,[s1.heap.objs.size + 1,s1.heap.objs.size],_,Ite X.K t,H1,rfl,I2,turn_enum (O:=?_) t,⟨⟨_,z0⟩,i1⟩,fun b hb=>?_,q⟩
 ·show @Ne Nat _ _
  omega
 ·have hb':s1.heap.objs.size<=b:=by
   simp only [List.mem_cons,List.not_mem_nil,or_false] at hb
   rcases hb with rfl | rfl
   ·exact Nat.le_add_right _ _
   ·exact Nat.le_refl _
  exact I1.fpOk hb' (I1.hok.fresh hb')
end
end Sb
namespace Sb
open PySem L2
structure Ext (H H':Hp):Prop where
 tup:∀ b xs,H b=some (.tup xs)->H' b=some (.tup xs)
 frz:∀ b o u,H b=some (.frz o u)->H' b=some (.frz o u)
theorem Ext.trans {H H1 H2:Hp} (a:Ext H H1) (b:Ext H1 H2):Ext H H2:=⟨fun c xs h=>b.tup c xs (a.tup c xs h),fun c o u h=>b.frz c o u (a.frz c o u h)⟩
theorem Ext.same {H H':Hp} (x:Same H H'):Ext H H':=⟨fun b _ h=>x b _ h,fun b _ _ h=>x b _ h⟩
theorem Ext.x {a:Addr} {H H':Hp} {ys:List V} (x:SameX a H H') (ha:H a=some (.lst ys)):Ext H H' :=
 ⟨fun b _ h=>x b _ h (ne_of h ha (by intro z; cases z)),fun b _ _ h=>x b _ h (ne_of h ha (by intro z; cases z))⟩
theorem Ext.bag {a:Addr} {n:Nat} {H H':Hp} (x:SameX a H H') (ha:BagAt H a n):Ext H H':=by
 obtain ⟨ys,e⟩:=ha.lst
 exact Ext.x x e
theorem Ext.upd {l:Addr} {H:Hp} {ys:List V} {o:HO} (hl:H l=some (.lst ys)):Ext H (L2.upd H l o):=Ext.x (SameX.upd l H o) hl
theorem Ext.new {l:Addr} {H:Hp} {o:HO} (hl:H l=none):Ext H (L2.upd H l o):=Ext.same (Same.new hl)
theorem Ext.sq {K:PySem.W.Frag} {H H':Hp} {a:Addr} {xs:List V} (e:Ext H H') (h:SqT K H a xs):SqT K H' a xs:=by
 rcases h with (h | ⟨o,h⟩) | h
 ·exact .inl (.inl (e.tup _ _ h))
 ·exact .inl (.inr ⟨o,e.frz _ _ _ h⟩)
 ·exact .inr h
abbrev Rat:=Int × Int
def IsR (K:PySem.W.Frag) (H:Hp) (r:Rat) (v:V):Prop:=∃ b,v=.ref b/\SqT K H b [.int r.1,.int r.2]
theorem IsR.ext {K:PySem.W.Frag} {H H':Hp} {r:Rat} {v:V} (h:IsR K H r v) (e:Ext H H'):IsR K H' r v:=by
 obtain ⟨b,q,h⟩:=h
 exact ⟨b,q,e.sq h⟩
def Rs (K:PySem.W.Frag) (H:Hp) (rs:List Rat) (xs:List V):Prop:=Paired (IsR K H) rs xs
theorem Rs.ext {K:PySem.W.Frag} {H H':Hp} {rs:List Rat} {xs:List V} (h:Rs K H rs xs) (e:Ext H H'):Rs K H' rs xs:=Paired.mapP h fun _ _ q=>q.ext e
theorem Rs.snoc {K:PySem.W.Frag} {H:Hp} {rs:List Rat} {xs:List V} {r:Rat} {v:V} (h:Rs K H rs xs) (q:IsR K H r v):Rs K H (rs ++ [r]) (xs ++ [v]):=Paired.snoc h q
theorem Rs.len {K:PySem.W.Frag} {H:Hp} {rs:List Rat} {xs:List V} (h:Rs K H rs xs):rs.length=xs.length:=Paired.length h
theorem Rs.at {K:PySem.W.Frag} {H:Hp}:∀ {rs:List Rat} {xs:List V} {i:Nat} {r:Rat},Rs K H rs xs->rs[i]?=some r->∃ v,xs[i]?=some v/\IsR K H r v
 | _,_,_,_,.nil,e=>by simp at e
 | _,_,0,_,.cons q _,e=>by
  simp at e
  subst e
  exact ⟨_,rfl,q⟩
 | _,_,i + 1,r,.cons _ t,e=>by
  obtain ⟨v,h1,h2⟩:=Rs.at (i:=i) (r:=r) t (by simpa using e)
  exact ⟨v,by simpa using h1,h2⟩
theorem Rs.back {K:PySem.W.Frag} {H:Hp} {rs:List Rat} {xs:List V} {i:Nat} {v:V} (h:Rs K H rs xs) (e:xs[i]?=some v):∃ r,rs[i]?=some r/\IsR K H r v:=by
 have hi:i < xs.length:=(List.getElem?_eq_some_iff.mp e).1
 have hr:i < rs.length:=by rw [h.len]; exact hi
 obtain ⟨w,h1,h2⟩:=h.at (i:=i) (r:=rs[i]) (by simp [hr])
 rw [e] at h1
 cases h1
 exact ⟨_,by simp [hr],h2⟩
def RowAt (K:PySem.W.Frag) (H:Hp) (a:Addr) (rs:List Rat):Prop:=∃ xs,SqT K H a xs/\Rs K H rs xs
theorem RowAt.ext {K:PySem.W.Frag} {H H':Hp} {a:Addr} {rs:List Rat} (h:RowAt K H a rs) (e:Ext H H'):RowAt K H' a rs:=by
 obtain ⟨xs,h1,h2⟩:=h
 exact ⟨xs,e.sq h1,h2.ext e⟩
structure Good (n:Nat) (r:Rat):Prop where
 b1:Bd n r.1
 b2:Bd n r.2
 pos:0 < r.2
 cop:Int.gcd r.1 r.2=1
theorem Good.mono {m n:Nat} {r:Rat} (h:Good m r) (k:m<=n):Good n r:=⟨h.b1.mono k,h.b2.mono k,h.pos,h.cop⟩
def nrm (p q:Int):Rat:=(nT p q,nB p q)
theorem nrm_good {n:Nat} {p q:Int} (hp:Bd n p) (hq:Bd n q) (h:q ≠ 0):Good n (nrm p q):=⟨hp.of_le' (nT_le h),hq.of_le' (nB_le h),nB_pos h,n_gcd h⟩
def addR (r s:Rat):Rat:=nrm (r.1 * s.2 + s.1 * r.2) (r.2 * s.2)
def subR (r s:Rat):Rat:=nrm (r.1 * s.2 - s.1 * r.2) (r.2 * s.2)
def mulR' (r s:Rat):Rat:=nrm (r.1 * s.1) (r.2 * s.2)
theorem mul_ne {a b:Int} (ha:0 < a) (hb:0 < b):a * b ≠ 0:=by
 have:=Int.mul_pos ha hb
 omega
end Sb
namespace Sb
open PySem PySem.Spec PyProof.Rows L2
set_option maxRecDepth 100000
theorem noFill_tuple_mul:fillsNumberSlot (.type "tuple") "mul"=pure false :=
 PySem.fillsNumberSlot_seq (id:="tuple.__mul__") (r:=some (.builtin "tuple.__rmul__")) F.slot_tuple_mul.lookup (by decide +kernel) F.slot_tuple_rmul.lookup (by decide +kernel)
theorem repeat_tuple:seqRepeat? (.type "tuple")=pure (some (.builtin "tuple.__mul__")):=by
 unfold seqRepeat?
 rw [PySem.seqSlot_of (T:="tuple") (name:="__mul__") (id:="tuple.__mul__") F.slot_tuple_mul.lookup (by decide +kernel),PySem.seqSlot_of (T:="tuple") (name:="__rmul__") (id:="tuple.__rmul__") F.slot_tuple_rmul.lookup (by decide +kernel)]
 rfl
theorem rmul_declines (a:Int) (t:Tok) (l:Addr) (items:Array Value) (n:Nat) (dd:Option Addr) (sl:Array (Option Value)) :
  Meets (Builtin.«int.__rmul__» ⟨[.int a t,.ref l],[]⟩) (fun _ R s=>s.heap.get? l=some { cls:=.type "tuple",dict:=dd,data:=.seq items n,slots:=sl }/\R (.ok (.ret Value.notImplemented)) s) :=
 .of_wp fun prog w A R s h=>by obtain ⟨hp,g,d,tk,os⟩:=s; obtain ⟨hl,h⟩:=h; wp_walk; exact ⟨_,rfl,h⟩
theorem tuple_mul (l:Addr) (items:Array Value) (n:Nat) (dd:Option Addr) (sl:Array (Option Value)) (x:Int) (u:Tok) (h1:2<=x) (h2:items.isEmpty=false) (h3:items.size * x.toNat<=1000) :
  Meets (Builtin.«tuple.__mul__» ⟨[.ref l,.int x u],[]⟩) (fun _ R s=>s.heap.get? l=some { cls:=.type "tuple",dict:=dd,data:=.seq items n,slots:=sl } ∧
   R (.ok (.ret (Value.ref s.heap.objs.size))) { s with heap:=s.heap.push { cls:=Value.type "tuple",data:=Data.seq (List.foldl (· ++ ·) #[] (List.replicate x.toNat items)) } }) :=
 .of_wp fun prog w A R s h=>by
  obtain ⟨hp,g,d,tk,os⟩:=s; obtain ⟨hl,h⟩:=h
  have f1:=AutoSeq1.idx_int
  have f2:=AutoSeq1.sub_tuple_tuple
  have b1:(items.size:Int) * x<=1000:=by
   have e:x=(x.toNat:Int):=by omega
   rw [e,← Int.natCast_mul]
   omega
  have b2:0 < items.size:=by
   cases items with
   | mk l=>cases l with
    | nil=>simp at h2
    | cons a r=>simp
  have b3:x<=1000:=by
   have:(1:Int) * x<=(items.size:Int) * x:=Int.mul_le_mul_of_nonneg_right (by omega) (by omega)
   omega
  have c0:¬ (decide (x < -2 ^ 63) || decide (x ≥ 2 ^ 63))=true:=by simp; omega
  have c1:¬ (items.isEmpty || x == 1)=true:=by rw [h2]; simp; omega
  have c2:¬ (decide (x<=0) || items.isEmpty)=true:=by rw [h2]; simp; omega
  have c3:¬ ((items.size:Int) * x > (2 ^ 63 - 1) / 8):=by
   have:(1000:Int)<=(2 ^ 63 - 1) / 8:=by decide
   omega
  have c4:¬ Builtin.Tuple.tupleTooMany ((items.size:Int) * x)=true:=by
   unfold Builtin.Tuple.tupleTooMany
   have:((items.size:Int) * x).toNat<=1000:=by omega
   have:(1000:Nat)<=sizeLine:=by decide
   simp
   omega
  have c5:(List.foldl (fun x1 x2=>x1 ++ x2) #[] (List.replicate x.toNat items)).size<=sizeLine:=by
   rw [AutoSeq1.size_joined]
   have:(1000:Nat)<=sizeLine:=by decide
   have e:x.toNat * items.size=items.size * x.toNat:=Nat.mul_comm ..
   simp
   omega
  wp_walk using wpAny_loadPart' hl
  refine wpAny_ite_false (decide_eq_false c0) ?_
  wp_walk using wpAny_loadPart' hl
  refine wpAny_ite_false (decide_eq_false c1) ?_
  wp_walk using wpAny_loadPart' hl
  refine wpAny_ite_false (decide_eq_false c2) ?_
  wp_walk using wpAny_loadPart' hl
  refine wpAny_ite_false (decide_eq_false c3) ?_
  wp_walk using wpAny_loadPart' hl
  exact ⟨_,rfl,h⟩
section
variable {X:Cx} {K:PySem.W.Frag}
inductive rRepT (K:PySem.W.Frag) (x:V) (y:V) (H:Hp) (Q:VK):Prop
 | mk (a k xs:_) (zz0:x=.ref a) (zz1:y=.int k) (zz2:SqT K H a xs) (zz3:2<=k) (zz4:xs ≠ []) (zz5:xs.length * k.toNat<=1000) (zz6:∀ p,H p=none->Q (.ref p) (upd H p (.tup (List.replicate k.toNat xs).flatten)))
theorem op_repT:OpR X (binaryOp .Mult) (rRepT X.K):=by
 intro pins s σ H x y v u Q I rx ry h
 obtain ⟨l,k,xs,rfl,rfl,hq,h1,h2,h3,q⟩:=h
 cases rx
 obtain ⟨t,rfl⟩:=ry
 obtain ⟨its,r,pl,hz⟩:=I.tuple hq
 obtain ⟨⟨cls,dd,data,sl⟩,ho,hc,n,hd⟩:=id pl
 simp only at hc hd
 subst hc hd
 have hl:=r.length
 have he:its.toArray.isEmpty=false:=by
  cases its with
  | nil=>cases r; exact absurd rfl h2
  | cons a b=>rfl
 have hnew:List.foldl (fun x1 x2=>x1 ++ x2) #[] (List.replicate k.toNat its.toArray)=(List.replicate k.toNat its).flatten.toArray:=by
  have:=foldl_rep its k.toNat []
  rw [List.nil_append] at this
  exact this
 refine wpAny_binaryOp_repeat_ref (T:="tuple") (U:="int") (by decide) ⟨_,ho,rfl⟩ (fun s'=>typeIs_int s' k t) noFill_tuple_mul F.fills_int_mul F.slot_int_rmul repeat_tuple F.slot_int_index.lookup
  (call_meets F.slot_int_rmul (typeIs_int s k t) F.entry_int_rmul (F.args_int_rmul_2 _ _) (rmul_declines k t l its.toArray n dd sl)
   ⟨ho,rfl,⟨_,ho,rfl⟩,call_meets F.slot_tuple_mul ⟨_,ho,rfl⟩ F.entry_tuple_mul (F.args_tuple_mul_2 _ _) (tuple_mul l its.toArray n dd sl k t h1 he (by rw [List.size_toArray,← hl]; exact h3)) ⟨ho,?_⟩⟩)
 rw [hnew]
 refine ⟨.ref s.heap.objs.size,_,I.laid (t':=s.toks) (o:=.tup (List.replicate k.toNat xs).flatten) (fun b ob q=>Heap.get?_push_of_some _ q) (Nat.le_refl _) ?_,rfl,q _ (I.hok.fresh (Nat.le_refl _))⟩
 exact ⟨by rw [len_rep,Nat.mul_comm]; exact Nat.le_trans h3 (by decide),_,r.rep k.toNat,IsTup.new _ _⟩
inductive rEqI (K:PySem.W.Frag) (x:V) (y:V) (H:Hp) (Q:VK):Prop
 | mk (a b:Addr) (ns ms:List Int) (zz0:x=.ref a) (zz1:y=.ref b) (zz2:SqT K H a (ns.map V.int)) (zz3:SqT K H b (ms.map V.int)) (zz4:Q (.bl (decide (ns=ms))) H)
theorem all_eq (ns ms:List Int):((List.range (min ns.length ms.length)).all (fun j=>ns.getD j 0 == ms.getD j 0) && ns.length == ms.length)=decide (ns=ms):=by
 rw [Bool.eq_iff_iff]
 simp only [Bool.and_eq_true,List.all_eq_true,List.mem_range,beq_iff_eq,decide_eq_true_eq]
 constructor
 ·rintro ⟨h,hl⟩
  refine List.ext_getElem hl fun i h1 h2=>?_
  have:=h i (by omega)
  simpa [List.getD,h1,h2] using this
 ·rintro rfl
  exact ⟨fun _ _=>rfl,rfl⟩
theorem ints_at {ns:List Int} {us:List Value} (r:Vals (ns.map V.int) us) {j:Nat} (h:j < us.length):∃ t,us[j]=Value.int (ns.getD j 0) t:=by
 have hl:=r.length
 rw [List.length_map] at hl
 have hj:j < ns.length:=by omega
 obtain ⟨u,e,q⟩:=r.get (i:=j) (show (ns.map V.int)[j]?=some (V.int ns[j]) by simp [hj])
 obtain ⟨t,rfl⟩:=q
 have e2:us[j]?=some us[j]:=by simp [h]
 rw [e2] at e
 refine ⟨t,?_⟩
 rw [Option.some.inj e]
 simp [List.getD,hj]
theorem op_eqI (hu:X.A.units < cLine) (hK:X.K=K:=by rfl):OpR X (compareOp .Eq) (rEqI K):=by
 subst hK
 intro pins s σ H x y v u Q I rx ry h
 obtain ⟨a,b,ns,ms,rfl,rfl,ha,hb,q⟩:=h
 cases rx
 cases ry
 obtain ⟨its,r1,p1,_⟩:=I.tuple ha
 obtain ⟨its2,r2,p2,_⟩:=I.tuple hb
 have l1:=r1.length
 have l2:=r2.length
 rw [List.length_map] at l1 l2
 refine SeqAt.eq_tupleAt (e:=fun j=>ns.getD j 0 == ms.getD j 0) p1 p2 hu (fun j h1 h2=>?_) ?_
 ·obtain ⟨t,e1⟩:=ints_at r1 (j:=j) (by simpa using h1)
  obtain ⟨t',e2⟩:=ints_at r2 (j:=j) (by simpa using h2)
  have e1':its.toArray[j]=Value.int (ns.getD j 0) t:=by simpa using e1
  have e2':its2.toArray[j]=Value.int (ms.getD j 0) t':=by simpa using e2
  rw [e1',e2']
  exact SeqAt.EqAt.int_int _ _ _ _
 ·rw [List.size_toArray,List.size_toArray,← l1,← l2,all_eq]
  exact ⟨.bl _,H,I,rfl,q⟩
theorem op_inK (h:X.K=K:=by rfl):OpR X (compareOp .In) (rIn K false):=h ▸ op_in_seq
end
theorem inV_ints (i:Int) (ns:List Int):inV (.int i) (ns.map V.int)=decide (i ∈ ns):=by
 unfold inV
 rw [List.any_map,Bool.eq_iff_iff]
 simp only [List.any_eq_true,decide_eq_true_eq,Function.comp]
 constructor
 ·rintro ⟨x,hx,e⟩
  have:x=i:=by simpa [eqV] using e
  exact this ▸ hx
 ·intro h
  exact ⟨i,h,by simp [eqV]⟩
theorem flat_ints (ns:List Int):(ns.map V.int).all flatV=true:=by
 rw [List.all_map,List.all_eq_true]
 intro x _
 rfl
end Sb
namespace Sb
open PySem L2
def Con (K:PySem.W.Frag) (mg:Str->Option Value) (x:Str) (r:Rat):Prop:=∃ a:Addr,mg x=some (.ref a)/\∀ H,SqT K H a [.int r.1,.int r.2]
theorem con_mk {K:PySem.W.Frag} {h:Heap} {mg:Str->Option Value} {x:Str} {a:Addr} {i j:Int} {t1 t2:Tok} {n:Nat} {dd:Option Addr} {sl:Array (Option Value)} (X:K.In h) (G:h.Ns mainGlobals mg)
  (e:PySem.W.nsIn K mainGlobals x=some (some (.ref a))) (l:K.lookup a=some ⟨.type "tuple",dd,.seq #[.int i t1,.int j t2] n,sl⟩):Con K mg x (i,j) :=
 ⟨a,PySem.W.mg_of X G e,fun H=>.inr ⟨_,_,_,l,rfl,rfl,(by show 2<=sizeLine; decide),.cons ⟨_,rfl⟩ (.cons ⟨_,rfl⟩ .nil)⟩⟩
def evI (c:Nat) (p:Nat->Bool):List Int:=((List.range c).filter p).map fun (w:Nat)=>(w:Int)
def EvAt (K:PySem.W.Frag) (H:Hp) (c:Nat) (o:Option (Nat->Bool)) (v:V):Prop:=match o with
 | none=>v=.non
 | some p=>∃ a,v=.ref a/\SqT K H a ((evI c p).map V.int)
theorem EvAt.ext {K:PySem.W.Frag} {H H':Hp} {c:Nat} {o:Option (Nat->Bool)} {v:V} (h:EvAt K H c o v) (e:Ext H H'):EvAt K H' c o v:=by
 cases o with
 | none=>exact h
 | some p=>obtain ⟨a,q,h⟩:=h; exact ⟨a,q,e.sq h⟩
theorem EvAt.same {K:PySem.W.Frag} {H H':Hp} {c:Nat} {o:Option (Nat->Bool)} {v:V} (h:EvAt K H c o v) (e:Same H H'):EvAt K H' c o v:=h.ext (Ext.same e)
def inE (o:Option (Nat->Bool)) (i:Nat):Bool:=match o with
 | none=>true
 | some p=>p i
theorem mem_evI {c:Nat} {p:Nat->Bool} {i:Nat}:((i:Int) ∈ evI c p) ↔ i < c/\p i=true:=by
 unfold evI
 simp only [List.mem_map,List.mem_filter,List.mem_range]
 constructor
 ·rintro ⟨j,h,e⟩
  have:j=i:=by omega
  exact this ▸ h
 ·intro h
  exact ⟨i,h,rfl⟩
theorem evI_succ (c:Nat) (p:Nat->Bool):evI (c + 1) p=evI c p ++ if p c then [(c:Int)] else []:=by
 unfold evI
 rw [List.range_succ,List.filter_append,List.map_append]
 congr 1
 cases h:p c <;> simp [h]
theorem evI_congr {c:Nat} {p q:Nat->Bool} (h:∀ i,i < c->p i=q i):evI c p=evI c q:=by
 unfold evI
 congr 1
 apply List.filter_congr
 intro x hx
 exact h x (List.mem_range.mp hx)
theorem iteD1 {c A B:Prop} [Decidable c] (hc:c) (h:A):if decide c=true then A else B:=by rw [decide_eq_true hc]; exact iteT h
theorem iteD0 {c A B:Prop} [Decidable c] (hc:¬ c) (h:B):if decide c=true then A else B:=by rw [decide_eq_false hc]; exact iteF h
theorem iteB {b:Bool} {A B:Prop} (h1:b=true->A) (h0:b=false->B):if b=true then A else B:=by
 cases b with
 | true=>exact iteT (h1 rfl)
 | false=>exact iteF (h0 rfl)
theorem take_snoc {α:Type} {l:List α} {i:Nat} {x:α} (h:l[i]?=some x):l.take (i + 1)=l.take i ++ [x]:=by rw [List.take_add_one,h]; rfl
def cutR (o:Option (Nat->Bool)) (rs:List Rat):List Rat:=rs.mapIdx fun i r=>if inE o i then r else (0,1)
theorem cutR_at {o:Option (Nat->Bool)} {rs:List Rat} {i:Nat} {r:Rat} (h:rs[i]?=some r):(cutR o rs)[i]?=some (if inE o i then r else (0,1)):=by
 unfold cutR
 rw [List.getElem?_mapIdx,h]
 rfl
theorem cutR_len (o:Option (Nat->Bool)) (rs:List Rat):(cutR o rs).length=rs.length:=by unfold cutR; simp
end Sb
namespace Sb
open PySem L2
def zipR {α:Type} (op:Rat->Rat->α) (rs ss:List Rat) (i:Nat):List α:=List.zipWith op (rs.take i) (ss.take i)
theorem zipR_succ {α:Type} (op:Rat->Rat->α) {rs ss:List Rat} {i:Nat} {r s:Rat} (hr:rs[i]?=some r) (hs:ss[i]?=some s):zipR op rs ss (i + 1)=zipR op rs ss i ++ [op r s]:=by
 have lr:i < rs.length:=(List.getElem?_eq_some_iff.mp hr).1
 have ls:i < ss.length:=(List.getElem?_eq_some_iff.mp hs).1
 unfold zipR
 rw [List.take_add_one,List.take_add_one,hr,hs,List.zipWith_append (by simp; omega)]
 rfl
theorem zipR_all {α:Type} (op:Rat->Rat->α) {rs ss:List Rat} {n:Nat} (hr:rs.length=n) (hs:ss.length=n):zipR op rs ss n=List.zipWith op rs ss:=by
 unfold zipR
 rw [List.take_of_length_le (by omega),List.take_of_length_le (by omega)]
def mapR {α:Type} (op:Rat->α) (rs:List Rat) (i:Nat):List α:=(rs.take i).map op
theorem mapR_succ {α:Type} (op:Rat->α) {rs:List Rat} {i:Nat} {r:Rat} (hr:rs[i]?=some r):mapR op rs (i + 1)=mapR op rs i ++ [op r]:=by
 unfold mapR
 rw [List.take_add_one,hr,List.map_append]
 rfl
theorem mapR_all {α:Type} (op:Rat->α) {rs:List Rat} {n:Nat} (hr:rs.length=n):mapR op rs n=rs.map op:=by
 unfold mapR
 rw [List.take_of_length_le (by omega)]
end Sb
namespace Sb
open PySem L2
end Sb
namespace Sb
open PySem PySem.Spec PyProof.Rows L2
section
variable {X:Cx} {tg:Expr} {K:PySem.W.Frag}
def iSeq (K:PySem.W.Frag) (tl:TE):TI:=fun σ H R=>tl σ H fun x H1=>∃ a,x=.ref a/\(((∃ xs,SqL K H1 a xs)/\R (Itl K a) H1) \/ ((∃ xs,SqT K H1 a xs)/\R (Itt K a) H1))
theorem pi_seq {l:Expr} {tl:TE} (hl:PE X l tl):PI X tg l (iSeq X.K tl):=by
 intro pins s σ H R I h
 refine thn (hl pins s σ H _ I h) fun v s1 ⟨x,H1,I1,r1,q1⟩=>?_
 obtain ⟨a,e,⟨⟨xs,hq⟩,q⟩ | ⟨⟨xs,hq⟩,q⟩⟩:=q1
 ·subst e
  cases r1
  obtain ⟨its,rv,p,hz⟩:=I1.list hq
  refine wpAny_pyIter_list p.isList ?_
  refine ⟨s1.heap.objs.size,[s1.heap.objs.size],_,_,H1,rfl,I1.kept (t':=s1.toks) fun b o e=>Heap.get?_push_of_some _ e,turn_list a _,⟨_,Heap.get?_push_size _ rfl,rfl,rfl⟩,fun b hb=>?_,q⟩
  have e:b=s1.heap.objs.size:=by simpa using hb
  subst e
  exact I1.fpOk (Nat.le_refl _) (I1.hok.fresh (Nat.le_refl _))
 ·subst e
  cases r1
  obtain ⟨its,rv,p,hz⟩:=I1.tuple hq
  refine wpAny_pyIter_tuple (show s1.heap.IsTuple a its.toArray from p) ?_
  refine ⟨s1.heap.objs.size,[s1.heap.objs.size],_,_,H1,rfl,I1.kept (t':=s1.toks) fun b o e=>Heap.get?_push_of_some _ e,turn_tuple a _,⟨_,Heap.get?_push_size _ rfl,rfl,rfl⟩,fun b hb=>?_,q⟩
  have e:b=s1.heap.objs.size:=by simpa using hb
  subst e
  exact I1.fpOk (Nat.le_refl _) (I1.hok.fresh (Nat.le_refl _))
theorem for_seq {a:Addr} {xs:List V} {g:TG} {tb:TS} {D:Ends} {σ:L2.St} {H:Hp} (Pv:Nat->L2.St->Hp->Prop) (hx:SqL K H a xs \/ SqT K H a xs) (h0:Pv 0 σ H) (hS:∀ i σ H',i<=xs.length->Pv i σ H'->Same H H')
  (hs:∀ i x σ H,xs[i]?=some x->Pv i σ H->g x σ H fun σ2 H2=>tb { D with nx:=Pv (i + 1),ct:=Pv (i + 1),bk:=D.nx } σ2 H2) (hd:∀ σ H,Pv xs.length σ H->D.nx σ H) :
  ∃ b,V.ref a=.ref b/\(((∃ xs,SqL K H b xs)/\∃ W:Nat->Nat->L2.St->Hp->Prop,(∃ m,W 0 m σ H)/\∀ i m σ H,W i m σ H →
   ((Itl K b).stop i H/\D.nx σ H) \/ ((Itl K b).go i H/\∃ N:L2.St->Hp->Prop,(∀ σ' H',N σ' H'->∃ m',m' < m/\W (i + 1) m' σ' H')/\∀ x H',(Itl K b).yld i H x H'->g x σ H' fun σ2 H2=>tb { D with nx:=N,ct:=N,bk:=D.nx } σ2 H2)) ∨
   ((∃ xs,SqT K H b xs)/\∃ W:Nat->Nat->L2.St->Hp->Prop,(∃ m,W 0 m σ H)/\∀ i m σ H,W i m σ H →
   ((Itt K b).stop i H/\D.nx σ H) \/ ((Itt K b).go i H/\∃ N:L2.St->Hp->Prop,(∀ σ' H',N σ' H'->∃ m',m' < m/\W (i + 1) m' σ' H')/\∀ x H',(Itt K b).yld i H x H'->g x σ H' fun σ2 H2=>tb { D with nx:=N,ct:=N,bk:=D.nx } σ2 H2))):=by
 refine ⟨a,rfl,?_⟩
 rcases hx with hx | hx
 ·exact .inl ⟨⟨_,hx⟩,for_list (K:=K) (a:=a) (xs:=xs) Pv h0 (fun i σ H' hi p=>by
   rcases hx with (z | ⟨o,z⟩) | z
   ·exact .inl (.inl (hS i σ H' hi p _ _ z))
   ·exact .inl (.inr ⟨o,hS i σ H' hi p _ _ z⟩)
   ·exact .inr z) hs hd⟩
 ·exact .inr ⟨⟨_,hx⟩,for_tup (K:=K) (a:=a) (xs:=xs) Pv h0 (fun i σ H' hi p=>sameT (hS i σ H' hi p) hx) hs hd⟩
theorem call_sumL (hc:X.calm=true) (hK:X.K=K:=by rfl):CallR X (.builtin "sum") (fun xs H Q=>∃ (p:Addr) (ns:List Int),xs=[.ref p]/\SqL K H p (ns.map V.int)/\Q (.int ns.sum) H):=by
 subst hK
 intro pins s σ H xs us Q I r h
 obtain ⟨p,ns,rfl,hs,q⟩:=h
 obtain ⟨u,e0,rx⟩:=vals1 r
 cases (show u=Value.ref p from rx)
 subst e0
 obtain ⟨its,rv,pl,hz⟩:=I.list hs
 have hi:IntsAre its ns:=intsAre_of rv
 obtain ⟨ys,ey⟩:=hi.allInts.items
 have en:(numsOf its.toArray.toList)=ns:=hi.numsOf
 have lp:s.heap.IsList p (intItems ys):=by rw [← ey]; exact pl.isList
 rw [ey,nums_intItems] at en
 refine sum_q (I.ok.hd hc) (fun p hp=>(I.pin p (List.mem_append_left _ hp)).1) lp fun h' tk t' hk=>⟨.int ns.sum,H,I.kept (t':=tk) hk,⟨t',?_⟩,q⟩
 rw [preSum_eq,List.take_of_length_le (by simp),en]
end
end Sb
namespace Sb
open PySem L2
theorem sameL {K:PySem.W.Frag} {H H':Hp} {a:Addr} {xs:List V} (e:Same H H') (h:SqL K H a xs):SqL K H' a xs:=by
 rcases h with (h | ⟨o,h⟩) | h
 ·exact .inl (.inl (e _ _ h))
 ·exact .inl (.inr ⟨o,e _ _ h⟩)
 ·exact .inr h
end Sb
namespace Sb
open PySem PySem.Spec PyProof.Rows L2
abbrev bmV:List Value:=[.type "ValueError",.type "Exception",.type "BaseException",.type "object"]
end Sb
namespace Sb
open PySem PySem.Spec PyProof.Rows L2
section
variable {P:Program} {w:World} {K:PySem.W.Frag} {mg:Str->Option Value} {base:Heap} {N:List Str} {qual:Str} {scope:Scope} {f:Addr} {cd:Value} {A:Around} {outer:List Env} {s:Shared} {H:Hp} {E:XK}
end
end Sb
namespace Sb
open PySem PySem.Spec PyProof.Rows L2
structure CatchBy (K:PySem.W.Frag) (C D:Addr):Prop where
 nt:PySem.W.instIn K (.ref D) (.type "tuple")=some false
 be:PySem.W.subIn K (.ref D) (.type "BaseException")=some true
 it:PySem.W.kitOne K (.type "int") (.ref D)=some false
 sub:PySem.W.subIn K (.ref C) (.ref D)=some true
end Sb
namespace Sb
open PySem PySem.Spec PyProof.Rows L2
section
variable {X:Cx} {k:Nat} {x:Str} {ps:List Str} {sp:Sp} {e:Expr} {es:List Expr} {t:TA} {p pos:Pos} {EX:L2.St->XK}
end
section
variable {X:Cx} {pins pins' pn:List (Addr × Obj)} {σ:L2.St} {H:Hp} {s:Shared} {E:Value->Shared->Prop} {a:Addr}
end
section
variable {X:Cx} {x:Str} {C D:Addr} {body:List Stmt} {b₀:Stmt} {suite:List Stmt} {np hp pos:Pos} {tb:(L2.St->XK)->TS} {ts:TS}
end
end Sb
namespace Sb
open PySem PySem.Spec PyProof.Rows L2
end Sb
namespace Sb
open PySem PySem.Spec PyProof.Rows L2
open PySem.W (Looks findIn specialIn takesIn mroIn clsIn InstAt findObj KitX)
section
variable {K:PySem.W.Frag} {C x:Addr} {prog:Program} {w:World} {A:Around} {E:Value->Shared->Prop} {h:Heap} {g:Array GenState} {d:Drawn} {t:Nat} {os:OsState}
end
section
variable {X:Cx} {K:PySem.W.Frag}
end
end Sb
namespace Sb
open PySem PySem.Spec PyProof.Rows L2
section
variable {X:Cx} {pins:List (Addr × Obj)} {σ:L2.St} {H:Hp} {s:Shared}
end
section
variable {X:Cx} {x n:Str} {i:Nat} {C D:Addr} {body:List Stmt} {b₀:Stmt} {suite:List Stmt} {np hp pos:Pos} {tb:(L2.St->XK)->TS} {ts:TS}
end
end Sb
namespace Sb
open PySem PySem.Spec PyProof.Rows L2
theorem Paired.getB {α β:Type} {R:α->β->Prop}:∀ {xs:List α} {ys:List β} {i:Nat} {x:α} {y:β},Paired R xs ys->xs[i]?=some x->ys[i]?=some y->R x y
 | _,_,_,_,_,.nil,e,_=>by simp at e
 | _,_,0,_,_,.cons q _,e,e'=>by
  simp at e e'
  subst e e'
  exact q
 | _,_,i + 1,x,y,.cons _ t,e,e'=>Paired.getB (i:=i) t (by simpa using e) (by simpa using e')
section
variable {X:Cx} {pins:List (Addr × Obj)} {σ:L2.St} {H:Hp} {s:Shared} {K:PySem.W.Frag}
end
end Sb
namespace Sb
open PySem PySem.Builtin.SmallTypes
abbrev yH1 (h:Heap) (t:Addr):Heap:=h.push { cls:=.type "list_iterator",data:=.fields #[.ref t,.int 0 0] }
abbrev yH2 (h:Heap) (t u:Addr):Heap:=(yH1 h t).push { cls:=.type "list_iterator",data:=.fields #[.ref u,.int 0 0] }
abbrev yH3 (h:Heap) (t u:Addr):Heap:=(yH2 h t u).push { cls:=.type "tuple",data:=.seq #[.ref h.objs.size,.ref (yH1 h t).objs.size] }
abbrev yH4 (h:Heap) (t u:Addr):Heap:=(yH3 h t u).push { cls:=.type "tuple",data:=.seq #[.none,.none] }
abbrev yH5 (h:Heap) (t u:Addr):Heap:=(yH4 h t u).push { cls:=.type "zip",data:=.fields #[.none,.bool false,.bool false,.ref (yH2 h t u).objs.size,.ref (yH3 h t u).objs.size] }
theorem meets_zipL (t u:Addr) (xs ys:Array Value):Meets (Builtin.«zip.__new__» ⟨[.type "zip",.ref t,.ref u],[]⟩) (fun _ R s=>s.heap.IsList t xs/\s.heap.IsList u ys ∧
  R (.ok (.ret (.ref (yH4 s.heap t u).objs.size))) { s with heap:=yH5 s.heap t u }) :=
 .of_wp fun prog w A R s h=>by
  obtain ⟨hp,g,d,tk,os⟩:=s
  obtain ⟨h1,h2,h⟩:=h
  have hsub:=sub_zip
  have T1:Heap.IsList (Shared.heap ⟨hp,g,d,tk,os⟩) t xs:=h1
  have T2:Heap.IsList (Shared.heap ⟨hp.push { cls:=.type "list_iterator",data:=.fields #[.ref t,.int 0 0] },g,d,tk,os⟩) u ys:=Heap.IsList.push h2 _
  wp_walk using wpAny_pyIter_list T1,wpAny_pyIter_list T2
  exact ⟨_,rfl,h⟩
theorem call_zipL {prog:Program} {w:World} {A:Around} {E:Value->Shared->Prop} {s:Shared} {t u:Addr} {xs ys:Array Value} {Q:Value->Shared->Prop} (h1:s.heap.IsList t xs) (h2:s.heap.IsList u ys)
  (h:∀ h',IsZip h' (s.heap.objs.size + 4) (s.heap.objs.size + 2) (s.heap.objs.size + 3) .none->IsPair h' (s.heap.objs.size + 2) (.ref s.heap.objs.size) (.ref (s.heap.objs.size + 1))->IsPair h' (s.heap.objs.size + 3) .none .none →
   h'.IsListIter s.heap.objs.size t 0->h'.IsListIter (s.heap.objs.size + 1) u 0->h'.objs.size=s.heap.objs.size + 5->(∀ c o,s.heap.get? c=some o->h'.get? c=some o)->Q (.ref (s.heap.objs.size + 4)) { s with heap:=h' }) :
  wpAny (model prog w) A (call (.type "zip") [.ref t,.ref u]) Q E s:=by
 refine callType_new F.called_zip (by decide) (F.typeCall_zip_2 _ _) (F.newCall_zip_2 _ _) (fun obj=>F.args_object_init_3 obj _ _) F.entry_zip_new (meets_zipL t u xs ys) ⟨h1,h2,?_⟩
 have e1:(yH1 s.heap t).objs.size=s.heap.objs.size + 1:=Heap.size_push ..
 have e2:(yH2 s.heap t u).objs.size=s.heap.objs.size + 2:=by rw [Heap.size_push,e1]
 have e3:(yH3 s.heap t u).objs.size=s.heap.objs.size + 3:=by rw [Heap.size_push,e2]
 have e4:(yH4 s.heap t u).objs.size=s.heap.objs.size + 4:=by rw [Heap.size_push,e3]
 have e5:(yH5 s.heap t u).objs.size=s.heap.objs.size + 5:=by rw [Heap.size_push,e4]
 have p5:(yH5 s.heap t u).get? (yH4 s.heap t u).objs.size=some _:=Heap.get?_push_size _ rfl
 have p4:(yH5 s.heap t u).get? (yH3 s.heap t u).objs.size=some _:=Heap.get?_push_of_some _ (Heap.get?_push_size _ rfl)
 have p3:(yH5 s.heap t u).get? (yH2 s.heap t u).objs.size=some _:=Heap.get?_push_of_some _ (Heap.get?_push_of_some _ (Heap.get?_push_size _ rfl))
 have p2:(yH5 s.heap t u).get? (yH1 s.heap t).objs.size=some _:=Heap.get?_push_of_some _ (Heap.get?_push_of_some _ (Heap.get?_push_of_some _ (Heap.get?_push_size _ rfl)))
 have p1:(yH5 s.heap t u).get? s.heap.objs.size=some _:=Heap.get?_push_of_some _ (Heap.get?_push_of_some _ (Heap.get?_push_of_some _ (Heap.get?_push_of_some _ (Heap.get?_push_size _ rfl))))
 show _/\_
 rw [e2,e3,e4] at p5
 rw [e1,e2] at p3
 rw [e3] at p4
 rw [e1] at p2
 rw [e4]
 refine ⟨⟨_,p5,rfl⟩,h _ p5 p3 p4 ⟨_,p1,rfl,rfl⟩ ⟨_,p2,rfl,rfl⟩ e5 fun c o x=>?_⟩
 exact Heap.get?_push_of_some _ (Heap.get?_push_of_some _ (Heap.get?_push_of_some _ (Heap.get?_push_of_some _ (Heap.get?_push_of_some _ x))))
theorem meets_enumL (t:Addr) (ys:Array Value) (n:Nat) (dd:Option Addr) (sl:Array (Option Value)):Meets (Builtin.«enumerate.__new__» ⟨[.type "enumerate",.ref t],[]⟩) (fun _ R s=>s.heap.get? t=some { cls:=.type "list",dict:=dd,data:=.seq ys n,slots:=sl } ∧
  R (.ok (.ret (.ref (yH1 s.heap t).objs.size))) { s with heap:=(yH1 s.heap t).push { cls:=.type "enumerate",data:=.fields #[.none,.bool false,.ref s.heap.objs.size,rawInt 0,.none,.none] } }) :=
 .of_wp fun prog w A R s h=>by
  obtain ⟨hp,g,d,tk,os⟩:=s
  obtain ⟨hl,h⟩:=h
  have hsub:=sub_enumerate
  have hL:Heap.IsList (Shared.heap ⟨hp,g,d,tk,os⟩) t ys:=⟨_,hl,rfl,n,rfl⟩
  wp_walk using wpAny_loadPart' hl
  refine wpAny_stack_any fun st=>wpAny_pure ?_
  split
  ·rename_i c _ _ _ _ _
   cases (c == Value.type "enumerate")
   ·wp_walk using wpAny_loadPart' hl,wpAny_pyIter_list hL
    exact ⟨_,rfl,h⟩
   ·wp_walk using wpAny_loadPart' hl,wpAny_pyIter_list hL
    exact ⟨_,rfl,h⟩
  ·wp_walk using wpAny_loadPart' hl,wpAny_pyIter_list hL
   exact ⟨_,rfl,h⟩
theorem call_enumL {prog:Program} {w:World} {A:Around} {E:Value->Shared->Prop} {s:Shared} {t:Addr} {ys:Array Value} {Q:Value->Shared->Prop} (ht:s.heap.IsList t ys)
  (h:∀ h',IsEnum h' (s.heap.objs.size + 1) s.heap.objs.size 0 .none->h'.IsListIter s.heap.objs.size t 0->h'.objs.size=s.heap.objs.size + 2->(∀ b o,s.heap.get? b=some o->h'.get? b=some o)->Q (.ref (s.heap.objs.size + 1)) { s with heap:=h' }) :
  wpAny (model prog w) A (call (.type "enumerate") [.ref t]) Q E s:=by
 obtain ⟨⟨c,dd,dt,sl⟩,e,c1,n,d1⟩:=ht
 cases c1
 cases d1
 refine callType_new F.called_enumerate (by decide) (F.typeCall_enumerate_1 _) (F.newCall_enumerate_1 _) (fun obj=>F.args_object_init_2 obj _) F.entry_enumerate_new (meets_enumL t ys n dd sl) ⟨e,?_⟩
 have hz:(yH1 s.heap t).objs.size=s.heap.objs.size + 1:=Heap.size_push ..
 show _/\_
 rw [hz]
 have he:IsEnum ((yH1 s.heap t).push { cls:=.type "enumerate",data:=.fields #[.none,.bool false,.ref s.heap.objs.size,rawInt 0,.none,.none] }) (s.heap.objs.size + 1) s.heap.objs.size 0 .none:=by
  have q:=Heap.get?_push_size (yH1 s.heap t) (o:={ cls:=.type "enumerate",data:=.fields #[.none,.bool false,.ref s.heap.objs.size,rawInt 0,.none,.none] }) rfl
  rw [hz] at q
  exact q
 exact ⟨⟨_,he,rfl⟩,h _ he ⟨_,Heap.get?_push_of_some _ (Heap.get?_push_size _ rfl),rfl,rfl⟩ (by rw [Heap.size_push,hz]) fun b o x=>Heap.get?_push_of_some _ (Heap.get?_push_of_some _ x)⟩
end Sb
namespace Sb
open PySem PySem.Spec PyProof.Rows L2
section
variable {X:Cx} {pins:List (Addr × Obj)} {σ:L2.St} {H:Hp} {s:Shared}
theorem lst_ne {b t:Addr} {xs:List V} (I:Inv X pins σ H s) (hf:FpOk X pins H b) (h:SqL X.K H t xs):t ≠ b:=by
 rintro rfl
 rcases h with (h | ⟨o,h⟩) | ⟨o,its,n,h,_⟩
 ·rw [hf.1] at h; cases h
 ·rw [hf.1] at h; cases h
 ·have e:=I.ok.mod.kin _ _ h
  rcases hf.2.2.2.1 with z | z
  ·exact I.ok.noex _ _ e z
  ·exact absurd (Nat.lt_of_lt_of_le (Heap.lt_size (I.ok.bs _ _ e).1) z) (Nat.lt_irrefl _)
end
def ItzL (K:PySem.W.Frag) (t u:Addr):It :=
 ⟨fun i H=>∃ xs ys,SqL K H t xs/\SqL K H u ys/\i < xs.length/\i < ys.length,
   fun i H v H'=>∃ p x y,v=.ref p/\H p=none/\H'=upd H p (.tup [x,y])/\(∀ xs,SqL K H t xs->xs[i]?=some x)/\∀ ys,SqL K H u ys->ys[i]?=some y,
   fun i H=>∃ xs ys,SqL K H t xs/\SqL K H u ys/\i=xs.length⟩
theorem turn_zipL {P:Program} {w:World} {K:PySem.W.Frag} {es:List Expr} {kk:Nat} {tp:Pos} {z TI TO i1 i2:Addr} (O:ZOff z TI TO i1 i2) (t u:Addr) :
  Turn P w K (.Tuple es kk tp) (ItzL K t u) [z,TI,TO,i1,i2] z (fun i h=>IsZip h z TI TO .none/\IsPair h TI (.ref i1) (.ref i2)/\(∃ a b,IsPair h TO a b)/\h.IsListIter i1 t i/\h.IsListIter i2 u i) where
 mem:=by simp
 obj:=fun i h ⟨hz,hTI,⟨a,b,hTO⟩,⟨o1,e1,_,d1⟩,⟨o2,e2,_,d2⟩⟩ b hb=>by
  simp only [List.mem_cons,List.not_mem_nil,or_false] at hb
  rcases hb with rfl | rfl | rfl | rfl | rfl
  ·exact ⟨_,hz,fun v q=>by have q':Data.fields _=Data.cell v:=q; cases q'⟩
  ·exact ⟨_,hTI,fun v q=>by have q':Data.seq _ _=Data.cell v:=q; cases q'⟩
  ·exact ⟨_,hTO,fun v q=>by have q':Data.seq _ _=Data.cell v:=q; cases q'⟩
  ·exact ⟨_,e1,fun v q=>by rw [d1] at q; cases q⟩
  ·exact ⟨_,e2,fun v q=>by rw [d2] at q; cases q⟩
 keep:=fun i h h' ⟨hz,hTI,⟨a,b,hTO⟩,⟨o1,e1,r1⟩,⟨o2,e2,r2⟩⟩ k=>⟨k z (by simp) _ hz,k TI (by simp) _ hTI,⟨a,b,k TO (by simp) _ hTO⟩,⟨o1,k i1 (by simp) _ e1,r1⟩,⟨o2,k i2 (by simp) _ e2,r2⟩⟩
 item:=by
  intro X hP hw hK hc i pins s σ H E I hf st hg
  subst hP hw hK
  obtain ⟨xs,ys,hx,hy,lx,ly⟩:=hg
  obtain ⟨hz,hTI,⟨a,b,hTO⟩,c1,c2⟩:=st
  obtain ⟨u1,v1,p1',_⟩:=I.list hx
  have p1:=p1'.isList
  obtain ⟨u2,v2,p2',_⟩:=I.list hy
  have p2:=p2'.isList
  have n1:=v1.length
  have n2:=v2.length
  have ne:∀ b ∈ [z,TI,TO,i1,i2],t ≠ b/\u ≠ b:=fun b hb=>⟨lst_ne I (hf b hb) hx,lst_ne I (hf b hb) hy⟩
  have off:∀ b ∈ [z,TI,TO,i1,i2],∀ x,(b,x) ∉ X.pn:=fun b hb x m=>(hf b hb).2.2.2.2.2 _ (List.mem_append_left _ m) rfl
  have qI:∀ p ∈ X.pn,s.heap.get? p.1=some p.2:=fun p hp=>(I.pin p (List.mem_append_left _ hp)).1
  have qO:∀ b ∈ [z,TI,TO,i1,i2],∀ p ∈ X.pn,p.1 ≠ b:=fun b hb p hp=>(hf b hb).2.2.2.2.2 p (List.mem_append_left _ hp)
  have D:Off z TI TO i1 i2 (i1 :: t :: X.pn.map Prod.fst) (i2 :: u :: X.pn.map Prod.fst):=⟨O.a1,O.a2,O.a3,O.a4,O.a5,O.a6,O.a7,O.a8,O.a9,O.b1,
   by simp [O.a3.symm,(ne z (by simp)).1.symm,off z (by simp)],by simp [O.a8,(ne TO (by simp)).1.symm,off TO (by simp)],by simp [O.b1.symm,(ne i2 (by simp)).1.symm,off i2 (by simp)],
   by simp [O.a4.symm,(ne z (by simp)).2.symm,off z (by simp)],by simp [O.a9,(ne TO (by simp)).2.symm,off TO (by simp)],by simp [O.b1,(ne i1 (by simp)).2.symm,off i1 (by simp)]⟩
  have D1:=Sb.Draws.listQ (prog:=X.prog) (w:=X.w) (A:=X.A.in1) (I.ok.hd hc) i1 t (ne i1 (by simp)).1 (qO i1 (by simp)) u1.toArray
  have D2:=Sb.Draws.listQ (prog:=X.prog) (w:=X.w) (A:=X.A.in1) (I.ok.hd hc) i2 u (ne i2 (by simp)).2 (qO i2 (by simp)) u2.toArray
  refine pyNext_zipD D D1 D2 hz hTI hTO ⟨c1,p1,qI⟩ ⟨c2,p2,qI⟩ (by simp; omega) (by simp; omega) fun x y g tk px py z' to' s1 s2 pr sz kp=>?_
  refine ⟨_,rfl,wpAny_letOwnedTupleGo_zip z' fun g2 z2 sb=>?_⟩
  obtain ⟨x0,ex⟩:∃ x0,xs[i]?=some x0:=⟨xs[i],by simp [lx]⟩
  obtain ⟨y0,ey⟩:∃ y0,ys[i]?=some y0:=⟨ys[i],by simp [ly]⟩
  obtain ⟨x1,ex1,rx⟩:=v1.get ex
  obtain ⟨y1,ey1,ry⟩:=v2.get ey
  have qx:x1=x:=by
   have:u1.toArray[i]?=some x:=px
   rw [List.getElem?_toArray,ex1] at this
   exact Option.some.inj this
  have qy:y1=y:=by
   have:u2.toArray[i]?=some y:=py
   rw [List.getElem?_toArray,ey1] at this
   exact Option.some.inj this
  subst qx qy
  have zlt:z < s.heap.objs.size:=Heap.lt_size hz
  have pz:s.heap.objs.size ≠ z:=Nat.ne_of_gt zlt
  have sb2:∀ b,b ≠ z->g2.get? b=g.get? b:=fun b hb=>sb.2 b hb
  have keep:∀ b o,b ∉ [z,TI,TO,i1,i2]->s.heap.get? b=some o->g2.get? b=some o:=fun b o hb e=>by
   simp only [List.mem_cons,List.not_mem_nil,or_false,not_or] at hb
   rw [sb2 b hb.1]
   exact kp b o hb.1 hb.2.2.1 hb.2.2.2.1 hb.2.2.2.2 e
  have new:ObjOk X.prog X.w (upd H s.heap.objs.size (.tup [x0,y0])) g2 s.heap.objs.size (.tup [x0,y0]) :=
   ⟨by show 2<=sizeLine; decide,[x1,y1],.cons rx (.cons ry .nil),⟨_,by rw [sb2 _ pz]; exact pr,rfl,0,rfl⟩⟩
  have I2:=inv_recs_new (t':=tk) I hf keep (Nat.le_refl _) new
  have nn:∀ b ∈ [z,TI,TO,i1,i2],upd H s.heap.objs.size (.tup [x0,y0]) b=none:=fun b hb=>by
   have:b ≠ s.heap.objs.size:=by
    have ob:∃ o,s.heap.get? b=some o:=by
     simp only [List.mem_cons,List.not_mem_nil,or_false] at hb
     obtain ⟨o1,e1,_⟩:=c1
     obtain ⟨o2,e2,_⟩:=c2
     rcases hb with rfl | rfl | rfl | rfl | rfl
     ·exact ⟨_,hz⟩
     ·exact ⟨_,hTI⟩
     ·exact ⟨_,hTO⟩
     ·exact ⟨_,e1⟩
     ·exact ⟨_,e2⟩
    obtain ⟨o,e⟩:=ob
    exact Nat.ne_of_lt (Heap.lt_size e)
   rw [upd_ne this]
   exact (hf b hb).1
  refine ⟨.ref s.heap.objs.size,_,I2,rfl,⟨_,x0,y0,rfl,I.fresh,rfl,fun xs' h1=>by rw [I.list_inj h1 hx]; exact ex,fun ys' h2=>by rw [I.list_inj h2 hy]; exact ey⟩,⟨z2,?_,⟨x1,y1,?_⟩,?_,?_⟩,nn⟩
  ·exact (sb2 TI O.a1).trans (kp _ _ O.a1 O.a5 O.a6 O.a7 hTI)
  ·exact (sb2 TO O.a2).trans to'
  ·exact s1.1.extBut sb.extBut O.a3
  ·exact s2.1.extBut sb.extBut O.a4
 done:=by
  intro X hP hw hK hc i pins s σ H E I hf st hg
  subst hP hw hK
  obtain ⟨xs,ys,hx,hy,rfl⟩:=hg
  obtain ⟨hz,hTI,⟨a,b,hTO⟩,c1,c2⟩:=st
  obtain ⟨u1,v1,p1',_⟩:=I.list hx
  have p1:=p1'.isList
  have n1:=v1.length
  have ne:∀ b ∈ [z,TI,TO,i1,i2],t ≠ b/\u ≠ b:=fun b hb=>⟨lst_ne I (hf b hb) hx,lst_ne I (hf b hb) hy⟩
  have off:∀ b ∈ [z,TI,TO,i1,i2],∀ x,(b,x) ∉ X.pn:=fun b hb x m=>(hf b hb).2.2.2.2.2 _ (List.mem_append_left _ m) rfl
  have qI:∀ p ∈ X.pn,s.heap.get? p.1=some p.2:=fun p hp=>(I.pin p (List.mem_append_left _ hp)).1
  have qO:∀ b ∈ [z,TI,TO,i1,i2],∀ p ∈ X.pn,p.1 ≠ b:=fun b hb p hp=>(hf b hb).2.2.2.2.2 p (List.mem_append_left _ hp)
  have D:Off z TI TO i1 i2 (i1 :: t :: X.pn.map Prod.fst) (i2 :: u :: X.pn.map Prod.fst):=⟨O.a1,O.a2,O.a3,O.a4,O.a5,O.a6,O.a7,O.a8,O.a9,O.b1,
   by simp [O.a3.symm,(ne z (by simp)).1.symm,off z (by simp)],by simp [O.a8,(ne TO (by simp)).1.symm,off TO (by simp)],by simp [O.b1.symm,(ne i2 (by simp)).1.symm,off i2 (by simp)],
   by simp [O.a4.symm,(ne z (by simp)).2.symm,off z (by simp)],by simp [O.a9,(ne TO (by simp)).2.symm,off TO (by simp)],by simp [O.b1,(ne i1 (by simp)).2.symm,off i1 (by simp)]⟩
  have D1:=Sb.Draws.listQ (prog:=X.prog) (w:=X.w) (A:=X.A.in1) (I.ok.hd hc) i1 t (ne i1 (by simp)).1 (qO i1 (by simp)) u1.toArray
  have c1':s.heap.IsListIter i1 t u1.toArray.size:=by
   rw [List.size_toArray,← n1]
   exact c1
  refine pyNext_zipD_end D D1 hz hTI ⟨c1',p1,qI⟩ fun g kp=>⟨rfl,?_⟩
  exact inv_recs (t':=s.toks) I hf fun b o hb e=>by
   simp only [List.mem_cons,List.not_mem_nil,or_false,not_or] at hb
   exact kp b o hb.1 hb.2.2.2.1 e
 self:=fun _ _ _ _ _ st h=>wpAny_pyIter_zip st.1 h
section
variable {X:Cx}
inductive iZipL_i (K:PySem.W.Frag) (R:(It->Hp->Prop)) (vs:List V) (H1:Hp):Prop
 | mk (t u:_) (zz0:vs=[.ref t,.ref u]) (zz1:(∃ xs,SqL K H1 t xs)) (zz2:(∃ ys,SqL K H1 u ys)) (zz3:R (ItzL K t u) H1)
def iZipL (K:PySem.W.Frag) (ta:TA):TI:=fun σ H R=>ta σ H (iZipL_i K R)
theorem pi_zipL {a b:Expr} {ta:TA} {p pos:Pos} {es:List Expr} {kk:Nat} {tp:Pos} (hg:Gl X "zip") (hm:X.mg "zip"=none) (ha:PA X [a,b] ta) (hs:starEach [a,b] X.env=[(false,eval a X.env),(false,eval b X.env)]:=by rfl)
  (hs2:starEach [b] X.env=[(false,eval b X.env)]:=by rfl):PI X (.Tuple es kk tp) (.Call (.Name "zip" p) [a,b] [] pos) (iZipL X.K ta):=by
 intro pins s σ H R I h
 refine Call_ (ld_blt I hg hm boot_zip (PyProof.Rows.callWith_type1 (thn (ha pos pins s σ H _ I h) fun us s1 ⟨vs,H1,I1,r1,q1⟩=>?_) (by rw [hs,hs2]) (by rw [hs2]; rfl)))
 obtain ⟨t,u,e,⟨xs,hx⟩,⟨ys,hy⟩,q⟩:=q1
 subst e
 obtain ⟨t0,u0,e0,rt,ru⟩:=vals2 r1
 cases (show t0=Value.ref t from rt)
 cases (show u0=Value.ref u from ru)
 subst e0
 obtain ⟨u1,v1,p1',_⟩:=I1.list hx
 have p1:=p1'.isList
 obtain ⟨u2,v2,p2',_⟩:=I1.list hy
 have p2:=p2'.isList
 refine call_zipL (xs:=u1.toArray) (ys:=u2.toArray) p1 p2 fun g z0 ti to i1 i2 sz kp=>?_
 refine wpAny_pyIter_zip z0 ?_
 have I2:Inv X pins σ H1 { s1 with heap:=g }:=I1.kept (t':=s1.toks) kp
 refine ⟨s1.heap.objs.size + 4,[s1.heap.objs.size + 4,s1.heap.objs.size + 2,s1.heap.objs.size + 3,s1.heap.objs.size,s1.heap.objs.size + 1],_,ItzL X.K t u,H1,rfl,I2,turn_zipL (O:=?_) t u,⟨z0,ti,⟨_,_,to⟩,i1,i2⟩,fun b hb=>?_,q⟩
 ·refine ⟨?_,?_,?_,?_,?_,?_,?_,?_,?_,?_⟩ <;> (show @Ne Nat _ _; omega)
 ·have hb':s1.heap.objs.size<=b:=by
   simp only [List.mem_cons,List.not_mem_nil,or_false] at hb
   rcases hb with rfl | rfl | rfl | rfl | rfl
   ·exact Nat.le_add_right _ _
   ·exact Nat.le_add_right _ _
   ·exact Nat.le_add_right _ _
   ·exact Nat.le_refl _
   ·exact Nat.le_add_right _ _
  exact I1.fpOk hb' (I1.hok.fresh hb')
end
end Sb
namespace Sb
open PySem PySem.Spec PyProof.Rows L2
def IteL (K:PySem.W.Frag) (t:Addr):It :=
 ⟨fun i H=>∃ xs,SqL K H t xs/\i < xs.length,
   fun i H v H'=>∃ p x,v=.ref p/\H p=none/\H'=upd H p (.tup [.int (i:Int),x])/\∀ xs,SqL K H t xs->xs[i]?=some x,
   fun i H=>∃ xs,SqL K H t xs/\i=xs.length⟩
theorem turn_enumL {P:Program} {w:World} {K:PySem.W.Frag} {es:List Expr} {kk:Nat} {tp:Pos} {e it:Addr} (O:e ≠ it) (t:Addr) :
  Turn P w K (.Tuple es kk tp) (IteL K t) [e,it] e (fun i h=>(∃ old,IsEnum h e it (i:Int) old)/\h.IsListIter it t i) where
 mem:=by simp
 obj:=fun i h ⟨⟨old,he⟩,⟨o1,e1,_,d1⟩⟩ b hb=>by
  simp only [List.mem_cons,List.not_mem_nil,or_false] at hb
  rcases hb with rfl | rfl
  ·exact ⟨_,he,fun v q=>by have q':Data.fields _=Data.cell v:=q; cases q'⟩
  ·exact ⟨_,e1,fun v q=>by rw [d1] at q; cases q⟩
 keep:=fun i h h' ⟨⟨old,he⟩,⟨o1,e1,r1⟩⟩ k=>⟨⟨old,k e (by simp) _ he⟩,⟨o1,k it (by simp) _ e1,r1⟩⟩
 item:=by
  intro X hP hw hK hc i pins s σ H E I hf st hg
  subst hP hw hK
  obtain ⟨xs,hx,lx⟩:=hg
  obtain ⟨⟨old,he⟩,c1⟩:=st
  obtain ⟨u1,v1,p1',_⟩:=I.list hx
  have p1:=p1'.isList
  have n1:=v1.length
  have ne:∀ b ∈ [e,it],t ≠ b:=fun b hb=>lst_ne I (hf b hb) hx
  have off:∀ b ∈ [e,it],∀ x,(b,x) ∉ X.pn:=fun b hb x m=>(hf b hb).2.2.2.2.2 _ (List.mem_append_left _ m) rfl
  have qI:∀ p ∈ X.pn,s.heap.get? p.1=some p.2:=fun p hp=>(I.pin p (List.mem_append_left _ hp)).1
  have qO:∀ b ∈ [e,it],∀ p ∈ X.pn,p.1 ≠ b:=fun b hb p hp=>(hf b hb).2.2.2.2.2 p (List.mem_append_left _ hp)
  have D1:=Sb.Draws.listQ (prog:=X.prog) (w:=X.w) (A:=X.A.in1) (I.ok.hd hc) it t (ne it (by simp)) (qO it (by simp)) u1.toArray
  refine wpAny_pyNext_enum_itemD D1 he ⟨c1,p1,qI⟩ (by simp; omega) O (by simp [O,(ne e (by simp)).symm,off e (by simp)]) fun x g tk px out s1 pr sz kp=>?_
  refine ⟨_,rfl,wpAny_letOwnedTupleGo_enum out fun g2 z2 sb=>?_⟩
  obtain ⟨x0,ex⟩:∃ x0,xs[i]?=some x0:=⟨xs[i],by simp [lx]⟩
  obtain ⟨x1,ex1,rx⟩:=v1.get ex
  have qx:x1=x:=by
   have:u1.toArray[i]?=some x:=px
   rw [List.getElem?_toArray,ex1] at this
   exact Option.some.inj this
  subst qx
  have elt:e < s.heap.objs.size:=Heap.lt_size he
  have pe:s.heap.objs.size ≠ e:=Nat.ne_of_gt elt
  have sb2:∀ b,b ≠ e->g2.get? b=g.get? b:=fun b hb=>sb.2 b hb
  have keep:∀ b o,b ∉ [e,it]->s.heap.get? b=some o->g2.get? b=some o:=fun b o hb q=>by
   simp only [List.mem_cons,List.not_mem_nil,or_false,not_or] at hb
   rw [sb2 b hb.1]
   exact kp b o hb.1 hb.2 q
  have new:ObjOk X.prog X.w (upd H s.heap.objs.size (.tup [.int (i:Int),x0])) g2 s.heap.objs.size (.tup [.int (i:Int),x0]) :=
   ⟨by show 2<=sizeLine; decide,[.int (i:Int) tk,x1],.cons ⟨tk,rfl⟩ (.cons rx .nil),⟨_,by rw [sb2 _ pe]; exact pr,rfl,0,rfl⟩⟩
  have I2:=inv_recs_new (t':=tk + 1) I hf keep (Nat.le_refl _) new
  have nn:∀ b ∈ [e,it],upd H s.heap.objs.size (.tup [.int (i:Int),x0]) b=none:=fun b hb=>by
   have:b ≠ s.heap.objs.size:=by
    have ob:∃ o,s.heap.get? b=some o:=by
     simp only [List.mem_cons,List.not_mem_nil,or_false] at hb
     obtain ⟨o1,e1,_⟩:=c1
     rcases hb with rfl | rfl
     ·exact ⟨_,he⟩
     ·exact ⟨_,e1⟩
    obtain ⟨o,q⟩:=ob
    exact Nat.ne_of_lt (Heap.lt_size q)
   rw [upd_ne this]
   exact (hf b hb).1
  refine ⟨.ref s.heap.objs.size,_,I2,rfl,⟨_,x0,rfl,I.fresh,rfl,fun xs' h1=>by rw [I.list_inj h1 hx]; exact ex⟩,⟨⟨x1,?_⟩,?_⟩,nn⟩
  ·exact z2
  ·exact s1.1.extBut sb.extBut O.symm
 done:=by
  intro X hP hw hK hc i pins s σ H E I hf st hg
  subst hP hw hK
  obtain ⟨xs,hx,rfl⟩:=hg
  obtain ⟨⟨old,he⟩,c1⟩:=st
  obtain ⟨u1,v1,p1',_⟩:=I.list hx
  have p1:=p1'.isList
  have n1:=v1.length
  have ne:∀ b ∈ [e,it],t ≠ b:=fun b hb=>lst_ne I (hf b hb) hx
  have off:∀ b ∈ [e,it],∀ x,(b,x) ∉ X.pn:=fun b hb x m=>(hf b hb).2.2.2.2.2 _ (List.mem_append_left _ m) rfl
  have qI:∀ p ∈ X.pn,s.heap.get? p.1=some p.2:=fun p hp=>(I.pin p (List.mem_append_left _ hp)).1
  have qO:∀ b ∈ [e,it],∀ p ∈ X.pn,p.1 ≠ b:=fun b hb p hp=>(hf b hb).2.2.2.2.2 p (List.mem_append_left _ hp)
  have D1:=Sb.Draws.listQ (prog:=X.prog) (w:=X.w) (A:=X.A.in1) (I.ok.hd hc) it t (ne it (by simp)) (qO it (by simp)) u1.toArray
  have c1':s.heap.IsListIter it t u1.toArray.size:=by
   rw [List.size_toArray,← n1]
   exact c1
  refine wpAny_pyNext_enum_endD D1 he ⟨c1',p1,qI⟩ fun g kp=>⟨rfl,?_⟩
  exact inv_recs (t':=s.toks) I hf fun b o hb q=>by
   simp only [List.mem_cons,List.not_mem_nil,or_false,not_or] at hb
   exact kp b o hb.2 q
 self:=fun _ _ _ _ _ st h=>by
  obtain ⟨⟨old,he⟩,_⟩:=st
  exact wpAny_pyIter_enum he h
section
variable {X:Cx}
inductive iEnumL_i (K:PySem.W.Frag) (R:(It->Hp->Prop)) (vs:List V) (H1:Hp):Prop
 | mk (t:_) (zz0:vs=[.ref t]) (zz1:(∃ xs,SqL K H1 t xs)) (zz2:R (IteL K t) H1)
def iEnumL (K:PySem.W.Frag) (ta:TA):TI:=fun σ H R=>ta σ H (iEnumL_i K R)
theorem pi_enumL {a:Expr} {ta:TA} {p pos:Pos} {es:List Expr} {kk:Nat} {tp:Pos} (hg:Gl X "enumerate") (hm:X.mg "enumerate"=none) (ha:PA X [a] ta) (hs:starEach [a] X.env=[(false,eval a X.env)]:=by rfl) :
  PI X (.Tuple es kk tp) (.Call (.Name "enumerate" p) [a] [] pos) (iEnumL X.K ta):=by
 intro pins s σ H R I h
 refine Call_ (ld_blt I hg hm boot_enumerate (PyProof.Rows.callWith_type1 (thn (ha pos pins s σ H _ I h) fun us s1 ⟨vs,H1,I1,r1,q1⟩=>?_) hs rfl))
 obtain ⟨t,e,⟨xs,hx⟩,q⟩:=q1
 subst e
 obtain ⟨t0,e0,rt⟩:=vals1 r1
 cases (show t0=Value.ref t from rt)
 subst e0
 obtain ⟨u1,v1,p1',_⟩:=I1.list hx
 have p1:=p1'.isList
 refine call_enumL (ys:=u1.toArray) p1 fun g z0 i1 sz kp=>?_
 refine wpAny_pyIter_enum z0 ?_
 have I2:Inv X pins σ H1 { s1 with heap:=g }:=I1.kept (t':=s1.toks) kp
 refine ⟨s1.heap.objs.size + 1,[s1.heap.objs.size + 1,s1.heap.objs.size],_,IteL X.K t,H1,rfl,I2,turn_enumL (O:=?_) t,⟨⟨_,z0⟩,i1⟩,fun b hb=>?_,q⟩
 ·show @Ne Nat _ _
  omega
 ·have hb':s1.heap.objs.size<=b:=by
   simp only [List.mem_cons,List.not_mem_nil,or_false] at hb
   rcases hb with rfl | rfl
   ·exact Nat.le_add_right _ _
   ·exact Nat.le_refl _
  exact I1.fpOk hb' (I1.hok.fresh hb')
end
end Sb
namespace Sv
def sm:Nat->(Nat->Int)->Int
 | 0,_=>0
 | n + 1,f=>sm n f + f n
theorem sm_congr {n:Nat} {f g:Nat->Int} (h:∀ i,i < n->f i=g i):sm n f=sm n g:=by
 induction n with
 | zero=>rfl
 | succ n ih =>
  show sm n f + f n=sm n g + g n
  rw [ih fun i hi=>h i (by omega),h n (by omega)]
theorem sm_add (n:Nat) (f g:Nat->Int):sm n (fun i=>f i + g i)=sm n f + sm n g:=by
 induction n with
 | zero=>rfl
 | succ n ih=>show sm n _ + (f n + g n)=(sm n f + f n) + (sm n g + g n); rw [ih]; omega
theorem sm_mul (a:Int) (n:Nat) (f:Nat->Int):sm n (fun i=>a * f i)=a * sm n f:=by
 induction n with
 | zero=>show (0:Int)=a * 0; simp
 | succ n ih=>show sm n _ + _=a * (sm n f + f n); rw [ih,Int.mul_add]
theorem sm_zero {n:Nat} {f:Nat->Int} (h:∀ i,i < n->f i=0):sm n f=0:=by
 induction n with
 | zero=>rfl
 | succ n ih=>show sm n f + f n=0; rw [ih fun i hi=>h i (by omega),h n (by omega)]; rfl
theorem sm_split {n k:Nat} {f:Nat->Int} (hk:k < n):sm n f=f k + sm n (fun i=>if i=k then 0 else f i):=by
 induction n with
 | zero=>omega
 | succ n ih =>
  show sm n f + f n=f k + (sm n (fun i=>if i=k then 0 else f i) + if n=k then 0 else f n)
  by_cases e:n=k
  ·subst e
   rw [if_pos rfl,sm_congr (f:=fun i=>if i=n then 0 else f i) (g:=f) fun i hi=>if_neg (by omega)]
   omega
  ·rw [if_neg e,ih (by omega)]
   omega
theorem sm_nonneg {n:Nat} {f:Nat->Int} (h:∀ i,i < n->0<=f i):0<=sm n f:=by
 induction n with
 | zero=>exact Int.le_refl _
 | succ n ih =>
  show 0<=sm n f + f n
  have:=ih fun i hi=>h i (by omega)
  have:=h n (by omega)
  omega
theorem sm_le {n:Nat} {f g:Nat->Int} (h:∀ i,i < n->f i<=g i):sm n f<=sm n g:=by
 induction n with
 | zero=>exact Int.le_refl _
 | succ n ih =>
  show sm n f + f n<=sm n g + g n
  have:=ih fun i hi=>h i (by omega)
  have:=h n (by omega)
  omega
abbrev Vec:=Nat->Int
abbrev Mat:=Nat->Vec
def skip (k i:Nat):Nat:=if i < k then i else i + 1
def sgn:Nat->Int
 | 0=>1
 | n + 1=>- sgn n
def minor (v:Mat) (k:Nat):Mat:=fun i r=>v (skip k i) (r + 1)
def det:Nat->Mat->Int
 | 0,_=>1
 | m + 1,v=>sm (m + 1) (fun k=>sgn k * v k 0 * det m (minor v k))
def put (v:Mat) (c:Nat) (x:Vec):Mat:=fun i=>if i=c then x else v i
def unskip (k c:Nat):Nat:=if c < k then c else c - 1
end Sv
namespace Sb
theorem dvd_cop {a b c:Int} (h:a ∣ b * c) (g:Int.gcd a b=1):a ∣ c:=by
 have h1:a.natAbs ∣ b.natAbs * c.natAbs:=by
  rw [← Int.natAbs_mul]
  exact Int.natAbs_dvd_natAbs.mpr h
 exact Int.natAbs_dvd_natAbs.mp (Nat.Coprime.dvd_of_dvd_mul_left g h1)
theorem rat_unique {r s:Rat} (hr:0 < r.2) (hs:0 < s.2) (cr:Int.gcd r.1 r.2=1) (cs:Int.gcd s.1 s.2=1) (h:r.1 * s.2=s.1 * r.2):r=s:=by
 have d1:r.2 ∣ s.2:=by
  have:r.2 ∣ r.1 * s.2:=⟨s.1,by rw [h,Int.mul_comm]⟩
  exact dvd_cop this (by rw [Int.gcd_comm]; exact cr)
 have d2:s.2 ∣ r.2:=by
  have:s.2 ∣ s.1 * r.2:=⟨r.1,by rw [← h,Int.mul_comm]⟩
  exact dvd_cop this (by rw [Int.gcd_comm]; exact cs)
 have e:r.2=s.2:=Int.dvd_antisymm (by omega) (by omega) d1 d2
 have e1:r.1=s.1:=by
  rw [e] at h
  exact Int.eq_of_mul_eq_mul_right (by omega) h
 obtain ⟨a,b⟩:=r
 obtain ⟨c,d⟩:=s
 simp only at e e1
 rw [e,e1]
theorem dvd_of_rep {r:Rat} {D W:Int} (hr:0 < r.2) (cr:Int.gcd r.1 r.2=1) (h:r.1 * D=W * r.2):r.2 ∣ D :=
 dvd_cop (show r.2 ∣ r.1 * D from ⟨W,by rw [h,Int.mul_comm]⟩) (by rw [Int.gcd_comm]; exact cr)
theorem le_of_dvd_pos {a b:Int} (hb:0 < b) (h:a ∣ b):a.natAbs<=b.natAbs:=by
 have:=Int.natAbs_dvd_natAbs.mpr h
 exact Nat.le_of_dvd (by omega) this
theorem rep_le {r:Rat} {D W:Int} (hD:0 < D) (hr:0 < r.2) (cr:Int.gcd r.1 r.2=1) (h:r.1 * D=W * r.2):r.1.natAbs<=W.natAbs/\r.2.natAbs<=D.natAbs:=by
 have d:=dvd_of_rep hr cr h
 refine ⟨?_,le_of_dvd_pos hD d⟩
 obtain ⟨k,e⟩:=d
 have:W=r.1 * k:=by
  rw [e] at h
  have:(r.1 * k) * r.2=W * r.2:=by rw [← h]; rw [Int.mul_assoc,Int.mul_comm k]
  exact (Int.eq_of_mul_eq_mul_right (by omega) this).symm
 rw [this,Int.natAbs_mul]
 refine Nat.le_mul_of_pos_right _ ?_
 have:k ≠ 0:=by
  intro z
  rw [z] at e
  simp at e
  omega
 omega
theorem good_of_rep {n:Nat} {r:Rat} {D W:Int} (hD:0 < D) (hr:0 < r.2) (cr:Int.gcd r.1 r.2=1) (h:r.1 * D=W * r.2) (bD:Bd n D) (bW:Bd n W):Good n r :=
 ⟨bW.of_le' (rep_le hD hr cr h).1,bD.of_le' (rep_le hD hr cr h).2,hr,cr⟩
theorem rep_nrm {p q:Int} (_:q ≠ 0):(nrm p q).1 * q=p * (nrm p q).2:=n_cross p q
theorem rep_mul {r s:Rat} {D1 D2 W1 W2:Int} (hr:0 < r.2) (hs:0 < s.2) (h1:r.1 * D1=W1 * r.2) (h2:s.1 * D2=W2 * s.2):(mulR' r s).1 * (D1 * D2)=(W1 * W2) * (mulR' r s).2:=by
 have h3:(mulR' r s).1 * (r.2 * s.2)=(r.1 * s.1) * (mulR' r s).2:=n_cross _ _
 generalize mulR' r s=m at *
 have:(r.2 * s.2) * (m.1 * (D1 * D2))=(r.2 * s.2) * (W1 * W2 * m.2):=by grind
 exact Int.eq_of_mul_eq_mul_left (mul_ne hr hs) this
theorem rep_add {r s:Rat} {D W1 W2:Int} (hr:0 < r.2) (hs:0 < s.2) (h1:r.1 * D=W1 * r.2) (h2:s.1 * D=W2 * s.2):(addR r s).1 * D=(W1 + W2) * (addR r s).2:=by
 have h3:(addR r s).1 * (r.2 * s.2)=(r.1 * s.2 + s.1 * r.2) * (addR r s).2:=n_cross _ _
 generalize addR r s=m at *
 have:(r.2 * s.2) * (m.1 * D)=(r.2 * s.2) * ((W1 + W2) * m.2):=by grind
 exact Int.eq_of_mul_eq_mul_left (mul_ne hr hs) this
theorem rep_sub {r s:Rat} {D W1 W2:Int} (hr:0 < r.2) (hs:0 < s.2) (h1:r.1 * D=W1 * r.2) (h2:s.1 * D=W2 * s.2):(subR r s).1 * D=(W1 - W2) * (subR r s).2:=by
 have h3:(subR r s).1 * (r.2 * s.2)=(r.1 * s.2 - s.1 * r.2) * (subR r s).2:=n_cross _ _
 generalize subR r s=m at *
 have:(r.2 * s.2) * (m.1 * D)=(r.2 * s.2) * ((W1 - W2) * m.2):=by grind
 exact Int.eq_of_mul_eq_mul_left (mul_ne hr hs) this
structure Low (r:Rat):Prop where
 pos:0 < r.2
 cop:Int.gcd r.1 r.2=1
theorem Good.low {n:Nat} {r:Rat} (h:Good n r):Low r:=⟨h.pos,h.cop⟩
theorem low_nrm {p q:Int} (h:q ≠ 0):Low (nrm p q):=⟨nB_pos h,n_gcd h⟩
theorem low_add {r s:Rat} (hr:Low r) (hs:Low s):Low (addR r s):=low_nrm (mul_ne hr.pos hs.pos)
theorem low_sub {r s:Rat} (hr:Low r) (hs:Low s):Low (subR r s):=low_nrm (mul_ne hr.pos hs.pos)
theorem low_mul {r s:Rat} (hr:Low r) (hs:Low s):Low (mulR' r s):=low_nrm (mul_ne hr.pos hs.pos)
theorem low01:Low (0,1):=⟨by decide,by decide⟩
theorem low11:Low (1,1):=⟨by decide,by decide⟩
structure RepL (n:Nat) (D:Int) (Ws:List Int) (rs:List Rat):Prop where
 pos:0 < D
 bD:Bd n D
 len:Ws.length=rs.length
 at_:∀ (i:Nat) (W:Int) (r:Rat),Ws[i]?=some W->rs[i]?=some r->r.1 * D=W * r.2/\Bd n W/\Low r
theorem RepL.good {n:Nat} {D:Int} {Ws:List Int} {rs:List Rat} (h:RepL n D Ws rs):∀ r ∈ rs,Good n r:=fun r hr=>by
 obtain ⟨i,hi⟩:=List.getElem?_of_mem hr
 have hl:i < rs.length:=(List.getElem?_eq_some_iff.mp hi).1
 have hw:i < Ws.length:=by rw [h.len]; exact hl
 obtain ⟨e,b,l⟩:=h.at_ i Ws[i] r (by simp [hw]) hi
 exact good_of_rep h.pos l.pos l.cop e h.bD b
def lcm1 (l b:Int):Int:=(l * b).fdiv (Int.gcd l b)
theorem lcm1_spec {l b:Int} (hl:0 < l) (hb:0 < b):0 < lcm1 l b/\l ∣ lcm1 l b/\b ∣ lcm1 l b/\∀ D,l ∣ D->b ∣ D->lcm1 l b ∣ D:=by
 have hg:0 < (Int.gcd l b:Int):=by
  have:=Int.gcd_pos_of_ne_zero_left b (show l ≠ 0 by omega)
  omega
 obtain ⟨x,ex⟩:=Int.gcd_dvd_left (a:=l) (b:=b)
 obtain ⟨y,ey⟩:=Int.gcd_dvd_right (a:=l) (b:=b)
 have e1:lcm1 l b=x * b:=by
  unfold lcm1
  have:l * b=(x * b) * (Int.gcd l b:Int):=by
   conv=>lhs; rw [ex]
   rw [Int.mul_comm (Int.gcd l b:Int),Int.mul_assoc,Int.mul_comm (Int.gcd l b:Int),← Int.mul_assoc]
  rw [this,Int.mul_fdiv_cancel _ (by omega)]
 have e2:lcm1 l b=l * y:=by
  unfold lcm1
  have:l * b=(l * y) * (Int.gcd l b:Int):=by
   conv=>lhs; rw [ey]
   rw [Int.mul_comm (Int.gcd l b:Int),Int.mul_assoc]
  rw [this,Int.mul_fdiv_cancel _ (by omega)]
 have hx:0 < x:=by
  apply Classical.byContradiction
  intro z
  have:(Int.gcd l b:Int) * x<=0:=Int.mul_nonpos_of_nonneg_of_nonpos (by omega) (by omega)
  omega
 refine ⟨by rw [e1]; exact Int.mul_pos hx hb,⟨y,e2⟩,⟨x,by rw [e1,Int.mul_comm]⟩,fun D h1 h2=>?_⟩
 have:(lcm1 l b).natAbs ∣ D.natAbs:=by
  have e3:(lcm1 l b).natAbs=Nat.lcm l.natAbs b.natAbs:=by
   unfold Nat.lcm
   have g:Nat.gcd l.natAbs b.natAbs=Int.gcd l b:=rfl
   rw [g]
   have e4:(lcm1 l b).natAbs * Int.gcd l b=l.natAbs * b.natAbs:=by
    rw [← Int.natAbs_mul,e1]
    have:((x * b).natAbs) * Int.gcd l b=(x * b * (Int.gcd l b:Int)).natAbs:=by
     rw [Int.natAbs_mul (x * b)]
     rfl
    rw [this]
    congr 1
    conv=>rhs; rw [ex]
    rw [Int.mul_assoc,Int.mul_comm b,← Int.mul_assoc,Int.mul_comm x]
   rw [← e4]
   exact (Nat.mul_div_cancel _ (by omega)).symm
  rw [e3]
  exact Nat.lcm_dvd (Int.natAbs_dvd_natAbs.mpr h1) (Int.natAbs_dvd_natAbs.mpr h2)
 exact Int.natAbs_dvd_natAbs.mp this
def lcmB (rs:List Rat):Int:=rs.foldl (fun l r=>lcm1 l r.2) 1
theorem lcmB_snoc (rs:List Rat) (r:Rat):lcmB (rs ++ [r])=lcm1 (lcmB rs) r.2:=by
 unfold lcmB
 rw [List.foldl_append]
 rfl
theorem lcmB_take {rs:List Rat} {i:Nat} {r:Rat} (h:rs[i]?=some r):lcmB (rs.take (i + 1))=lcm1 (lcmB (rs.take i)) r.2:=by rw [take_snoc h,lcmB_snoc]
theorem fold_lcm:∀ (rs:List Rat) (l:Int),0 < l->(∀ r ∈ rs,0 < r.2)->0 < rs.foldl (fun l r=>lcm1 l r.2) l/\l ∣ rs.foldl (fun l r=>lcm1 l r.2) l/\(∀ r ∈ rs,r.2 ∣ rs.foldl (fun l r=>lcm1 l r.2) l)/\∀ D,l ∣ D->(∀ r ∈ rs,r.2 ∣ D)->rs.foldl (fun l r=>lcm1 l r.2) l ∣ D
 | [],l,hl,_=>⟨hl,Int.dvd_refl _,(fun _ h=>nomatch h),fun D h _=>h⟩
 | r :: t,l,hl,h=>by
  obtain ⟨p,d1,d2,m⟩:=lcm1_spec hl (h r List.mem_cons_self)
  obtain ⟨p',d1',d2',m'⟩:=fold_lcm t (lcm1 l r.2) p fun x hx=>h x (List.mem_cons_of_mem _ hx)
  refine ⟨p',Int.dvd_trans d1 d1',fun x hx=>?_,fun D h1 h2=>m' D (m D h1 (h2 r List.mem_cons_self)) fun x hx=>h2 x (List.mem_cons_of_mem _ hx)⟩
  rcases List.mem_cons.mp hx with rfl | hx
  ·exact Int.dvd_trans d2 d1'
  ·exact d2' x hx
theorem lcmB_spec {rs:List Rat} (h:∀ r ∈ rs,0 < r.2):0 < lcmB rs/\(∀ r ∈ rs,r.2 ∣ lcmB rs)/\∀ D,(∀ r ∈ rs,r.2 ∣ D)->lcmB rs ∣ D:=by
 obtain ⟨p,_,d,m⟩:=fold_lcm rs 1 (by decide) h
 exact ⟨p,d,fun D hD=>m D (Int.one_dvd _) hD⟩
def wholeB (rs:List Rat) (D:Int):List Int:=rs.map fun r=>r.1 * D.fdiv r.2
theorem wholeB_rep {r:Rat} {D:Int} (h:r.2 ∣ D):r.1 * D=(r.1 * D.fdiv r.2) * r.2:=by
 have:=fdiv_exact h
 rw [Int.mul_assoc,this]
theorem RepL.least {n:Nat} {D:Int} {Ws:List Int} {rs:List Rat} (h:RepL n D Ws rs):RepL n (lcmB rs) (wholeB rs (lcmB rs)) rs:=by
 have low:∀ r ∈ rs,Low r:=fun r hr=>(h.good r hr).low
 obtain ⟨p,d,m⟩:=lcmB_spec fun r hr=>(low r hr).pos
 have dD:∀ r ∈ rs,r.2 ∣ D:=fun r hr=>by
  obtain ⟨i,hi⟩:=List.getElem?_of_mem hr
  have hl:i < rs.length:=(List.getElem?_eq_some_iff.mp hi).1
  have hw:i < Ws.length:=by rw [h.len]; exact hl
  obtain ⟨e,b,l⟩:=h.at_ i Ws[i] r (by simp [hw]) hi
  exact dvd_of_rep l.pos l.cop e
 have hd:=m D dD
 refine ⟨p,h.bD.of_le' (le_of_dvd_pos h.pos hd),by unfold wholeB; rw [List.length_map],fun i W r hW hr=>?_⟩
 have hrm:=List.mem_of_getElem? hr
 have hl:i < rs.length:=(List.getElem?_eq_some_iff.mp hr).1
 have hw:i < Ws.length:=by rw [h.len]; exact hl
 obtain ⟨e,b,l⟩:=h.at_ i Ws[i] r (by simp [hw]) hr
 unfold wholeB at hW
 rw [List.getElem?_map,hr] at hW
 cases hW
 refine ⟨wholeB_rep (d r hrm),?_,l⟩
 obtain ⟨k,ek⟩:=hd
 have e1:=wholeB_rep (D:=lcmB rs) (d r hrm)
 have hk:Ws[i]=(r.1 * (lcmB rs).fdiv r.2) * k:=by
  have:(r.1 * (lcmB rs).fdiv r.2 * k) * r.2=Ws[i] * r.2:=by
   rw [← e,ek,← Int.mul_assoc,e1]
   grind
  exact (Int.eq_of_mul_eq_mul_right (by have:=l.pos; omega) this).symm
 have hk0:k ≠ 0:=by
  intro z
  rw [z,Int.mul_zero] at ek
  have:=h.pos
  omega
 refine b.of_le' ?_
 rw [hk,Int.natAbs_mul _ k]
 exact Nat.le_mul_of_pos_right _ (by omega)
theorem fdiv_le {a b:Int} (ha:0 < a) (hb:0 < b):(a.fdiv b).natAbs<=a.natAbs:=by
 rw [Int.fdiv_eq_ediv_of_nonneg _ (by omega)]
 have h1:=Int.ediv_nonneg (show 0<=a by omega) (show 0<=b by omega)
 have h2:=Int.ediv_le_self b (show 0<=a by omega)
 omega
theorem fold_lcm_bd {n:Nat}:∀ (rs:List Rat) (l:Int) (m:Nat),0 < l->Bd m l->(∀ r ∈ rs,0 < r.2/\Bd n r.2)->Bd (m + n * rs.length) (rs.foldl (fun l r=>lcm1 l r.2) l)
 | [],l,m,_,b,_=>b
 | r :: t,l,m,hl,b,h=>by
  obtain ⟨hp,hb⟩:=h r List.mem_cons_self
  obtain ⟨p,_,_,mm⟩:=lcm1_spec hl hp
  have:Bd (m + n) (lcm1 l r.2):=(b.mul hb).of_le' (le_of_dvd_pos (Int.mul_pos hl hp) (mm _ (Int.dvd_mul_right ..) (Int.dvd_mul_left ..)))
  have:=fold_lcm_bd t (lcm1 l r.2) (m + n) p this fun x hx=>h x (List.mem_cons_of_mem _ hx)
  rw [List.length_cons,Nat.mul_succ]
  exact this.mono (by omega)
theorem RepL.of_good {n:Nat} {rs:List Rat} (h:∀ r ∈ rs,Good n r):RepL (n * (rs.length + 1) + 1) (lcmB rs) (wholeB rs (lcmB rs)) rs:=by
 obtain ⟨p,d,_⟩:=lcmB_spec fun r hr=>(h r hr).pos
 have b:Bd (1 + n * rs.length) (lcmB rs):=fold_lcm_bd rs 1 1 (by decide) (by show (1:Int).natAbs < 2 ^ 1; decide) fun r hr=>⟨(h r hr).pos,(h r hr).b2⟩
 refine ⟨p,b.mono (by rw [Nat.mul_succ]; omega),by unfold wholeB; rw [List.length_map],fun i W r hW hr=>?_⟩
 have hrm:=List.mem_of_getElem? hr
 unfold wholeB at hW
 rw [List.getElem?_map,hr] at hW
 cases hW
 exact ⟨wholeB_rep (d r hrm),((h r hrm).b1.mul (b.of_le' (fdiv_le p (h r hrm).pos))).mono (by rw [Nat.mul_succ]; omega),(h r hrm).low⟩
theorem bd_sum {n:Nat}:∀ (xs:List Int),(∀ x ∈ xs,Bd n x)->∀ k,xs.length<=2 ^ k->Bd (n + k) xs.sum:=fun xs h k hk=>by
 have key:∀ (xs:List Int),(∀ x ∈ xs,Bd n x)->xs.sum.natAbs<=xs.length * (2 ^ n - 1):=fun xs=>by
  induction xs with
  | nil=>intro _; simp
  | cons a t ih =>
   intro h
   have h1:=ih fun x hx=>h x (List.mem_cons_of_mem _ hx)
   have h2:a.natAbs < 2 ^ n:=h a List.mem_cons_self
   rw [List.sum_cons,List.length_cons,Nat.succ_mul]
   omega
 have h1:=key xs h
 unfold Bd
 have h2:xs.length * (2 ^ n - 1)<=2 ^ k * (2 ^ n - 1):=Nat.mul_le_mul_right _ hk
 have h3:2 ^ k * (2 ^ n - 1) < 2 ^ (n + k):=by
  rw [Nat.pow_add,Nat.mul_comm (2 ^ n)]
  have:0 < 2 ^ n:=Nat.pow_pos (by decide)
  exact Nat.mul_lt_mul_of_pos_left (by omega) (Nat.pow_pos (by decide))
 omega
theorem rep_sum {D:Int} (hD:0 < D):∀ (Ns:List Int) (zs:List Rat),Ns.length=zs.length->(∀ (i:Nat) (N:Int) (z:Rat),Ns[i]?=some N->zs[i]?=some z->z.1 * D=N * z.2/\Low z)->∀ (a:Rat) (A:Int),Low a->a.1 * D=A * a.2->(zs.foldl addR a).1 * D=(A + Ns.sum) * (zs.foldl addR a).2/\Low (zs.foldl addR a)
 | [],[],_,_,a,A,la,ha=>⟨by simpa using ha,la⟩
 | [],_ :: _,h,_,_,_,_,_=>by simp at h
 | _ :: _,[],h,_,_,_,_,_=>by simp at h
 | N :: Ns,z :: zs,h,hz,a,A,la,ha=>by
  obtain ⟨e,lz⟩:=hz 0 N z rfl rfl
  obtain ⟨h1,h2⟩:=rep_sum hD Ns zs (by simpa using h) (fun i N' z' e1 e2=>hz (i + 1) N' z' (by simpa using e1) (by simpa using e2)) (addR a z) (A + N) (low_add la lz) (rep_add la.pos lz.pos ha e)
  refine ⟨?_,h2⟩
  rw [List.sum_cons,← Int.add_assoc]
  exact h1
theorem RepL.mul {n n':Nat} {D D':Int} {Ws Rs:List Int} {ws rs:List Rat} (h:RepL n D Ws ws) (h':RepL n' D' Rs rs) (hl:ws.length=rs.length):RepL (n + n') (D * D') (List.zipWith (· * ·) Ws Rs) (List.zipWith mulR' ws rs):=by
 refine ⟨Int.mul_pos h.pos h'.pos,h.bD.mul h'.bD,by rw [List.length_zipWith,List.length_zipWith,h.len,h'.len],fun i W r hW hr=>?_⟩
 rw [List.getElem?_zipWith] at hW hr
 cases e1:Ws[i]? with
 | none=>rw [e1] at hW; cases hW
 | some x =>
  cases e2:Rs[i]? with
  | none=>rw [e1,e2] at hW; cases hW
  | some y =>
   cases e3:ws[i]? with
   | none=>rw [e3] at hr; cases hr
   | some u =>
    cases e4:rs[i]? with
    | none=>rw [e3,e4] at hr; cases hr
    | some v =>
     rw [e1,e2] at hW
     rw [e3,e4] at hr
     cases hW
     cases hr
     obtain ⟨a1,b1,l1⟩:=h.at_ i x u e1 e3
     obtain ⟨a2,b2,l2⟩:=h'.at_ i y v e2 e4
     exact ⟨rep_mul l1.pos l2.pos a1 a2,b1.mul b2,low_mul l1 l2⟩
theorem RepL.sum {n:Nat} {D:Int} {Ns:List Int} {zs:List Rat} (h:RepL n D Ns zs):(zs.foldl addR (0,1)).1 * D=Ns.sum * (zs.foldl addR (0,1)).2/\Low (zs.foldl addR (0,1)):=by
 have:=rep_sum h.pos Ns zs h.len (fun i N z e1 e2=>⟨(h.at_ i N z e1 e2).1,(h.at_ i N z e1 e2).2.2⟩) (0,1) 0 low01 (by simp)
 rwa [Int.zero_add] at this
theorem RepL.take {n:Nat} {D:Int} {Ns:List Int} {zs:List Rat} (h:RepL n D Ns zs) (i:Nat):RepL n D (Ns.take i) (zs.take i):=by
 refine ⟨h.pos,h.bD,by rw [List.length_take,List.length_take,h.len],fun j W r hW hr=>?_⟩
 rw [List.getElem?_take] at hW hr
 split at hW
 ·rename_i q
  rw [if_pos q] at hr
  exact h.at_ j W r hW hr
 ·cases hW
theorem RepL.sumGood {n k:Nat} {D:Int} {Ns:List Int} {zs:List Rat} (h:RepL n D Ns zs) (hk:zs.length<=2 ^ k):Good (n + k) (zs.foldl addR (0,1)):=by
 obtain ⟨e,l⟩:=h.sum
 refine good_of_rep h.pos l.pos l.cop e (h.bD.mono (by omega)) (bd_sum Ns (fun x hx=>?_) k (by rw [h.len]; exact hk))
 obtain ⟨i,hi⟩:=List.getElem?_of_mem hx
 have hl:i < Ns.length:=(List.getElem?_eq_some_iff.mp hi).1
 have hz:i < zs.length:=by rw [← h.len]; exact hl
 exact (h.at_ i x zs[i] hi (by simp [hz])).2.1
theorem mean_eq {n n':Nat} {D D':Int} {Ws Rs:List Int} {ws rs:List Rat} (h:RepL n D Ws ws) (h':RepL n' D' Rs rs) (hl:ws.length=rs.length) :
  nrm (List.zipWith (· * ·) Ws Rs).sum (D * D')=(List.zipWith mulR' ws rs).foldl addR (0,1):=by
 have m:=h.mul h' hl
 obtain ⟨e,l⟩:=m.sum
 have hne:D * D' ≠ 0:=by have:=m.pos; omega
 have l':=low_nrm (p:=(List.zipWith (· * ·) Ws Rs).sum) hne
 have e':=rep_nrm (p:=(List.zipWith (· * ·) Ws Rs).sum) hne
 refine rat_unique l'.pos l.pos l'.cop l.cop ?_
 generalize (List.zipWith mulR' ws rs).foldl addR (0,1)=u at *
 generalize nrm (List.zipWith (· * ·) Ws Rs).sum (D * D')=v at *
 generalize (List.zipWith (· * ·) Ws Rs).sum=N at *
 generalize D * D'=E at *
 have:E * (v.1 * u.2)=E * (u.1 * v.2):=by grind
 exact Int.eq_of_mul_eq_mul_left hne this
end Sb
namespace Sb
open PySem L2
def sumR (rs:List Rat):Rat:=rs.foldl addR (0,1)
theorem sumR_snoc (rs:List Rat) (r:Rat):sumR (rs ++ [r])=addR (sumR rs) r:=by
 unfold sumR
 rw [List.foldl_append]
 rfl
theorem sumR_take {rs:List Rat} {i:Nat} {r:Rat} (h:rs[i]?=some r):sumR (rs.take (i + 1))=addR (sumR (rs.take i)) r:=by rw [take_snoc h,sumR_snoc]
theorem sum_le:∀ (ns:List Int) (m:Int),(∀ z ∈ ns,0<=z/\z<=m)->0<=ns.sum/\ns.sum<=m * ns.length
 | [],m,_=>by simp
 | z :: t,m,h=>by
  obtain ⟨h1,h2⟩:=sum_le t m fun x hx=>h x (List.mem_cons_of_mem _ hx)
  obtain ⟨h3,h4⟩:=h z List.mem_cons_self
  rw [List.sum_cons,List.length_cons]
  have:m * ((t.length + 1:Nat):Int)=m * t.length + m:=by rw [Int.natCast_add,Int.mul_add]; simp
  omega
theorem sum_pos:∀ (ns:List Int),(∀ z ∈ ns,0<=z)->(∃ z ∈ ns,1<=z)->1<=ns.sum
 | [],_,h=>by obtain ⟨z,hz,_⟩:=h; cases hz
 | y :: t,h0,h=>by
  have ht:0<=t.sum:=by
   have:∀ l:List Int,(∀ z ∈ l,0<=z)->0<=l.sum:=fun l=>by
    induction l with
    | nil=>intro _; simp
    | cons a r ih =>
     intro h
     have:=ih fun x hx=>h x (List.mem_cons_of_mem _ hx)
     have:=h a List.mem_cons_self
     rw [List.sum_cons]
     omega
   exact this t fun x hx=>h0 x (List.mem_cons_of_mem _ hx)
  have hy:=h0 y List.mem_cons_self
  rw [List.sum_cons]
  obtain ⟨z,hz,h1⟩:=h
  rcases List.mem_cons.mp hz with e | e
  ·subst e; omega
  ·have:=sum_pos t (fun x hx=>h0 x (List.mem_cons_of_mem _ hx)) ⟨z,e,h1⟩
   omega
end Sb
namespace Sb
theorem take_map {α β:Type} (f:α->β) {l:List α} {i:Nat} {x:α} (h:l[i]?=some x):(l.map f).take (i + 1)=(l.map f).take i ++ [f x]:=take_snoc (by rw [List.getElem?_map,h]; rfl)
open Sv (sm sm_congr sm_add sm_mul sm_zero sm_nonneg sm_split sm_le)
theorem zip_sum:∀ (c:Nat) (As Bs:List Int),As.length=c->Bs.length=c->(List.zipWith (· * ·) As Bs).sum=sm c (fun i=>As.getD i 0 * Bs.getD i 0)
 | 0,As,Bs,h1,h2=>by
  rw [List.eq_nil_of_length_eq_zero h1]
  rfl
 | c + 1,As,Bs,h1,h2=>by
  have e1:As=As.take c ++ [As.getD c 0]:=by
   have:As[c]?=some (As.getD c 0):=by simp [List.getD,show c < As.length by omega]
   rw [← take_snoc this,List.take_of_length_le (by omega)]
  have e2:Bs=Bs.take c ++ [Bs.getD c 0]:=by
   have:Bs[c]?=some (Bs.getD c 0):=by simp [List.getD,show c < Bs.length by omega]
   rw [← take_snoc this,List.take_of_length_le (by omega)]
  have l1:(As.take c).length=c:=by rw [List.length_take]; omega
  have l2:(Bs.take c).length=c:=by rw [List.length_take]; omega
  have ih:=zip_sum c (As.take c) (Bs.take c) l1 l2
  conv=>lhs; rw [e1,e2]
  rw [List.zipWith_append (by omega)]
  rw [List.sum_append,ih]
  show _ + (As.getD c 0 * Bs.getD c 0 + 0)=sm c _ + As.getD c 0 * Bs.getD c 0
  rw [Int.add_zero]
  congr 1
  refine sm_congr fun i hi=>?_
  have g:∀ L:List Int,c<=L.length->(L.take c).getD i 0=L.getD i 0:=fun L hL=>by
   simp [List.getD,List.getElem?_take,hi]
  rw [g As (by omega),g Bs (by omega)]
def cutZ (o:Option (Nat->Bool)) (Zs:List Int):List Int:=Zs.mapIdx fun i z=>if inE o i then z else 0
theorem cutZ_len (o:Option (Nat->Bool)) (Zs:List Int):(cutZ o Zs).length=Zs.length:=by unfold cutZ; simp
theorem cutZ_at {o:Option (Nat->Bool)} {Zs:List Int} {i:Nat}:(cutZ o Zs)[i]?=(Zs[i]?).map fun z=>if inE o i then z else 0:=by
 unfold cutZ
 rw [List.getElem?_mapIdx]
theorem cutZ_getD (o:Option (Nat->Bool)) (Zs:List Int) (i:Nat):(cutZ o Zs).getD i 0=if inE o i then Zs.getD i 0 else 0:=by
 simp only [List.getD,cutZ_at]
 cases Zs[i]? with
 | none=>simp
 | some z=>rfl
theorem bd0 (n:Nat):Bd n 0:=by
 show (0:Int).natAbs < 2 ^ n
 exact Nat.pow_pos (by decide)
theorem RepL.cut {n:Nat} {D:Int} {Zs:List Int} {rs:List Rat} (h:RepL n D Zs rs) (o:Option (Nat->Bool)):RepL n D (cutZ o Zs) (cutR o rs):=by
 refine ⟨h.pos,h.bD,by rw [cutZ_len,cutR_len,h.len],fun i W r hW hr=>?_⟩
 have hl:i < rs.length:=by
  have:=(List.getElem?_eq_some_iff.mp hr).1
  rwa [cutR_len] at this
 have hz:i < Zs.length:=by rw [h.len]; exact hl
 rw [cutR_at (r:=rs[i]) (by simp [hl])] at hr
 rw [cutZ_at,show Zs[i]?=some Zs[i] by simp [hz]] at hW
 cases hr
 cases hW
 obtain ⟨a,b,l⟩:=h.at_ i Zs[i] rs[i] (by simp [hz]) (by simp [hl])
 split
 ·exact ⟨a,b,l⟩
 ·exact ⟨by simp,bd0 n,low01⟩
theorem RepL.ones (c:Nat):RepL 1 1 (List.replicate c 1) (List.replicate c (1,1)):=by
 refine ⟨by decide,by show (1:Int).natAbs < 2 ^ 1; decide,by simp,fun i W r hW hr=>?_⟩
 have h1:=List.eq_of_mem_replicate (List.mem_of_getElem? hW)
 have h2:=List.eq_of_mem_replicate (List.mem_of_getElem? hr)
 subst h1 h2
 exact ⟨rfl,by show (1:Int).natAbs < 2 ^ 1; decide,low11⟩
theorem RepL.mono {m n:Nat} {D:Int} {Zs:List Int} {rs:List Rat} (h:RepL m D Zs rs) (k:m<=n):RepL n D Zs rs :=
 ⟨h.pos,h.bD.mono k,h.len,fun i W r hW hr=>⟨(h.at_ i W r hW hr).1,(h.at_ i W r hW hr).2.1.mono k,(h.at_ i W r hW hr).2.2⟩⟩
theorem rep_scale {r:Rat} {D W:Int} (k:Int) (h:r.1 * D=W * r.2):r.1 * (D * k)=(W * k) * r.2:=by
 rw [← Int.mul_assoc,h,Int.mul_assoc,Int.mul_comm r.2,← Int.mul_assoc]
theorem rep_quot {mi sh q:Rat} {D S M:Int} (hm:0 < mi.2) (hs:0 < sh.2) (h1:mi.1 * (D * 6)=M * mi.2) (h2:sh.1 * (D * 1)=S * sh.2) (hq:q.1 * (mi.2 * sh.1)=(mi.1 * sh.2) * q.2):q.1 * (6 * S)=M * q.2:=by
 have:(mi.2 * sh.2) * (q.1 * (6 * S))=(mi.2 * sh.2) * (M * q.2):=by
  have e1:(mi.2 * sh.2) * (q.1 * (6 * S))=q.1 * mi.2 * 6 * (S * sh.2):=by grind
  have e2:(mi.2 * sh.2) * (M * q.2)=(M * mi.2) * sh.2 * q.2:=by grind
  rw [e1,e2,← h1,← h2]
  have e3:q.1 * mi.2 * 6 * (sh.1 * (D * 1))=(q.1 * (mi.2 * sh.1)) * (6 * D):=by grind
  rw [e3,hq]
  grind
 exact Int.eq_of_mul_eq_mul_left (mul_ne hm hs) this
section
variable {c:Nat} {Ws Ro:List Int} {o:Option (Nat->Bool)}
end
theorem dot_bd {m n k:Nat} {As Bs:List Int} (ha:∀ z ∈ As,Bd m z) (hb:∀ z ∈ Bs,Bd n z) (hl:As.length<=2 ^ k):Bd (m + n + k) (List.zipWith (· * ·) As Bs).sum:=by
 refine bd_sum _ (fun x hx=>?_) k (by rw [List.length_zipWith]; omega)
 obtain ⟨i,hi⟩:=List.getElem?_of_mem hx
 rw [List.getElem?_zipWith] at hi
 cases e1:As[i]? with
 | none=>rw [e1] at hi; cases hi
 | some a =>
  cases e2:Bs[i]? with
  | none=>rw [e1,e2] at hi; cases hi
  | some b =>
   rw [e1,e2] at hi
   cases hi
   exact (ha a (List.mem_of_getElem? e1)).mul (hb b (List.mem_of_getElem? e2))
theorem RepL.bdW {n:Nat} {D:Int} {Zs:List Int} {rs:List Rat} (h:RepL n D Zs rs):∀ z ∈ Zs,Bd n z:=fun z hz=>by
 obtain ⟨i,hi⟩:=List.getElem?_of_mem hz
 have hl:i < Zs.length:=(List.getElem?_eq_some_iff.mp hi).1
 have hr:i < rs.length:=by rw [← h.len]; exact hl
 exact (h.at_ i z rs[i] hi (by simp [hr])).2.1
end Sb
namespace Sb
open PySem L2
structure Goes (J:It) (H:Hp) (xs:List V):Prop where
 go:∀ (i:Nat) (H':Hp),Same H H'->i < xs.length->J.go i H'
 yld:∀ (i:Nat) (H':Hp) (x:V) (H'':Hp),Same H H'->J.yld i H' x H''->H''=H'/\xs[i]?=some x
 stop:∀ H':Hp,Same H H'->J.stop xs.length H'
theorem goesL {K:PySem.W.Frag} {H:Hp} {a:Addr} {xs:List V} (h:SqL K H a xs):Goes (Itl K a) H xs :=
 ⟨fun i H' S hi=>⟨xs,xs[i],sameL S h,by simp [hi]⟩,fun _ _ _ _ S ⟨e,f⟩=>⟨e,f xs (sameL S h)⟩,fun _ S=>⟨xs,sameL S h,Nat.le_refl _⟩⟩
theorem goesT {K:PySem.W.Frag} {H:Hp} {a:Addr} {xs:List V} (h:SqT K H a xs):Goes (Itt K a) H xs :=
 ⟨fun i H' S hi=>⟨xs,xs[i],sameT S h,by simp [hi]⟩,fun _ _ _ _ S ⟨e,f⟩=>⟨e,f xs (sameT S h)⟩,fun _ S=>⟨xs,sameT S h,Nat.le_refl _⟩⟩
section
open PySem.Spec PyProof.Rows
variable {X:Cx} {tg:Expr}
inductive iAny_i (K:PySem.W.Frag) (R:(It->Hp->Prop)) (x:V) (H1:Hp):Prop
 | mk (a:Addr) (xs:List V) (zz0:x=.ref a) (zz1:(SqL K H1 a xs \/ SqT K H1 a xs)) (zz2:∀ J:It,Goes J H1 xs->R J H1)
def iAny (K:PySem.W.Frag) (tl:TE):TI:=fun σ H R=>tl σ H (iAny_i K R)
theorem pi_any {l:Expr} {tl:TE} (hl:PE X l tl):PI X tg l (iAny X.K tl):=by
 intro pins s σ H R I h
 refine thn (hl pins s σ H _ I h) fun v s1 ⟨x,H1,I1,r1,q1⟩=>?_
 obtain ⟨a,xs,e,hq | hq,q⟩:=q1
 ·subst e
  cases r1
  obtain ⟨its,rv,p,hz⟩:=I1.list hq
  refine wpAny_pyIter_list p.isList ?_
  refine ⟨s1.heap.objs.size,[s1.heap.objs.size],_,_,H1,rfl,I1.kept (t':=s1.toks) fun b o e=>Heap.get?_push_of_some _ e,turn_list a _,⟨_,Heap.get?_push_size _ rfl,rfl,rfl⟩,fun b hb=>?_,q _ (goesL hq)⟩
  have e:b=s1.heap.objs.size:=by simpa using hb
  subst e
  exact I1.fpOk (Nat.le_refl _) (I1.hok.fresh (Nat.le_refl _))
 ·subst e
  cases r1
  obtain ⟨its,rv,p,hz⟩:=I1.tuple hq
  refine wpAny_pyIter_tuple (show s1.heap.IsTuple a its.toArray from p) ?_
  refine ⟨s1.heap.objs.size,[s1.heap.objs.size],_,_,H1,rfl,I1.kept (t':=s1.toks) fun b o e=>Heap.get?_push_of_some _ e,turn_tuple a _,⟨_,Heap.get?_push_size _ rfl,rfl,rfl⟩,fun b hb=>?_,q _ (goesT hq)⟩
  have e:b=s1.heap.objs.size:=by simpa using hb
  subst e
  exact I1.fpOk (Nat.le_refl _) (I1.hok.fresh (Nat.le_refl _))
end
end Sb
namespace Sb
open PySem PySem.Spec PyProof.Rows L2
section
variable {X:Cx}
theorem ps_setC {i:Nat} {x:Str} {pos' spos:Pos} {elt iter tg:Expr} {ifs:List Expr} {scope:Scope} {pos:Pos} {wi:TI} {g:TG} {tt:TT} {te:TE} {N:List Str} {k:Nat} {fv:List Nat}
  (hXN:X.N.Nodup) (hix:X.N[i]?=some x) (hx:Loc X.env.scope x)
  (hc:X.calm=true) (hi:PI X tg iter wi) (hg:∀ cl C fp s H,PG (compCx X N scope cl C fp s H) tg g) (ht:∀ cl C fp s H,PTs (compCx X N scope cl C fp s H) ifs tt) (he:∀ cl C fp s H,PE (compCx X N scope cl C fp s H) elt te)
  (hw:∀ r x H Q,g x (List.replicate k none ++ r) H Q->g x (List.replicate k none ++ r) H fun σ4 H4=>Q σ4 H4/\Weaker σ4 (List.replicate k none ++ r))
  (hN:N.length=k + fv.length:=by rfl) (hfv:fv.map (fun j=>X.N[j]?)=(N.drop k).map some:=by rfl) (hk:(N.drop k).map X.env.kindOf=(N.drop k).map (fun _=>some .cell):=by rfl)
  (hfl:∀ y ∈ N.drop k,scope.names.lookup y=some .free:=by decide +kernel) (hfr:∀ y ∈ scope.names,y.2=.free->y.1 ∈ N.drop k:=by decide +kernel)
  (hcell:∀ y ∈ scope.names,y.2 ≠ .cell:=by decide +kernel) (hkind:scope.kind=.function:=by rfl) (hnames:∀ y ∈ scope.names,y.2=.local->scope.names.lookup y.1=some .local:=by decide +kernel)
  (hs:∀ x,foldedSetIterable iter X.env x=pure x:=by intro _; rfl)
  (hsw:swapsWith (.ListComp elt [⟨tg,iter,ifs,0⟩] scope pos) (some (.Name x pos')) spos.line X.env=pure true:=by rfl)
  (hf:X.fn x=true \/ X.env.scope.names.lookup x=some .local:=by first | exact .inl rfl | exact .inr rfl | assumption) :
  PS X (.Assign [.Name x pos'] (.ListComp elt [⟨tg,iter,ifs,0⟩] scope pos) spos) (tAsg (tComp wi g tt te k fv) (gName i)):=by
 intro pins s σ H D I h
 have kc:∀ y ∈ N.drop k,X.env.kindOf y=some .cell:=fun y hy=>by
  obtain ⟨j,hj⟩:=List.getElem?_of_mem hy
  have a:=congrArg (fun l=>l[j]?) hk
  simp only [List.getElem?_map,hj,Option.map_some] at a
  exact Option.some.inj a
 obtain ⟨cl,hclos,h1,h2⟩:=closureFor_ok (env:=X.env) (scope:=scope) fun y hy hf=>I.ok.has y.1 (.inl (kc y.1 (hfr y hy hf)))
 rw [exec_Assign_Name_used _ _ _ _ hsw]
 refine wpAny_bind (wpAny_standAt (wpAny_bind ?_))
 unfold evalThenUse
 refine wpAny_bind (wpAny_comprehension_free (use:=some (assign (.Name x pos') X.env)) rfl hs hclos hkind hnames (thn (hi pins s σ H _ I h) fun xv s1 h1'=>thn h1' fun itv s2 h2'=>?_))
 obtain ⟨it,fp,tn,J,H2,e,I2,T,st2,f2,body⟩:=h2'
 subst e
 refine comp_block (Q:=fun v H1=>gName i v σ H1 D.nx) (RR:=fun acc C=>compPost (model X.prog X.w) X.A X.xe (some (assign (.Name x pos') X.env)) _ acc C) hc hg ht he hw hN hfv hk hfl hcell hkind h1 h2 I2 T st2 f2 body fun Dd C H' s' ⟨m,hm⟩ fpC q iv=>?_
 show wpAny _ _ (assign (.Name x pos') X.env (.ref Dd)) _ _ s'
 have I':Inv X pins σ H' s':=iv s'.heap ⟨rfl,fun _ _=>rfl⟩
 refine wpAny_assign_Name (store_ok2 I' hXN hix hx (v:=.ref Dd) rfl (fun s3 I3 ⟨a,sb,ha⟩=>⟨m,?_,fun h' hs'=>?_⟩) hf)
 ·have hne:C ≠ a:=by
   rcases ha with rfl | ha
   ·exact fpC.2.1
   ·exact fun z=>fpC.2.2.2.2.1 x a ha z.symm
  obtain ⟨o,es,ep,ho,r⟩:=hm
  exact ⟨o,es,ep,by rw [sb.2 C hne]; exact ho,r⟩
 ·refine wpAny_pure (wpAny_pure ?_)
  have I4:=inv_recs (ch:=[C]) (h':=h') (t':=s3.toks) I3 (fun b hb=>by rw [List.mem_singleton.mp hb]; exact fpC) fun b o hb e=>by
   rw [hs'.2 b (fun z=>hb (by rw [z]; exact List.mem_singleton.mpr rfl))]
   exact e
  exact ⟨_,H',I4,q⟩
end
end Sb
namespace Sb
open PySem L2
theorem for_enumL {K:PySem.W.Frag} {a:Addr} {xs:List V} {g:TG} {tb:TS} {D:Ends} {σ:L2.St} {H:Hp} (Pv:Nat->L2.St->Hp->Prop) (h0:Pv 0 σ H) (hl:∀ i σ H,i<=xs.length->Pv i σ H->SqL K H a xs)
  (hs:∀ i x σ H p,xs[i]?=some x->Pv i σ H->H p=none->g (.ref p) σ (upd H p (.tup [.int (i:Int),x])) fun σ2 H2=>tb { D with nx:=Pv (i + 1),ct:=Pv (i + 1),bk:=D.nx } σ2 H2) (hd:∀ σ H,Pv xs.length σ H->D.nx σ H) :
  ∃ W:Nat->Nat->L2.St->Hp->Prop,(∃ m,W 0 m σ H)/\∀ i m σ H,W i m σ H →
   ((IteL K a).stop i H/\D.nx σ H) \/ ((IteL K a).go i H/\∃ N:L2.St->Hp->Prop,(∀ σ' H',N σ' H'->∃ m',m' < m/\W (i + 1) m' σ' H')/\∀ x H',(IteL K a).yld i H x H'->g x σ H' fun σ2 H2=>tb { D with nx:=N,ct:=N,bk:=D.nx } σ2 H2):=by
 refine ⟨fun i m σ H=>m=xs.length - i/\i<=xs.length/\Pv i σ H,⟨xs.length,by simp,Nat.zero_le _,h0⟩,?_⟩
 rintro i m σ H ⟨rfl,hi,p⟩
 have q:=hl i σ H hi p
 by_cases hlt:i < xs.length
 ·refine .inr ⟨⟨xs,q,hlt⟩,Pv (i + 1),fun σ' H' p'=>⟨xs.length - (i + 1),by omega,rfl,hlt,p'⟩,fun x H' y=>?_⟩
  obtain ⟨pp,x0,rfl,hp,rfl,fx⟩:=y
  exact hs i x0 σ H pp (fx xs q) p hp
 ·have e:i=xs.length:=by omega
  subst e
  exact .inl ⟨⟨xs,q,rfl⟩,hd σ H p⟩
end Sb
namespace Sb
open PySem L2
theorem Paired.appP {α β:Type} {R:α->β->Prop}:∀ {xs xs':List α} {ys ys':List β},Paired R xs ys->Paired R xs' ys'->Paired R (xs ++ xs') (ys ++ ys')
 | _,_,_,_,.nil,s=>s
 | _,_,_,_,.cons r t,s=>.cons r (Paired.appP t s)
section
variable {K:PySem.W.Frag}
def RowsAt (K:PySem.W.Frag) (H:Hp) (l:Addr) (rss:List (List Rat)):Prop:=∃ as:List Addr,H l=some (.lst (as.map V.ref))/\Paired (RowAt K H) as rss
theorem rows_ext {H H':Hp} {as:List Addr} {rss:List (List Rat)} (h:Paired (RowAt K H) as rss) (x:Ext H H'):Paired (RowAt K H') as rss:=Paired.mapP h fun _ _ q=>q.ext x
end
theorem iteNT {c A B:Prop} [Decidable c] (hc:¬ c) (h:A):if (!decide c)=true then A else B:=by
 rw [decide_eq_false hc]
 exact iteT h
end Sb
namespace Sb
open PySem PySem.Spec PyProof.Rows L2
theorem tuple_mul1 (l:Addr) (items:Array Value) (n:Nat) (dd:Option Addr) (sl:Array (Option Value)) (u:Tok) :
  Meets (Builtin.«tuple.__mul__» ⟨[.ref l,.int 1 u],[]⟩) (fun _ R s=>s.heap.get? l=some { cls:=.type "tuple",dict:=dd,data:=.seq items n,slots:=sl }/\R (.ok (.ret (Value.ref l))) s) :=
 .of_wp fun prog w A R s h=>by
  obtain ⟨hp,g,d,tk,os⟩:=s; obtain ⟨hl,h⟩:=h
  have f1:=AutoSeq1.idx_int
  have f2:=AutoSeq1.sub_tuple_tuple
  have c1:(items.isEmpty || (1:Int) == 1)=true:=by simp
  wp_walk using wpAny_loadPart' hl
  exact ⟨_,rfl,h⟩
section
variable {X:Cx} {K:PySem.W.Frag}
inductive rRepU (K:PySem.W.Frag) (x:V) (y:V) (H:Hp) (Q:VK):Prop
 | mk (a k xs:_) (zz0:x=.ref a) (zz1:y=.int k) (zz2:SqT K H a xs) (zz3:1<=k) (zz4:xs ≠ []) (zz5:xs.length * k.toNat<=1000) (zz6:∀ p H',Same H H'->SqT K H' p (List.replicate k.toNat xs).flatten->Q (.ref p) H')
theorem op_repU:OpR X (binaryOp .Mult) (rRepU X.K):=by
 intro pins s σ H x y v u Q I rx ry h
 obtain ⟨l,k,xs,rfl,rfl,hq,h1,h2,h3,q⟩:=h
 by_cases hk:2<=k
 ·exact op_repT pins s σ H _ _ v u Q I rx ry ⟨l,k,xs,rfl,rfl,hq,hk,h2,h3,fun p hp=>q p _ (Same.new hp) (SqT.of upd_same)⟩
 ·have e:k=1:=by omega
  subst e
  cases rx
  obtain ⟨t,rfl⟩:=ry
  obtain ⟨its,r,pl,hz⟩:=I.tuple hq
  obtain ⟨⟨cls,dd,data,sl⟩,ho,hc,n,hd⟩:=id pl
  simp only at hc hd
  subst hc hd
  refine wpAny_binaryOp_repeat_ref (T:="tuple") (U:="int") (by decide) ⟨_,ho,rfl⟩ (fun s'=>typeIs_int s' 1 t) noFill_tuple_mul F.fills_int_mul F.slot_int_rmul repeat_tuple F.slot_int_index.lookup
   (call_meets F.slot_int_rmul (typeIs_int s 1 t) F.entry_int_rmul (F.args_int_rmul_2 _ _) (rmul_declines 1 t l its.toArray n dd sl)
    ⟨ho,rfl,⟨_,ho,rfl⟩,call_meets F.slot_tuple_mul ⟨_,ho,rfl⟩ F.entry_tuple_mul (F.args_tuple_mul_2 _ _) (tuple_mul1 l its.toArray n dd sl t) ⟨ho,?_⟩⟩)
  refine ⟨.ref l,H,I,rfl,q l H (fun _ _ h=>h) ?_⟩
  have:(List.replicate (1:Int).toNat xs).flatten=xs:=by simp
  rw [this]
  exact hq
end
end Sb
namespace Sv
structure Tab where
 b:Int
 own:Nat->Nat
 hd:Nat->Nat
 L:Nat->Nat->Int
def colOf (n:Nat) (col:Nat->Vec) (rhs:Vec) (T:Tab) (j:Nat):Vec:=if j < n then col (T.hd j) else rhs
def bas (col:Nat->Vec) (T:Tab):Mat:=fun i=>col (T.own i)
structure Inv (m n:Nat) (col:Nat->Vec) (rhs:Vec) (T:Tab):Prop where
 pos:0 < T.b
 dt:det m (bas col T)=T.b
 eqs:∀ j,j<=n->∀ r,r < m->T.b * colOf n col rhs T j r=sm m (fun i=>T.L i j * bas col T i r)
 part:∀ f:Nat->Int,sm (n + m) f=sm m (fun i=>f (T.own i)) + sm n (fun j=>f (T.hd j))
section
variable {m n:Nat} {col:Nat->Vec} {rhs:Vec} {T:Tab}
def newL (T:Tab) (p c i j:Nat):Int:=if i=p then (if j=c then T.b else T.L p j) else if j=c then - T.L i c else (T.L i j * T.L p c - T.L i c * T.L p j).fdiv T.b
def up (f:Nat->Nat) (i v:Nat):Nat->Nat:=fun k=>if k=i then v else f k
def piv (T:Tab) (p c:Nat):Tab:=⟨T.L p c,up T.own p (T.hd c),up T.hd c (T.own p),newL T p c⟩
def ind (v:Nat):Nat->Int:=fun x=>if x=v then 1 else 0
end
end Sv
namespace Sv
section
variable {m n lk i0:Nat} {col:Nat->Vec} {rhs:Vec} {T:Tab} {p c:Nat}
structure Step (m n lk i0:Nat) (T:Tab) (p c:Nat):Prop where
 hp:p < m
 hc:c < n
 nl:T.hd c ≠ lk
 help:0 < T.L i0 c
 first:∀ j,j < n->T.hd j ≠ lk->0 < T.L i0 j->T.hd c<=T.hd j
 el:T.own p<=lk
 key:0 < T.L p c
 least:∀ i,i < m->T.own i<=lk->0 < T.L i c->T.L p n * T.L i c < T.L i n * T.L p c \/ (T.L p n * T.L i c=T.L i n * T.L p c/\T.own p<=T.own i)
def Feas (m n lk:Nat) (T:Tab):Prop:=∀ i,i < m->T.own i<=lk->0<=T.L i n
structure Run (m n lk i0:Nat) (col:Nat->Vec) (rhs:Vec) (K:Nat) (S:Nat->Tab) (P C:Nat->Nat):Prop where
 h0:i0 < m
 I0:Inv m n col rhs (S 0)
 F0:Feas m n lk (S 0)
 st:∀ k,k < K->Step m n lk i0 (S k) (P k) (C k)
 stay:∀ k,k < K->P k ≠ i0
 nx:∀ k,k < K->S (k + 1)=piv (S k) (P k) (C k)
variable {K:Nat} {S:Nat->Tab} {P C:Nat->Nat}
def isOwn (m:Nat) (T:Tab) (r:Nat):Prop:=∃ i,i < m/\T.own i=r
def code (N:Nat):Nat->(Nat->Nat)->Nat
 | 0,_=>0
 | k + 1,f=>code N k f + f k * N ^ k
end
end Sv
namespace Sv
section
variable {m n:Nat} {col:Nat->Vec} {rhs:Vec} {T:Tab}
def numAt (n:Nat) (T:Tab) (i v:Nat):Int:=sm n (fun j=>if T.hd j=v then T.L i j else 0)
def endOf (m n:Nat) (T:Tab) (v:Nat):Int:=sm m (fun i=>if T.own i=v then T.L i n else 0)
def coef (n:Nat) (T:Tab) (i v:Nat):Int:=(if v=T.own i then T.b else 0) + numAt n T i v
end
section
variable {n g:Nat} {A:Nat->Nat->Int} {pap gl:Nat->Int}
def colS (n g:Nat) (A:Nat->Nat->Int) (pap gl:Nat->Int):Nat->Vec:=fun v r=>if v < n then (if r < g then A r v else if r=g then pap v else gl v) else if v - n=r then 1 else 0
def rhsS (g:Nat):Vec:=fun r=>if r=g then 1 else 0
def T0 (n g:Nat) (A:Nat->Nat->Int) (pap gl:Nat->Int):Tab:=⟨1,fun i=>n + i,fun j=>j,fun i j=>if j < n then colS n g A pap gl j i else rhsS g i⟩
variable {T:Tab}
abbrev InvS (n g:Nat) (A:Nat->Nat->Int) (pap gl:Nat->Int) (T:Tab):Prop:=Inv (g + 2) n (colS n g A pap gl) (rhsS g) T
structure Most (n g:Nat) (A:Nat->Nat->Int) (pap gl:Nat->Int) (T:Tab) (i:Nat):Prop where
 x0:∀ w,w < n->0<=endOf (g + 2) n T w
 fit:∀ k,k < g->sm n (fun w=>A k w * endOf (g + 2) n T w)<=0
 lie:sm n (fun w=>pap w * endOf (g + 2) n T w)=T.b
 val:sm n (fun w=>gl w * endOf (g + 2) n T w)=- T.L i n
 y0:∀ k,k < g->numAt n T i (n + k)<=0
 show_:∀ w,w < n->gl w * T.b<=sm g (fun k=>A k w * -numAt n T i (n + k)) + pap w * -T.L i n
end
end Sv
namespace Sb
open PySem PySem.Spec PyProof.Rows L2
section
variable {X:Cx} {K:PySem.W.Frag}
end
end Sb
namespace Sb
open PySem PySem.Spec PyProof.Rows L2
theorem cells_none:∀ (names:List (Str × NameKind)) (n:Nat) (acc:List (Str × Addr)) (h:Heap),(names.filter fun y=>y.2 == .cell)=[]->cellsFrom n names acc=acc/\pushCells h names=h
 | [],_,_,_,_=>⟨rfl,rfl⟩
 | (m,k) :: r,n,acc,h,e=>by
  by_cases hk:(k == NameKind.cell)=true
  ·rw [List.filter_cons_of_pos (a:=(m,k)) (l:=r) (p:=fun y:Str × NameKind=>y.2 == .cell) hk] at e
   cases e
  ·rw [List.filter_cons_of_neg (a:=(m,k)) (l:=r) (p:=fun y:Str × NameKind=>y.2 == .cell) hk] at e
   unfold cellsFrom pushCells
   rw [if_neg hk,if_neg hk]
   exact cells_none r n acc h e
theorem cells_one {x:Str}:∀ (names:List (Str × NameKind)) (n:Nat) (acc:List (Str × Addr)) (h:Heap),(names.filter fun y=>y.2 == .cell)=[(x,.cell)]->cellsFrom n names acc=(x,n) :: acc/\pushCells h names=h.push { cls:=.type "cell",data:=.cell none }
 | [],_,_,_,e=>by cases e
 | (m,k) :: r,n,acc,h,e=>by
  by_cases hk:(k == NameKind.cell)=true
  ·rw [List.filter_cons_of_pos (a:=(m,k)) (l:=r) (p:=fun y:Str × NameKind=>y.2 == .cell) hk] at e
   injection e with e1 e2
   cases e1
   unfold cellsFrom pushCells
   rw [if_pos hk,if_pos hk]
   exact cells_none r _ _ _ e2
  ·rw [List.filter_cons_of_neg (a:=(m,k)) (l:=r) (p:=fun y:Str × NameKind=>y.2 == .cell) hk] at e
   unfold cellsFrom pushCells
   rw [if_neg hk,if_neg hk]
   exact cells_one r n acc h e
theorem nfe_cell {M:Model} {A:Around} {E:Value->Shared->Prop} {s:Shared} {scope:Scope} {globals:Addr} {cl:List (Str × Addr)} {qual:Str} {func:Option Addr} {code:Value} {outer:Env} {builtins:Addr} {Q:Env->Shared->Prop} {x:Str}
  (hone:(scope.names.filter fun y=>y.2 == .cell)=[(x,.cell)])
  (hQ:∀ h',h'=(s.heap.push { cls:=.type "dict",data:=.dict #[] }).push { cls:=.type "cell",data:=.cell none }->Q (newEnv scope s.heap.objs.size globals ((x,s.heap.objs.size + 1) :: cl) qual func code (some outer) builtins) { s with heap:=h' }) :
  wpAny M A (newFunctionEnv scope globals cl [] qual func code (some outer) builtins) Q E s:=by
 simp only [newFunctionEnv,Option.isSome_some,if_true]
 refine wpAny_bind (wpAny_alloc ?_)
 refine wpAny_bind (wpAny_layCells _ (fun name kind cells=>by cases hkc:kind == NameKind.cell <;> simp [hkc]) _ _ _ _ ?_)
 rw [show ({ s with heap:=s.heap.push { cls:=.type "dict",data:=.dict #[] } }:Shared).heap.objs.size=s.heap.objs.size + 1 from Heap.size_push ..]
 rw [(cells_one scope.names (s.heap.objs.size + 1) cl (s.heap.push { cls:=.type "dict",data:=.dict #[] }) hone).1,(cells_one scope.names (s.heap.objs.size + 1) cl (s.heap.push { cls:=.type "dict",data:=.dict #[] }) hone).2]
 refine wpAny_bind ?_
 rw [List.forIn_nil]
 exact wpAny_pure (wpAny_pure (hQ _ rfl))
theorem lk_cons {x:Str} {n:Addr} {cl:List (Str × Addr)} {y:Str} {c:Addr} (h:((x,n) :: cl).lookup y=some c):(y=x/\c=n) \/ (y ≠ x/\cl.lookup y=some c):=by
 rw [List.lookup_cons] at h
 cases hb:y == x with
 | true=>rw [hb] at h; cases h; exact .inl ⟨beq_iff_eq.mp hb,rfl⟩
 | false=>rw [hb] at h; exact .inr ⟨beq_eq_false_iff_ne.mp hb,h⟩
theorem lk_ne {x:Str} {n:Addr} {cl:List (Str × Addr)} {y:Str} (h:y ≠ x):((x,n) :: cl).lookup y=cl.lookup y:=by
 rw [List.lookup_cons,beq_eq_false_iff_ne.mpr h]
theorem lk_self {x:Str} {n:Addr} {cl:List (Str × Addr)}:((x,n) :: cl).lookup x=some n:=by
 rw [List.lookup_cons,beq_self_eq_true]
def compCxC (X:Cx) (N:List Str) (scope:Scope) (x:Str) (cl:List (Str × Addr)) (C:Addr) (fp:List Addr) (s:Shared) (H:Hp):Cx :=
 { compCx X N scope ((x,C + 1) :: cl) C fp s H with fn:=fun y=>y == x }
section
variable {X:Cx} {pins:List (Addr × Obj)} {σ:L2.St} {H:Hp} {s:Shared} {N:List Str} {scope:Scope} {cl:List (Str × Addr)} {fp:List Addr} {k:Nat} {fv:List Nat} {x:Str}
theorem one_cell (hone:(scope.names.filter fun y=>y.2 == .cell)=[(x,.cell)]) {y:Str × NameKind} (hy:y ∈ scope.names) (hc:y.2=.cell):y.1=x:=by
 have:y ∈ scope.names.filter fun y=>y.2 == .cell:=List.mem_filter.mpr ⟨hy,by rw [hc]; rfl⟩
 rw [hone] at this
 rw [List.mem_singleton.mp this]
theorem comp_okC (I:Inv X pins σ H s) (hc:X.calm=true) (hf:∀ b ∈ fp,FpOk X pins H b) (hl:∀ b ∈ fp,b < s.heap.objs.size) (hkind:scope.kind=.function) (hone:(scope.names.filter fun y=>y.2 == .cell)=[(x,.cell)])
  (h1:∀ y c,cl.lookup y=some c->X.env.cells.lookup y=some c) (h2:∀ y ∈ scope.names,y.2=.free->∃ c,cl.lookup y.1=some c):(compCxC X N scope x cl s.heap.objs.size fp s H).Ok where
 mod:=I.ok.mod
 kind:=hkind
 glob:=I.ok.glob
 blt:=I.ok.blt
 above:=Nat.le_refl _
 inj:=fun y z c a b=>by
  have old:∀ {n:Str} {d:Addr},cl.lookup n=some d->d < s.heap.objs.size:=fun {n d} e=>by
   obtain ⟨v,ic⟩:=I.cell n d (h1 n d e)
   exact ic.lt
  rcases lk_cons a with ⟨ey,ec⟩ | ⟨ny,a'⟩
  ·rcases lk_cons b with ⟨ez,_⟩ | ⟨nz,b'⟩
   ·rw [ey,ez]
   ·have:=old b'; rw [ec] at this; exact absurd this (Nat.not_lt.mpr (Nat.le_succ _))
  ·rcases lk_cons b with ⟨ez,ec⟩ | ⟨nz,b'⟩
   ·have:=old a'; rw [ec] at this; exact absurd this (Nat.not_lt.mpr (Nat.le_succ _))
   ·exact I.ok.inj y z c (h1 y c a') (h1 z c b')
 has:=fun z hz=>by
  have:∃ y ∈ scope.names,y.1=z/\(y.2=.free \/ y.2=.cell):=by
   rcases hz with q | q
   ·exact relabel_back (.inl rfl) q
   ·exact relabel_back (.inr rfl) q
  obtain ⟨y,hy,e,q⟩:=this
  by_cases hx:z=x
  ·exact ⟨_,by rw [hx]; exact lk_self⟩
  ·rcases q with q | q
   ·obtain ⟨c,hcl⟩:=h2 y hy q
    exact ⟨c,(lk_ne hx).trans (by rw [← e]; exact hcl)⟩
   ·exact absurd (e.symm.trans (one_cell hone hy q)) hx
 cab:=fun y c z e=>by
  have hy:y=x:=beq_iff_eq.mp z
  subst hy
  have e':((y,s.heap.objs.size + 1) :: cl).lookup y=some c:=e
  rw [lk_self] at e'
  cases e'
  exact Nat.le_succ _
 hd:=fun _=>I.ok.hd hc
 frames:=I.ok.frames
 stk:=.inl rfl
 exf:=fun b hb=>⟨Nat.ne_of_lt (hl b hb),fun y c e=>by
  rcases lk_cons e with ⟨_,rfl⟩ | ⟨_,e⟩
  ·exact fun z=>absurd (hl b hb) (Nat.not_lt.mpr (by rw [← z]; exact Nat.le_succ _))
  ·exact (hf b hb).2.2.2.2.1 y c (h1 y c e)⟩
 bs:=I.bs
 bsz:=Nat.le_trans I.ok.bsz I.sz
 noex:=fun b o e hb=>by
  rcases (hf b hb).2.2.2.1 with z | z
  ·exact I.ok.noex b o e z
  ·exact absurd (Nat.lt_of_lt_of_le (Heap.lt_size (I.ok.bs b o e).1) z) (Nat.lt_irrefl _)
 exfs:=fun b hb z=>(List.mem_cons.mp (I.stkSub b z)).elim (fun e=>(hf b hb).2.1 e) fun e=>(hf b hb).2.2.1 e
 funs:=I.stack
 frf:=I.stkFree
theorem comp_invC (I:Inv X pins σ H s) (hc:X.calm=true) (hf:∀ b ∈ fp,FpOk X pins H b) (hl:∀ b ∈ fp,b < s.heap.objs.size) (hkind:scope.kind=.function) (hone:(scope.names.filter fun y=>y.2 == .cell)=[(x,.cell)]) (hx:scope.names.lookup x=some .cell)
  (h1:∀ y c,cl.lookup y=some c->X.env.cells.lookup y=some c) (h2:∀ y ∈ scope.names,y.2=.free->∃ c,cl.lookup y.1=some c)
  (hN:N.length=k + fv.length) (hfv:fv.map (fun j=>X.N[j]?)=(N.drop k).map some) (hk:(N.drop k).map X.env.kindOf=(N.drop k).map fun _=>some .cell) (hfl:∀ y ∈ N.drop k,scope.names.lookup y=some .free)
  {h':Heap} {tk:Nat} (hn:h'.Ns s.heap.objs.size fun _=>none) (hcn:h'.IsCell (s.heap.objs.size + 1) none) (hb:∀ b o,s.heap.get? b=some o->h'.get? b=some o) :
  Inv (compCxC X N scope x cl s.heap.objs.size fp s H) [] (comp0 k fv σ) H { s with heap:=h',toks:=tk } where
 ok:=comp_okC I hc hf hl hkind hone h1 h2
 os:=rfl
 bare:=I.bare
 base:=Un.kept hb
 loc:=⟨_,hn,fun i y v e1 e2 e3=>by
  have hik:k<=i:=by
   apply Nat.le_of_not_lt
   intro z
   have:(comp0 k fv σ)[i]?=some none:=by
    unfold comp0
    rw [List.getElem?_append_left (by simpa using z)]
    simp [z]
   rw [this] at e2
   cases e2
  obtain ⟨j,rfl⟩:∃ j,i=k + j:=⟨i - k,by omega⟩
  have e2':(fv.map fun j=>σ.getD j none)[j]?=some (some v):=by
   have:(comp0 k fv σ)[k + j]?=(fv.map fun j=>σ.getD j none)[j]?:=by
    unfold comp0
    rw [List.getElem?_append_right (by simp)]
    simp
   rw [← this]
   exact e2
  rw [List.getElem?_map] at e2'
  cases hj:fv[j]? with
  | none=>rw [hj] at e2'; cases e2'
  | some m =>
   rw [hj] at e2'
   have e4:σ.getD m none=some v:=Option.some.inj e2'
   have e5:(N.drop k)[j]?=some y:=by rw [List.getElem?_drop]; exact e1
   have e6:X.N[m]?=some y:=by
    have a:=congrArg (fun l=>l[j]?) hfv
    simp only [List.getElem?_map,hj,e5,Option.map_some] at a
    exact Option.some.inj a
   have e7:X.env.kindOf y=some .cell:=by
    have a:=congrArg (fun l=>l[j]?) hk
    simp only [List.getElem?_map,e5,Option.map_some] at a
    exact Option.some.inj a
   have e8:σ[m]?=some (some v):=by
    cases q:σ[m]? with
    | none=>rw [List.getD,q] at e4; cases e4
    | some o=>rw [List.getD,q] at e4; rw [show o=some v from e4]
   obtain ⟨m0,hm0,hl0⟩:=I.loc
   obtain ⟨u,ru,lk⟩:=hl0 m y v e6 e8 (.inr (.inl e7))
   refine ⟨u,ru,?_⟩
   rcases lk with ⟨z,_⟩ | ⟨_,c,hcc,ic⟩
   ·rw [e7] at z; cases z
   ·have mem:y ∈ N.drop k:=List.mem_of_getElem? e5
    have fr:=hfl y mem
    have nyx:y ≠ x:=fun z=>by rw [z,hx] at fr; cases fr
    obtain ⟨c',hc'⟩:=h2 (y,.free) (mem_lookup fr) rfl
    have ec:=h1 y c' hc'
    rw [hcc] at ec
    cases ec
    refine .inr ⟨.inl (relabel_cell I.ok.kind fr e7),c,(lk_ne nyx).trans hc',?_⟩
    obtain ⟨o,ho,hd⟩:=ic
    exact ⟨o,hb _ _ ho,hd⟩⟩
 cell:=fun y c e=>by
  rcases lk_cons e with ⟨_,rfl⟩ | ⟨_,e⟩
  ·exact ⟨_,hcn⟩
  ·obtain ⟨v,o,ho,hd⟩:=I.cell y c (h1 y c e)
   exact ⟨v,o,hb _ _ ho,hd⟩
 free:=I.hok.fresh (Nat.le_refl _)
 freeC:=fun y c e=>by
  rcases lk_cons e with ⟨_,rfl⟩ | ⟨_,e⟩
  ·exact I.hok.fresh (Nat.le_succ _)
  ·exact I.freeC y c (h1 y c e)
 pin:=fun p hp=>by
  obtain ⟨a1,a2,a3,a4,a5⟩:=I.pin p (List.mem_append_left _ ((List.mem_append.mp hp).elim id fun z=>nomatch z))
  exact ⟨hb _ _ a1,a2,Nat.ne_of_lt (Heap.lt_size a1),fun z=>(List.mem_cons.mp (I.stkSub p.1 z)).elim a3 a4,a5⟩
 hok:=I.hok.kept hb
 len:=by
  show (comp0 k fv σ).length=N.length
  unfold comp0
  simp [hN]
end
section
variable {X:Cx}
set_option maxHeartbeats 1000000 in
theorem comp_blockC {elt iter tg:Expr} {ifs:List Expr} {scope:Scope} {pos:Pos} {g:TG} {tt:TT} {te:TE} {N:List Str} {k:Nat} {fv:List Nat} {cl:List (Str × Addr)} {x0:Str}
  {pins:List (Addr × Obj)} {σ:L2.St} {H:Hp} {s:Shared} {it:Addr} {fp:List Addr} {tn:Nat->Heap->Prop} {J:It} {Q:VK} {RR:Value->Addr->Result->Shared->Prop} {E:Value->Shared->Prop}
  (hc:X.calm=true) (hg:∀ cl C fp s H,PG (compCxC X N scope x0 cl C fp s H) tg g) (ht:∀ cl C fp s H,PTs (compCxC X N scope x0 cl C fp s H) ifs tt) (he:∀ cl C fp s H,PE (compCxC X N scope x0 cl C fp s H) elt te)
  (hw:∀ r x H Q,g x (List.replicate k none ++ r) H Q->g x (List.replicate k none ++ r) H fun σ4 H4=>Q σ4 H4/\Weaker σ4 (List.replicate k none ++ r))
  (hN:N.length=k + fv.length) (hfv:fv.map (fun j=>X.N[j]?)=(N.drop k).map some) (hk:(N.drop k).map X.env.kindOf=(N.drop k).map fun _=>some .cell) (hfl:∀ y ∈ N.drop k,scope.names.lookup y=some .free)
  (hone:(scope.names.filter fun y=>y.2 == .cell)=[(x0,.cell)]) (hx0:scope.names.lookup x0=some .cell) (hkind:scope.kind=.function) (h1:∀ y c,cl.lookup y=some c->X.env.cells.lookup y=some c) (h2:∀ y ∈ scope.names,y.2=.free->∃ c,cl.lookup y.1=some c)
  (I:Inv X pins σ H s) (T:Turn X.prog X.w X.K tg J fp it tn) (st:tn 0 s.heap) (f:∀ b ∈ fp,FpOk X pins H b)
  (body:∀ d,H d=none->∃ (n:Nat) (W:Nat->List V->Hp->Prop),n<=sizeLine/\W 0 [] (upd H d (.lst [])) ∧
   (∀ i ys H2,i < n->W i ys H2->H2 d=some (.lst ys)->J.go i H2/\∀ x H3,J.yld i H2 x H3->g x (comp0 k fv σ) H3 fun σ4 H4=>tt σ4 H4 fun b H5 =>
    if b=true then te σ4 H5 fun y H6=>H6 d=some (.lst ys)/\W (i + 1) (ys ++ [y]) (upd H6 d (.lst (ys ++ [y]))) else H5 d=some (.lst ys)/\W (i + 1) ys H5) ∧
   (∀ ys H2,W n ys H2->H2 d=some (.lst ys)->J.stop n H2/\Q (.ref d) H2))
  (hR:∀ (D C:Addr) (H':Hp) (s':Shared),(∃ m,s'.heap.Ns C m)->FpOk X pins H' C->Q (.ref D) H'->(∀ h',Heap.SameBut C s'.heap h'->Inv X pins σ H' { s' with heap:=h' })->RR (.ref D) C (.ok .next) s') :
  wpAny (model X.prog X.w) X.A (newList []) (fun acc s3=>wpAny (model X.prog X.w) X.A (newFunctionEnv scope X.env.globals cl [] X.env.qual none .none (some X.env)) (fun cenv s4 =>
   codeAny (model X.prog X.w) X.A (.compStart (.ListComp elt [⟨tg,iter,ifs,0⟩] scope pos) 0 (.ref it) acc { cenv with scope:=relabel scope X.env }) (RR acc cenv.locals) s4) E s3) E s:=by
 refine wpAny_newObj_type ?_
 have I3:=I.lnew (its:=[]) (ys:=[]) (t':=s.toks) .nil (Nat.zero_le _)
 have fresh:=I.fresh
 generalize hD:s.heap.objs.size=D at I3 fresh ⊢
 have f3:∀ b ∈ fp,FpOk X pins (upd H D (.lst [])) b:=fun b hb=>by
  refine ⟨?_,(f b hb).2⟩
  have hne:b ≠ D:=by
   obtain ⟨o,e,_⟩:=T.obj 0 _ st b hb
   rw [← hD]
   exact Nat.ne_of_lt (Heap.lt_size e)
  rw [upd_ne hne]
  exact (f b hb).1
 have up3:∀ b o,s.heap.get? b=some o->(s.heap.push { cls:=.type "list",data:=.seq ([]:List Value).toArray }).get? b=some o:=fun b o e=>Heap.get?_push_of_some _ e
 have st3:tn 0 (s.heap.push { cls:=.type "list",data:=.seq ([]:List Value).toArray }):=T.keep 0 _ _ st fun b _ o e=>up3 b o e
 have hl3:∀ b ∈ fp,b < (s.heap.push { cls:=.type "list",data:=.seq ([]:List Value).toArray }).objs.size:=fun b hb=>by
  obtain ⟨o,e,_⟩:=T.obj 0 _ st3 b hb
  exact Heap.lt_size e
 obtain ⟨n,W,hn,w0,step,fin⟩:=body D fresh
 generalize hS3:({ s with heap:=s.heap.push { cls:=.type "list",data:=.seq ([]:List Value).toArray },toks:=s.toks }:Shared)=s3 at I3
 have eS3:s3.heap=s.heap.push { cls:=.type "list",data:=.seq ([]:List Value).toArray }:=by rw [← hS3]
 rw [← eS3] at st3 hl3
 refine nfe_cell hone (fun h4 eh4=>?_)
 have old:∀ b o,s3.heap.get? b=some o->h4.get? b=some o:=fun b o e=>by rw [eh4]; exact Heap.get?_push_of_some _ (Heap.get?_push_of_some _ e)
 have hns:h4.Ns s3.heap.objs.size (fun _=>none):=by rw [eh4]; exact (Heap.Ns.new s3.heap (.type "dict")).keeps fun b o e=>Heap.get?_push_of_some _ e
 have hcn:h4.IsCell (s3.heap.objs.size + 1) none:=by
  rw [eh4]
  rw [← Heap.size_push s3.heap { cls:=.type "dict",data:=.dict #[] }]
  exact ⟨_,Heap.get?_push_size _ rfl,rfl⟩
 clear eh4
 have I4:=comp_invC (N:=N) (tk:=s3.toks) I3 hc f3 hl3 hkind hone hx0 h1 h2 hN hfv hk hfl (h':=h4) hns hcn old
 have st4:tn 0 h4:=T.keep 0 _ _ st3 fun b _ o e=>old b o e
 have hCn:s3.heap.get? s3.heap.objs.size=none:=by
  cases e:s3.heap.get? s3.heap.objs.size with
  | none=>rfl
  | some o=>exact absurd (Heap.lt_size e) (Nat.lt_irrefl _)
 generalize hC:s3.heap.objs.size=C at I4 hCn ⊢
 have stat:∀ {H':Hp} {ps:List (Addr × Obj)},(∀ b ∈ fp,H' b=none)->(∀ p ∈ ps,p.1 ∉ fp)->∀ b ∈ fp,FpOk (compCxC X N scope x0 cl C fp s3 (upd H D (.lst []))) ps H' b:=fun {H' ps} hn hp b hb =>
  ⟨hn b hb,by rw [← hC]; exact Nat.ne_of_lt (hl3 b hb),fun z=>(List.mem_cons.mp (I3.stkSub b z)).elim (fun e=>(f3 b hb).2.1 e) fun e=>(f3 b hb).2.2.1 e,.inl hb,fun x c e=>(lk_cons e).elim (fun z q=>absurd (hl3 b hb) (Nat.not_lt.mpr (by rw [← q,z.2,← hC]; exact Nat.le_succ _))) (fun z=>(f3 b hb).2.2.2.2.1 x c (h1 x c z.2)),fun p q z=>(List.mem_append.mp q).elim (fun q=>(f3 b hb).2.2.2.2.2 p (List.mem_append_left _ q) z) fun q=>hp p q (by rw [z]; exact hb)⟩
 have loop:∀ s4:Shared,s4={ s3 with heap:=h4,toks:=s3.toks } →
   codeAny (model X.prog X.w) X.A (.compLoop (.ListComp elt [⟨tg,iter,ifs,0⟩] scope pos) 0 (.ref it) (.ref D) (compEnvC scope ((x0,C + 1) :: cl) C X.env)) (RR (.ref D) C) s4:=by
  rintro s4 rfl
  refine comp_loop (fun m s'=>∃ i ys H',Inv (compCxC X N scope x0 cl C fp s3 (upd H D (.lst []))) [] (comp0 k fv σ) H' s'/\tn i s'.heap/\(∀ b ∈ fp,H' b=none)/\i<=n/\m=n + 1 - i/\ys.length<=i/\H' D=some (.lst ys)/\W i ys H') ?_ (n + 1)
   ⟨0,[],_,I4,st4,fun b hb=>(f3 b hb).1,Nat.zero_le _,rfl,Nat.le_refl _,upd_same,w0⟩
  rintro m s5 ⟨i,ys,H5,I5,st5,fr5,hi,rfl,hys,hD5,w5⟩
  by_cases hlt:i < n
  ·obtain ⟨go,stp⟩:=step i ys H5 hlt w5 hD5
   refine thn (T.item (compCxC X N scope x0 cl C fp s3 (upd H D (.lst []))) rfl rfl rfl rfl i [] s5 _ H5 noX I5 (stat fr5 (by simp)) st5 go) fun r s6 ⟨u,er,h6⟩=>?_
   subst er
   refine thn h6 fun _ s7 ⟨x,H7,I7,r7,y7,st7,fr7⟩=>?_
   have I7':=I7.pinned (stat fr7 (by simp)) (T.obj _ _ st7)
   refine thn (hg cl C fp s3 _ _ s7 _ H7 x u _ I7' r7 (hw _ x H7 _ (stp x H7 y7))) fun _ s8 ⟨σ8,H8,I8,q8,wk⟩=>?_
   refine thn (ht cl C fp s3 _ _ s8 σ8 H8 _ I8 q8) fun ok s9 ⟨H9,I9,q9⟩=>?_
   have back:∀ {σ':L2.St} {H':Hp} {s':Shared},Inv (compCxC X N scope x0 cl C fp s3 (upd H D (.lst []))) ([] ++ pinsAt fp s7.heap) σ' H' s'->Weaker σ' (comp0 k fv σ) →
     Inv (compCxC X N scope x0 cl C fp s3 (upd H D (.lst []))) [] (comp0 k fv σ) H' s'/\tn (i + 1) s'.heap/\∀ b ∈ fp,H' b=none:=fun {σ' H' s'} I' wk'=>by
    refine ⟨I'.unpinned.weak wk'.1 wk'.2,T.keep _ _ _ st7 fun b hb o e=>(I'.pin (b,o) (List.mem_append_right _ (List.mem_append_right _ (mem_pinsAt hb e)))).1,fun b hb=>?_⟩
    obtain ⟨o,e,_⟩:=T.obj _ _ st7 b hb
    exact (I'.pin (b,o) (List.mem_append_right _ (List.mem_append_right _ (mem_pinsAt hb e)))).2.1
   cases ok with
   | false =>
    rw [if_neg Bool.false_ne_true] at q9 ⊢
    obtain ⟨hD9,w9⟩:=q9
    obtain ⟨a1,a2,a3⟩:=back I9 wk
    exact ⟨n + 1 - (i + 1),by omega,i + 1,ys,H9,a1,a2,a3,hlt,rfl,Nat.le_succ_of_le hys,hD9,w9⟩
   | true =>
    rw [if_pos rfl] at q9 ⊢
    refine thn (he cl C fp s3 _ _ s9 σ8 H9 _ I9 q9) fun y s10 ⟨yv,H10,I10,r10,hD10,w10⟩=>?_
    refine thn (mt_append _ s10 σ8 H10 (.ref D) [yv] (.ref D) [y] (fun _ H'=>H'=upd H10 D (.lst (ys ++ [yv]))) I10 rfl (.cons r10 .nil) ⟨D,ys,yv,rfl,rfl,hD10,Nat.lt_of_le_of_lt hys (Nat.lt_of_lt_of_le hlt hn),rfl⟩) fun _ s11 ⟨_,H11,I11,_,e11⟩=>?_
    subst e11
    obtain ⟨a1,a2,a3⟩:=back I11 wk
    exact ⟨n + 1 - (i + 1),by omega,i + 1,ys ++ [yv],_,a1,a2,a3,hlt,rfl,by rw [List.length_append]; show ys.length + 1<=i + 1; omega,upd_same,w10⟩
  ·obtain rfl:i=n:=Nat.le_antisymm hi (Nat.not_lt.mp hlt)
   obtain ⟨stop,q⟩:=fin ys H5 w5 hD5
   refine thn (T.done (compCxC X N scope x0 cl C fp s3 (upd H D (.lst []))) rfl rfl rfl rfl i [] s5 _ H5 noX I5 (stat fr5 (by simp)) st5 stop) fun r s6 ⟨er,I6⟩=>?_
   subst er
   refine hR D C H5 s6 ?_ (I3.fpOk (by rw [hC]; exact Nat.le_refl _) I6.free) q fun h' hs'=>?_
   ·obtain ⟨m,hm,_⟩:=I6.loc
    exact ⟨m,hm⟩
   ·have hs2:∀ b,b ≠ C->h'.get? b=s6.heap.get? b:=fun b hb=>hs'.2 b hb
    refine I3.call' (s':={ s6 with heap:=h' }) (ch:=fp) ?_ (un_but I6.base hCn hs2) (hok_but I6.hok I6.free hs2) I6.bare fun b hb=>?_
    ·exact I6.os
    ·exact ⟨(f3 b hb).2.2.2.1,(f3 b hb).2.1,(f3 b hb).2.2.2.2.1,(f3 b hb).2.2.2.2.2⟩
 exact codeAny_compStart_list (loop _ rfl) (T.self _ 0 _ _ _ st4 (loop _ rfl))
end
section
variable {X:Cx} {K:PySem.W.Frag} {tg l:Expr} {tl:TE}
theorem pi_listK (hl:PE X l tl) (h:X.K=K:=by rfl):PI X tg l (iList K tl):=h ▸ pi_list hl
end
end Sb
namespace Sb
open PySem PySem.Spec PyProof.Rows L2
def TrD (h B:Heap) (e:Addr) (c:Value) (dd:Option Addr) (fl:Value):Prop :=
 ∃ (oe:Obj) (vs:Array Value) (T:Addr) (oT:Obj) (ts:Array Value),(h.get? e=some oe/\oe.cls=c/\oe.dict=dd/\oe.data=.fields vs/\vs[1]?=some (.ref T)/\vs[2]?=some .none)/\(B.get? T=none/\T ≠ e)/\(h.get? T=some oT/\oT.data=.fields ts/\ts[3]?=some fl)
section
variable {M:Model} {A:Around} {E:Value->Shared->Prop} {s:Shared} {B:Heap} {env:Env} {outer:List Env} {L e:Addr} {c:Value} {dd:Option Addr} {Q:Unit->Shared->Prop}
end
end Sb
namespace Sb
open PySem PySem.Spec PyProof.Rows L2
section
variable {P:Program} {w:World} {A:Around} {E:Value->Shared->Prop} {h:Heap} {g:Array GenState} {d:Drawn} {tk:Nat} {os:OsState}
variable {nm q:Str} {C N fI:Addr} {bs tl bB:List Value} {hdct:Bool} {sn:List Str} {sub:List Value} {ab:Bool} {col:Option Bool} {dd:Option Addr} {k0 k1 k2 k3 k5:Option Value} {B newId initId:String} {mN:Str->Option Value} {vs:List Value} {oI:Obj}
end
def excInI (K:PySem.W.Frag) (C fI:Addr):Bool:=match K.lookup C with
 | some ⟨.type "type",_,.cls cd,sl⟩=>(match cd.mro,sl.toList with
  | .ref C' :: bm,[_,_,_,_,some (.builtin n),_]=>C' == C && (cd.hasDict && (n == "ValueError.__new__" && (!cd.hasDel && (PySem.W.tailIn K bmV bm && (PySem.W.nsOkIn K cd.ns && PySem.W.nsIn K cd.ns "__init__" == some (some (.ref fI)))))))
  | _,_=>false)
 | _=>false
structure ExcI (K:PySem.W.Frag) (mg:Str->Option Value) (x:Str) (C fI:Addr):Prop where
 ok:excInI K C fI=true
 fn:PySem.W.isFn K (.ref fI)=true
 bd:mg x=some (.ref C)
end Sb
namespace Sb
open PySem PySem.Spec PyProof.Rows L2
section
variable {M:Model} {A:Around} {E:Value->Shared->Prop} {env:Env}
variable {nm q:Str} {C N:Addr} {bs tl:List Value} {hdct:Bool} {sn:List Str} {sub:List Value} {ab:Bool} {col:Option Bool} {dd:Option Addr} {k0 k1 k2 k3 k5:Option Value} {newId:String}
end
section
variable {P:Program} {w:World} {K:PySem.W.Frag} {mg:Str->Option Value} {base:Heap} {N:List Str} {qual:Str} {scope:Scope} {f:Addr} {cd:Value} {A:Around} {outer:List Env} {s:Shared} {H:Hp} {E:XK}
end
end Sb
namespace Sb
open PySem PySem.Spec PyProof.Rows L2
section
variable {X:Cx} {k:Nat} {x:Str} {ps:List Str} {sp:Sp} {e:Expr} {es:List Expr} {t:TA} {p pos:Pos} {EX:L2.St->XK}
end
section
variable {P:Program} {w:World} {K:PySem.W.Frag} {mg:Str->Option Value} {base:Heap} {N:List Str} {qual:Str} {scope:Scope} {f:Addr} {cd:Value} {A:Around} {outer:List Env} {s:Shared} {H:Hp} {E:XK}
end
section
variable {X:Cx} {pins:List (Addr × Obj)} {σ:L2.St} {H:Hp} {s:Shared} {a:Addr}
end
section
variable {X:Cx} {x n:Str} {i:Nat} {C D:Addr} {body:List Stmt} {b₀:Stmt} {suite:List Stmt} {np hp pos:Pos} {tb:(L2.St->XK)->TS} {ts:TS}
end
end Sb
namespace Sb
open PySem PySem.Spec PyProof.Rows L2
section
variable {X:Cx} {pins pins' pn:List (Addr × Obj)} {σ:L2.St} {H:Hp} {s:Shared} {E:Value->Shared->Prop} {a C:Addr} {dd:Option Addr}
end
section
variable {X:Cx} {x n:Str} {i:Nat} {C D:Addr} {body:List Stmt} {b₀:Stmt} {suite:List Stmt} {np hp pos:Pos} {tb:(L2.St->XK)->TS} {ts:Addr->Option Addr->TS}
end
end Sb
namespace Sb
open PySem PySem.Spec PyProof.Rows L2
open PySem.W (Looks findIn specialIn takesIn mroIn clsIn)
open Builtin Builtin.ObjectAttr
section
variable {P:Program} {w:World} {A:Around} {E:Value->Shared->Prop}
end
section
variable {X:Cx} {x:Str} {D:Addr} {e:Expr} {es:List Expr} {t:TA} {np apos pos:Pos}
end
section
variable {P:Program} {w:World} {A:Around} {E:Value->Shared->Prop} {h:Heap} {g:Array GenState} {d:Drawn} {t:Nat} {os:OsState} {K:PySem.W.Frag} {mg:Str->Option Value} {xn f:Str} {C fI x t0:Addr} {v:Value}
end
section
variable {X:Cx} {o value:Expr} {f:Str} {pos pos':Pos} {ta tv:TE}
end
end Sb
namespace Sb
open PySem PySem.Spec PyProof.Rows L2
open PySem.W (Looks findIn specialIn takesIn mroIn clsIn)
open Builtin Builtin.ObjectAttr
section
variable {K:PySem.W.Frag} {C x dx:Addr} {P:Program} {w:World} {A:Around} {E:Value->Shared->Prop} {h:Heap} {g:Array GenState} {d:Drawn} {t:Nat} {os:OsState} {f:Str} {v:Value} {mA:Str->Option Value} {ox:Obj}
end
section
variable {X:Cx} {e:Expr} {f:Str} {pos:Pos} {ta:TE}
end
end Sb
namespace Sb
open PySem PySem.Spec PyProof.Rows L2
end Sb
namespace Sb
open PySem PySem.Spec PyProof.Rows L2
section
variable {X:Cx} {K:PySem.W.Frag}
end
end Sb
namespace Sb
open PySem PySem.Spec PyProof.Rows L2
end Sb
namespace Sb
open PySem PySem.Spec PyProof.Rows L2
open PySem.W (Looks findIn specialIn takesIn mroIn clsIn)
section
variable {X:Cx} {e:Expr} {f:Str} {pos:Pos} {ta:TE}
end
section
variable {X:Cx} {K:PySem.W.Frag}
end
end Sb
namespace Sb
open PySem PySem.Spec PyProof.Rows PyProof.V L2
set_option maxRecDepth 100000
set_option maxHeartbeats 1000000
section
variable {M:Model} {A:Around} {E:Value->Shared->Prop} {s:Shared}
theorem newEnv1 {scope:Scope} {x y:Str} {c:Addr} {v:Value} {qual:Str} {f:Addr} {cd:Value} {Q:Env->Shared->Prop} (hk:scope.kind=.function) (hx:scope.names.lookup x=some .cell)
  (hcs:∀ n,cellsFrom n scope.names [(y,c)]=[(x,n),(y,c)]) (hpc:∀ h,pushCells h scope.names=h.push { cls:=.type "cell",data:=.cell none })
  (hQ:∀ h1 tk,h1.Ns s.heap.objs.size (fun _=>none)->h1.IsCell (s.heap.objs.size + 1) (some v)->(∀ b o,s.heap.get? b=some o->h1.get? b=some o) →
   Q (PySem.W.envX qual scope s.heap.objs.size f cd [(x,s.heap.objs.size + 1),(y,c)]) { s with heap:=h1,toks:=tk }) :
  wpAny M A (newFunctionEnv scope mainGlobals [(y,c)] [(x,v)] (qual ++ ".<locals>.") (some f) cd none builtinsNs) Q E s:=by
 simp only [newFunctionEnv,Option.isSome_none,Bool.false_eq_true,if_false]
 refine wpAny_bind (wpAny_alloc ?_)
 refine wpAny_bind (wpAny_layCells _ (fun name kind cells=>by cases hkc:kind == NameKind.cell <;> simp) _ _ _ _ ?_)
 rw [hcs,show ({ s with heap:=s.heap.push { cls:=.type "frame",data:=.dict #[] } }:Shared).heap.objs.size=s.heap.objs.size + 1 from Heap.size_push ..]
 rw [hpc]
 have hL:((s.heap.push { cls:=.type "frame",data:=.dict #[] }).push { cls:=.type "cell",data:=.cell none }).Ns s.heap.objs.size (fun _=>none) :=
  (Heap.Ns.new s.heap (.type "frame")).keeps fun b o e=>Heap.get?_push_of_some _ e
 have hC:((s.heap.push { cls:=.type "frame",data:=.dict #[] }).push { cls:=.type "cell",data:=.cell none }).IsCell (s.heap.objs.size + 1) none:=by
  refine ⟨{ cls:=.type "cell",data:=.cell none },?_,rfl⟩
  have e:(s.heap.push { cls:=.type "frame",data:=.dict #[] }).objs.size=s.heap.objs.size + 1:=Heap.size_push ..
  rw [← e]
  exact Heap.get?_push_size _ rfl
 refine wpAny_bind ?_
 rw [List.forIn_cons]
 refine wpAny_bind (wpAny_bind (wpAny_storeName_cell (env:=PySem.W.envX qual scope s.heap.objs.size f cd [(x,s.heap.objs.size + 1),(y,c)]) hk hx (c:=s.heap.objs.size + 1) (by simp) hC fun h' hc' hs'=>wpAny_pure ?_))
 show wpAny M A (forIn [] PUnit.unit _) _ _ _
 rw [List.forIn_nil]
 refine wpAny_pure (wpAny_pure ?_)
 refine hQ h' s.toks (hL.sameBut hs' (Nat.ne_of_lt (Nat.lt_succ_self _))) hc' fun b o e=>?_
 have hb:b < s.heap.objs.size:=Heap.lt_size e
 rw [hs'.2 b (Nat.ne_of_lt (Nat.lt_succ_of_lt hb))]
 exact Heap.get?_push_of_some _ (Heap.get?_push_of_some _ e)
end
structure LamScope (x y:Str) (sc:Scope):Prop where
 kind:sc.kind=.function
 co:sc.isCoroutine=false
 gen:sc.isGenerator=false
 ne:x ≠ y
 par:sc.names.lookup x=some .cell
 fre:sc.names.lookup y=some .free
 only:∀ z,sc.names.lookup z=some .cell \/ sc.names.lookup z=some .free->z=x \/ z=y
 cs:∀ n c,cellsFrom n sc.names [(y,c)]=[(x,n),(y,c)]
 pc:∀ h,pushCells h sc.names=h.push { cls:=.type "cell",data:=.cell none }
def cxLam (P:Program) (w:World) (K:PySem.W.Frag) (mg:Str->Option Value) (base:Heap) (x y:Str) (qual:Str) (scope:Scope) (f:Addr) (cd:Value) (c:Addr) (A:Around) (outer:List Env) (s:Shared) (H:Hp):Cx where
 prog:=P
 w:=w
 K:=K
 mg:=mg
 base:=base
 A:=A.deeper (PySem.W.envX qual scope s.heap.objs.size f cd [(x,s.heap.objs.size + 1),(y,c)])
 N:=[x,y]
 s₀:=s
 H₀:=H
 env:=PySem.W.envX qual scope s.heap.objs.size f cd [(x,s.heap.objs.size + 1),(y,c)]
 outer:=outer
 stack:=PySem.W.envX qual scope s.heap.objs.size f cd [(x,s.heap.objs.size + 1),(y,c)] :: outer
 ex:=[]
 calm:=true
 fn:=fun z=>z == x
 pn:=qpin A s.heap
 xe:=fun _ _=>False
theorem look2 {x y z:Str} {a b c:Addr} (h:([(x,a),(y,b)]:List (Str × Addr)).lookup z=some c):(z=x/\c=a) \/ (z=y/\c=b):=by
 rw [List.lookup_cons] at h
 cases hz:z == x with
 | true=>rw [hz] at h; cases h; exact .inl ⟨beq_iff_eq.mp hz,rfl⟩
 | false =>
  rw [hz] at h
  have h:([(y,b)]:List (Str × Addr)).lookup z=some c:=h
  rw [List.lookup_cons] at h
  cases hy:z == y with
  | true=>rw [hy] at h; cases h; exact .inr ⟨beq_iff_eq.mp hy,rfl⟩
  | false=>rw [hy] at h; cases h
theorem inv_lam {P:Program} {w:World} {K:PySem.W.Frag} {mg:Str->Option Value} {base:Heap} {x y:Str} {qual:Str} {scope:Scope} {f:Addr} {cd:Value} {c:Addr} {A:Around} {outer:List Env} {s:Shared} {H:Hp} {vx vy:V} {ux uy:Value} {h1:Heap} {tk:Nat}
  (S:LamScope x y scope) (e0:Env0 P w K mg base A outer s H) (hc:s.heap.IsCell c (some uy)) (hcn:H c=none) (rx:RelV vx ux) (ry:RelV vy uy)
  (hL:h1.Ns s.heap.objs.size (fun _=>none)) (hC:h1.IsCell (s.heap.objs.size + 1) (some ux)) (hk:∀ b o,s.heap.get? b=some o->h1.get? b=some o) :
  Inv (cxLam P w K mg base x y qual scope f cd c A outer s H) [] [some vx,some vy] H { s with heap:=h1,toks:=tk }:=by
 have hclt:c < s.heap.objs.size:=let ⟨_,e,_⟩:=hc; Heap.lt_size e
 have noA:∀ b:Addr,b ∉ (cxLam P w K mg base x y qual scope f cd c A outer s H).ex:=fun b z=>absurd (show b ∈ ([]:List Addr) from z) (by simp)
 have lx:([(x,s.heap.objs.size + 1),(y,c)]:List (Str × Addr)).lookup x=some (s.heap.objs.size + 1):=by simp
 have ly:([(x,s.heap.objs.size + 1),(y,c)]:List (Str × Addr)).lookup y=some c:=by
  rw [List.lookup_cons,show (y == x)=false from beq_eq_false_iff_ne.mpr (Ne.symm S.ne)]; simp
 refine ⟨⟨e0.mod,S.kind,rfl,rfl,Nat.le_refl _,fun y' z c' h1 h2=>?_,fun z hz=>?_,fun z c' hf h=>?_,fun _=>e0.qt.pin,Around.frames_deeper e0.frames,.inr ⟨rfl,rfl⟩,fun b z=>absurd z (noA b),e0.bs,e0.bsz,fun b _ _=>noA b,fun b z=>absurd z (noA b),e0.funs,e0.frf⟩,
  rfl,e0.bare,Un.kept hk,⟨_,hL,fun i z v h1 h2 h3=>?_⟩,fun z c' h=>?_,e0.hok.fresh (Nat.le_refl _),fun z c' h=>?_,fun p hp=>?_,e0.hok.kept hk,rfl⟩
 ·rcases look2 h1 with ⟨a1,a2⟩ | ⟨a1,a2⟩ <;> rcases look2 h2 with ⟨b1,b2⟩ | ⟨b1,b2⟩
  ·rw [a1,b1]
  ·exact absurd (b2.symm.trans a2) (Nat.ne_of_lt (Nat.lt_succ_of_lt hclt))
  ·exact absurd (a2.symm.trans b2) (Nat.ne_of_lt (Nat.lt_succ_of_lt hclt))
  ·rw [a1,b1]
 ·rcases S.only z hz with rfl | rfl
  ·exact ⟨_,lx⟩
  ·exact ⟨_,ly⟩
 ·rcases look2 h with ⟨a1,a2⟩ | ⟨a1,a2⟩
  ·rw [a2]; exact Nat.le_succ _
  ·have:(z == x)=true:=hf
   rw [beq_iff_eq] at this
   exact absurd (this.symm.trans a1) S.ne
 ·match i,h1,h2 with
  | 0,h1,h2 =>
   cases h1; cases h2
   exact ⟨ux,rx,.inr ⟨.inl S.par,_,lx,hC⟩⟩
  | 1,h1,h2 =>
   cases h1; cases h2
   exact ⟨uy,ry,.inr ⟨.inr S.fre,_,ly,hc.keeps hk⟩⟩
 ·rcases look2 h with ⟨a1,a2⟩ | ⟨a1,a2⟩
  ·rw [a2]; exact ⟨_,hC⟩
  ·rw [a2]; exact ⟨_,hc.keeps hk⟩
 ·rcases look2 h with ⟨a1,a2⟩ | ⟨a1,a2⟩
  ·rw [a2]; exact e0.hok.fresh (Nat.le_succ _)
  ·rw [a2]; exact hcn
 ·obtain ⟨a1,a2,a3,a4⟩:=e0.qt.mem p ((List.mem_append.mp hp).elim id fun z=>absurd z (by simp))
  exact ⟨hk _ _ a1,a2,Nat.ne_of_lt (Heap.lt_size a1),a3,a4⟩
theorem lam_call {P:Program} {w:World} {K:PySem.W.Frag} {mg:Str->Option Value} {base:Heap} {k:Nat} {x y:Str} {name qual:Str} {params:Arguments} {body:Expr} {scope:Scope} {f c c':Addr} {pm ctv:Value} {A:Around} {outer:List Env} {s:Shared} {H:Hp} {vx vy:V} {ux uy:Value} {Q:VK}
  (S:LamScope x y scope) (hr:Room (k + 1) A) (e0:Env0 P w K mg base A outer s H) (ho:s.heap.get? f=some (PySem.W.kla_obj name qual params body scope [(y,c)] pm c' ctv)) (hcd:s.heap.CodeRec (.ref c') qual)
  (hbind:bindArgs (PySem.W.kla_fn name qual params body scope [(y,c)] pm (.ref c') ctv) ⟨[ux],[]⟩=pure [(x,ux)])
  (hc:s.heap.IsCell c (some uy)) (hcn:H c=none) (rx:RelV vx ux) (ry:RelV vy uy)
  (hb:∃ t,PE (cxLam P w K mg base x y qual scope f (.ref c') c A outer s H) body t/\t [some vx,some vy] H Q) :
  codeAny (model P w) A (.call (.ref f) ⟨[ux],[]⟩) (CR CX0 outer P w H s Q E0) s:=by
 have lim:s.heap.NoLimit:=e0.mod.nolimit.keeps fun b o e=>(e0.bs b o e).1
 refine PySem.W.kla_callFunE hr.depth ho rfl S.co S.gen rfl hcd ?_
 rw [hbind]
 refine wpAny_pure (newEnv1 S.kind S.par (S.cs · c) S.pc fun h1 tk hL hC hk=>⟨lim.keeps hk,PySem.W.kla_codeExpr ?_⟩)
 obtain ⟨t,ht,hq⟩:=hb
 have I:=inv_lam (qual:=qual) (f:=f) (cd:=.ref c') (tk:=tk) S e0 hc hcn rx ry hL hC hk
 refine wpAny_mono (ht [] _ _ H _ I hq) (fun u s' hs=>?_) fun e s' hs=>False.elim hs
 obtain ⟨v,H',J,rv,q⟩:=hs
 exact ⟨v,H',J.os,J.bare,J.base,J.hok,rv,q⟩
end Sb
namespace Sb
open PySem PySem.Spec PyProof.Rows PyProof.V L2
set_option maxRecDepth 100000
set_option maxHeartbeats 2000000
theorem perm_map {α β:Type} {g:α->β} {l m:List β} (h:l.Perm m):∀ L:List α,m=L.map g->∃ L':List α,L'.Perm L/\l=L'.map g:=by
 induction h with
 | nil=>intro L e; exact ⟨L,.refl _,e⟩
 | cons x _ ih =>
  intro L e
  cases L with
  | nil=>cases e
  | cons y L =>
   rw [List.map_cons] at e
   injection e with e1 e2
   obtain ⟨L',p,q⟩:=ih L e2
   exact ⟨y :: L',p.cons y,by rw [List.map_cons,← q,e1]⟩
 | swap x y l =>
  intro L e
  cases L with
  | nil=>cases e
  | cons a L =>
   cases L with
   | nil=>rw [List.map_cons] at e; injection e with e1 e2; cases e2
   | cons b L =>
    rw [List.map_cons,List.map_cons] at e
    injection e with e1 e2
    injection e2 with e2 e3
    exact ⟨b :: a :: L,List.Perm.swap ..,by rw [List.map_cons,List.map_cons,← e1,← e2,← e3]⟩
 | trans _ _ ih1 ih2 =>
  intro L e
  obtain ⟨L',p,q⟩:=ih2 L e
  obtain ⟨L'',p',q'⟩:=ih1 L' q
  exact ⟨L'',p'.trans p,q'⟩
def SOut (kz:List Int) (xs ys:List V):Prop:=∃ ps:List (Int × V),ps.Perm (kz.zip xs)/\ys=ps.map Prod.snd/\ps.Pairwise (fun p q=>p.1<=q.1)
theorem vals_zip:∀ {xs:List V} {vs:List Value},Vals xs vs->∀ p ∈ xs.zip vs,RelV p.1 p.2
 | _,_,.nil,_,h=>by cases h
 | _,_,.cons r rs,p,h=>by
  rcases List.mem_cons.mp h with rfl | h
  ·exact r
  ·exact vals_zip rs p h
theorem vals_of_map:∀ (L:List (Int × V × Value)),(∀ t ∈ L,RelV t.2.1 t.2.2)->Vals (L.map fun t=>t.2.1) (L.map fun t=>t.2.2)
 | [],_=>.nil
 | t :: L,h=>.cons (h t List.mem_cons_self) (vals_of_map L fun u hu=>h u (List.mem_cons_of_mem _ hu))
theorem zip3:∀ (kz:List Int) (xs:List V) (vs:List Value),xs.length=vs.length->kz.zip vs=(kz.zip (xs.zip vs)).map (fun t=>(t.1,t.2.2))/\kz.zip xs=(kz.zip (xs.zip vs)).map (fun t=>(t.1,t.2.1))
 | [],_,_,_=>by simp
 | k :: kz,[],[],_=>by simp
 | k :: kz,x :: xs,v :: vs,h=>by
  obtain ⟨a,b⟩:=zip3 kz xs vs (by simpa using h)
  simp only [List.zip_cons_cons,List.map_cons]
  exact ⟨by rw [a],by rw [b]⟩
 | _ :: _,[],_ :: _,h=>by simp at h
 | _ :: _,_ :: _,[],h=>by simp at h
theorem sout_of {kz:List Int} {xs:List V} {vs out:List Value} (r:Vals xs vs) (h:KskOut false kz vs out):∃ ys,SOut kz xs ys/\Vals ys out:=by
 obtain ⟨ps,hp,ho,hs⟩:=h
 obtain ⟨z1,z2⟩:=zip3 kz xs vs r.length
 obtain ⟨L,pL,eL⟩:=perm_map hp _ z1
 refine ⟨L.map fun t=>t.2.1,⟨L.map (fun t=>(t.1,t.2.1)),?_,?_,?_⟩,?_⟩
 ·rw [z2]; exact pL.map _
 ·rw [List.map_map]; rfl
 ·rw [eL] at hs
  rw [List.pairwise_map] at hs ⊢
  exact hs.imp fun {a b} q=>by simpa using q
 ·rw [ho,eL,List.map_map]
  refine vals_of_map L fun t ht=>?_
  have:=pL.mem_iff.mp ht
  obtain ⟨k,p⟩:=t
  exact vals_zip r p (List.of_mem_zip this).2
section
variable {prog:Program} {w:World} {A:Around} {E:Value->Shared->Prop} {s:Shared} {a kS:Addr} {vs:List Value} {kz:List Int} {keys:Array Value} {e e1:Nat} {P:PySem.Fin->Shared->Prop}
theorem tail_q {st:SortSt} (hkS:s.heap.get? kS=some (seqObj "list" keys e)) (ha:s.heap.get? a=some (seqObj "list" #[] e1)) (hka:kS ≠ a)
  (hk:IntsAre keys.toList kz) (hlen:kz.length=vs.length) (h64:vs.length < 64) (hp:(arrOf st).Perm (keys.zip vs.toArray)) (hs:SortedTo (arrOf st) (arrOf st).size) (hfl:failedOf st=none)
  (h:∀ h' out c,(∀ b,b ≠ kS->b ≠ a->h'.get? b=s.heap.get? b)->h'.get? a=some (seqObj "list" out c)->KskOut false kz vs out.toList->P (.done (.ret .none)) { s with heap:=h' }) :
  wpAny (model prog w) A (ksk_tail a false e1 (.ref kS) st) P E s:=by
 have hsz:keys.size=vs.length:=by
  have h1:=hk.length
  rw [Array.length_toList] at h1
  omega
 have hsz2:(arrOf st).size=vs.length:=by rw [hp.size_eq,Array.size_zip,hsz,List.size_toArray,Nat.min_self]
 have s1:=Heap.SameBut.update s.heap kS (Obj.mapSeq fun _=>(#[]:Array Value))
 have na1:(s.heap.update kS (Obj.mapSeq fun _=>(#[]:Array Value))).get? a=some (seqObj "list" #[] e1):=(s1.2 a hka.symm).trans ha
 have s2:=Heap.SameBut.update (s.heap.update kS (Obj.mapSeq fun _=>(#[]:Array Value))) a (Obj.mapSeq fun _=>(arrOf st).map (·.2))
 obtain ⟨c2,hc2⟩:∃ c2,((s.heap.update kS (Obj.mapSeq fun _=>(#[]:Array Value))).update a (Obj.mapSeq fun _=>(arrOf st).map (·.2))).get? a=some (seqObj "list" ((arrOf st).map (·.2)) c2) :=
  ⟨_,get?_update_seq na1 fun _=>(arrOf st).map (·.2)⟩
 unfold ksk_tail
 try dsimp only
 refine wpAny_bind (listUpdate_at hkS rfl ?_ (by rw [hsz,sizeLine_eq]; omega) (Nat.zero_le _))
 refine wpAny_bind (wpAny_letGo ?_)
 refine wpAny_bind (seqEpoch_at na1 rfl ?_)
 refine wpAny_bind (listUpdate_at na1 rfl ?_ (Nat.zero_le _) (Nat.le_trans (Nat.le_of_eq (by simp [hsz2])) (show vs.length<=_ by rw [sizeLine_eq]; omega)))
 rw [hfl]
 simp only [bne_self_eq_false,Bool.false_eq_true,if_false]
 exact wpAny_pure (h _ _ c2 (fun b h1 h2=>(s2.2 b h2).trans (s1.2 b h1)) hc2 (ksk_out (b:=false) hk hp hs))
theorem end_q (hkS:s.heap.get? kS=some (seqObj "list" keys e)) (ha:s.heap.get? a=some (seqObj "list" #[] e1)) (hka:kS ≠ a)
  (hk:IntsAre keys.toList kz) (hlen:kz.length=vs.length) (h64:vs.length < 64)
  (h:∀ h' out c,(∀ b,b ≠ kS->b ≠ a->h'.get? b=s.heap.get? b)->h'.get? a=some (seqObj "list" out c)->KskOut false kz vs out.toList->P (.done (.ret .none)) { s with heap:=h' }) :
  wpAny (model prog w) A (ksk_end a false vs.toArray e1 (.ref kS) keys) P E s:=by
 have hsz:keys.size=vs.length:=by
  have h1:=hk.length
  rw [Array.length_toList] at h1
  omega
 have hzs:(keys.zip vs.toArray).size=vs.length:=by rw [Array.size_zip,hsz,List.size_toArray,Nat.min_self]
 unfold ksk_end
 try dsimp only
 simp only [Bool.false_eq_true,if_false]
 by_cases h2:vs.toArray.size < 2
 ·rw [if_pos h2,if_pos h2]
  refine wpAny_bind (wpAny_pure ?_)
  rw [StateT.run_pure]
  refine wpAny_bind (wpAny_pure ?_)
  try dsimp only
  refine tail_q (st:=SortSt.mk' general' (keys.zip vs.toArray) #[] 7 none) hkS ha hka hk hlen h64 (Array.Perm.refl _) ?_ rfl h
  intro i j hij hj
  have hj2:j < (keys.zip vs.toArray).size:=hj
  rw [hzs] at hj2
  rw [List.size_toArray] at h2
  have:i=j:=by omega
  subst this
  exact Int.le_refl _
 ·rw [if_neg h2,if_neg h2]
  rw [List.size_toArray] at h2
  rw [ksk_kind hk (by rw [hsz]; omega)]
  refine wpAny_bind (wpAny_pure ?_)
  refine wpAny_bind (wpAny_mono (wpS_sortRuns (a₀:=keys.zip vs.toArray) (st:=SortSt.mk' oneType' (keys.zip vs.toArray) #[] 7 none)
   (Q:=fun _ st'=>(arrOf st').Perm (keys.zip vs.toArray)/\failedOf st'=none/\SortedTo (arrOf st') (keys.zip vs.toArray).size)
   (ksk_intKeys hk) ⟨Array.Perm.refl _,rfl,rfl,rfl⟩ (by rw [hzs]; omega) (by rw [hzs]; exact h64) fun st' a1 a2 a3=>⟨a1,a2,a3⟩) ?_ fun _ _ e=>e)
  rintro ⟨⟨⟩,st'⟩ s' ⟨rfl,hp,hf,hs⟩
  try dsimp only
  exact tail_q hkS ha hka hk hlen h64 hp (by rw [hp.size_eq]; exact hs) hf h
end
end Sb
namespace Sb
open PySem PySem.Spec PyProof.Rows PyProof.V L2
set_option maxRecDepth 100000
set_option maxHeartbeats 2000000
section
variable {X:Cx} {pins:List (Addr × Obj)} {σ:L2.St} {H:Hp} {s:Shared} {A:Around} {E:Value->Shared->Prop} {a kS f:Addr} {vs:List Value} {xs:List V} {kz:List Int} {e1:Nat} {P:PySem.Fin->Shared->Prop} {R:Hp->Prop}
theorem rest_q (I:Inv X ((kS,seqObj "list" #[] 0) :: (a,seqObj "list" #[] e1) :: pins) σ H s) (hka:kS ≠ a) (h0k:X.s₀.heap.objs.size<=kS) (h0a:X.s₀.heap.objs.size<=a) (hpk:∀ p ∈ X.pn ++ pins,p.1 ≠ kS/\p.1 ≠ a)
  (rv:Vals xs vs) (hlen:kz.length=xs.length) (h64:xs.length < 64) (hR:R H)
  (turn:∀ (i:Nat) (v:V) (u:Value) (k:Int) (pins':List (Addr × Obj)) (s':Shared) (H':Hp),xs[i]?=some v->kz[i]?=some k->RelV v u->(∀ p ∈ pins,p ∈ pins')->Inv X pins' σ H' s'->R H' →
   wpAny (model X.prog X.w) A (call (.ref f) [u]) (EP X pins' σ (fun r H''=>r=.int k/\R H'')) (fun _ _=>False) s')
  (h:∀ (s':Shared) (H':Hp) (ys:List V),Inv X pins σ (upd H' a (.lst ys)) s'->R H'->H' a=none->SOut kz xs ys->P (.done (.ret .none)) s') :
  wpAny (model X.prog X.w) A (ksk_rest a (.ref f) false vs.toArray e1 (.ref kS)) P E s:=by
 have lv:=rv.length
 have cellNe:∀ {pl:List (Addr × Obj)} {H':Hp} {s':Shared} {p:Addr × Obj},Inv X pl σ H' s'->p ∈ pl->∀ x c,X.env.cells.lookup x=some c->c ≠ p.1:=fun {pl H' s' p} J hp x c hc q=>by
  obtain ⟨v,o,ho,hd⟩:=J.cell x c hc
  obtain ⟨g1,_,_,_,g5⟩:=J.pin p (List.mem_append_right _ hp)
  rw [q,g1] at ho
  cases ho
  exact g5 _ hd
 unfold ksk_rest
 refine wpAny_bind (wpAny_rule ?_)
 first
  | rw [List.forIn_toArray]
  | (rw [← Array.forIn_toList]; simp only [List.toList_toArray])
  | rw [← Array.forIn_toList]
 refine wpAny_bind (ksk_fold (fun i s'=>∃ H' kA e,Inv X ((kS,seqObj "list" kA e) :: (a,seqObj "list" #[] e1) :: pins) σ H' s'/\R H'/\IntsAre kA.toList (kz.take i)) vs 0 s
  ⟨H,#[],0,I,hR,by simpa using IntsAre.nil⟩ ?step ?done)
 case step =>
  rintro j x s' hx ⟨H',kA,e,J,rH,hk⟩
  simp only [Nat.zero_add] at hk ⊢
  have hj:j < vs.length:=(List.getElem?_eq_some_iff.mp hx).1
  obtain ⟨k,hkj⟩:∃ k,kz[j]?=some k:=⟨_,List.getElem?_eq_getElem (by omega)⟩
  obtain ⟨v,hvj⟩:∃ v,xs[j]?=some v:=⟨_,List.getElem?_eq_getElem (by omega)⟩
  obtain ⟨u,hu,ru⟩:=rv.get hvj
  rw [hx] at hu
  cases hu
  have hz:kA.size<=vs.length:=by
   have h1:=hk.length
   rw [Array.length_toList,List.length_take] at h1
   omega
  refine wpAny_bind (wpAny_attempt (wpAny_mono (turn j v x k _ s' H' hvj hkj ru (fun p hp=>List.mem_cons_of_mem _ (List.mem_cons_of_mem _ hp)) J rH) (fun r s'' he=>?_) fun _ _ hF=>hF.elim))
  obtain ⟨r',H2,J2,rr,rfl,R2⟩:=he
  obtain ⟨t2,rfl⟩:∃ t,r=.int k t:=rr
  try dsimp only
  obtain ⟨k1,k2,k3,k4,k5⟩:=J2.pin (kS,seqObj "list" kA e) (List.mem_append_right _ (.head _))
  obtain ⟨a1,a2,a3,a4,a5⟩:=J2.pin (a,seqObj "list" #[] e1) (List.mem_append_right _ (.tail _ (.head _)))
  have s1:=Heap.SameBut.update s''.heap kS (Obj.mapSeq (·.push (.int k t2)))
  obtain ⟨c2,hc2⟩:∃ c2,(s''.heap.update kS (Obj.mapSeq (·.push (.int k t2)))).get? kS=some (seqObj "list" (kA.push (.int k t2)) c2):=⟨_,get?_update_seq k1 (·.push (.int k t2))⟩
  have ek:kz.take (j + 1)=kz.take j ++ [k]:=by rw [List.take_add_one,hkj]; simp
  have ea:(kA.push (Value.int k t2)).toList=kA.toList ++ [Value.int k t2]:=by simp
  refine wpAny_bind (listUpdate_at k1 rfl ?_ (by rw [sizeLine_eq]; omega) (Nat.le_trans (Nat.le_of_eq (Array.size_push ..)) (by rw [sizeLine_eq]; omega)))
  have J3:Inv X ((a,seqObj "list" #[] e1) :: pins) σ H2 s'':=J2.pins_of fun p hp=>J2.pin p (List.mem_append_right _ (.tail _ hp))
  have J4:Inv X ((a,seqObj "list" #[] e1) :: pins) σ H2 { s'' with heap:=s''.heap.update kS (Obj.mapSeq (·.push (.int k t2))) }:=by
   refine J3.turned (t':=s''.toks) (it:=kS) (fun b o hb e=>(s1.2 b hb).trans e) k2 k3 (.inr h0k) (fun x c hc=>cellNe J2 (.head _) x c hc) fun p hp=>?_
   rcases List.mem_append.mp hp with hp | hp
   ·exact (hpk p (List.mem_append_left _ hp)).1
   ·rcases List.mem_cons.mp hp with rfl | hp
    ·exact fun q=>hka q.symm
    ·exact (hpk p (List.mem_append_right _ hp)).1
  refine wpAny_pure ⟨rfl,H2,kA.push (.int k t2),c2,J4.pins_of fun p hp=>?_,R2,by rw [ea,ek]; exact ksk_snoc hk⟩
  rcases List.mem_cons.mp hp with rfl | hp
  ·exact ⟨hc2,k2,k3,k4,fun v z=>nomatch z⟩
  ·exact J4.pin p (List.mem_append_right _ hp)
 case done =>
  rintro s' ⟨H',kA,e,J,rH,hk⟩
  have hk':IntsAre kA.toList kz:=by
   have e3:kz.take (0 + vs.length)=kz:=List.take_of_length_le (by omega)
   rw [e3] at hk
   exact hk
  obtain ⟨k1,k2,k3,k4,k5⟩:=J.pin (kS,seqObj "list" kA e) (List.mem_append_right _ (.head _))
  obtain ⟨a1,a2,a3,a4,a5⟩:=J.pin (a,seqObj "list" #[] e1) (List.mem_append_right _ (.tail _ (.head _)))
  try dsimp only
  refine wpAny_bind (listItems_at k1 rfl ?_)
  refine end_q (vs:=vs) k1 a1 hka hk' (by omega) (by omega) fun h' out c hsame hout ho=>?_
  obtain ⟨ys,so,ry⟩:=sout_of rv ho
  have lo:ys.length<=sizeLine:=by
   obtain ⟨ps,p1,p2,_⟩:=so
   have:=p1.length_eq
   rw [List.length_zip] at this
   rw [p2,List.length_map,sizeLine_eq]
   omega
  refine h _ H' ys ?_ rH a2 so
  have J3:Inv X pins σ H' s':=J.pins_of fun p hp=>J.pin p (List.mem_append_right _ (.tail _ (.tail _ hp)))
  have nA:∀ b u,H' b=some u->b ≠ a/\b ≠ kS:=fun b u q=>by
   have a2':H' a=none:=a2
   have k2':H' kS=none:=k2
   constructor
   ·intro z; rw [z,a2'] at q; cases q
   ·intro z; rw [z,k2'] at q; cases q
  refine J3.step (g':=s'.gens) (d':=s'.drawn) (t':=s'.toks) (ch:=[kS,a]) (fun b hb=>?_) (fun b o _ _ hc e _=>?_) (fun b o _ _ hc e _=>?_) (fun b o hc _ n=>?_) (fun b o hc e=>?_) (fun b xs e=>?_) (fun b o u e=>?_) (fun b ps e=>?_) (fun m hm=>?_) (fun b u e=>?_) J3.bare
  ·rcases List.mem_cons.mp hb with rfl | hb
   ·exact ⟨.inr h0k,k3,fun x c hc=>cellNe J (.head _) x c hc,fun p hp=>(hpk p hp).1⟩
   ·rw [List.mem_singleton.mp hb]
    exact ⟨.inr h0a,a3,fun x c hc=>cellNe J (.tail _ (.head _)) x c hc,fun p hp=>(hpk p hp).2⟩
  ·exact (hsame b (fun z=>hc (by simp [z])) (fun z=>hc (by simp [z]))).trans e
  ·exact ⟨o.slots,(hsame b (fun z=>hc (by simp [z])) (fun z=>hc (by simp [z]))).trans e⟩
  ·rw [upd_ne (fun z=>hc (by simp [z]))]; exact n
  ·exact ⟨o,(hsame b (fun z=>hc (by simp [z])) (fun z=>hc (by simp [z]))).trans e⟩
  ·rw [upd_ne (nA b _ e).1]; exact e
  ·rw [upd_ne (nA b _ e).1]; exact e
  ·exact ⟨#[],by rw [upd_ne (nA b _ e).1,e]; simp⟩
  ·obtain ⟨o,es,ep,ho,r⟩:=hm
   exact ⟨o,es,ep,(hsame _ (Ne.symm k3) (Ne.symm a3)).trans ho,r⟩
  ·by_cases hb:b=a
   ·subst hb
    rw [upd_same] at e
    cases e
    exact ⟨lo,out.toList,c,ry,by rw [hout,Array.toArray_toList]⟩
   ·rw [upd_ne hb] at e
    refine (J3.hok b u e).stay (fun c v hc q=>?_) (fun c q=>?_) fun c xs q=>?_
    ·have hh:c ≠ kS/\c ≠ a:=by
      rcases hc with z | z
      ·rw [z]; exact ⟨(nA b u e).2,hb⟩
      ·exact ⟨(nA c _ z).2,(nA c _ z).1⟩
     exact (hsame c hh.1 hh.2).trans q
    ·rw [upd_ne (nA c _ q).1]; exact q
    ·rw [upd_ne (nA c _ q).1]; exact q
end
end Sb
namespace Sb
open PySem PySem.Spec PyProof.Rows PyProof.V L2
set_option maxRecDepth 100000
set_option maxHeartbeats 2000000
section
variable {X:Cx} {pins:List (Addr × Obj)} {σ:L2.St} {H:Hp} {s:Shared} {A:Around} {E:Value->Shared->Prop} {l f:Addr} {vs:List Value} {xs:List V} {kz:List Int} {Q:Value->Shared->Prop} {R:Hp->Prop}
theorem sorted_q (I:Inv X pins σ H s) (hl:s.heap.IsList l vs.toArray) (rv:Vals xs vs) (hlen:kz.length=xs.length) (h64:xs.length < 64) (hR:R H)
  (turn:∀ (i:Nat) (v:V) (u:Value) (k:Int) (pins':List (Addr × Obj)) (s':Shared) (H':Hp),xs[i]?=some v->kz[i]?=some k->RelV v u->(∀ p ∈ pins,p ∈ pins')->Inv X pins' σ H' s'->R H' →
   wpAny (model X.prog X.w) A.in1.in1 (call (.ref f) [u]) (EP X pins' σ (fun r H''=>r=.int k/\R H'')) (fun _ _=>False) s')
  (h:∀ (a:Addr) (s':Shared) (H':Hp) (ys:List V),Inv X pins σ (upd H' a (.lst ys)) s'->R H'->H' a=none->SOut kz xs ys->Q (.ref a) s') :
  wpAny (model X.prog X.w) A (call (.builtin "sorted") [.ref l] [(Str.ofString "key",.ref f)]) Q E s:=by
 have lv:=rv.length
 refine call_function_entry_kw kind_sorted plain_sorted entry_sorted (ksk_s1 _ _) ?_
 unfold Builtin.«sorted»
 refine wpAny_bind (m:=checkCount "sorted" 1 1 _) (wpAny_pure ?_)
 refine wpAny_bind (collect_list hl ?_ (by rw [sizeLine_eq]; omega))
 refine wpAny_bind (wpAny_newList ?_ (by rw [sizeLine_eq]; omega))
 have hsz:((s.heap.push (seqObj "list" #[] 0)).update s.heap.objs.size (Obj.mapSeq (· ++ vs.toArray))).objs.size=s.heap.objs.size + 1:=by
  rw [Heap.size_update,size_push']
 have hoL:(((s.heap.push (seqObj "list" #[] 0)).update s.heap.objs.size (Obj.mapSeq (· ++ vs.toArray))).push (seqObj "list" vs.toArray 0)).get? (s.heap.objs.size + 1)=some (seqObj "list" vs.toArray 0):=by
  rw [← hsz]; exact Heap.get?_push_size _ rfl
 have keep:∀ b o,s.heap.get? b=some o->(((s.heap.push (seqObj "list" #[] 0)).update s.heap.objs.size (Obj.mapSeq (· ++ vs.toArray))).push (seqObj "list" vs.toArray 0)).get? b=some o:=fun b o q=>by
  have hlt:b < s.heap.objs.size:=Heap.lt_size q
  rw [Heap.get?_push_ne _ _ _ (by rw [hsz]; exact Nat.ne_of_lt (Nat.lt_succ_of_lt hlt)),Heap.get?_update_ne _ _ _ _ (Nat.ne_of_lt hlt),Heap.get?_push_ne _ _ _ (Nat.ne_of_lt hlt)]
  exact q
 show wpAny _ _ _ _ _ { s with heap:=((s.heap.push (seqObj "list" #[] 0)).update s.heap.objs.size (Obj.mapSeq (· ++ vs.toArray))).push (seqObj "list" vs.toArray 0) }
 rw [hsz]
 refine wpAny_bind (wpAny_holding (wpAny_call_entry_kw slot_list_sort ⟨_,hoL,rfl⟩ entry_list_sort ?body (ksk_l1 _ _)))
 case body =>
  show wpAny (model X.prog X.w) A.in1.in1 (Builtin.«list.sort» ⟨[.ref (s.heap.objs.size + 1)],[(Str.ofString "key",.ref f)]⟩) _ _ _
  rw [ksk_t1]
  have I1:Inv X pins σ H { s with heap:=((s.heap.push (seqObj "list" #[] 0)).update s.heap.objs.size (Obj.mapSeq (· ++ vs.toArray))).push (seqObj "list" vs.toArray 0) }:=I.kept (t':=s.toks) keep
  have hs2:(((s.heap.push (seqObj "list" #[] 0)).update s.heap.objs.size (Obj.mapSeq (· ++ vs.toArray))).push (seqObj "list" vs.toArray 0)).objs.size=s.heap.objs.size + 2:=by rw [size_push',hsz]
  generalize hg:((s.heap.push (seqObj "list" #[] 0)).update s.heap.objs.size (Obj.mapSeq (· ++ vs.toArray))).push (seqObj "list" vs.toArray 0)=g at hoL keep I1 hs2
  have s1:=Heap.SameBut.update g (s.heap.objs.size + 1) (Obj.mapSeq fun _=>(#[]:Array Value))
  obtain ⟨e1,ho1⟩:∃ e1,(g.update (s.heap.objs.size + 1) (Obj.mapSeq fun _=>(#[]:Array Value))).get? (s.heap.objs.size + 1)=some (seqObj "list" #[] e1):=⟨_,get?_update_seq hoL fun _=>#[]⟩
  unfold ksk_tree
  refine wpAny_bind (listItems_at hoL rfl ?_)
  refine wpAny_bind (listUpdate_at hoL rfl ?_ (by rw [List.size_toArray,sizeLine_eq]; omega) (Nat.zero_le _))
  refine wpAny_bind (seqEpoch_at ho1 rfl ?_)
  refine wpAny_bind (wpAny_newTuple ?_ (by show vs.length<=_; rw [sizeLine_eq]; omega))
  refine wpAny_bind (wpAny_newList ?_ (Nat.zero_le _))
  refine wpAny_holding ?_
  have hkS:((g.update (s.heap.objs.size + 1) (Obj.mapSeq fun _=>(#[]:Array Value))).push (seqObj "tuple" vs.toArray 0)).objs.size=s.heap.objs.size + 3:=by rw [size_push',Heap.size_update,hs2]
  have keep2:∀ b o,s.heap.get? b=some o->(((g.update (s.heap.objs.size + 1) (Obj.mapSeq fun _=>(#[]:Array Value))).push (seqObj "tuple" vs.toArray 0)).push (seqObj "list" #[] 0)).get? b=some o:=fun b o q =>
   Heap.get?_push_of_some _ (Heap.get?_push_of_some _ ((s1.2 b (Nat.ne_of_lt (Nat.lt_succ_of_lt (Heap.lt_size q)))).trans (keep b o q)))
  have I2:Inv X pins σ H { s with heap:=((g.update (s.heap.objs.size + 1) (Obj.mapSeq fun _=>(#[]:Array Value))).push (seqObj "tuple" vs.toArray 0)).push (seqObj "list" #[] 0) }:=I.kept (t':=s.toks) keep2
  have hk0:(((g.update (s.heap.objs.size + 1) (Obj.mapSeq fun _=>(#[]:Array Value))).push (seqObj "tuple" vs.toArray 0)).push (seqObj "list" #[] 0)).get? (s.heap.objs.size + 3)=some (seqObj "list" #[] 0):=by
   rw [← hkS]; exact Heap.get?_push_size _ rfl
  have ha0:(((g.update (s.heap.objs.size + 1) (Obj.mapSeq fun _=>(#[]:Array Value))).push (seqObj "tuple" vs.toArray 0)).push (seqObj "list" #[] 0)).get? (s.heap.objs.size + 1)=some (seqObj "list" #[] e1) :=
   Heap.get?_push_of_some _ (Heap.get?_push_of_some _ ho1)
  have hLl:=I.lt
  have hz0:=I.sz
  have hnew:∀ d:Nat,H (s.heap.objs.size + d)=none:=fun d=>I.hok.fresh (Nat.le_add_right _ _)
  refine rest_q (s:={ s with heap:=((g.update (s.heap.objs.size + 1) (Obj.mapSeq fun _=>(#[]:Array Value))).push (seqObj "tuple" vs.toArray 0)).push (seqObj "list" #[] 0) }) (a:=s.heap.objs.size + 1) (kS:=((g.update (s.heap.objs.size + 1) (Obj.mapSeq fun _=>(#[]:Array Value))).push (seqObj "tuple" vs.toArray 0)).objs.size) (R:=R) (H:=H) (pins:=pins) (σ:=σ)
   ?_ (by rw [hkS]; exact Nat.ne_of_gt (Nat.add_lt_add_left (by decide) _)) (by rw [hkS]; exact Nat.le_trans hz0 (Nat.le_add_right _ _)) (Nat.le_trans hz0 (Nat.le_add_right _ _)) (fun p hp=>?_) rv hlen h64 hR turn fun s' H' ys J r n o=>⟨_,rfl,wpAny_pure ⟨_,rfl,h _ s' H' ys J r n o⟩⟩
  ·rw [hkS]
   refine I2.pins_of fun p hp=>?_
   rcases List.mem_cons.mp hp with rfl | hp
   ·exact ⟨hk0,hnew 3,Nat.ne_of_gt (Nat.lt_of_lt_of_le hLl (Nat.le_add_right _ _)),I.nofs (Nat.le_add_right _ _),fun v z=>nomatch z⟩
   ·rcases List.mem_cons.mp hp with rfl | hp
    ·exact ⟨ha0,hnew 1,Nat.ne_of_gt (Nat.lt_of_lt_of_le hLl (Nat.le_add_right _ _)),I.nofs (Nat.le_add_right _ _),fun v z=>nomatch z⟩
    ·exact I2.pin p (List.mem_append_right _ hp)
  ·have hlt:=Heap.lt_size (I.pin p hp).1
   rw [hkS]
   exact ⟨Nat.ne_of_lt (Nat.lt_of_lt_of_le hlt (Nat.le_add_right _ _)),Nat.ne_of_lt (Nat.lt_of_lt_of_le hlt (Nat.le_add_right _ _))⟩
end
end Sb
namespace Sb
open PySem PySem.Spec PyProof.Rows PyProof.V L2
set_option maxRecDepth 100000
set_option maxHeartbeats 2000000
def BltIn (mg:Str->Option Value) (base:Heap):Prop:=∃ bm ob,mg "__builtins__"=some (.ref bm)/\bm ≠ builtinsNs/\base.get? bm=some ob/\ob.cls=.type "module"/\ob.dict=some builtinsNs/\ob.data=.plain
section
variable {X:Cx} {pins:List (Addr × Obj)} {σ:L2.St} {H:Hp} {s:Shared} {A:Around} {E:Value->Shared->Prop} {Q:Value->Shared->Prop}
theorem Inv.grown {P:Addr} {ps more:Array Value} {h':Heap} {t':Nat} (I:L2.Inv X pins σ H s) (hP:H P=some (.tbl ps)) (k:∀ b o,b ≠ P->s.heap.get? b=some o->h'.get? b=some o) (hn:h'.get? P=some { cls:=.none,data:=.fields (ps ++ more) }) :
  L2.Inv X pins σ (upd H P (.tbl (ps ++ more))) { s with heap:=h',toks:=t' }:=by
 have ne0:∀ b,H b=none->b ≠ P:=fun b n z=>by rw [z,hP] at n; cases n
 have neT:∀ b u,H b=some u->(∀ q,u ≠ .tbl q)->b ≠ P:=fun b u e n z=>by rw [z,hP] at e; cases e; exact n _ rfl
 refine I.step (g':=s.gens) (d':=s.drawn) (ch:=[]) (fun b z=>nomatch z) (fun b o _ _ _ e n=>k b o (ne0 b n) e) (fun b o _ _ _ e n=>⟨o.slots,k b o (ne0 b n) e⟩) (fun b o _ _ n=>by rw [upd_ne (ne0 b n)]; exact n)
  (fun b o _ e=>?_) (fun b xs e=>by rw [upd_ne (neT b _ e fun q z=>nomatch z)]; exact e) (fun b o u e=>by rw [upd_ne (neT b _ e fun q z=>nomatch z)]; exact e) (fun b qs e=>?_) (fun m hm=>?_) (fun b u e=>?_) I.bare
 ·by_cases hb:b=P
  ·exact ⟨_,hb ▸ hn⟩
  ·exact ⟨o,k b o hb e⟩
 ·by_cases hb:b=P
  ·subst hb
   rw [hP] at e
   cases e
   exact ⟨more,upd_same⟩
  ·exact ⟨#[],by rw [upd_ne hb,e]; simp⟩
 ·obtain ⟨o,es,ep,ho,r⟩:=hm
  exact ⟨o,es,ep,k _ o (ne0 _ I.free) ho,r⟩
 ·by_cases hb:b=P
  ·subst hb
   rw [upd_same] at e
   cases e
   exact hn
  ·rw [upd_ne hb] at e
   refine (I.hok b u e).stay (fun c v hc q=>k c v ?_ q) (fun c q=>?_) fun c xs q=>?_
   ·rcases hc with z | z
    ·rw [z]; exact hb
    ·exact neT c _ z fun q z=>nomatch z
   ·rw [upd_ne (neT c _ q fun q z=>nomatch z)]; exact q
   ·rw [upd_ne (neT c _ q fun q z=>nomatch z)]; exact q
theorem lam_q {params:Arguments} {body:Expr} {scope:Scope} {pos:Pos} {cc P:Addr} {ps:Array Value} {cl:List (Str × Addr)} (I:L2.Inv X pins σ H s) (hdef:defaultsOf params X.env=([],[])) (hcl:closureFor scope X.env=pure cl)
  (hcode:X.env.code=.ref cc) (C:PySem.W.CodeHd X.base cc P) (hP:H P=some (.tbl ps)) (ht:TriplesOk ps.toList) (hnf:codeAmong pos ps.toList=none) (hb:BltIn X.mg X.base)
  (h:∀ f c' oc vs t ctv s',L2.Inv X ((f,PySem.W.kla_obj "<lambda>" (X.env.qual ++ "<lambda>") params body scope cl ((X.mg "__name__").getD .none) c' ctv) :: (c',oc) :: pins) σ (upd H P (.tbl (ps ++ #[rawInt pos.line,rawInt pos.col,.ref c']))) s' →
   oc.data=.fields vs->vs[1]?=some (.str (X.env.qual ++ "<lambda>") t)->Q (.ref f) s') :
  wpAny (model X.prog X.w) A (eval (.Lambda params body scope pos) X.env) Q E s:=by
 have hPs:s.heap.get? P=some (PySem.W.tabObj ps):=I.hok P _ hP
 have hg:s.heap.Ns mainGlobals X.mg:=I.mod.glob.keeps I.bk
 have hgP:mainGlobals ≠ P:=fun q=>by
  obtain ⟨o,es,ep,e,hd,_⟩:=I.mod.glob
  have:=(I.bs _ _ e).2
  rw [q,hP] at this; cases this
 obtain ⟨bm,ob,b1,b2,b3,b4,b5,b6⟩:=hb
 have hbP:bm ≠ P:=fun q=>by
  have:=(I.bs _ _ b3).2
  rw [q,hP] at this; cases this
 have hbG:bm ≠ mainGlobals:=fun q=>by
  obtain ⟨o,es,ep,e,hd,_⟩:=I.mod.glob
  rw [q,e] at b3; cases b3; rw [hd] at b6; cases b6
 refine PySem.W.kla_eval hdef (PySem.W.kla_makeFunction (mg:=X.mg) hcl I.ok.glob hg hcode (C.keeps I.bk) hPs ht hnf hgP ⟨bm,ob,b1,b2,hbG,hbP,I.bk _ _ b3,b4,b5,b6⟩ fun c' ctv h' tk hx hge hlt hrec htb=>?_)
 obtain ⟨c₂,oc,vs,t,e2,hoc,hd,hv⟩:=hrec
 cases e2
 have hsz:s.heap.objs.size<=h'.objs.size:=Nat.le_trans hge (Nat.le_of_lt hlt)
 have I1:L2.Inv X pins σ (upd H P (.tbl (ps ++ #[rawInt pos.line,rawInt pos.col,.ref c']))) { s with heap:=h'.push (PySem.W.kla_obj "<lambda>" (X.env.qual ++ "<lambda>") params body scope cl ((X.mg "__name__").getD .none) c' ctv),toks:=tk } :=
  Inv.grown I hP (fun b o hb e=>Heap.get?_push_of_some _ (hx b o hb e)) (Heap.get?_push_of_some _ htb)
 have hPlt:P < s.heap.objs.size:=Heap.lt_size hPs
 have fr:∀ b,s.heap.objs.size<=b->upd H P (.tbl (ps ++ #[rawInt pos.line,rawInt pos.col,.ref c'])) b=none:=fun b hb=>by
  rw [upd_ne (Nat.ne_of_gt (Nat.lt_of_lt_of_le hPlt hb))]; exact I.hok.fresh hb
 refine h h'.objs.size c' oc vs t ctv _ (I1.pins_of fun p hp=>?_) hd hv
 rcases List.mem_cons.mp hp with rfl | hp
 ·exact ⟨Heap.get?_push_size _ rfl,fr _ hsz,Nat.ne_of_gt (Nat.lt_of_lt_of_le I.lt hsz),I.nofs hsz,fun v z=>nomatch z⟩
 ·rcases List.mem_cons.mp hp with rfl | hp
  ·exact ⟨Heap.get?_push_of_some _ hoc,fr _ hge,Nat.ne_of_gt (Nat.lt_of_lt_of_le I.lt hge),I.nofs hge,fun v z=>by have z':oc.data=_:=z; rw [hd] at z'; cases z'⟩
  ·exact I1.pin p (List.mem_append_right _ hp)
end
end Sb
namespace Sb
open PySem PySem.Spec PyProof.Rows PyProof.V L2
set_option maxRecDepth 100000
set_option maxHeartbeats 2000000
theorem sql_tbl {K:PySem.W.Frag} {H:Hp} {l P:Addr} {xs:List V} {ps qs:Array Value} (h:SqL K H l xs) (hP:H P=some (.tbl ps)):SqL K (upd H P (.tbl qs)) l xs:=by
 rcases h with h | h
 ·refine .inl ?_
  have ne:l ≠ P:=fun z=>by
   rcases h with h | ⟨o,h⟩ <;> rw [z,hP] at h <;> cases h
  rcases h with h | ⟨o,h⟩
  ·exact .inl (by rw [upd_ne ne]; exact h)
  ·exact .inr ⟨o,by rw [upd_ne ne]; exact h⟩
 ·exact .inr h
inductive tSortL_i (K:PySem.W.Frag) (tb:TE) (P:Addr) (lp:Pos) (iy:Nat) (σ:L2.St) (Q:VK) (v:V) (H1:Hp):Prop
 | mk (l:Addr) (xs:List V) (kz:List Int) (vy:V) (ps:Array Value) (R:Hp->Prop) (z0:v=.ref l) (z1:SqL K H1 l xs) (z2:kz.length=xs.length) (z3:xs.length < 64) (z4:σ[iy]?=some (some vy)) (z5:H1 P=some (.tbl ps)) (z6:TriplesOk ps.toList)
  (z7:codeAmong lp ps.toList=none) (z8:∀ qs,R (upd H1 P (.tbl qs))) (z9:∀ (i:Nat) (x:V) (k:Int) (H':Hp),xs[i]?=some x->kz[i]?=some k->R H'->tb [some x,some vy] H' (fun r H''=>r=.int k/\R H''))
  (za:∀ (a:Addr) (H':Hp) (ys:List V),R H'->H' a=none->SOut kz xs ys->Q (.ref a) (upd H' a (.lst ys)))
def tSortL (K:PySem.W.Frag) (te tb:TE) (P:Addr) (lp:Pos) (iy:Nat):TE:=fun σ H Q=>te σ H (tSortL_i K tb P lp iy σ Q)
theorem pe_sortL {X:Cx} {x y:Str} {params:Arguments} {body e:Expr} {scope:Scope} {p pos lp kp:Pos} {te tb:TE} {k iy:Nat} {c cc P:Addr} (S:LamScope x y scope) (hr:Room (k + 3) X.A) (hg:Gl X "sorted") (hm:X.mg "sorted"=none) (he:PE X e te)
  (hdef:defaultsOf params X.env=([],[])) (hcl:closureFor scope X.env=pure [(y,c)]) (hcy:X.env.cells.lookup y=some c) (hky:X.env.kindOf y=some .cell) (hiy:X.N[iy]?=some y) (hcode:X.env.code=.ref cc) (C:PySem.W.CodeHd X.base cc P) (hb:BltIn X.mg X.base) (hc:X.calm=true)
  (hbind:∀ (c c':Addr) (pm ctv u:Value),bindArgs (PySem.W.kla_fn "<lambda>" (X.env.qual ++ "<lambda>") params body scope [(y,c)] pm (.ref c') ctv) ⟨[u],[]⟩=pure [(x,u)])
  (hbody:∀ (A:Around) (outer:List Env) (s:Shared) (H:Hp) (f c':Addr),Room k (A.deeper (PySem.W.envX (X.env.qual ++ "<lambda>") scope s.heap.objs.size f (.ref c') [(x,s.heap.objs.size + 1),(y,c)])) →
   PE (cxLam X.prog X.w X.K X.mg X.base x y (X.env.qual ++ "<lambda>") scope f (.ref c') c A outer s H) body tb)
  (hs:starEach [e] X.env=(false,eval e X.env) :: starEach [] X.env:=by rfl) (hbk:backTo pos (starEach [e] X.env)=(false,eval e X.env) :: backTo pos (starEach [] X.env):=by rfl) (hpl:(backTo pos (starEach [e] X.env)).any (·.1)=false:=by rfl) :
  PE X (.Call (.Name "sorted" p) [e] [⟨some "key",.Lambda params body scope lp,kp⟩] pos) (tSortL X.K te tb P lp iy):=by
 intro pins s σ H Q I h
 have rm:Room (k + 1) X.A.in1.in1:=(Room.in1 (k:=k + 2) hr).in1
 refine wpAny_Call_Name_kw (ld_blt I hg hm (u:=.builtin "sorted") (by decide +kernel) ?_ (by decide) (by decide))
 refine PyProof.Rows.callWith_kw ?_ hbk hpl rfl rfl
 have ha:PA X [e] (tCons te tNil):=pa_cons he pa_nil hs
 refine thn (ha pos pins s σ H (fun vs H1=>∃ v,vs=[v]/\tSortL_i X.K tb P lp iy σ Q v H1) I ?_) fun us s1 ⟨vs,H1,I1,r1,v,ev,q1⟩=>?_
 ·exact (by
   have h':te σ H (tSortL_i X.K tb P lp iy σ Q):=h
   show te σ H _
   have:(tSortL_i X.K tb P lp iy σ Q)=(fun x H1=>tNil σ H1 fun xs H2=>∃ v,x :: xs=[v]/\tSortL_i X.K tb P lp iy σ Q v H2):=by
    funext x H1
    refine propext ⟨fun z=>⟨x,rfl,z⟩,?_⟩
    rintro ⟨v,e1,z⟩
    cases e1
    exact z
   rw [this] at h'
   exact h')
 ·subst ev
  obtain ⟨u,rfl,ru⟩:=vals1 r1
  obtain ⟨l,xs,kz,vy,ps,R,rfl,z1,z2,z3,z4,z5,z6,z7,z8,z9,za⟩:=q1
  obtain rfl:u=.ref l:=ru
  refine PyProof.Rows.kws_cons (thn (Q:=fun v s₂=>wpAny (model X.prog X.w) X.A (call (.builtin "sorted") [.ref l] [(Str.ofString "key",v)]) (EP X pins σ Q) X.xe s₂) (lam_q I1 hdef hcl hcode C z5 z6 z7 hb fun f c' oc vs t ctv s' I2 d1 d2=>?_) fun v s₂ h₂=>PyProof.Rows.kws_nil h₂)
  obtain ⟨its,rv,pl,_⟩:=I2.list (sql_tbl z1 z5)
  refine sorted_q I2 pl.isList rv z2 z3 (z8 _) (fun i xv xu kk pins' s'' H' e1 e2 e3 hsub J rH=>?_) fun a s'' H' ys J rH n so=>⟨.ref a,_,J.pins_of fun p hp=>J.pin p (List.mem_append_right _ (.tail _ (.tail _ hp))),rfl,za a H' ys rH n so⟩
  obtain ⟨f1,f2,f3,f4,f5⟩:=J.pin _ (List.mem_append_right _ (hsub _ (.head _)))
  obtain ⟨g1,g2,g3,g4,g5⟩:=J.pin _ (List.mem_append_right _ (hsub _ (.tail _ (.head _))))
  obtain ⟨m,hn,hl⟩:=J.loc
  obtain ⟨uy,ry,lk⟩:=hl iy y vy hiy z4 (.inr (.inl hky))
  have hcell:s''.heap.IsCell c (some uy):=by
   rcases lk with ⟨k1,_⟩ | ⟨_,c2,k2,k3⟩
   ·have k1':X.env.kindOf y=some .local:=k1
    rw [hky] at k1'; cases k1'
   ·rw [hcy] at k2; cases k2; exact k3
  refine wpAny_call (codeAny_mono (lam_call (k:=k) (vx:=xv) (Q:=fun r H''=>r=.int kk/\R H'') S rm (J.env0 hc).in1.in1 f1 ⟨c',oc,vs,t,rfl,g1,d1,d2⟩ (hbind _ _ _ _ _) hcell (J.freeC y c hcy) e3 ry ⟨tb,hbody _ _ _ _ _ _ (rm.deeper _),z9 i xv kk H' e1 e2 rH⟩) fun r s3 hq=>?_)
  cases r with
  | error e=>exact hq
  | ok fl =>
   cases fl with
   | ret u=>exact J.after hq
   | next=>exact False.elim hq
   | brk=>exact False.elim hq
   | cont=>exact False.elim hq
end Sb
namespace Sb
open PySem PySem.Spec PyProof.Rows PyProof.V L2
set_option maxRecDepth 100000
set_option maxHeartbeats 2000000
def OnlyT (P:Addr) (H:Hp):Prop:=H P=some (.tbl #[])/\∀ b,b ≠ P->H b=none \/ ∃ o xs,H b=some (.frz o (.lst xs))
theorem law_callT {P:Program} {w:World} {K:PySem.W.Frag} {mg mb:Str->Option Value} {CX:CXT} {k:Nat} {fa a T cc:Addr} {fd:FuncData} {x:Str} {sp:Sp} {s₁:Shared} {vs:List Value} {ns:List Int}
  (KX:K.In s₁.heap) (hns:s₁.heap.Ns mainGlobals mg) (hb:s₁.heap.Ns builtinsNs mb) (hbb:∀ x:Str,x ≠ "__name__"->mb x=bootBuiltins x) (hlim:s₁.heap.NoLimit) (hg:s₁.gens=#[])
  (hbm:BltIn mg s₁.heap) (hT:s₁.heap.get? T=some (PySem.W.tabObj #[])) (hTK:K.lookup T=none) (hcc:PySem.W.codeHdIn K cc T=true)
  (ha:s₁.heap.get? a=some { cls:=.type "list",data:=.seq vs.toArray }) (hi:IntsAre vs ns) (hl:ns.length<=sizeLine) {sr:Bool} (hr:Room k callerA sr)
  (F:∀ base:Heap,K.In base->base.Ns mainGlobals mg->BltIn mg base->FnOk P w K mg base CX k fa fd [x] sp sr) (hbind:∀ (s:Shared) (u:Value),BindsTo s fd ⟨[u],[]⟩ [(x,u)])
  (hsp:∀ H:Hp,OnlyT T H->SqL K H a (ns.map V.int)->sp [.ref a] H (fun v _=>v=.bl true) fun _ _ _=>False)
  (hCX:∀ H e s',CX [] H s₁ (fun _ _ _=>False) e s'->False) :
  codeAny (model P w) callerA (.call (.ref fa) ⟨[.ref a],[]⟩) (fun r s'=>r=.ok (.ret (.bool true))/\OldK s₁.heap s'.heap/\s'.os=s₁.os/\AllBare s'.gens) s₁:=by
 have rv:=vals_ints hi
 have lenV:=hi.length
 have aT:a ≠ T:=fun z=>by rw [z,hT] at ha; cases ha
 have core:∀ H:Hp,OnlyT T H->SqL K H a (ns.map V.int)->HOk P w H s₁.heap->(∀ b,H b ≠ none->b=a \/ b=T)->(H a ≠ none->K.lookup a=none) →
   codeAny (model P w) callerA (.call (.ref fa) ⟨[.ref a],[]⟩) (fun r s'=>r=.ok (.ret (.bool true))/\OldK s₁.heap s'.heap/\s'.os=s₁.os/\AllBare s'.gens) s₁:=by
  intro H hO hS hok hA hK
  have base_of:∀ {b:Addr} {o:Obj},s₁.heap.get? b=some o->H b=none->(hidT s₁.heap H).get? b=some o:=fun e n=>hidT_get e n
  have noB:∀ {b:Addr} {o:Obj},s₁.heap.get? b=some o->(∀ xs n,o.data ≠ .seq xs n)->(∀ ps,o.data ≠ .fields ps)->H b=none:=fun {b o} e d1 d2=>by
   cases q:H b with
   | none=>rfl
   | some u =>
    rcases hA b (by rw [q]; simp) with e' | e'
    ·subst e'
     rw [ha] at e; cases e
     exact absurd rfl (d1 _ _)
    ·subst e'
     rw [hT] at e; cases e
     exact absurd rfl (d2 _)
  have nsK:∀ {b:Addr} {m:Str->Option Value},s₁.heap.Ns b m->(hidT s₁.heap H).Ns b m:=fun {b m} ⟨o,es,ep,e,d,r⟩=>⟨o,es,ep,base_of e (noB e (fun xs n z=>by rw [d] at z; cases z) fun ps z=>by rw [d] at z; cases z),d,r⟩
  have hKb:K.In (hidT s₁.heap H):=fun b o e=>base_of (KX b o e) (by
   cases q:H b with
   | none=>rfl
   | some u =>
    rcases hA b (by rw [q]; simp) with e' | e'
    ·subst e'
     rw [hK (by rw [q]; simp)] at e; cases e
    ·subst e'
     rw [hTK] at e; cases e)
  have hB:BltIn mg (hidT s₁.heap H):=by
   obtain ⟨bm,ob,b1,b2,b3,b4,b5,b6⟩:=hbm
   exact ⟨bm,ob,b1,b2,base_of b3 (noB b3 (fun xs n z=>by rw [b6] at z; cases z) fun ps z=>by rw [b6] at z; cases z),b4,b5,b6⟩
  have hM:Mod K mg (hidT s₁.heap H):=⟨hKb,nsK hns,⟨mb,nsK hb,hbb⟩,let ⟨mc,h1,h2⟩:=hlim; ⟨mc,nsK h1,h2⟩⟩
  have e0:Env0 P w K mg (hidT s₁.heap H) callerA [] s₁ H:=⟨rfl,hM,fun b o e=>of_hidT e,Nat.le_of_eq (hidT_size _ _),trivial,fun b hb=>absurd (show b ∈ ([]:List Addr) from hb) (by simp),hok,.of_eq hg,.inl rfl⟩
  refine codeAny_mono ((F _ hKb (nsK hns) hB).run callerA [] s₁ H ⟨[.ref a],[]⟩ [.ref a] [.ref a] _ _ hr e0 (hbind s₁ (.ref a)) (.cons rfl .nil) (hsp H hO hS)) fun r s' h=>?_
  cases r with
  | error e=>exact (hCX H e s' h).elim
  | ok fl =>
   cases fl with
   | next=>exact False.elim h
   | brk=>exact False.elim h
   | cont=>exact False.elim h
   | ret u =>
    obtain ⟨v,H',os,bare,un,hok',r',q⟩:=h
    have q':v=.bl true:=q
    subst q'
    obtain rfl:u=Value.bool true:=r'
    have tabE:∃ more,s'.heap.get? T=some { cls:=.none,data:=.fields (#[] ++ more) }:=by
     obtain ⟨more,e⟩:=un.tbls T #[] hO.1
     exact ⟨more,hok' T _ e⟩
    refine ⟨rfl,⟨fun b o e=>?_,fun b o e=>un.there b o e (by simp)⟩,os,bare⟩
    by_cases hbT:b=T
    ·subst hbT
     rw [hT] at e
     cases e
     obtain ⟨more,e2⟩:=tabE
     exact .inr (.inl ⟨((PySem.W.codeHd_of_K KX hcc).tab hT).isCodeTable,rfl,#[],more,rfl,e2⟩)
    ·refine .inl ?_
     cases q:H b with
     | none=>exact un.keep b o e q (by intro z; exact absurd (show b ∈ ([]:List Addr) from z) (by simp)) (by simp)
     | some u =>
      rcases hO.2 b hbT with z | ⟨ob,xs,z⟩
      ·rw [q] at z; cases z
      ·have z2:=un.frzs b ob _ z
       obtain ⟨e1,_⟩:=hok b _ z
       obtain ⟨e2,_⟩:=hok' b _ z2
       rw [e] at e1; cases e1
       exact e2
 cases hk:K.lookup a with
 | some o =>
  have e:=KX a o hk
  rw [ha] at e
  cases e
  refine core (upd (fun _=>none) T (.tbl #[])) ⟨upd_same,fun b hb=>.inl (by rw [upd_ne hb])⟩ (.inr ⟨_,vs.toArray,_,hk,rfl,rfl,rfl,by rw [List.size_toArray,lenV]; exact hl,by simpa using rv⟩) (fun b u z=>?_) (fun b z=>?_) fun z=>absurd (by rw [upd_ne aT]) z
  ·by_cases hb:b=T
   ·subst hb
    rw [upd_same] at z; cases z
    exact hT
   ·rw [upd_ne hb] at z; cases z
  ·by_cases hb:b=T
   ·exact .inr hb
   ·exact absurd (by rw [upd_ne hb]) z
 | none =>
  have hHa:upd (fun b=>if b=a then some (.frz { cls:=.type "list",data:=.seq vs.toArray } (.lst (ns.map V.int))) else none) T (.tbl #[]) a=some (.frz { cls:=.type "list",data:=.seq vs.toArray } (.lst (ns.map V.int))):=by rw [upd_ne aT,if_pos rfl]
  refine core (upd (fun b=>if b=a then some (.frz { cls:=.type "list",data:=.seq vs.toArray } (.lst (ns.map V.int))) else none) T (.tbl #[])) ⟨upd_same,fun b hbT=>?_⟩ (.inl (.inr ⟨{ cls:=.type "list",data:=.seq vs.toArray },hHa⟩)) (fun b u z=>?_) (fun b z=>?_) fun _=>hk
  ·rw [upd_ne hbT]
   by_cases hb:b=a
   ·exact .inr ⟨_,_,if_pos hb⟩
   ·exact .inl (if_neg hb)
  ·by_cases hbT:b=T
   ·subst hbT
    rw [upd_same] at z; cases z
    exact hT
   ·rw [upd_ne hbT] at z
    by_cases hb:b=a
    ·have z':=(if_pos hb).symm.trans z
     cases z'
     subst hb
     exact ⟨ha,by rw [List.length_map]; exact hl,vs,_,rv,ha⟩
    ·have z':=(if_neg hb).symm.trans z
     cases z'
  ·by_cases hbT:b=T
   ·exact .inr hbT
   ·rw [upd_ne hbT] at z
    by_cases hb:b=a
    ·exact .inl hb
    ·exact absurd (if_neg hb) z
theorem walk_ofT {l:PySem.W.OpenLaw} {n k:Nat} {q:Program} {loose:List Str} {XP:(Str->Option Value)->Heap->Prop} {YP:World->Heap->Prop} {d:DefRec} {K:Params->PySem.W.Frag} {CX:World->CXT} {sp:World->Sp} {x:Str} {T:Addr}
  (hn:l.most=some n) (hn2:n<=sizeLine) (hdf:d.params.defaults=[]) {sr:Bool} (hr:Room k callerA sr)
  (hY:∀ (w:World) (h:Heap),YP w h->(K w.params).In h/\h.get? T=some (PySem.W.tabObj #[])) (hTK:∀ w:World,(K w.params).lookup T=none) (hcc:∀ w:World,∃ cc,PySem.W.codeHdIn (K w.params) cc T=true)
  (F:∀ (w:World) (mg:Str->Option Value) (fa:Addr) (h:Heap),(K w.params).In h->h.Ns mainGlobals mg->mg d.name=some (.ref fa) →
   ∃ fd:FuncData,(∀ (s:Shared) (u:Value),BindsTo s fd ⟨[u],[]⟩ [(x,u)]) ∧
    ∀ base:Heap,(K w.params).In base->base.Ns mainGlobals mg->BltIn mg base->FnOk l.prog w (K w.params) mg base (CX w) k fa fd [x] (sp w) sr)
  (hsp:∀ (w:World) (H:Hp) (a:Addr) (ns:List Int),ns.length<=n->OnlyT T H->SqL (K w.params) H a (ns.map V.int)->sp w [.ref a] H (fun v _=>v=.bl true) fun _ _ _=>False)
  (hCX:∀ (w:World) (H:Hp) (s:Shared) (e:Value) (s':Shared),CX w [] H s (fun _ _ _=>False) e s'->False) :
  PySem.W.WalkO q loose XP YP l.row.toRowW d [] (fun f vs=>PySem.call f vs):=by
 refine Att.attach_call hn hdf fun w s₀ s₁ mg mb fa o pm cd doc a vs ns G Y ho hd hcd hmg hobj hints hlen hg=>?_
 obtain ⟨KX,hT⟩:=hY w _ Y
 obtain ⟨cc,hc1⟩:=hcc w
 obtain ⟨fd,hb,hF⟩:=F w mg fa _ KX G.T.g hmg
 exact law_callT KX G.T.g G.T.b G.T.builtins G.T.nolimit hg G.T.bmain hT (hTK w) hc1 hobj hints (Nat.le_trans hlen hn2) hr hF hb (fun H hO hS=>hsp w H a ns hlen hO hS) fun H e s'=>hCX w H s₁ e s'
end Sb
namespace Sb
open PySem PySem.Spec PyProof.Rows L2
open PySem.Sem (wp)
section
variable {prog:Program} {w:World}
def RowItems (prog:Program) (w:World) (h:Heap):List (List Int)->List Value->Prop:=Paired fun k v=>∃ b,v=.ref b/\IsTupleKey (intKind prog w) h k b
def IsRowKey (prog:Program) (w:World) (h:Heap) (ks:List (List Int)) (a:Addr):Prop:=∃ o items n,h.get? a=some o/\o.cls=.type "tuple"/\o.data=.seq items n/\RowItems prog w h ks items.toList
theorem IsRowKey.typeIs {s:Shared} {ks:List (List Int)} {a:Addr} (x:IsRowKey prog w s.heap ks a):s.TypeIs (.ref a) "tuple":=let ⟨o,_,_,ho,hc,_⟩:=x; ⟨o,ho,hc⟩
theorem RowItems.inj {h:Heap}:∀ {x y:List (List Int)} {vs:List Value},RowItems prog w h x vs->RowItems prog w h y vs->x=y:=by
 intro x y vs hx
 unfold RowItems at *
 induction hx generalizing y with
 | nil=>intro hy; cases hy; rfl
 | cons h1 _ ih =>
  intro hy
  cases hy with
  | cons h2 t2 =>
   obtain ⟨b,rfl,k1⟩:=h1
   obtain ⟨b',e,k2⟩:=h2
   cases e
   rw [k1.inj k2,ih t2]
theorem IsRowKey.inj {h:Heap} {a:Addr} {x y:List (List Int)} (hx:IsRowKey prog w h x a) (hy:IsRowKey prog w h y a):x=y:=by
 obtain ⟨o,items,n,ho,_,hd,hi⟩:=hx
 obtain ⟨o',items',n',ho',_,hd',hi'⟩:=hy
 obtain rfl:o=o':=Option.some.inj (ho.symm.trans ho')
 rw [hd] at hd'
 injection hd' with h1 _
 subst h1
 exact hi.inj hi'
theorem RowItems.imp {h h':Heap} (f:∀ k b,IsTupleKey (intKind prog w) h k b->IsTupleKey (intKind prog w) h' k b) {x:List (List Int)} {vs:List Value} (hx:RowItems prog w h x vs):RowItems prog w h' x vs:=by
 unfold RowItems at *
 induction hx with
 | nil=>exact .nil
 | cons h1 _ ih =>
  obtain ⟨b,e,k⟩:=h1
  exact .cons ⟨b,e,f _ _ k⟩ ih
theorem IsRowKey.keeps {h h':Heap} {ks:List (List Int)} {a d:Addr} {o:Obj} {es ep} (x:IsRowKey prog w h ks a) (ho:h.get? d=some o) (hd:o.data=.dict es ep) (hs:Heap.SameBut d h h'):IsRowKey prog w h' ks a:=by
 obtain ⟨o',items,n,ho',hc,hd',hi⟩:=x
 have hne:a ≠ d:=by
  rintro rfl
  obtain rfl:o'=o:=Option.some.inj (ho'.symm.trans ho)
  rw [hd] at hd'; exact nomatch hd'
 exact ⟨o',items,n,(hs.2 a hne).trans ho',hc,hd',hi.imp fun k b q=>q.keeps ho hd hs⟩
def rowKeyHash (prog:Program) (w:World) (ks:List (List Int)):Int:=reduceHash (Builtin.Tuple.tupleHashOf (ks.map (tupleKeyHash (intKind prog w))))
def rowDraws (ks:List (List Int)):Nat:=(ks.map fun k=>k.length + 1).sum + 1
variable {A:Around} {E:Value->Shared->Prop} {s:Shared}
theorem wpAny_pyHash_row {ks:List (List Int)} {a:Addr} {Q:Int->Shared->Prop} (hu:A.units + 4 < cLine) (hk:IsRowKey prog w s.heap ks a) (h:Q (rowKeyHash prog w ks) { s with toks:=s.toks + rowDraws ks }) :
  wpAny (model prog w) A (pyHash (.ref a)) Q E s:=by
 have hT:=hk.typeIs
 obtain ⟨o,items,n,ho,_,hd,hi⟩:=hk
 unfold pyHash
 first | unfold pyHashByItsType | skip
 first | refine wpAny_bind (wpAny_cRoomFor_or (.inr (by omega)) ?_) | skip
 refine wpAny_bind (wpAny_specialOf hT F.slot_tuple_hash.lookup ?_)
 show wpAny _ _ (if (some (Value.builtin "tuple.__hash__") == some Value.none)=true then _ else _) Q E s
 rw [if_neg (by rw [beq_builtin_none]; exact Bool.false_ne_true)]
 refine wpAny_bind (wpAny_specialOf hT F.slot_tuple_hash.lookup ?_)
 show wpAny _ _ (callSpecialIfBoundUnlessNone? (.ref a) "__hash__" _ >>= _) Q E s
 refine wpAny_bind (wpAny_callSpecialIfBoundUnlessNone?_slot hT F.slot_tuple_hash (wpAny_call_entry F.slot_tuple_hash hT F.entry_tuple_hash ?_ (F.args_tuple_hash_1 _)))
 show wpAny _ _ (Builtin.Tuple.tupleItemsOf (.ref a) >>= _) _ _ s
 refine wpAny_bind (wpAny_tupleItemsOf ho hd ?_)
 refine wpAny_bind ?_
 rw [← Array.forIn_toList]
 refine wpAny_forIn_list _
  (fun rest (b:Array Int) s'=>∃ done left,ks=done ++ left/\RowItems prog w s.heap left rest/\b.toList=done.map (tupleKeyHash (intKind prog w))/\s'={ s with toks:=s.toks + (done.map fun k=>k.length + 1).sum })
  _ ?_ ?_ _ _ ⟨[],ks,rfl,hi,rfl,rfl⟩
 ·rintro x rest b s' ⟨done,left,rfl,hl,hb,rfl⟩
  unfold RowItems at hl
  cases hl with
  | @cons k _ ks' _ h1 hl' =>
   obtain ⟨bb,rfl,k1⟩:=h1
   refine wpAny_bind (wpAny_pyHash_tuple (knd:=intKind prog w) ?_ k1 ?_)
   ·show A.units + 1 < cLine
    omega
   ·first
    | exact wpAny_pure ⟨done ++ [k],ks',by simp,hl',by simp [hb],by simp [Nat.add_assoc]⟩
    | exact wpAny_bind (wpAny_pure (wpAny_pure ⟨done ++ [k],ks',by simp,hl',by simp [hb],by simp [Nat.add_assoc]⟩))
 ·rintro b s' ⟨done,left,rfl,hl,hb,rfl⟩
  unfold RowItems at hl
  cases hl
  rw [List.append_nil] at h
  show wpAny _ _ (retInt (Builtin.Tuple.tupleHashOf b.toList)) _ _ _
  rw [hb]
  refine wpAny_ret_mkInt ?_
  show wpAny _ _ (if (decide (-(2:Int) ^ 63<=Builtin.Tuple.tupleHashOf (done.map (tupleKeyHash (intKind prog w)))) && decide (Builtin.Tuple.tupleHashOf (done.map (tupleKeyHash (intKind prog w))) < 2 ^ 63))=true then _ else _) Q E _
  unfold rowKeyHash rowDraws reduceHash at h
  by_cases hr:(decide (-(2:Int) ^ 63<=Builtin.Tuple.tupleHashOf (done.map (tupleKeyHash (intKind prog w)))) && decide (Builtin.Tuple.tupleHashOf (done.map (tupleKeyHash (intKind prog w))) < 2 ^ 63))=true
  ·rw [if_pos hr]
   rw [if_pos hr] at h
   exact wpAny_pure (by simpa [Nat.add_assoc] using h)
  ·rw [if_neg hr]
   rw [if_neg hr] at h
   exact wpAny_bind (wpAny_rule (wpAny_pure (by simpa [Nat.add_assoc] using h)))
theorem row_eq_tree {x y:List (List Int)} {a b:Addr} {P:Fin->Shared->Prop} (hu:A.units + 2 < cLine) (hx:IsRowKey prog w s.heap x a) (hy:IsRowKey prog w s.heap y b) (h:P (.done (.ret (.bool (decide (x=y))))) s) :
  wpAny (model prog w) A (Builtin.«tuple.__eq__» ⟨[.ref a,.ref b],[]⟩) P E s:=by
 have hTb:=hy.typeIs
 obtain ⟨oa,xs,na,hoa,_,hda,hia⟩:=hx
 obtain ⟨ob,ys,nb,hob,_,hdb,hib⟩:=hy
 show wpAny _ _ (isInstance (.ref b) (.type "tuple") >>= _) _ _ s
 refine wpAny_bind (wpAny_isInstance hTb isSubtype_tuple_tuple ?_)
 simp only [Bool.not_true,Bool.false_eq_true,if_false]
 refine wpAny_bind (wpAny_tupleItemsOf hoa hda ?_)
 refine wpAny_bind (wpAny_tupleItemsOf hob hdb ?_)
 refine wpAny_bind ?_
 refine wpAny_forIn_list _
  (fun rest r s'=>r.1=none/\s'=s/\∃ x' y' xs' ys',rest=List.zip xs' ys'/\RowItems prog w s.heap x' xs'/\RowItems prog w s.heap y' ys'/\decide (x'=y')=decide (x=y)/\(xs'.length == ys'.length)=(xs.size == ys.size))
  _ ?_ ?_ _ _ ⟨rfl,rfl,x,y,xs.toList,ys.toList,rfl,hia,hib,rfl,by simp⟩
 ·rintro ⟨u,v⟩ rest r s' ⟨hr,rfl,x',y',xs',ys',hz,hx',hy',hdec,hlen⟩
  unfold RowItems at hx' hy'
  cases hx' with
  | nil=>simp at hz
  | @cons k1 u' x'' xs'' h1 hx'' =>
   cases hy' with
   | nil=>simp at hz
   | @cons k2 v' y'' ys'' h2 hy'' =>
    simp only [List.zip_cons_cons,List.cons.injEq,Prod.mk.injEq] at hz
    obtain ⟨⟨rfl,rfl⟩,rfl⟩:=hz
    obtain ⟨b1,rfl,q1⟩:=h1
    obtain ⟨b2,rfl,q2⟩:=h2
    refine wpAny_bind (wpAny_eqBool_tuple (knd:=intKind prog w) (by omega) q1 q2 ?_)
    by_cases hk:k1=k2
    ·subst hk
     rw [decide_eq_true rfl]
     simp only [Bool.not_true,Bool.false_eq_true,if_false]
     refine wpAny_pure ⟨rfl,rfl,x'',y'',xs'',ys'',rfl,hx'',hy'',?_,by simpa using hlen⟩
     rw [← hdec]
     by_cases hxy:x''=y''
     ·simp [hxy]
     ·simp [hxy]
    ·rw [decide_eq_false hk]
     simp only [Bool.not_false,if_true]
     have hf:decide (x=y)=false:=by rw [← hdec]; simp [hk]
     rw [hf] at h
     exact wpAny_bind (wpAny_pure (wpAny_pure (wpAny_pure h)))
 ·rintro ⟨r1,r2⟩ s' ⟨hr,rfl,x',y',xs',ys',hz,hx',hy',hdec,hlen⟩
  simp only at hr
  subst hr
  refine wpAny_pure ?_
  have hfin:(xs.size == ys.size)=decide (x=y):=by
   rw [← hdec,← hlen]
   unfold RowItems at hx' hy'
   cases hx' with
   | nil =>
    cases hy' with
    | nil=>simp
    | cons _ _=>simp
   | cons _ _ =>
    cases hy' with
    | nil=>simp
    | cons _ _=>simp at hz
  show P (.done (.ret (.bool (xs.size == ys.size)))) s'
  rw [hfin]; exact h
theorem wpAny_eqBool_row {x y:List (List Int)} {a b:Addr} {Q:Bool->Shared->Prop} (hu:A.units + 4 < cLine) (hx:IsRowKey prog w s.heap x a) (hy:IsRowKey prog w s.heap y b) (h:Q (decide (x=y)) s) :
  wpAny (model prog w) A (eqBool (.ref a) (.ref b)) Q E s:=by
 unfold eqBool
 try with_reducible refine wpAny_holding ?_
 show wpAny _ _ (if (Value.ref a == Value.ref b)=true then _ else _) Q E s
 by_cases hab:(Value.ref a == Value.ref b)=true
 ·rw [if_pos hab]
  have e:a=b:=by have:=eq_of_beq hab; injection this
  subst e
  obtain rfl:=hx.inj hy
  exact wpAny_bind (wpAny_rule (wpAny_pure (by simpa using h)))
 ·rw [if_neg hab]
  exact wpAny_bind (wpAny_richCompare_same_room (op:=.Eq) hx.typeIs hy.typeIs F.slot_tuple_eq
   (wpAny_call_entry F.slot_tuple_eq hx.typeIs F.entry_tuple_eq (row_eq_tree (by show A.units + 1 + 2 < cLine; omega) hx hy ⟨_,rfl,(fun e=>nomatch e),wpAny_truthy_bool h⟩) (F.args_tuple_eq_2 _ _)) (by omega))
theorem wpAny_quiet_small {ks:List Int} {a:Addr} {Q:Bool->Shared->Prop} (n:Nat) (hk:IsTupleKey (intKind prog w) s.heap ks a) (h:Q true s):wpAny (model prog w) A (eqIsQuiet (n + 1) (.ref a)) Q E s:=by
 have hT:=hk.typeIs
 obtain ⟨o,items,n,ho,_,hd,hi⟩:=hk
 unfold eqIsQuiet
 refine wpAny_bind (wpAny_specialOf hT F.slot_tuple_eq.lookup ?_)
 show wpAny _ _ (isInstance (.ref a) (.type "tuple") >>= _) _ _ s
 refine wpAny_bind (wpAny_isInstance hT isSubtype_tuple_tuple ?_)
 simp only [Bool.not_true,Bool.false_eq_true,if_false]
 refine wpAny_bind (wpAny_seqItems ho hd ?_)
 refine wpAny_bind ?_
 show wpAny _ _ (forIn items _ _) _ _ s
 rw [← Array.forIn_toList]
 refine wpAny_forIn_list _ (fun rest r s'=>r.1=none/\s'=s/\∀ v ∈ rest,carriedByValue v=true) _ ?_ ?_ _ _ ⟨rfl,rfl,hi.byValue⟩
 ·rintro v rest r s' ⟨hr,rfl,hall⟩
  rw [eqIsQuiet_byValue _ (hall v List.mem_cons_self)]
  refine wpAny_bind (wpAny_pure ?_)
  simp only [Bool.not_true,Bool.false_eq_true,if_false]
  exact wpAny_pure ⟨rfl,rfl,fun u hu'=>hall u (List.mem_cons_of_mem _ hu')⟩
 ·rintro ⟨r1,r2⟩ s' ⟨hr,rfl,_⟩
  simp only at hr
  subst hr
  exact wpAny_pure h
theorem wpAny_quiet_row {ks:List (List Int)} {a:Addr} {Q:Bool->Shared->Prop} (hk:IsRowKey prog w s.heap ks a) (h:Q true s):wpAny (model prog w) A (eqIsQuiet 8 (.ref a)) Q E s:=by
 have hT:=hk.typeIs
 obtain ⟨o,items,n,ho,_,hd,hi⟩:=hk
 unfold eqIsQuiet
 refine wpAny_bind (wpAny_specialOf hT F.slot_tuple_eq.lookup ?_)
 show wpAny _ _ (isInstance (.ref a) (.type "tuple") >>= _) _ _ s
 refine wpAny_bind (wpAny_isInstance hT isSubtype_tuple_tuple ?_)
 simp only [Bool.not_true,Bool.false_eq_true,if_false]
 refine wpAny_bind (wpAny_seqItems ho hd ?_)
 refine wpAny_bind ?_
 show wpAny _ _ (forIn items _ _) _ _ s
 rw [← Array.forIn_toList]
 refine wpAny_forIn_list _ (fun rest r s'=>r.1=none/\s'=s/\∃ left,RowItems prog w s.heap left rest) _ ?_ ?_ _ _ ⟨rfl,rfl,ks,hi⟩
 ·rintro v rest r s' ⟨hr,rfl,left,hl⟩
  unfold RowItems at hl
  cases hl with
  | @cons k _ ks' _ h1 hl' =>
   obtain ⟨b,rfl,q⟩:=h1
   refine wpAny_bind (wpAny_quiet_small 6 q ?_)
   simp only [Bool.not_true,Bool.false_eq_true,if_false]
   exact wpAny_pure ⟨rfl,rfl,ks',hl'⟩
 ·rintro ⟨r1,r2⟩ s' ⟨hr,rfl,_⟩
  simp only at hr
  subst hr
  exact wpAny_pure h
end
def rowKind (prog:Program) (w:World):HeapKind prog w (List (List Int)) where
 is:=IsRowKey prog w
 hash:=rowKeyHash prog w
 draws:=rowDraws
 room:=fun A=>A.units + 4 < cLine
 inj:=fun hx hy=>hx.inj hy
 keeps:=fun x ho hd hs=>x.keeps ho hd hs
 pyHash:=fun hu hk h=>wpAny_pyHash_row hu hk h
 eqBool:=fun hu hx hy h=>wpAny_eqBool_row hu hx hy h
 quiet:=fun hk h=>wpAny_quiet_row hk h
end Sb
namespace Sb
open PySem PySem.Spec PyProof.Rows L2
section
variable {prog:Program} {w:World} {A:Around} {E:Value->Shared->Prop} {s:Shared}
theorem getAttrQ_miss_list {a:Addr} {o:Obj} {xs:Array Value} {k:Nat} {name:Str} {Q:Option Value->Shared->Prop}
  (hx:s.heap.get? a=some o) (hc:o.cls=.type "list") (hdat:o.data=.seq xs k) (hd:o.dict=none) (hmiss:typeLookup (.type "list") name=pure none) (hname:(["__module__","__name__","__qualname__","__doc__","__annotations__"]:List Str).contains name=false) (hA:A.handled=none)
  (h:∀ h' tk e,Heap.NewExcOf s.heap h' e "AttributeError"->Q none { s with heap:=h',toks:=tk }) (hsz:name.length + 100<=sizeLine:=by size_fits) :
  wpAny (model prog w) A (getAttr? (.ref a) name) Q E s:=by
 obtain ⟨c,dct,dat,sl⟩:=o
 simp only at hc hdat hd
 subst hc hdat hd
 obtain ⟨hp,g,d,tk,os⟩:=s
 have hT:∀ tk',(⟨hp,g,d,tk',os⟩:Shared).TypeIs (.ref a) "list":=fun _=>⟨_,hx,rfl⟩
 have f1:=sub_AttributeError
 have f3:=F.slot_list_getattribute.lookup
 have f4:=F.slot_list_getattribute.bind (.ref a)
 have f5:=am_list_getattr_none
 unfold getAttr? getAttrBy? getAttrBy
 repeat (any_goals (first | assumption | exact hT _ | ((with_reducible show wpAny _ _ (call (Value.builtin "list.__getattribute__") _ _) _ _ _); refine call_meets F.slot_list_getattribute (hT _) am_entry_list_getattribute (F.args_list_getattribute_2 _ _) (meets_getattribute_miss_list a xs k sl name _ hmiss hname hsz) ⟨hx,hA,fun h' tk' e hx'=>?_⟩) | wp_step))
 obtain ⟨t',u',he⟩:=hx'.there
 show wpAny _ _ (getattributeRaised _ _ _ _ _ _ _) _ _ _
 unfold getattributeRaised
 repeat (any_goals (first | assumption | wp_step))
 exact h _ _ _ hx'.of
theorem tupKey_mono {h h':Heap} {k:List Int} {a:Addr} (f:∀ b o,h.get? b=some o->h'.get? b=some o) (x:IsTupleKey (intKind prog w) h k a):IsTupleKey (intKind prog w) h' k a:=by
 obtain ⟨o,items,n,ho,hc,hd,hi⟩:=x
 exact ⟨o,items,n,f _ _ ho,hc,hd,hi⟩
theorem rowKey_mono {h h':Heap} {k:List (List Int)} {a:Addr} (f:∀ b o,h.get? b=some o->h'.get? b=some o) (x:IsRowKey prog w h k a):IsRowKey prog w h' k a:=by
 obtain ⟨o,items,n,ho,hc,hd,hi⟩:=x
 exact ⟨o,items,n,f _ _ ho,hc,hd,hi.imp fun k b q=>tupKey_mono f q⟩
theorem entry_dict_loop:entryFor table "dict.update.loop"=some Builtin.«dict.update.loop»:=entryFor_of_tree (by kernel_rfl)
theorem plain_dict_loop:plainId "dict.update.loop"=true:=by decide +kernel
def PairAt (prog:Program) (w:World) (h:Heap) (v:Value) (x:List (List Int) × Addr × Value):Prop:=∃ t o n,v=.ref t/\h.get? t=some o/\o.cls=.type "tuple"/\o.data=.seq #[.ref x.2.1,x.2.2] n/\IsRowKey prog w h x.1 x.2.1
theorem stored_take {xs:List (List (List Int) × Addr × Value)} (nd:(xs.map (·.1)).Nodup) {i:Nat} {x:List (List Int) × Addr × Value} (hx:xs[i]?=some x):storedH (xs.take i) x.1 x.2.1 x.2.2=xs.take (i + 1):=by
 rw [storedH_new (atKey_none_of_get fun j p hj=>?_),List.take_succ,hx]
 ·rfl
 ·have hj':j < i:=by
   have:=(List.getElem?_eq_some_iff.mp hj).1
   rw [List.length_take] at this
   omega
  rw [List.getElem?_take_of_lt hj'] at hj
  exact absurd (idxH_unique nd hj (q:=x.2) (by rw [hx])) (by omega)
theorem dict_on {h h':Heap} {d:Addr} {xs:List (List (List Int) × Addr × Value)} (hm:h.DictOfH (rowKind prog w) d xs) (kd:∀ o,h.get? d=some o->h'.get? d=some o) (ks:∀ x ∈ xs,IsRowKey prog w h' x.1 x.2.1):h'.DictOfH (rowKind prog w) d xs:=by
 obtain ⟨o,es,ep,ho,hX,hd,he,_,hn⟩:=hm
 exact ⟨o,es,ep,kd o ho,hX,hd,he,ks,hn⟩
theorem keys_on {h h':Heap} {vs:List Value} {xs:List (List (List Int) × Addr × Value)} (hx:Paired (PairAt prog w h) vs xs) (f:∀ b o,h.get? b=some o->h'.get? b=some o):∀ x ∈ xs,IsRowKey prog w h' x.1 x.2.1:=by
 induction hx with
 | nil=>intro x hx; cases hx
 | cons h1 _ ih =>
  intro x hx
  rcases List.mem_cons.mp hx with rfl | hx
  ·obtain ⟨_,_,_,_,_,_,_,k⟩:=h1
   exact rowKey_mono f k
  ·exact ih x hx
theorem dict_loop {R:Result->Shared->Prop} {h0:Heap} {l I d:Addr} {items:Array Value} {xs:List (List (List Int) × Addr × Value)} {res:Value} (hA:A.handled=none) (hu:A.units + 10 < cLine) (hI:h0.get? I=none) (hd:h0.get? d=none) (hdI:d ≠ I) (hl:h0.IsList l items) (hz:xs.length<=sizeLine)
  (hx:Paired (PairAt prog w h0) items.toList xs) (nd:(xs.map (·.1)).Nodup) :
  ∀ (k i:Nat) (s:Shared) (u:Tok),xs.length - i=k->i<=xs.length->s.heap.IsListIter I l i->s.heap.DictOfH (rowKind prog w) d (xs.take i)->(∀ b o,h0.get? b=some o->s.heap.get? b=some o) →
  (∀ h' tk,h'.DictOfH (rowKind prog w) d xs->(∀ b o,b ≠ I->b ≠ d->s.heap.get? b=some o->h'.get? b=some o)->R (.ok (.ret res)) { s with heap:=h',toks:=tk }) →
  codeAny (model prog w) A (.builtin "dict.update.loop" ⟨[.ref d,.ref I,.int i u,res],[]⟩) R s:=by
 have hlI:l ≠ I:=fun e=>by
  obtain ⟨o,ho,_⟩:=hl
  rw [e,hI] at ho
  cases ho
 have hld:l ≠ d:=fun e=>by
  obtain ⟨o,ho,_⟩:=hl
  rw [e,hd] at ho
  cases ho
 have len:items.size=xs.length:=by have:=Paired.length hx; simpa using this
 intro k
 induction k with
 | zero =>
  intro i s u hk hi hit hm kp hR
  have hin:i=xs.length:=by omega
  subst hin
  refine codeAny_builtin entry_dict_loop ?_
  rw [Around.under_plainId plain_dict_loop _]
  show wpAny _ A.in1 (pyNext (.ref I) >>= _) _ _ s
  have W:=Walks.listQ (prog:=prog) (w:=w) (A:=A.in1) (qs:=[]) (.inl hA) I l hlI (by simp) items
  refine wpAny_bind (W.done s _ _ (by rw [len]; exact ⟨hit,hl.at fun o e=>kp _ _ e,by simp⟩) fun h' tk hk'=>?_)
  rw [List.take_length] at hm
  refine wpAny_bind (wpAny_pure (wpAny_pure (hR h' tk ?_ fun b o hb _ e=>hk' b o (by simpa using hb) e)))
  exact dict_on hm (fun o e=>hk' d o (by simpa using hdI) e) (keys_on hx fun b o e=>hk' b o (by simpa using fun z:b=I=>by rw [z,hI] at e; cases e) (kp b o e))
 | succ k ih =>
  intro i s u hk hi hit hm kp hR
  have hlt:i < xs.length:=by omega
  refine codeAny_builtin entry_dict_loop ?_
  rw [Around.under_plainId plain_dict_loop _]
  show wpAny _ A.in1 (pyNext (.ref I) >>= _) _ _ s
  have W:=Walks.listQ (prog:=prog) (w:=w) (A:=A.in1) (qs:=[]) (.inl hA) I l hlI (by simp) items
  refine wpAny_bind (W.item i s _ _ (by omega) ⟨hit,hl.at fun o e=>kp _ _ e,by simp⟩ fun v h' tk hv st hk'=>?_)
  have hpos:items.toList[i]?=some v:=by simpa using hv
  obtain ⟨t,o,n,rfl,ho,hc,hdt,hkey⟩:=Paired.getB hx hpos (show xs[i]?=some xs[i] by simp [hlt])
  have kp':∀ b o,h0.get? b=some o->h'.get? b=some o:=fun b o e=>hk' b o (by simpa using fun z:b=I=>by rw [z,hI] at e; cases e) (kp b o e)
  have hm':=dict_on hm (fun o e=>hk' d o (by simpa using hdI) e) fun x hx'=>keys_on hx kp' x (List.mem_of_mem_take hx')
  have ht:=kp' _ _ ho
  show wpAny _ _ (holding [.ref t] _ >>= _) _ _ _
  refine wpAny_bind (wpAny_holding (wpAny_bind (wpAny_tryCatch ?_)))
  unfold Builtin.Dict.pairItems
  refine wpAny_bind (wpAny_typeOf (T:="tuple") ⟨o,ht,hc⟩ ?_)
  rw [if_pos (by decide)]
  refine wpAny_bind (wpAny_seqItems ht hdt (wpAny_pure ?_))
  show wpAny _ _ (holding [.ref xs[i].2.1,xs[i].2.2] (dictSet d (.ref xs[i].2.1) xs[i].2.2)) _ _ _
  refine wpAny_holding (wpAny_dictSet_heap (knd:=rowKind prog w) (by show A.units + 1 + 4 < cLine; omega) (rowKey_mono kp' hkey) hm' (fun h2 hm2 hs2=>?_) (by rw [List.length_take]; omega))
  rw [stored_take nd (by simp [hlt])] at hm2
  refine wpAny_pure ⟨plainId_quiet plain_dict_loop _,?_⟩
  refine ih (i + 1) _ _ (by omega) hlt (st.1.at fun o e=>(hs2.2 I (Ne.symm hdI)).trans e) hm2 (fun b o e=>(hs2.2 b (fun z=>by rw [z,hd] at e; cases e)).trans (kp' b o e)) fun h3 tk3 hm3 k3=>?_
  exact hR h3 tk3 hm3 fun b o bI bd e=>k3 b o bI bd ((hs2.2 b bd).trans (hk' b o (by simpa using bI) e))
theorem call_dict_pairs {l:Addr} {items:Array Value} {xs:List (List (List Int) × Addr × Value)} {Q:Value->Shared->Prop} (hA:A.handled=none) (hu:A.units + 14 < cLine) (hl:PlainL s.heap l items) (hz:xs.length<=sizeLine) (hx:Paired (PairAt prog w s.heap) items.toList xs) (nd:(xs.map (·.1)).Nodup)
  (h:∀ h' tk,h'.DictOfH (rowKind prog w) s.heap.objs.size xs->(∀ b o,s.heap.get? b=some o->h'.get? b=some o)->Q (.ref s.heap.objs.size) { s with heap:=h',toks:=tk }) :
  wpAny (model prog w) A (call (.type "dict") [.ref l]) Q E s:=by
 refine callType_codes (Q₁:=fun obj s₁=>obj=.ref s.heap.objs.size/\s₁={ s with heap:=s.heap.push { cls:=.type "dict",data:=.dict #[] } }) F.kt_called_dict (F.kt_typeCall_dict_1 _) F.entry_dict_init (kt_code_dict_new _ ⟨rfl,rfl⟩) ?_
 rintro obj s₁ ⟨rfl,rfl⟩
 have hnew:(s.heap.push { cls:=.type "dict",data:=.dict #[] }).DictOfH (rowKind prog w) s.heap.objs.size []:=Heap.DictOfH.new s.heap
 refine ⟨hnew.typeIs,F.args_dict_init_2 _ _,?_⟩
 unfold Builtin.«dict.__init__»
 refine wpAny_bind ?_
 unfold Builtin.Dict.selfAndRest
 refine wpAny_bind (wpAny_notOrdered_dict hnew.typeIs ?_)
 show wpAny _ _ (pure (s.heap.objs.size,[Value.ref l])) _ _ _
 refine wpAny_pure ?_
 show wpAny _ _ (Builtin.Dict.updateFrom "dict.__init__" s.heap.objs.size (.ref l) [] .none) _ _ _
 unfold Builtin.Dict.updateFrom
 obtain ⟨ol,nl,ho,hc,hdt,hdd⟩:=id hl
 have ho':=Heap.get?_push_of_some { cls:=.type "dict",data:=.dict #[] } ho
 refine wpAny_bind (wpAny_typeOf (T:="list") ⟨_,ho',hc⟩ ?_)
 rw [if_pos (by decide)]
 refine wpAny_bind (getAttrQ_miss_list (o:=ol) ho' hc hdd hdt (by rw [typeLookup_type,builtinLookup_eq_fast]; kernel_rfl) (by decide +kernel) hA fun h1 tk1 e1 hn1=>?_)
 rw [if_pos (show (none:Option Value).isNone=true from rfl)]
 refine wpAny_bind (wpAny_rule ?_)
 have kp1:∀ b o,s.heap.get? b=some o->h1.get? b=some o:=fun b o e=>hn1.keeps b o (Heap.get?_push_of_some _ e)
 have hl1:h1.IsList l items:=hl.isList.at fun o e=>kp1 _ _ e
 refine wpAny_bind (wpAny_pyIter_list hl1 ?_)
 have hd1:h1.get? s.heap.objs.size=some { cls:=.type "dict",data:=.dict #[] }:=hn1.keeps _ _ (Heap.get?_push_size _ rfl)
 have gt:s.heap.objs.size < h1.objs.size:=Heap.lt_size hd1
 have none_of:∀ b,s.heap.objs.size<=b->s.heap.get? b=none:=fun b hb=>by
  cases e:s.heap.get? b with
  | none=>rfl
  | some o=>exact absurd (Heap.lt_size e) (Nat.not_lt.mpr hb)
 refine wpAny_pure ⟨plainId_quiet plain_dict_loop _,?_⟩
 refine dict_loop (A:=A.in1) (h0:=s.heap) (items:=items) (xs:=xs) hA (by show A.units + 1 + 10 < cLine; omega) (none_of _ (by omega)) (none_of _ (Nat.le_refl _)) (Nat.ne_of_lt gt) hl.isList hz hx nd xs.length 0 _ _ rfl (Nat.zero_le _) ?_ ?_ (fun b o e=>Heap.get?_push_of_some _ (kp1 b o e)) fun h' tk hm' k'=>?_
 ·exact ⟨_,Heap.get?_push_size _ rfl,rfl,rfl⟩
 ·rw [List.take_zero]
  exact dict_on hnew (fun o e=>Heap.get?_push_of_some _ (hn1.keeps _ _ e)) (by simp)
 ·exact ⟨rfl,h h' tk hm' fun b o e=>k' b o (fun z=>by rw [z,none_of _ (by omega)] at e; cases e) (fun z=>by rw [z,none_of _ (Nat.le_refl _)] at e; cases e) (Heap.get?_push_of_some _ (kp1 b o e))⟩
end
end Sb
namespace Sb
open PySem PySem.Spec PyProof.Rows L2
section
variable {prog:Program} {w:World} {A:Around} {E:Value->Shared->Prop} {s:Shared} {it d:Addr} {i ep:Nat} {od:Obj} {es:Array DictEntry}
theorem dict_iter_q {Q:Value->Shared->Prop} (hd:(d == sysModules)=false) (ho:s.heap.get? d=some od) (hX:od.ExactDict) (hD:od.data=.dict es ep)
  (hQ:Q (.ref s.heap.objs.size) { s with heap:=s.heap.push { cls:=.type "dict_keyiterator",data:=.fields #[.ref d,.int 0 0,.int es.size 0,.int ep 0] } }):wpAny (model prog w) A (pyIter (.ref d)) Q E s:=by
 have T:s.TypeIs (.ref d) "dict":=⟨od,ho,hX.1⟩
 refine wpAny_pyIter_slot T F.slot_dict_iter (wpAny_call_entry F.slot_dict_iter T F.entry_dict_iter ?_ (F.args_dict_iter_1 _)); unfold Builtin.«dict.__iter__»; refine wpAny_bind ?_; unfold Builtin.Dict.dictSlotNone
 refine wpAny_bind (wpAny_notOrdered_dict T (wpAny_pure (show wpAny _ _ (Builtin.Dict.showsAll d >>= _) _ _ s from ?_))); unfold Builtin.Dict.showsAll
 rw [if_neg (by rw [hd]; exact Bool.false_ne_true)]; refine wpAny_bind (wpAny_pure (wpAny_bind (wpAny_dictEntries ho hD (wpAny_bind (wpAny_dictEpoch ho hD ?_)))))
 refine wpAny_bind (wpAny_newObj_type (wpAny_pure ⟨_,rfl,"dict_keyiterator",_,⟨_,Heap.get?_push_size _ rfl,rfl⟩,F.slot_dict_keyiterator_next.lookup,?_⟩)); simpa [rawInt] using hQ
theorem key_item_q {Q:Option Value->Shared->Prop} (hit:s.heap.IsKeyIter it d i es.size ep) (ho:s.heap.get? d=some od) (hD:od.data=.dict es ep) (lt:i < es.size)
  (hQ:∀ h',h'.IsKeyIter it d (i + 1) es.size ep->Heap.SameBut it s.heap h'->Q (some es[i].key) { s with heap:=h' }):wpAny (model prog w) A (pyNext (.ref it)) Q E s:=by
 obtain ⟨o,io,hc,hd⟩:=id hit; have ty:=hit.typeIs; unfold pyNext
 refine wpAny_bind (wpAny_attempt (wpAny_callSpecial?_slot (name:=Str.ofString "__next__") ty F.slot_dict_keyiterator_next (wpAny_call_entry F.slot_dict_keyiterator_next ty F.entry_dict_keyiterator_next ?_ (F.args_dict_keyiterator_next_1 _))))
 refine wpAny_bind (wpAny_pure (wpAny_bind (wpAny_bind ?_))); (first | refine wpAny_bind (wpAny_typeNameOfWhole_keyiter ty (wpAny_pure ?_)) | refine wpAny_bind (wpAny_typeNameOf_keyiter ty (wpAny_pure ?_))); refine wpAny_bind (wpAny_fieldsOf io hd ?_)
 simp only [show Builtin.Dict_items.ownsTuple "dict_keyiterator"=false by decide,Bool.false_eq_true,if_false]
 show wpAny _ _ (if (Value.ref d == Value.none)=true then _ else _) _ _ s; rw [if_neg (show ¬ ((Value.ref d == Value.none)=true) from Bool.false_ne_true)]
 refine wpAny_bind (wpAny_pure (wpAny_bind (wpAny_dictEntries ho hD ?_))); rw [if_neg (by simp)]; refine wpAny_bind (wpAny_pure (wpAny_bind (wpAny_dictEpoch ho hD ?_))); rw [if_neg (by simp)]; refine wpAny_pure ?_
 simp only [show ¬ ((i:Int) < 0) from by omega,if_false,Int.toNat_natCast,Array.getElem?_eq_getElem lt]; refine wpAny_bind ?_; (first | refine wpAny_bind (wpAny_typeNameOfWhole_keyiter ty (wpAny_pure ?_)) | refine wpAny_bind (wpAny_typeNameOf_keyiter ty (wpAny_pure ?_)))
 refine wpAny_bind (wpAny_isOneOf_keyiter ty ?_); show wpAny _ _ (setField (.ref it) 1 (rawInt ((i:Int) + 1)) >>= _) _ _ s; refine wpAny_bind (wpAny_setField io hd (by simp) ?_)
 have it':(s.heap.update it (Obj.mapFields (·.setIfInBounds 1 (rawInt ((i:Int) + 1))))).IsKeyIter it d (i + 1) es.size ep:=⟨_,Heap.get?_update_self _ io (Obj.isFreed_of_fields (Obj.data_mapFields hd _)),(Obj.cls_mapFields ..).trans hc,by rw [Obj.data_mapFields hd]; simp [rawInt]⟩
 refine wpAny_bind (wpAny_holding (wpAny_bind (wpAny_isOneOf_keyiter (s:={ s with heap:=s.heap.update it (Obj.mapFields (·.setIfInBounds 1 (rawInt ((i:Int) + 1)))) }) it'.typeIs (show wpAny _ _ (pure es[i].key) _ _ _ from ?_))))
 exact wpAny_pure (wpAny_pure ⟨_,rfl,wpAny_pure (hQ _ it' (Heap.SameBut.update ..))⟩)
theorem key_end_q {Q:Option Value->Shared->Prop} (hq:Qt A s.heap) (hit:s.heap.IsKeyIter it d i es.size ep) (ho:s.heap.get? d=some od) (hD:od.data=.dict es ep) (ge:es.size<=i)
  (hQ:∀ h',Heap.ExtBut it s.heap h'->Q none { s with heap:=h' }):wpAny (model prog w) A (pyNext (.ref it)) Q E s:=by
 obtain ⟨o,io,hc,hd⟩:=id hit; have ty:=hit.typeIs; unfold pyNext
 refine wpAny_bind (wpAny_attempt (wpAny_callSpecial?_slot (name:=Str.ofString "__next__") ty F.slot_dict_keyiterator_next (wpAny_call_entry F.slot_dict_keyiterator_next ty F.entry_dict_keyiterator_next ?_ (F.args_dict_keyiterator_next_1 _))))
 refine wpAny_bind (wpAny_pure (wpAny_bind (wpAny_bind ?_))); (first | refine wpAny_bind (wpAny_typeNameOfWhole_keyiter ty (wpAny_pure ?_)) | refine wpAny_bind (wpAny_typeNameOf_keyiter ty (wpAny_pure ?_))); refine wpAny_bind (wpAny_fieldsOf io hd ?_)
 simp only [show Builtin.Dict_items.ownsTuple "dict_keyiterator"=false by decide,Bool.false_eq_true,if_false]
 show wpAny _ _ (if (Value.ref d == Value.none)=true then _ else _) _ _ s; rw [if_neg (show ¬ ((Value.ref d == Value.none)=true) from Bool.false_ne_true)]
 refine wpAny_bind (wpAny_pure (wpAny_bind (wpAny_dictEntries ho hD ?_))); rw [if_neg (by simp)]; refine wpAny_bind (wpAny_pure (wpAny_bind (wpAny_dictEpoch ho hD ?_))); rw [if_neg (by simp)]; refine wpAny_pure ?_
 simp only [show ¬ ((i:Int) < 0) from by omega,if_false,Int.toNat_natCast,Array.getElem?_eq_none ge]; refine wpAny_bind ?_; (first | refine wpAny_bind (wpAny_typeNameOfWhole_keyiter ty (wpAny_pure ?_)) | refine wpAny_bind (wpAny_typeNameOf_keyiter ty (wpAny_pure ?_)))
 show wpAny _ _ (setField (.ref it) 0 .none >>= _) _ _ s; refine wpAny_bind (wpAny_setField io hd (by simp) ?_)
 refine stop_q (hq:=(hq.but io fun n=>?_)) fun h' e k he=>?_
 ·obtain ⟨vs,e1,e2⟩:=n
  rw [hd] at e1
  cases e1
  simp at e2
 obtain ⟨oe,h1,h2⟩:=he; refine wpAny_bind (wpAny_isInstance (T:="StopIteration") (b:=true) ⟨_,h1,h2⟩ isSubtype_stop (wpAny_pure (hQ _ fun b o hb e=>k b o ((Heap.SameBut.update ..).extBut b o hb e))))
end
end Sb
namespace Sb
open PySem PySem.Spec PyProof.Rows L2
def rowK (r:List Rat):List (List Int):=r.map fun q=>[q.1,q.2]
theorem rowK_inj:∀ {r s:List Rat},rowK r=rowK s->r=s
 | [],[],_=>rfl
 | [],_ :: _,h=>by cases h
 | _ :: _,[],h=>by cases h
 | a :: r,b :: s,h=>by
  have h:[a.1,a.2] :: rowK r=[b.1,b.2] :: rowK s:=h
  injection h with h1 h2
  rw [rowK_inj h2,show a=b from Prod.ext (List.cons.inj h1).1 (List.cons.inj (List.cons.inj h1).2).1]
def dcO (P:Program) (w:World) (d:Addr) (es:List (List Rat × Addr × Addr)) (ep:Nat):HO:=.ext fun h=>∃ o ds,h.get? d=some o/\o.ExactDict/\o.data=.dict ds ep/\ds.toList=es.map (fun e=>entryOfKey (rowKind P w) (rowK e.1,e.2.1,.ref e.2.2))/\(d == sysModules)=false
structure DcAt (P:Program) (w:World) (K:PySem.W.Frag) (H:Hp) (d:Addr) (es:List (List Rat × Addr × Addr)) (ep:Nat):Prop where
 ob:H d=some (dcO P w d es ep)
 ks:∀ e ∈ es,RowAt K H e.2.1 e.1
 nd:(es.map (·.1)).Nodup
theorem DcAt.same {P:Program} {w:World} {K:PySem.W.Frag} {H H':Hp} {d:Addr} {es:List (List Rat × Addr × Addr)} {ep:Nat} (h:DcAt P w K H d es ep) (S:Same H H'):DcAt P w K H' d es ep:=⟨S _ _ h.ob,fun e he=>(h.ks e he).ext (Ext.same S),h.nd⟩
section
variable {X:Cx} {pins:List (Addr × Obj)} {σ:L2.St} {H:Hp} {s:Shared} {K:PySem.W.Frag} {tg:Expr}
theorem inv_big (I:Inv X pins σ H s):sysModules < s.heap.objs.size:=by
 have hg:mainGlobals < s.heap.objs.size:=(I.mod.glob.keeps I.bk).lt
 exact Nat.lt_trans (show sysModules < mainGlobals by decide) hg
theorem sq_key (I:Inv X pins σ H s) {a:Addr} {p q:Int} (h:SqT X.K H a [.int p,.int q]):IsTupleKey (intKind X.prog X.w) s.heap [p,q] a:=by
 obtain ⟨its,r,⟨o,ho,hc,n,hd⟩,_⟩:=I.tuple h
 refine ⟨o,its.toArray,n,ho,hc,hd,?_⟩
 cases r with
 | cons r1 t =>
  cases t with
  | cons r2 t2 =>
   cases t2
   obtain ⟨t1,rfl⟩:=r1
   obtain ⟨t2,rfl⟩:=r2
   exact .cons (by simp [intKind,Value.isInt]) (.cons (by simp [intKind,Value.isInt]) .nil)
theorem row_key (I:Inv X pins σ H s) {a:Addr} {rs:List Rat} (h:RowAt X.K H a rs):IsRowKey X.prog X.w s.heap (rowK rs) a:=by
 obtain ⟨xs,hx,hr⟩:=h
 obtain ⟨its,r,⟨o,ho,hc,n,hd⟩,_⟩:=I.tuple hx
 refine ⟨o,its.toArray,n,ho,hc,hd,?_⟩
 have key:∀ {rs:List Rat} {xs:List V} {its:List Value},Rs X.K H rs xs->Vals xs its->RowItems X.prog X.w s.heap (rowK rs) its:=by
  intro rs xs its hr
  unfold Rs at hr
  induction hr generalizing its with
  | nil=>intro v; cases v; exact .nil
  | cons h1 _ ih =>
   intro v
   cases v with
   | cons r1 t =>
    obtain ⟨b,rfl,sq⟩:=h1
    cases r1
    exact .cons ⟨b,rfl,sq_key I sq⟩ (ih t)
 exact key hr r
theorem dc_heap (I:Inv X pins σ H s) {d:Addr} {es:List (List Rat × Addr × Addr)} {ep:Nat} (h:DcAt X.prog X.w X.K H d es ep):s.heap.DictOfH (rowKind X.prog X.w) d (es.map fun e=>(rowK e.1,e.2.1,Value.ref e.2.2))/\(d == sysModules)=false:=by
 obtain ⟨⟨o,ds,ho,hX,hd,he,hs⟩,_⟩:=(show ObjOk X.prog X.w H s.heap d (dcO X.prog X.w d es ep) from I.hok d _ h.ob)
 refine ⟨⟨o,ds,ep,ho,hX,hd,by rw [he,List.map_map]; rfl,fun x hx=>?_,?_⟩,hs⟩
 ·obtain ⟨e,he',rfl⟩:=List.mem_map.mp hx
  exact row_key I (h.ks e he')
 ·rw [List.map_map,show ((fun x:List (List Int) × Addr × Value=>x.1) ∘ fun e:List Rat × Addr × Addr=>(rowK e.1,e.2.1,Value.ref e.2.2))=fun e=>rowK e.1 from rfl]
  have:=h.nd
  rw [List.nodup_iff_pairwise_ne,List.pairwise_map] at this ⊢
  exact this.imp fun hne z=>hne (rowK_inj z)
inductive rDict (P:Program) (w:World) (K:PySem.W.Frag) (xs:List V) (H:Hp) (Q:VK):Prop
 | mk (p:Addr) (ys:List V) (es:List (List Rat × Addr × Addr)) (a0:xs=[.ref p]) (a1:SqL K H p ys) (a2:Paired (fun v e=>∃ t,v=V.ref t/\SqT K H t [.ref e.2.1,.ref e.2.2]/\RowAt K H e.2.1 e.1) ys es) (a3:(es.map (·.1)).Nodup) (a4:∀ d ep,H d=none->Q (.ref d) (upd H d (dcO P w d es ep)))
theorem call_dict_rows (hA:X.A.handled=none) (hu:X.A.units + 64 < cLine) (hK:X.K=K:=by rfl):CallR X (.type "dict") (rDict X.prog X.w K):=by
 subst hK
 intro pins s σ H xs us Q I r h
 obtain ⟨p,ys,es,rfl,hq,hp,nd,q⟩:=h
 obtain ⟨u,rfl,rx⟩:=vals1 r
 cases rx
 obtain ⟨its,r',pl,hz⟩:=I.list hq
 have lp:=Paired.length hp
 have lr:=r'.length
 have pairs:Paired (PairAt X.prog X.w s.heap) its.toArray.toList (es.map fun e=>(rowK e.1,e.2.1,Value.ref e.2.2)):=by
  have key:∀ {ys:List V} {es:List (List Rat × Addr × Addr)} {its:List Value},Paired (fun v e=>∃ t,v=V.ref t/\SqT X.K H t [.ref e.2.1,.ref e.2.2]/\RowAt X.K H e.2.1 e.1) ys es->Vals ys its->Paired (PairAt X.prog X.w s.heap) its (es.map fun e=>(rowK e.1,e.2.1,Value.ref e.2.2)):=by
   intro ys es its hp
   induction hp generalizing its with
   | nil=>intro v; cases v; exact .nil
   | cons h1 _ ih =>
    intro v
    cases v with
    | cons r1 t =>
     obtain ⟨b,rfl,sq,row⟩:=h1
     cases r1
     obtain ⟨it2,r2,⟨o,ho,hc,n,hd⟩,_⟩:=I.tuple sq
     obtain ⟨u1,u2,rfl,e1,e2⟩:=Vals.two r2
     cases e1
     cases e2
     exact .cons ⟨b,o,n,rfl,ho,hc,hd,row_key I row⟩ (ih t)
  exact key hp r'
 refine call_dict_pairs hA (by omega) pl (by rw [List.length_map]; omega) pairs ?_ fun h' tk hm kp=>?_
 ·rw [List.map_map,show ((fun x:List (List Int) × Addr × Value=>x.1) ∘ fun e:List Rat × Addr × Addr=>(rowK e.1,e.2.1,Value.ref e.2.2))=fun e=>rowK e.1 from rfl]
  rw [List.nodup_iff_pairwise_ne,List.pairwise_map] at nd ⊢
  exact nd.imp fun hne z=>hne (rowK_inj z)
 ·obtain ⟨o,ds,ep,ho,hX,hd,he,_,_⟩:=hm
  have hsys:(s.heap.objs.size == sysModules)=false:=by
   have h:=inv_big I
   exact beq_false_of_ne (Nat.ne_of_gt h)
  refine ⟨.ref s.heap.objs.size,_,I.laid (t':=tk) kp (Nat.le_refl _) (show ObjOk X.prog X.w _ h' _ (dcO X.prog X.w s.heap.objs.size es ep) from ⟨⟨o,ds,ho,hX,hd,by rw [he,List.map_map]; rfl,hsys⟩,⟨o,ho⟩,?_⟩),rfl,q _ _ (I.hok.fresh (Nat.le_refl _))⟩
  rintro h1 h2 ⟨o,ds,ho,r⟩ k
  exact ⟨o,ds,k _ ho,r⟩
inductive rIxD (P:Program) (w:World) (K:PySem.W.Frag) (x y:V) (H:Hp) (Q:VK):Prop
 | mk (d a:Addr) (es:List (List Rat × Addr × Addr)) (i:Nat) (e:List Rat × Addr × Addr) (a0:x=.ref d) (a1:y=.ref a) (ep:Nat) (a2:DcAt P w K H d es ep) (a3:es[i]?=some e) (a4:RowAt K H a e.1) (a5:Q (.ref e.2.2) H)
theorem ix_dict (hu:X.A.units + 64 < cLine) (hK:X.K=K:=by rfl):IxR X (rIxD X.prog X.w K):=by
 subst hK
 intro value slice pins s σ H x y v u Q I rx ry h hs
 obtain ⟨d,a,es,i,e,rfl,rfl,ep,hd,he,ha,q⟩:=h
 cases rx
 cases ry
 obtain ⟨hm,_⟩:=dc_heap I hd
 have hn:((es.map fun e=>(rowK e.1,e.2.1,Value.ref e.2.2)).map (·.1)).Nodup:=let ⟨_,_,_,_,_,_,_,_,hn⟩:=hm; hn
 refine subscriptTail_builtinR (x:=.ref e.2.2) hm.typeIs F.slot_dict_getitem.lookup (wpAny_getItem_heap (knd:=rowKind X.prog X.w) (by show X.A.units + 1 + 4 < cLine; omega) (row_key I ha) hm (atKey_of_get hn (i:=i) (p:=(e.2.1,.ref e.2.2)) (by rw [List.getElem?_map,he]; rfl)) ?_) hs
 exact ⟨rfl,.ref e.2.2,H,I.tok _,rfl,q⟩
def Itd (P:Program) (w:World) (K:PySem.W.Frag) (d:Addr) (es:List (List Rat × Addr × Addr)) (ep:Nat):It:=⟨fun i H=>DcAt P w K H d es ep/\i < es.length,fun i H x H'=>H'=H/\∃ e,es[i]?=some e/\x=.ref e.2.1,fun i H=>DcAt P w K H d es ep/\es.length<=i⟩
theorem turn_dict {P:Program} {w:World} {K:PySem.W.Frag} (d it:Addr) (es:List (List Rat × Addr × Addr)) (ep:Nat):Turn P w K tg (Itd P w K d es ep) [it] it (fun i h=>h.IsKeyIter it d i es.length ep) where
 mem:=by simp
 obj:=fun i h st b hb=>by
  obtain rfl:b=it:=by simpa using hb
  obtain ⟨o,e,c,q⟩:=st
  exact ⟨o,e,fun v z=>by rw [q] at z; cases z⟩
 keep:=fun i h h' st k=>let ⟨o,e,r⟩:=st; ⟨o,k it (by simp) o e,r⟩
 item:=by
  intro X hP hw hK hc i pins s σ H E I hf st ⟨hd,lt⟩
  subst hP hw hK
  obtain ⟨⟨o,ds,ho,hX,hD,he,hs⟩,_⟩:=(show ObjOk X.prog X.w H s.heap d (dcO X.prog X.w d es ep) from I.hok d _ hd.ob)
  have ln:ds.size=es.length:=by have:=congrArg List.length he; simpa using this
  obtain ⟨f0,f1,f2,f3,f4,f5⟩:=hf it (by simp)
  refine key_item_q (es:=ds) (i:=i) (by rw [ln]; exact st) ho hD (by omega) fun h' st' sb=>?_
  rw [ln] at st'
  have I1:Inv X pins σ H { s with heap:=h' }:=I.turned (t':=s.toks) (fun b o hb e=>(sb.2 b hb).trans e) f0 f1 f3 f4 f5
  obtain ⟨oi,e,c,q⟩:=id st'
  have ek:ds[i].key=.ref (es[i]'lt).2.1:=by
   have h1:ds.toList[i]?=some ds[i]:=by simp
   rw [he,List.getElem?_map,List.getElem?_eq_getElem lt] at h1
   rw [← Option.some.inj h1]
   rfl
  exact ⟨_,rfl,go_of (s:={ s with heap:=h' }) e c q (by decide) ⟨.ref (es[i]'lt).2.1,H,I1,ek,⟨rfl,_,List.getElem?_eq_getElem lt,rfl⟩,st',fun b hb=>(hf b hb).1⟩⟩
 done:=by
  intro X hP hw hK hc i pins s σ H E I hf st ⟨hd,ge⟩
  subst hP hw hK
  obtain ⟨⟨o,ds,ho,hX,hD,he,hs⟩,_⟩:=(show ObjOk X.prog X.w H s.heap d (dcO X.prog X.w d es ep) from I.hok d _ hd.ob)
  have ln:ds.size=es.length:=by have:=congrArg List.length he; simpa using this
  obtain ⟨f0,f1,f2,f3,f4,f5⟩:=hf it (by simp)
  exact key_end_q (es:=ds) (i:=i) (I.qt hc) (by rw [ln]; exact st) ho hD (by omega) fun h' eb=>⟨rfl,I.turned (t':=s.toks) (fun b o hb e=>eb b o hb e) f0 f1 f3 f4 f5⟩
 self:=fun _ _ _ _ _ st h=>wpAny_pyIter_keyiter st h
inductive iDict_i (P:Program) (w:World) (K:PySem.W.Frag) (R:It->Hp->Prop) (x:V) (H:Hp):Prop
 | mk (d:Addr) (es:List (List Rat × Addr × Addr)) (ep:Nat) (a0:x=.ref d) (a1:DcAt P w K H d es ep) (a2:R (Itd P w K d es ep) H)
def iDict (P:Program) (w:World) (K:PySem.W.Frag) (tl:TE):TI:=fun σ H R=>tl σ H (iDict_i P w K R)
theorem pi_dict {l:Expr} {tl:TE} (hl:PE X l tl) (hK:X.K=K:=by rfl):PI X tg l (iDict X.prog X.w K tl):=by
 subst hK
 intro pins s σ H R I h
 refine thn (hl pins s σ H _ I h) fun v s1 z=>?_
 obtain ⟨x,H1,I1,r1,d,es,ep,rfl,hd,q⟩:=z
 cases r1
 obtain ⟨⟨o,ds,ho,hX,hD,he,hs⟩,_⟩:=(show ObjOk X.prog X.w H1 s1.heap d (dcO X.prog X.w d es ep) from I1.hok d _ hd.ob)
 have ln:ds.size=es.length:=by have:=congrArg List.length he; simpa using this
 refine dict_iter_q hs ho hX hD ?_
 refine ⟨s1.heap.objs.size,[s1.heap.objs.size],_,_,H1,rfl,I1.kept (t':=s1.toks) fun b o e=>Heap.get?_push_of_some _ e,turn_dict d _ es ep,⟨_,Heap.get?_push_size _ rfl,rfl,by rw [← ln]; rfl⟩,fun b hb=>?_,q⟩
 obtain rfl:b=s1.heap.objs.size:=by simpa using hb
 exact I1.fpOk (Nat.le_refl _) (I1.hok.fresh (Nat.le_refl _))
end
end Sb
namespace Sb
open PySem PySem.Spec PyProof.Rows L2
open PySem.Builtin PySem.Builtin.Str
theorem all_range (bs:List Bool):(List.range bs.length).all (fun i=>bs.getD i false)=bs.all id:=by
 induction bs with
 | nil=>rfl
 | cons b r ih =>
  rw [List.length_cons,List.range_succ_eq_map,List.all_cons,List.all_map,List.all_cons,← ih]
  rfl
section
variable {X:Cx} {K:PySem.W.Frag} {tg:Expr}
inductive rAll (K:PySem.W.Frag) (xs:List V) (H:Hp) (Q:VK):Prop
 | mk (p:Addr) (bs:List Bool) (a0:xs=[.ref p]) (a1:SqL K H p (bs.map V.bl)) (a2:Q (.bl (bs.all id)) H)
theorem call_allL (hc:X.calm=true) (hK:X.K=K:=by rfl):CallR X (.builtin "all") (rAll K):=by
 subst hK
 intro pins s σ H xs us Q I r h
 obtain ⟨p,bs,rfl,hs,q⟩:=h
 obtain ⟨u,e0,rx⟩:=vals1 r
 cases (show u=Value.ref p from rx)
 subst e0
 obtain ⟨its,rv,pl,hz⟩:=I.list hs
 have hl:=rv.length
 rw [List.length_map] at hl
 have lp:s.heap.IsList p its.toArray:=pl.isList
 have lt:p < s.heap.objs.size:=by
  obtain ⟨o,e,_⟩:=lp
  exact Heap.lt_size e
 have ip:∀ p ∈ X.pn,s.heap.get? p.1=some p.2:=fun p hp=>(I.pin p (List.mem_append_left _ hp)).1
 refine call_all_walk (wpAny_pyIter_list lp ?_)
 refine ⟨s.heap.objs.size,_,_,_,_,_,fun i=>bs.getD i false,rfl,Walks.listQ (A:=X.A.in1) (I.ok.hd hc) s.heap.objs.size p (Nat.ne_of_lt lt) (fun p hp=>Nat.ne_of_lt (Heap.lt_size (ip p hp))) its.toArray,⟨⟨_,Heap.get?_push_size _ rfl,rfl,rfl⟩,lp.at fun o e=>Heap.get?_push_of_some _ e,fun p hp=>Heap.get?_push_of_some _ (ip p hp)⟩,?_,fun h' tk k=>?_⟩
 ·intro i v s' Q' E' hP hQ
  have hi:i < its.length:=by
   have:=(Array.getElem?_eq_some_iff.mp hP).1
   simpa using this
  have hb:i < bs.length:=by omega
  have e1:(bs.map V.bl)[i]?=some (V.bl bs[i]):=by simp [hb]
  obtain ⟨w,e2,rw'⟩:=rv.get e1
  have e3:its[i]?=some v:=by simpa using hP
  rw [e2] at e3
  cases e3
  cases (show v=Value.bool bs[i] from rw')
  have e4:bs.getD i false=bs[i]:=by simp [List.getD,hb]
  replace hQ:Q' (bs.getD i false) s':=hQ
  rw [e4] at hQ
  exact wpAny_truthy_bool hQ
 ·have e:(List.range its.toArray.size).all (fun i=>bs.getD i false)=bs.all id:=by
   rw [List.size_toArray,← hl]
   exact all_range bs
  rw [e]
  refine ⟨.bl (bs.all id),H,?_,rfl,q⟩
  exact I.kept (t':=tk) fun b o z=>k b o (by
   intro m
   have:b=s.heap.objs.size:=by simpa using m
   rw [this] at z
   exact absurd (Heap.lt_size z) (Nat.lt_irrefl _)) (Heap.get?_push_of_some _ z)
end
end Sb
namespace Sb
open PySem PySem.Spec PyProof.Rows L2
theorem all_eqR (rs ss:List Rat):((List.range (min rs.length ss.length)).all (fun j=>decide (rs.getD j (0,1)=ss.getD j (0,1))) && rs.length == ss.length)=decide (rs=ss):=by
 rw [Bool.eq_iff_iff]
 simp only [Bool.and_eq_true,List.all_eq_true,List.mem_range,beq_iff_eq,decide_eq_true_eq]
 constructor
 ·rintro ⟨h,l⟩
  refine List.ext_getElem l fun i h1 h2=>?_
  have:=h i (by omega)
  simpa [List.getD,h1,h2] using this
 ·rintro rfl
  exact ⟨fun _ _=>rfl,rfl⟩
section
variable {X:Cx} {K:PySem.W.Frag} {pins:List (Addr × Obj)} {σ:L2.St} {H:Hp} {s:Shared} {A:Around} {a b:Addr}
theorem sqt_one (I:Inv X pins σ H s) {xs ys:List V} (h1:SqT X.K H a xs) (h2:SqT X.K H a ys):xs=ys:=by
 obtain ⟨i1,r1,p1,_⟩:=I.tuple h1
 obtain ⟨i2,r2,p2,_⟩:=I.tuple h2
 obtain ⟨o,e1,_,n,d1⟩:=p1
 obtain ⟨o',e1',_,n',d1'⟩:=p2
 rw [e1] at e1'
 cases e1'
 rw [d1] at d1'
 injection d1' with d
 have e:i1=i2:=by simpa using d
 subst e
 exact Vals.inj r1 r2
theorem rs_one (I:Inv X pins σ H s):∀ {rs ss:List Rat} {xs:List V},Rs X.K H rs xs->Rs X.K H ss xs->rs=ss
 | _,_,_,.nil,.nil=>rfl
 | r :: _,q :: _,_,.cons h t,.cons h' t'=>by
  rw [rs_one I t t']
  obtain ⟨a,rfl,sq⟩:=h
  obtain ⟨b,e,sq'⟩:=h'
  cases e
  have z:=sqt_one I sq sq'
  injection z with z1 z2
  injection z2 with z2 z3
  injection z1 with z1
  injection z2 with z2
  rw [show r=q from Prod.ext z1 z2]
theorem row_one (I:Inv X pins σ H s) {rs ss:List Rat} (h1:RowAt X.K H a rs) (h2:RowAt X.K H a ss):rs=ss:=by
 obtain ⟨xs,q1,r1⟩:=h1
 obtain ⟨ys,q2,r2⟩:=h2
 cases sqt_one I q1 q2
 exact rs_one I r1 r2
theorem eq_ints (I:Inv X pins σ H s) (hu:A.units < cLine) {ns ms:List Int} (ha:SqT X.K H a (ns.map V.int)) (hb:SqT X.K H b (ms.map V.int)):SeqAt.EqAt A s (.ref a) (.ref b) (decide (ns=ms)):=by
 by_cases e:a=b
 ·subst e
  have z:=sqt_one I ha hb
  have z':ns=ms:=by
   have:=congrArg (List.map fun v=>match v with | V.int i=>i | _=>0) z
   simpa [List.map_map,Function.comp_def] using this
  rw [decide_eq_true z']
  exact SeqAt.EqAt.same _
 ·obtain ⟨its,r1,p1,_⟩:=I.tuple ha
  obtain ⟨its2,r2,p2,_⟩:=I.tuple hb
  have l1:=r1.length
  have l2:=r2.length
  rw [List.length_map] at l1 l2
  have h:=SeqAt.RcAt.tuples (A:=A) (s:=s) (e:=fun j=>ns.getD j 0 == ms.getD j 0) p1 p2 hu (fun j h1 h2=>by
   obtain ⟨t,e1⟩:=ints_at r1 (j:=j) (by simpa using h1)
   obtain ⟨t',e2⟩:=ints_at r2 (j:=j) (by simpa using h2)
   have e1':its.toArray[j]=Value.int (ns.getD j 0) t:=by simpa using e1
   have e2':its2.toArray[j]=Value.int (ms.getD j 0) t':=by simpa using e2
   rw [e1',e2']
   exact SeqAt.EqAt.int_int _ _ _ _)
  rw [List.size_toArray,List.size_toArray,← l1,← l2,all_eq] at h
  exact SeqAt.EqAt.of_refs e h
theorem eq_rows (I:Inv X pins σ H s) (hu:A.units + 1 < cLine) {rs ss:List Rat} (ha:RowAt X.K H a rs) (hb:RowAt X.K H b ss):SeqAt.EqAt A s (.ref a) (.ref b) (decide (rs=ss)):=by
 by_cases e:a=b
 ·subst e
  rw [decide_eq_true (row_one I ha hb)]
  exact SeqAt.EqAt.same _
 ·obtain ⟨xs,q1,hr⟩:=ha
  obtain ⟨ys,q2,hs⟩:=hb
  obtain ⟨its,r1,p1,_⟩:=I.tuple q1
  obtain ⟨its2,r2,p2,_⟩:=I.tuple q2
  have l1:=r1.length
  have l2:=r2.length
  have k1:=hr.len
  have k2:=hs.len
  have h:=SeqAt.RcAt.tuples (A:=A) (s:=s) (e:=fun j=>decide (rs.getD j (0,1)=ss.getD j (0,1))) p1 p2 (by omega) (fun j h1 h2=>by
   have g1:j < rs.length:=by simp at h1; omega
   have g2:j < ss.length:=by simp at h2; omega
   have er:rs[j]?=some rs[j]:=by simp [g1]
   have es:ss[j]?=some ss[j]:=by simp [g2]
   obtain ⟨x1,ex,c,rfl,sc⟩:=hr.at er
   obtain ⟨y1,ey,d,rfl,sd⟩:=hs.at es
   obtain ⟨u1,eu1,ru1⟩:=r1.get ex
   obtain ⟨u2,eu2,ru2⟩:=r2.get ey
   cases (show u1=Value.ref c from ru1)
   cases (show u2=Value.ref d from ru2)
   have e1':its.toArray[j]=Value.ref c:=by
    have:its.toArray[j]?=some (Value.ref c):=by simpa using eu1
    rw [Array.getElem?_eq_getElem h1] at this
    exact Option.some.inj this
   have e2':its2.toArray[j]=Value.ref d:=by
    have:its2.toArray[j]?=some (Value.ref d):=by simpa using eu2
    rw [Array.getElem?_eq_getElem h2] at this
    exact Option.some.inj this
   rw [e1',e2']
   have q:=eq_ints (A:=A.in1) I hu (ns:=[rs[j].1,rs[j].2]) (ms:=[ss[j].1,ss[j].2]) sc sd
   have z:decide ([rs[j].1,rs[j].2]=[ss[j].1,ss[j].2])=decide (rs.getD j (0,1)=ss.getD j (0,1)):=by
    rw [decide_eq_decide]
    simp [List.getD,g1,g2,Prod.ext_iff]
   rw [z] at q
   exact q)
  rw [List.size_toArray,List.size_toArray,← l1,← l2,← k1,← k2,all_eqR] at h
  exact SeqAt.EqAt.of_refs e h
open Classical in
inductive rInR (K:PySem.W.Frag) (neg:Bool) (x y:V) (H:Hp) (Q:VK):Prop
 | mk (a l:Addr) (rs:List Rat) (as:List Addr) (rss:List (List Rat)) (z0:x=.ref a) (z1:y=.ref l) (z2:RowAt K H a rs) (z3:SqL K H l (as.map V.ref)) (z4:Paired (RowAt K H) as rss) (z5:Q (.bl (if neg then !decide (rs ∈ rss) else decide (rs ∈ rss))) H)
theorem any_rows {I:Inv X pins σ H s} {rs:List Rat} (e:Value->Bool) (he:∀ (b:Addr) (ss:List Rat),RowAt X.K H b ss->e (.ref b)=decide (ss=rs)):∀ {as:List Addr} {rss:List (List Rat)} {us:List Value},Paired (RowAt X.K H) as rss->Vals (as.map V.ref) us->us.any e=decide (rs ∈ rss)
 | _,_,_,.nil,.nil=>by simp
 | b :: as,ss :: rss,u :: us,.cons h t,.cons r rt=>by
  cases (show u=Value.ref b from r)
  rw [List.any_cons,he b ss h,any_rows (I:=I) e he t rt]
  rw [Bool.eq_iff_iff,Bool.or_eq_true,decide_eq_true_iff,decide_eq_true_iff,decide_eq_true_iff,List.mem_cons]
  exact ⟨fun z=>z.imp Eq.symm id,fun z=>z.imp Eq.symm id⟩
open Classical in
theorem in_rows (I:Inv X pins σ H s) (hu:X.A.units + 64 < cLine) {l:Addr} {rs:List Rat} {as:List Addr} {rss:List (List Rat)} (h2:RowAt X.K H a rs) (h3:SqL X.K H l (as.map V.ref)) (h4:Paired (RowAt X.K H) as rss) :
  ∃ (its:Array Value) (e:Value->Bool),s.heap.IsList l its/\(∀ y,y ∈ its->SeqAt.EqAt X.A.in1 s y (.ref a) (e y))/\its.any e=decide (rs ∈ rss):=by
 obtain ⟨its,r,pl,_⟩:=I.list h3
 have he:∀ (b:Addr) (ss:List Rat),RowAt X.K H b ss->(fun u:Value=>match u with | .ref b=>decide (RowAt X.K H b rs) | _=>false) (.ref b)=decide (ss=rs):=fun b ss h=>by
  rw [Bool.eq_iff_iff]
  simp only [decide_eq_true_eq]
  exact ⟨fun z=>row_one I h z,fun z=>z ▸ h⟩
 refine ⟨its.toArray,fun u=>match u with | .ref b=>decide (RowAt X.K H b rs) | _=>false,pl.isList,fun y hy=>?_,?_⟩
 ·have hy':y ∈ its:=by simpa using hy
  obtain ⟨j,ej⟩:=List.getElem?_of_mem hy'
  have lj:j < as.length:=by
   have:=(List.getElem?_eq_some_iff.mp ej).1
   have z:=r.length
   rw [List.length_map] at z
   omega
  have ea:(as.map V.ref)[j]?=some (V.ref as[j]):=by simp [lj]
  obtain ⟨u,eu,ru⟩:=r.get ea
  rw [ej] at eu
  cases eu
  cases (show y=Value.ref as[j] from ru)
  have l4:=Paired.length h4
  have hs:=Paired.getB h4 (show as[j]?=some as[j] by simp [lj]) (show rss[j]?=some rss[j] by simp)
  generalize rss[j]=ss at hs
  rw [he _ ss hs]
  exact eq_rows (A:=X.A.in1) I (by show X.A.units + 1 + 1 < cLine; omega) hs h2
 ·rw [show its.toArray.any (fun u:Value=>match u with | .ref b=>decide (RowAt X.K H b rs) | _=>false)=its.any (fun u:Value=>match u with | .ref b=>decide (RowAt X.K H b rs) | _=>false) by simp]
  exact any_rows (I:=I) _ he h4 r
theorem op_notInR (hu:X.A.units + 64 < cLine) (hK:X.K=K:=by rfl):OpR X (compareOp .NotIn) (rInR K true):=by
 subst hK
 intro pins s σ H x y v u Q I rx ry h
 obtain ⟨a,l,rs,as,rss,rfl,rfl,h2,h3,h4,q⟩:=h
 cases rx
 cases ry
 obtain ⟨its,e,h5,h6,h7⟩:=in_rows I hu h2 h3 h4
 refine SeqAt.notIn_listAt e h5 h6 ⟨.bl _,H,I,rfl,?_⟩
 rw [h7]
 exact q
end
end Sb
namespace Sb
open PySem L2
def top (i:Nat):Stmt:=PySem.Challenge.pw_surebook_k43_none_between.main.body.getD i (.Pass ⟨0,0,0,0⟩)
abbrev sIsWhole:Stmt:=top 6
abbrev sCommonDivisor:Stmt:=top 7
abbrev sLowest:Stmt:=top 8
abbrev sRatioP:Stmt:=top 9
abbrev sPlus:Stmt:=top 10
abbrev sMinus:Stmt:=top 11
abbrev sTimes:Stmt:=top 12
abbrev sPartedP:Stmt:=top 13
abbrev sUnder:Stmt:=top 14
abbrev sCommonBottom:Stmt:=top 15
abbrev sWholeBy:Stmt:=top 16
abbrev sAdded:Stmt:=top 18
abbrev sMultiplied:Stmt:=top 19
abbrev sMean:Stmt:=top 20
abbrev sIsIn:Stmt:=top 21
abbrev sCut:Stmt:=top 22
abbrev sPaperOf:Stmt:=top 23
abbrev sGain:Stmt:=top 29
abbrev sWordsOf:Stmt:=top 30
abbrev sSides:Stmt:=top 31
abbrev sGains:Stmt:=top 32
abbrev sTouched:Stmt:=top 34
abbrev sAreNeighbours:Stmt:=top 35
abbrev sCrossing:Stmt:=top 36
abbrev sCutOff:Stmt:=top 37
abbrev sIsAhead:Stmt:=top 38
abbrev sRising:Stmt:=top 39
abbrev sCorners:Stmt:=top 40
abbrev sCell:Stmt:=top 42
abbrev sWhole:Stmt:=top 43
abbrev sBag:Stmt:=top 44
abbrev sTake:Stmt:=top 45
abbrev sLow:Stmt:=top 46
abbrev sLPlus:Stmt:=top 47
abbrev sLMinus:Stmt:=top 48
abbrev sLTimes:Stmt:=top 49
abbrev sIsRatio:Stmt:=top 50
abbrev sIsRow:Stmt:=top 51
abbrev sParted:Stmt:=top 53
abbrev sLMean:Stmt:=top 54
abbrev sLCut:Stmt:=top 55
abbrev sLGains:Stmt:=top 56
abbrev sFits:Stmt:=top 57
abbrev sSmall:Stmt:=top 58
abbrev sRow:Stmt:=top 59
abbrev sWeights:Stmt:=top 60
abbrev sEvent:Stmt:=top 61
abbrev sMid:Stmt:=top 62
abbrev sOffer:Stmt:=top 63
abbrev sCornerBook:Stmt:=top 64
abbrev sBounds:Stmt:=top 65
abbrev sTwo:Stmt:=top 66
abbrev sCross:Stmt:=top 67
abbrev sThree:Stmt:=top 68
abbrev sPoints:Stmt:=top 69
abbrev sLaw:Stmt:=top 70
end Sb
namespace Sb
open PySem L2
structure Blt (mg:Str->Option Value):Prop where
 len:mg "len"=none
 abs:mg "abs"=none
 isinstance:mg "isinstance"=none
 int:mg "int"=none
 bool:mg "bool"=none
 tuple:mg "tuple"=none
 range:mg "range"=none
 zip:mg "zip"=none
 enumerate:mg "enumerate"=none
 any:mg "any"=none
 sum:mg "sum"=none
 list:mg "list"=none
 min:mg "min"=none
theorem at_ints {ns:List Int} {k:Int} (h0:0<=k) (h1:k < ((ns.map V.int).length:Int)):∃ z,atI (ns.map V.int) k=some (.int z):=by
 obtain ⟨j,rfl⟩:=Int.eq_ofNat_of_zero_le h0
 rw [List.length_map] at h1
 have hj:j < ns.length:=by omega
 exact ⟨ns[j],atI_nat (by simp [hj])⟩
theorem at_mem {xs:List V} {k:Int} (h0:0<=k) (h1:k < (xs.length:Int)):∃ v,atI xs k=some v/\v ∈ xs:=by
 obtain ⟨j,rfl⟩:=Int.eq_ofNat_of_zero_le h0
 have hj:j < xs.length:=by omega
 exact ⟨xs[j],atI_nat (by simp [hj]),List.getElem_mem hj⟩
theorem ixN_in {n:Nat} {k:Int} (h0:0<=k) (h1:k < (n:Int)):ixN n k=some k.toNat:=by
 unfold ixN
 rw [if_pos h0,if_pos h1]
theorem modOk {j:Int} (h:(0:Int) < j):(0:Int) < j:=h
theorem cpow {j:Int} (h0:0<=j) (h1:j<=1000):CPow 10 j:=⟨h0,by omega,by decide⟩
theorem small_mod (t:Int):-(2 ^ 64) < t % 65537/\t % 65537 < 2 ^ 64:=by omega
section
variable {P:Program} {w:World} {K:PySem.W.Frag} {mg:Str->Option Value} {base:Heap}
inductive spCell (K:PySem.W.Frag) (vs:List V) (H:Hp) (Q:VK) (_z3:XK):Prop
 | mk (a:Addr) (k:Int) (ns:List Int) (zz0:vs=[.ref a,.int k]) (zz1:SqL K H a (ns.map V.int)) (zz2:0<=k) (zz3:k<=100000) (zz4:∀ z:Int,Q (.int z) H)
theorem scCell:FnScope ["_law_script","_law_k","_law_seed","_law_some"] ["_law_script","_law_k"] (defScope sCell):=⟨rfl,rfl,rfl,by decide +kernel,rfl,by decide +kernel,by decide +kernel⟩
theorem okCell (D:Def K mg "_law_cell" sCell ["_law_script","_law_k"]) (T:Blt mg):Has P w K mg base 1 "_law_cell" ["_law_script","_law_k"] (spCell K):=by
 refine D.has fun f fd F=>F.ok scCell (fun vs H Q E h=>?_) (fun cdv A outer s H vs Q E hr h=>?_)
 ·obtain ⟨a,k,ns,rfl,_⟩:=h
  rfl
 ·obtain ⟨a,k,ns,rfl,hS,hk,hk2,q⟩:=h
  have sc:=scCell
  refine ⟨_,(pss_cons (ps_if (pt_cmpR op_lt (pv 1) (pe_callB call_len_seq rfl T.len boot_len (pa_cons (pv 0) pa_nil)) (nomark _))
    (pss_one (ps_ret (pe_ix ix_list (pv 0) (pv 1) (fun _ _=>rfl))))
    pss_nil)
   (pss_cons (ps_set (i:=2) sc.nd rfl (Or.inl rfl) (pe_op op_mulB (pv 1) pe_int))
   (pss_cons (ps_if (pt_cmpR op_gt (pe_callB call_len_seq rfl T.len boot_len (pa_cons (pv 0) pa_nil)) pe_int (nomark _))
    (pss_one (ps_set (i:=2) sc.nd rfl (Or.inl rfl) (pe_op op_add (pv 2) (pe_op op_mod (pe_ix ix_list (pv 0) (pe_op op_mod (pv 1) (pe_callB call_len_seq rfl T.len boot_len (pa_cons (pv 0) pa_nil))) (fun _ _=>rfl)) pe_int))))
    pss_nil)
   (pss_cons (ps_set (i:=3) sc.nd rfl (Or.inl rfl) (pe_op op_mod (pe_op op_mulB (pv 2) pe_int) pe_int))
   (pss_one (ps_ret (pe_op op_mod (pe_op op_divB (pe_op op_mulB (pv 3) (pe_op op_add (pe_op op_add (pv 3) (pe_op op_mulB pe_int (pv 1))) pe_int)) pe_int) pe_int))))))),?_⟩
  refine ⟨_,rfl,_,rfl,a,_,rfl,.inl hS,_,_,rfl,rfl,_,rfl,?_⟩
  refine ite2 (fun h=>?_) (fun h=>?_)
  ·have h':=of_decide_eq_true h
   obtain ⟨z,hz⟩:=at_ints hk h'
   exact ⟨_,rfl,_,rfl,a,_,_,_,rfl,rfl,hS,hz,q z⟩
  ·refine ⟨_,rfl,_,_,rfl,rfl,mulR (by decide) (by decide),?_⟩
   refine ⟨_,rfl,a,_,rfl,.inl hS,_,_,rfl,rfl,_,rfl,?_⟩
   refine ite2 (fun h2=>?_) (fun h2=>?_)
   ·have h3:=of_decide_eq_true h2
    obtain ⟨z,hz⟩:=at_ints (ns:=ns) (k:=k % ((ns.map V.int).length:Int)) (Int.emod_nonneg _ (by omega)) (Int.emod_lt_of_pos _ h3)
    refine ⟨_,rfl,_,rfl,_,rfl,_,rfl,a,_,rfl,.inl hS,_,_,rfl,rfl,h3,a,_,_,_,rfl,rfl,hS,hz,_,_,rfl,rfl,modOk (by decide),_,_,rfl,rfl,?_⟩
    refine ⟨_,rfl,_,_,rfl,rfl,mulR (by decide) (by decide),_,_,rfl,rfl,modOk (by decide),?_⟩
    exact ⟨_,rfl,_,rfl,_,rfl,_,_,rfl,rfl,mulL (by decide) (by decide),_,_,rfl,rfl,_,_,rfl,rfl,_,_,rfl,rfl,mulL (small_mod _).1 (small_mod _).2,_,_,rfl,rfl,⟨by decide,by decide +kernel⟩,_,_,rfl,rfl,modOk (by decide),q _⟩
   ·refine ⟨_,rfl,_,_,rfl,rfl,mulR (by decide) (by decide),_,_,rfl,rfl,modOk (by decide),?_⟩
    exact ⟨_,rfl,_,rfl,_,rfl,_,_,rfl,rfl,mulL (by decide) (by decide),_,_,rfl,rfl,_,_,rfl,rfl,_,_,rfl,rfl,mulL (small_mod _).1 (small_mod _).2,_,_,rfl,rfl,⟨by decide,by decide +kernel⟩,_,_,rfl,rfl,modOk (by decide),q _⟩
inductive spLow (vs:List V) (H:Hp) (Q:VK) (_z3:XK):Prop
 | mk (p q:Int) (zz0:vs=[.int p,.int q]) (zz1:0 < q) (zz2:q.natAbs.log2 < 9000) (zz3:∀ a H',H a=none->Same H H'->H' a=some (.tup [.int (nT p q),.int (nB p q)])->Q (.ref a) H')
theorem sg_log {p q:Int} (h:q ≠ 0) (k:q.natAbs.log2 < 9000):(sg p q).natAbs.log2 < 9000:=by
 have h1:=sg_le (p:=p) h
 have h0:=sg_ne (p:=p) h
 have h2:(sg p q).natAbs ≠ 0:=by omega
 have h3:q.natAbs ≠ 0:=by omega
 exact (Nat.log2_lt h2).mpr (Nat.lt_of_le_of_lt h1 ((Nat.log2_lt h3).mp k))
def muLow (σ:St) (_:Hp):Nat:=match σ with
 | [_,_,_,some (.int y),_]=>y.toNat
 | _=>0
theorem scLow:FnScope ["_law_top","_law_bottom","_law_one","_law_other","_law_rest"] ["_law_top","_law_bottom"] (defScope sLow):=⟨rfl,rfl,rfl,by decide +kernel,rfl,by decide +kernel,by decide +kernel⟩
theorem okLow (D:Def K mg "_law_low" sLow ["_law_top","_law_bottom"]) (T:Blt mg):Has P w K mg base 2 "_law_low" ["_law_top","_law_bottom"] spLow:=by
 refine D.has fun f fd F=>F.ok scLow (fun vs H Q E h=>?_) (fun cdv A outer s H vs Q E hr h=>?_)
 ·obtain ⟨a,b,rfl,_⟩:=h
  rfl
 ·obtain ⟨p,q,rfl,hq,hlog,k⟩:=h
  have sc:=scLow
  refine ⟨_,(pss_cons (ps_set (i:=2) sc.nd rfl (Or.inl rfl) (pe_callB call_abs rfl T.abs PyProof.Rows.boot_abs (pa_cons (pv 0) pa_nil)))
   (pss_cons (ps_set (i:=3) sc.nd rfl (Or.inl rfl) (pv 1))
   (pss_cons (ps_while PassesOwn.never (pt_cmpR op_gt (pv 3) pe_int (nomark _))
    (pss_cons (ps_set (i:=4) sc.nd rfl (Or.inl rfl) (pe_op op_mod (pv 2) (pv 3)))
    (pss_cons (ps_set (i:=2) sc.nd rfl (Or.inl rfl) (pv 3))
    (pss_one (ps_set (i:=3) sc.nd rfl (Or.inl rfl) (pv 4))))))
   (pss_one (ps_ret (pe_tup (pa_cons (pe_op op_divB (pv 0) (pv 2)) (pa_cons (pe_op op_divB (pv 1) (pv 2)) pa_nil)))))))),?_⟩
  refine ⟨_,rfl,_,rfl,_,rfl,?_⟩
  have hq':q ≠ 0:=by omega
  have eg:Int.gcd (if p < 0 then -p else p) q=Int.gcd p q:=by split <;> simp
  refine while_by (fun σ H'=>H'=H/\∃ (x y:Int) (r:Option V),σ=[some (.int p),some (.int q),some (.int x),some (.int y),r]/\0<=x/\0<=y/\Int.gcd x y=Int.gcd p q) muLow ⟨rfl,_,q,none,rfl,(by split <;> omega),by omega,eg⟩ ?_
   (fun σ H Q Q' f ⟨v,e,i,j,e1,e2,k,e3,z⟩=>⟨v,e,i,j,e1,e2,k,e3,f _ _ z⟩)
  rintro σ H' ⟨rfl,x,y,r,rfl,hx,hy,hg⟩
  refine ⟨_,rfl,_,_,rfl,rfl,_,rfl,?_⟩
  refine ite2 (fun h=>?_) (fun h=>?_)
  ·have h':0 < y:=of_decide_eq_true h
   refine ⟨_,rfl,_,rfl,_,_,rfl,rfl,h',?_⟩
   refine ⟨_,rfl,_,rfl,⟨rfl,y,x % y,_,rfl,hy,Int.emod_nonneg _ (by omega),gcd_step.trans hg⟩,?_⟩
   show (x % y).toNat < y.toNat
   have:=Int.emod_lt_of_pos x h'
   have:=Int.emod_nonneg x (show y ≠ 0 by omega)
   omega
  ·have h':¬ 0 < y:=fun z=>h (decide_eq_true z)
   have e:=gcd_nn x y hx (by omega)
   rw [hg] at e
   have es:x=sg p q:=by
    unfold sg gI
    rw [if_neg (by omega),← e]
   subst es
   refine ⟨_,rfl,_,rfl,_,_,rfl,rfl,⟨sg_ne hq',sg_log hq' hlog⟩,_,rfl,_,rfl,_,_,rfl,rfl,⟨sg_ne hq',sg_log hq' hlog⟩,(by show 2<=sizeLine; decide),fun a ha=>?_⟩
   exact k a _ ha (Same.new ha) upd_same
inductive spBagA (K:PySem.W.Frag) (vs:List V) (H:Hp) (Q:VK) (_z3:XK):Prop
 | mk (a:Addr) (at_:Nat) (ns:List Int) (zz0:vs=[.ref a,.int (at_:Int)]) (zz1:SqL K H a (ns.map V.int)) (zz2:at_<=100) (zz3:∀ b H',H b=none->Same H H'->BagAt H' b 101->Q (.ref b) H')
theorem scBagA:FnScope ["_law_script","_law_at","_law_cell_here"] ["_law_script","_law_at"] (defScope sBag):=⟨rfl,rfl,rfl,by decide +kernel,rfl,by decide +kernel,by decide +kernel⟩
theorem okBagA (D:Def K mg "_law_bag" sBag ["_law_script","_law_at"]) (hLawCell:Has P w K mg base 1 "_law_cell" ["_law_script","_law_k"] (spCell K)):Has P w K mg base 2 "_law_bag" ["_law_script","_law_at"] (spBagA K):=by
 refine D.has fun f fd F=>F.ok scBagA (fun vs H Q E h=>?_) (fun cdv A outer s H vs Q E hr h=>?_)
 ·obtain ⟨a,at_,ns,rfl,_⟩:=h
  rfl
 ·obtain ⟨a,at_,ns,rfl,hS,hat,k⟩:=h
  have sc:=scBagA
  refine ⟨_,(pss_cons (ps_set (i:=2) sc.nd rfl (Or.inl rfl) (pe_use hLawCell (hr.mono (by decide)) rfl (pa_cons (pv 0) (pa_cons (pv 1) pa_nil))))
   (pss_cons (ps_if (PW.pt (pw_or (pt_cmpR op_ge (pv 2) (pe_op op_pow pe_int pe_int) (nomark _)) (pw_or1 (pt_cmpR op_le (pv 2) (pe_un un_neg (pe_op op_pow pe_int pe_int)) (nomark _)))))
    (pss_one (ps_ret (pe_lst (pa_cons (pv 2) (pa_cons pe_int pa_nil)))))
    pss_nil)
   (pss_one (ps_ret (pe_lst (pa_cons (pe_op op_mod (pv 2) pe_int) (pa_cons (pe_op op_add (pv 1) pe_int) pa_nil))))))),?_⟩
  refine ⟨_,rfl,_,rfl,a,_,ns,rfl,hS,by omega,by omega,fun z=>?_⟩
  have fin:∀ (x y:Int),0<=y->y<=101->∀ d,H d=none->Q (.ref d) (upd H d (.lst [.int x,.int y])):=fun x y y0 y1 d hd=>k d _ hd (Same.new hd) ⟨x,y,upd_same,y0,by omega⟩
  refine ⟨_,rfl,_,_,rfl,rfl,cpow (by decide) (by decide),_,_,rfl,rfl,_,rfl,?_⟩
  refine ite2 (fun h1=>?_) (fun h1=>?_)
  ·exact ⟨_,rfl,(by show 2<=sizeLine; decide),fun d hd=>fin _ _ (by decide) (by decide) d hd⟩
  refine ⟨_,rfl,_,_,rfl,rfl,cpow (by decide) (by decide),_,rfl,_,_,rfl,rfl,_,rfl,?_⟩
  refine ite2 (fun h2=>?_) (fun h2=>?_)
  ·exact ⟨_,rfl,(by show 2<=sizeLine; decide),fun d hd=>fin _ _ (by decide) (by decide) d hd⟩
  ·exact ⟨_,rfl,_,_,rfl,rfl,modOk (by decide),_,rfl,_,_,rfl,rfl,(by show 2<=sizeLine; decide),fun d hd=>fin _ _ (by omega) (by omega) d hd⟩
inductive spTake (vs:List V) (H:Hp) (Q:VK) (_z3:XK):Prop
 | mk (b:Addr) (m:Int) (n:Nat) (zz0:vs=[.ref b,.int m]) (zz1:BagAt H b n) (zz2:n<=1000000000) (zz3:0 < m) (zz4:m.natAbs.log2 < 9000) (zz5:∀ (r:Int) (H':Hp),0<=r->r < m->BagAt H' b (n + 1)->SameX b H H'->Q (.int r) H')
theorem scTake:FnScope ["_law_bag_here","_law_many","_law_some"] ["_law_bag_here","_law_many"] (defScope sTake):=⟨rfl,rfl,rfl,by decide +kernel,rfl,by decide +kernel,by decide +kernel⟩
theorem okTake (D:Def K mg "_law_take" sTake ["_law_bag_here","_law_many"]):Has P w K mg base 1 "_law_take" ["_law_bag_here","_law_many"] spTake:=by
 refine D.has fun f fd F=>F.ok scTake (fun vs H Q E h=>?_) (fun cdv A outer s H vs Q E hr h=>?_)
 ·obtain ⟨b,m,n,rfl,_⟩:=h
  rfl
 ·obtain ⟨b,m,n,rfl,⟨x,y,e,hy,hyn⟩,hn,hm,hlog,q⟩:=h
  have sc:=scTake
  have hL:SqL K H b [.int x,.int y]:=SqL.of e
  refine ⟨_,(pss_cons (ps_if (pt_cmpR op_eq (pe_ix ix_l1 (pv 0) pe_int (fun _ _=>rfl)) pe_int (nomark _))
    (pss_cons (ps_set (i:=2) sc.nd rfl (Or.inl rfl) (pe_op op_mod (pe_ix ix_l0 (pv 0) pe_int (fun _ _=>rfl)) (pv 1)))
    (pss_cons (ps_asg (pe_op op_divB (pe_ix ix_l0 (pv 0) pe_int (fun _ _=>rfl)) (pv 1)) (pg_sub (pv 0) pe_int set_list))
    (pss_one (ps_ret (pv 2)))))
    pss_nil)
   (pss_cons (ps_asg (pe_op op_mod (pe_op op_add (pe_op op_add (pe_op op_mulB (pe_ix ix_l0 (pv 0) pe_int (fun _ _=>rfl)) pe_int) (pe_op op_mulB (pe_op op_mulB pe_int (pe_ix ix_l1 (pv 0) pe_int (fun _ _=>rfl))) (pe_ix ix_l1 (pv 0) pe_int (fun _ _=>rfl)))) pe_int) pe_int) (pg_sub (pv 0) pe_int set_list))
   (pss_cons (ps_asg (pe_op op_add (pe_ix ix_l1 (pv 0) pe_int (fun _ _=>rfl)) pe_int) (pg_sub (pv 0) pe_int set_list))
   (pss_one (ps_ret (pe_op op_mod (pe_op op_mod (pe_op op_mulB (pe_ix ix_l0 (pv 0) pe_int (fun _ _=>rfl)) pe_int) pe_int) (pv 1))))))),?_⟩
  refine ⟨_,rfl,b,_,_,rfl,rfl,hL,rfl,_,rfl,?_⟩
  refine ite2 (fun h=>?_) (fun h=>?_)
  ·refine ⟨_,rfl,b,_,_,rfl,rfl,hL,_,rfl,_,_,rfl,rfl,hm,?_⟩
   refine ⟨_,rfl,b,_,_,rfl,rfl,hL,_,rfl,_,_,rfl,rfl,⟨by omega,hlog⟩,_,rfl,b,_,_,0,rfl,rfl,e,rfl,?_⟩
   refine ⟨_,rfl,?_⟩
   exact q _ _ (Int.emod_nonneg _ (by omega)) (Int.emod_lt_of_pos _ hm) ⟨_,y,upd_same,hy,by omega⟩ (SameX.upd b H _)
  ·refine ⟨_,rfl,b,_,_,rfl,rfl,hL,_,_,rfl,rfl,mulR (by decide) (by decide),_,rfl,b,_,_,rfl,rfl,hL,_,_,rfl,rfl,mulL (by decide) (by decide),_,rfl,b,_,_,rfl,rfl,hL,_,_,rfl,rfl,mulR (by omega) (by omega),_,_,rfl,rfl,_,_,rfl,rfl,_,_,rfl,rfl,modOk (by decide),_,rfl,b,_,_,0,rfl,rfl,e,rfl,?_⟩
   refine ⟨_,rfl,b,_,_,rfl,rfl,SqL.of upd_same,_,_,rfl,rfl,_,rfl,b,_,_,1,rfl,rfl,upd_same,rfl,?_⟩
   refine ⟨_,rfl,b,_,_,rfl,rfl,SqL.of upd_same,_,_,rfl,rfl,mulR (by decide) (by decide),_,_,rfl,rfl,modOk (by decide),_,rfl,_,_,rfl,rfl,hm,?_⟩
   exact q _ _ (Int.emod_nonneg _ (by omega)) (Int.emod_lt_of_pos _ hm) ⟨_,y + 1,upd_same,by omega,by omega⟩ ((SameX.upd b H _).trans (SameX.upd b _ _))
end
end Sb
namespace Sb
open PySem L2
section
variable {P:Program} {w:World} {K:PySem.W.Frag} {mg:Str->Option Value} {base:Heap}
inductive spGcd (vs:List V) (H:Hp) (Q:VK) (_z3:XK):Prop
 | mk (a b:Int) (zz0:vs=[.int a,.int b]) (zz1:Q (.int (Int.gcd a b:Nat)) H)
theorem scGcd:FnScope ["one","other","rest"] ["one","other"] (defScope sCommonDivisor):=⟨rfl,rfl,rfl,by decide +kernel,rfl,by decide +kernel,by decide +kernel⟩
def muGcd (σ:St) (_:Hp):Nat:=match σ with
 | [_,some (.int y),_]=>y.natAbs
 | _=>0
theorem ne_test {y:Int} (h:(!decide (V.int y=V.int 0))=true):y ≠ 0:=by
 intro z
 subst z
 simp at h
theorem eq_test {y:Int} (h:¬ (!decide (V.int y=V.int 0))=true):y=0:=by
 apply Classical.byContradiction
 intro z
 apply h
 have:¬ V.int y=V.int 0:=fun q=>z (V.int.inj q)
 simp [this]
theorem okGcd (D:Def K mg "common_divisor" sCommonDivisor ["one","other"]) (T:Blt mg):Has P w K mg base 1 "common_divisor" ["one","other"] spGcd:=by
 refine D.has fun f fd F=>F.ok scGcd (fun vs H Q E h=>?_) (fun cdv A outer s H vs Q E hr h=>?_)
 ·obtain ⟨a,b,rfl,_⟩:=h
  rfl
 ·obtain ⟨a,b,rfl,q⟩:=h
  have sc:=scGcd
  refine ⟨_,(pss_cons (ps_while PassesOwn.never (pt_cmpR op_ne (pv 1) pe_int (nomark _))
    (pss_cons (ps_set (i:=2) sc.nd rfl (Or.inl rfl) (pe_op op_modN (pv 0) (pv 1)))
    (pss_cons (ps_set (i:=0) sc.nd rfl (Or.inl rfl) (pv 1))
    (pss_one (ps_set (i:=1) sc.nd rfl (Or.inl rfl) (pv 2))))))
   (pss_one (ps_ret (pe_callB call_abs rfl T.abs PyProof.Rows.boot_abs (pa_cons (pv 0) pa_nil))))),?_⟩
  refine while_by (fun σ H'=>H'=H/\∃ (x y:Int) (r:Option V),σ=[some (.int x),some (.int y),r]/\Int.gcd x y=Int.gcd a b) muGcd ⟨rfl,a,b,none,rfl,rfl⟩ ?_
   (fun σ H Q Q' f ⟨v,e,e1,k,e3,z⟩=>⟨v,e,e1,k,e3,f _ _ z⟩)
  rintro σ H' ⟨rfl,x,y,r,rfl,hg⟩
  refine ⟨_,rfl,rfl,_,rfl,?_⟩
  refine ite2 (fun h=>?_) (fun h=>?_)
  ·have h':y ≠ 0:=ne_test h
   refine ⟨_,rfl,_,rfl,_,_,rfl,rfl,h',?_⟩
   refine ⟨_,rfl,_,rfl,⟨rfl,y,x.fmod y,_,rfl,(gcd_fstep x y).trans hg⟩,?_⟩
   exact fmod_abs x h'
  ·have h':y=0:=eq_test h
   subst h'
   refine ⟨_,rfl,_,rfl,?_⟩
   have e:(if x < 0 then -x else x)=((Int.gcd a b:Nat):Int):=by
    rw [← hg]
    simp
    split <;> omega
   rw [e]
   exact q
inductive spLowest (vs:List V) (H:Hp) (Q:VK) (_z3:XK):Prop
 | mk (p q:Int) (zz0:vs=[.int p,.int q]) (zz1:q ≠ 0) (zz2:q.natAbs.log2 < 9000) (zz3:∀ a H',H a=none->Same H H'->H' a=some (.tup [.int (nT p q),.int (nB p q)])->Q (.ref a) H')
theorem scLowest:FnScope ["top","bottom","divisor"] ["top","bottom"] (defScope sLowest):=⟨rfl,rfl,rfl,by decide +kernel,rfl,by decide +kernel,by decide +kernel⟩
theorem okLowest (D:Def K mg "lowest" sLowest ["top","bottom"]) (hCommonDivisor:Has P w K mg base 1 "common_divisor" ["one","other"] spGcd):Has P w K mg base 2 "lowest" ["top","bottom"] spLowest:=by
 refine D.has fun f fd F=>F.ok scLowest (fun vs H Q E h=>?_) (fun cdv A outer s H vs Q E hr h=>?_)
 ·obtain ⟨a,b,rfl,_⟩:=h
  rfl
 ·obtain ⟨p,q,rfl,hq,hlog,k⟩:=h
  have sc:=scLowest
  refine ⟨_,(pss_cons (ps_set (i:=2) sc.nd rfl (Or.inl rfl) (pe_use hCommonDivisor (hr.mono (by decide)) rfl (pa_cons (pv 0) (pa_cons (pv 1) pa_nil))))
   (pss_cons (ps_join (ps_if (pt_cmpR op_lt (pv 1) pe_int (nomark _))
    (pss_one (ps_set (i:=2) sc.nd rfl (Or.inl rfl) (pe_un un_neg (pv 2))))
    pss_nil))
   (pss_one (ps_ret (pe_tup (pa_cons (pe_op op_divB (pv 0) (pv 2)) (pa_cons (pe_op op_divB (pv 1) (pv 2)) pa_nil))))))),?_⟩
  refine ⟨_,rfl,_,rfl,_,_,rfl,?_⟩
  refine ⟨fun σ H'=>H'=H/\σ=[some (.int p),some (.int q),some (.int (sg p q))],?_,?_⟩
  ·refine ⟨_,rfl,_,_,rfl,rfl,_,rfl,?_⟩
   refine ite2 (fun h=>?_) (fun h=>?_)
   ·have h':q < 0:=of_decide_eq_true h
    refine ⟨_,rfl,_,rfl,rfl,?_⟩
    have e:sg p q=-((Int.gcd p q:Nat):Int):=by unfold sg gI; rw [if_pos h']
    rw [e]
    rfl
   ·have h':¬ q < 0:=fun z=>h (decide_eq_true z)
    refine ⟨rfl,?_⟩
    have e:sg p q=((Int.gcd p q:Nat):Int):=by unfold sg gI; rw [if_neg h']
    rw [e]
    rfl
  ·rintro σ H' ⟨rfl,rfl⟩
   refine ⟨_,rfl,_,rfl,_,_,rfl,rfl,⟨sg_ne hq,sg_log hq hlog⟩,_,rfl,_,rfl,_,_,rfl,rfl,⟨sg_ne hq,sg_log hq hlog⟩,(by show 2<=sizeLine; decide),fun a ha=>?_⟩
   exact k a _ ha (Same.new ha) upd_same
end
end Sb
namespace Sb
open PySem L2
section
variable {P:Program} {w:World} {K:PySem.W.Frag} {mg:Str->Option Value} {base:Heap}
inductive spTwo (K:PySem.W.Frag) (op:Rat->Rat->Rat) (vs:List V) (H:Hp) (Q:VK) (_z3:XK):Prop
 | mk (a b:Addr) (r s:Rat) (n:Nat) (zz0:vs=[.ref a,.ref b]) (zz1:SqT K H a [.int r.1,.int r.2]) (zz2:SqT K H b [.int s.1,.int s.2]) (zz3:Good n r) (zz4:Good n s) (zz5:n<=4000) (zz6:∀ c H',H c=none->Same H H'->H' c=some (.tup [.int (op r s).1,.int (op r s).2])->Q (.ref c) H')
theorem log_mul {n:Nat} {x y:Int} (h:Bd n x) (k:Bd n y) (hn:n<=4000):(x * y).natAbs.log2 < 9000:=Bd.log (h.mul k) (by omega)
end
end Sb
namespace Sb
open PySem L2
section
variable {P:Program} {w:World} {K:PySem.W.Frag} {mg:Str->Option Value} {base:Heap}
theorem scLPlus:FnScope ["_law_one","_law_other"] ["_law_one","_law_other"] (defScope sLPlus):=⟨rfl,rfl,rfl,by decide +kernel,rfl,by decide +kernel,by decide +kernel⟩
theorem okLPlus (D:Def K mg "_law_plus" sLPlus ["_law_one","_law_other"]) (hLawLow:Has P w K mg base 2 "_law_low" ["_law_top","_law_bottom"] spLow):Has P w K mg base 3 "_law_plus" ["_law_one","_law_other"] (spTwo K addR):=by
 refine D.has fun f fd F=>F.ok scLPlus (fun vs H Q E h=>?_) (fun cdv A outer s H vs Q E hr h=>?_)
 ·obtain ⟨a,b,r,s,n,rfl,_⟩:=h
  rfl
 ·obtain ⟨a,b,r,s,n,rfl,hA,hB,gr,gs,hn,k⟩:=h
  have sc:=scLPlus
  refine ⟨_,(pss_one (ps_ret (pe_use hLawLow (hr.mono (by decide)) rfl (pa_cons (pe_op op_add (pe_op op_mulB (pe_ix ix_p0 (pv 0) pe_int (fun _ _=>rfl)) (pe_ix ix_p1 (pv 1) pe_int (fun _ _=>rfl))) (pe_op op_mulB (pe_ix ix_p0 (pv 1) pe_int (fun _ _=>rfl)) (pe_ix ix_p1 (pv 0) pe_int (fun _ _=>rfl)))) (pa_cons (pe_op op_mulB (pe_ix ix_p1 (pv 0) pe_int (fun _ _=>rfl)) (pe_ix ix_p1 (pv 1) pe_int (fun _ _=>rfl))) pa_nil))))),?_⟩
  exact ⟨_,rfl,_,_,_,rfl,rfl,hA,_,rfl,_,_,_,rfl,rfl,hB,_,_,rfl,rfl,gr.b1.mulOk gs.b2 (by omega) (by omega),_,rfl,_,_,_,rfl,rfl,hB,_,rfl,_,_,_,rfl,rfl,hA,_,_,rfl,rfl,gs.b1.mulOk gr.b2 (by omega) (by omega),_,_,rfl,rfl,_,rfl,_,_,_,rfl,rfl,hA,_,rfl,_,_,_,rfl,rfl,hB,_,_,rfl,rfl,gr.b2.mulOk gs.b2 (by omega) (by omega),_,_,rfl,Int.mul_pos gr.pos gs.pos,log_mul gr.b2 gs.b2 hn,k⟩
theorem scLMinus:FnScope ["_law_one","_law_other"] ["_law_one","_law_other"] (defScope sLMinus):=⟨rfl,rfl,rfl,by decide +kernel,rfl,by decide +kernel,by decide +kernel⟩
theorem okLMinus (D:Def K mg "_law_minus" sLMinus ["_law_one","_law_other"]) (hLawLow:Has P w K mg base 2 "_law_low" ["_law_top","_law_bottom"] spLow):Has P w K mg base 3 "_law_minus" ["_law_one","_law_other"] (spTwo K subR):=by
 refine D.has fun f fd F=>F.ok scLMinus (fun vs H Q E h=>?_) (fun cdv A outer s H vs Q E hr h=>?_)
 ·obtain ⟨a,b,r,s,n,rfl,_⟩:=h
  rfl
 ·obtain ⟨a,b,r,s,n,rfl,hA,hB,gr,gs,hn,k⟩:=h
  have sc:=scLMinus
  refine ⟨_,(pss_one (ps_ret (pe_use hLawLow (hr.mono (by decide)) rfl (pa_cons (pe_op op_sub (pe_op op_mulB (pe_ix ix_p0 (pv 0) pe_int (fun _ _=>rfl)) (pe_ix ix_p1 (pv 1) pe_int (fun _ _=>rfl))) (pe_op op_mulB (pe_ix ix_p0 (pv 1) pe_int (fun _ _=>rfl)) (pe_ix ix_p1 (pv 0) pe_int (fun _ _=>rfl)))) (pa_cons (pe_op op_mulB (pe_ix ix_p1 (pv 0) pe_int (fun _ _=>rfl)) (pe_ix ix_p1 (pv 1) pe_int (fun _ _=>rfl))) pa_nil))))),?_⟩
  exact ⟨_,rfl,_,_,_,rfl,rfl,hA,_,rfl,_,_,_,rfl,rfl,hB,_,_,rfl,rfl,gr.b1.mulOk gs.b2 (by omega) (by omega),_,rfl,_,_,_,rfl,rfl,hB,_,rfl,_,_,_,rfl,rfl,hA,_,_,rfl,rfl,gs.b1.mulOk gr.b2 (by omega) (by omega),_,_,rfl,rfl,_,rfl,_,_,_,rfl,rfl,hA,_,rfl,_,_,_,rfl,rfl,hB,_,_,rfl,rfl,gr.b2.mulOk gs.b2 (by omega) (by omega),_,_,rfl,Int.mul_pos gr.pos gs.pos,log_mul gr.b2 gs.b2 hn,k⟩
theorem scLTimes:FnScope ["_law_one","_law_other"] ["_law_one","_law_other"] (defScope sLTimes):=⟨rfl,rfl,rfl,by decide +kernel,rfl,by decide +kernel,by decide +kernel⟩
theorem okLTimes (D:Def K mg "_law_times" sLTimes ["_law_one","_law_other"]) (hLawLow:Has P w K mg base 2 "_law_low" ["_law_top","_law_bottom"] spLow):Has P w K mg base 3 "_law_times" ["_law_one","_law_other"] (spTwo K mulR'):=by
 refine D.has fun f fd F=>F.ok scLTimes (fun vs H Q E h=>?_) (fun cdv A outer s H vs Q E hr h=>?_)
 ·obtain ⟨a,b,r,s,n,rfl,_⟩:=h
  rfl
 ·obtain ⟨a,b,r,s,n,rfl,hA,hB,gr,gs,hn,k⟩:=h
  have sc:=scLTimes
  refine ⟨_,(pss_one (ps_ret (pe_use hLawLow (hr.mono (by decide)) rfl (pa_cons (pe_op op_mulB (pe_ix ix_p0 (pv 0) pe_int (fun _ _=>rfl)) (pe_ix ix_p0 (pv 1) pe_int (fun _ _=>rfl))) (pa_cons (pe_op op_mulB (pe_ix ix_p1 (pv 0) pe_int (fun _ _=>rfl)) (pe_ix ix_p1 (pv 1) pe_int (fun _ _=>rfl))) pa_nil))))),?_⟩
  exact ⟨_,rfl,_,_,_,rfl,rfl,hA,_,rfl,_,_,_,rfl,rfl,hB,_,_,rfl,rfl,gr.b1.mulOk gs.b1 (by omega) (by omega),_,rfl,_,_,_,rfl,rfl,hA,_,rfl,_,_,_,rfl,rfl,hB,_,_,rfl,rfl,gr.b2.mulOk gs.b2 (by omega) (by omega),_,_,rfl,Int.mul_pos gr.pos gs.pos,log_mul gr.b2 gs.b2 hn,k⟩
end
end Sb
namespace Sb
open PySem L2
theorem p6:(10:Int) ^ (6:Int).toNat=1000000:=by decide +kernel
theorem lg6:(2 * (10:Int) ^ (6:Int).toNat + 1).natAbs.log2 < 9000:=by decide +kernel
theorem bd21 {x:Int} (h1:-2000000 < x) (h2:x < 2000000):Bd 21 x:=by
 unfold Bd
 have e:(2:Nat) ^ 21=2097152:=by decide
 rw [e]
 omega
theorem size1000 {n:Nat} (h:n<=1000):n<=sizeLine:=Nat.le_trans h (by decide)
theorem nrm_self {r:Rat} (hp:0 < r.2) (hc:Int.gcd r.1 r.2=1):nrm r.1 r.2=r:=by
 have e:=n_cross r.1 r.2
 have hq:r.2 ≠ 0:=by omega
 refine rat_unique (nB_pos hq) hp (n_gcd hq) hc ?_
 exact e
section
variable {P:Program} {w:World} {K:PySem.W.Frag} {mg:Str->Option Value} {base:Heap}
inductive spWhole (vs:List V) (H:Hp) (Q:VK) (_z3:XK):Prop
 | mk (i:Int) (zz0:vs=[.int i]) (zz1:Q (.bl true) H)
theorem scWhole:FnScope ["_law_found"] ["_law_found"] (defScope sWhole):=⟨rfl,rfl,rfl,by decide +kernel,rfl,by decide +kernel,by decide +kernel⟩
theorem okWhole (D:Def K mg "_law_whole" sWhole ["_law_found"]) (T:Blt mg):Has P w K mg base 1 "_law_whole" ["_law_found"] spWhole:=by
 refine D.has fun f fd F=>F.ok scWhole (fun vs H Q E h=>?_) (fun cdv A outer s H vs Q E hr h=>?_)
 ·obtain ⟨i,rfl,_⟩:=h
  rfl
 ·obtain ⟨i,rfl,q⟩:=h
  have sc:=scWhole
  refine ⟨_,(pss_one (ps_ret (pe_and (pe_callB call_isinst rfl T.isinstance PyProof.Rows.boot_isinstance (pa_cons (pv 0) (pa_cons (pe_ty T.int PyProof.Rows.boot_int) pa_nil))) (pe_one (pe_not (pe_callB call_isinst rfl T.isinstance PyProof.Rows.boot_isinstance (pa_cons (pv 0) (pa_cons (pe_ty T.bool PyProof.Rows.boot_bool) pa_nil)))))))),?_⟩
  refine ⟨_,rfl,_,_,_,_,rfl,TyOf.int i,kit_same,_,rfl,iteT ?_⟩
  exact ⟨_,rfl,_,_,_,_,rfl,TyOf.int i,kit_int_bool,_,rfl,q⟩
inductive spIsRt (K:PySem.W.Frag) (vs:List V) (H:Hp) (Q:VK) (_z3:XK):Prop
 | mk (a:Addr) (r:Rat) (n:Nat) (zz0:vs=[.ref a]) (zz1:SqT K H a [.int r.1,.int r.2]) (zz2:Good n r) (zz3:n<=8000) (zz4:∀ H',Same H H'->Q (.bl true) H')
theorem scIsRt:FnScope ["_law_found"] ["_law_found"] (defScope sIsRatio):=⟨rfl,rfl,rfl,by decide +kernel,rfl,by decide +kernel,by decide +kernel⟩
theorem okIsRt (D:Def K mg "_law_is_ratio" sIsRatio ["_law_found"]) (T:Blt mg) (hLawWhole:Has P w K mg base 1 "_law_whole" ["_law_found"] spWhole) (hLawLow:Has P w K mg base 2 "_law_low" ["_law_top","_law_bottom"] spLow):Has P w K mg base 3 "_law_is_ratio" ["_law_found"] (spIsRt K):=by
 refine D.has fun f fd F=>F.ok scIsRt (fun vs H Q E h=>?_) (fun cdv A outer s H vs Q E hr h=>?_)
 ·obtain ⟨a,r,n,rfl,_⟩:=h
  rfl
 ·obtain ⟨a,r,n,rfl,hA,g,hn,k⟩:=h
  have hU:=Nat.lt_of_succ_lt (hu_of hr)
  have sc:=scIsRt
  refine ⟨_,(pss_cons (ps_if (PW.pt (pw_or (pt_not (pt_val (pe_callB call_isinstT rfl T.isinstance PyProof.Rows.boot_isinstance (pa_cons (pv 0) (pa_cons (pe_ty T.tuple PyProof.Rows.boot_tuple) pa_nil))))) (pw_or1 (pt_cmpR op_ne (pe_callB call_len_seq rfl T.len boot_len (pa_cons (pv 0) pa_nil)) pe_int (nomark _)))))
    (pss_one (ps_ret pe_bl))
    pss_nil)
   (pss_cons (ps_if (PW.pt (pw_or (pt_not (pt_val (pe_use hLawWhole (hr.mono (by decide)) rfl (pa_cons (pe_ix ix_p0 (pv 0) pe_int (fun _ _=>rfl)) pa_nil)))) (pw_or (pt_not (pt_val (pe_use hLawWhole (hr.mono (by decide)) rfl (pa_cons (pe_ix ix_p1 (pv 0) pe_int (fun _ _=>rfl)) pa_nil)))) (pw_or1 (pt_cmpR op_lt (pe_ix ix_p1 (pv 0) pe_int (fun _ _=>rfl)) pe_int (nomark _))))))
    (pss_one (ps_ret pe_bl))
    pss_nil)
   (pss_one (ps_ret (pe_cmpR (op_eqI (K:=K) hU) (pe_use hLawLow (hr.mono (by decide)) rfl (pa_cons (pe_ix ix_p0 (pv 0) pe_int (fun _ _=>rfl)) (pa_cons (pe_ix ix_p1 (pv 0) pe_int (fun _ _=>rfl)) pa_nil))) (pv 0) (nomark _)))))),?_⟩
  refine ⟨_,rfl,_,_,_,_,rfl,hA,kit_same,_,rfl,iteF ?_⟩
  refine ⟨_,rfl,a,_,rfl,.inr hA,rfl,_,rfl,iteNS rfl ?_⟩
  refine ⟨_,rfl,_,_,_,rfl,rfl,hA,_,rfl,_,rfl,iteF ?_⟩
  refine ⟨_,rfl,_,_,_,rfl,rfl,hA,_,rfl,_,rfl,iteF ?_⟩
  refine ⟨_,rfl,_,_,_,rfl,rfl,hA,_,_,rfl,rfl,_,rfl,?_⟩
  have pos:=g.pos
  have e0:decide (r.2 < 1)=false:=decide_eq_false (by omega)
  rw [e0]
  refine iteF ?_
  refine ⟨_,rfl,_,_,_,rfl,rfl,hA,_,rfl,_,_,_,rfl,rfl,hA,_,_,rfl,pos,g.b2.log (by omega),fun c H2 fc S2 e2=>?_⟩
  have en:=nrm_self pos g.cop
  have e2':H2 c=some (.tup ([r.1,r.2].map V.int)):=by
   rw [e2]
   show some (HO.tup [.int (nrm r.1 r.2).1,.int (nrm r.1 r.2).2])=_
   rw [en]
   rfl
  have hA2:SqT K H2 a ([r.1,r.2].map V.int):=sameT S2 hA
  refine ⟨_,rfl,c,a,[r.1,r.2],[r.1,r.2],rfl,rfl,SqT.of e2',hA2,?_⟩
  rw [decide_eq_true rfl]
  exact k _ S2
inductive spParted (K:PySem.W.Frag) (vs:List V) (H:Hp) (Q:VK) (_z3:XK):Prop
 | mk (a b:Addr) (r s:Rat) (n:Nat) (zz0:vs=[.ref a,.ref b]) (zz1:SqT K H a [.int r.1,.int r.2]) (zz2:SqT K H b [.int s.1,.int s.2]) (zz3:Good n r) (zz4:Good n s) (zz5:0 < s.1) (zz6:n<=4000) (zz7:∀ c H',H c=none->Same H H'->H' c=some (.tup [.int (nrm (r.1 * s.2) (r.2 * s.1)).1,.int (nrm (r.1 * s.2) (r.2 * s.1)).2])->Q (.ref c) H')
theorem scParted:FnScope ["_law_one","_law_other","_law_top","_law_bottom"] ["_law_one","_law_other"] (defScope sParted):=⟨rfl,rfl,rfl,by decide +kernel,rfl,by decide +kernel,by decide +kernel⟩
theorem okParted (D:Def K mg "_law_parted" sParted ["_law_one","_law_other"]) (hLawLow:Has P w K mg base 2 "_law_low" ["_law_top","_law_bottom"] spLow):Has P w K mg base 3 "_law_parted" ["_law_one","_law_other"] (spParted K):=by
 refine D.has fun f fd F=>F.ok scParted (fun vs H Q E h=>?_) (fun cdv A outer s H vs Q E hr h=>?_)
 ·obtain ⟨a,b,r,s,n,rfl,_⟩:=h
  rfl
 ·obtain ⟨a,b,r,s,n,rfl,hA,hB,gr,gs,hs,hn,k⟩:=h
  have sc:=scParted
  refine ⟨_,(pss_cons (ps_set (i:=2) sc.nd rfl (Or.inl rfl) (pe_op op_mulB (pe_ix ix_p0 (pv 0) pe_int (fun _ _=>rfl)) (pe_ix ix_p1 (pv 1) pe_int (fun _ _=>rfl))))
   (pss_cons (ps_set (i:=3) sc.nd rfl (Or.inl rfl) (pe_op op_mulB (pe_ix ix_p1 (pv 0) pe_int (fun _ _=>rfl)) (pe_ix ix_p0 (pv 1) pe_int (fun _ _=>rfl))))
   (pss_cons (ps_if (pt_cmpR op_lt (pv 3) pe_int (nomark _))
    (pss_one (ps_ret (pe_use hLawLow (hr.mono (by decide)) rfl (pa_cons (pe_un un_neg (pv 2)) (pa_cons (pe_un un_neg (pv 3)) pa_nil)))))
    pss_nil)
   (pss_one (ps_ret (pe_use hLawLow (hr.mono (by decide)) rfl (pa_cons (pv 2) (pa_cons (pv 3) pa_nil)))))))),?_⟩
  have hp:=Int.mul_pos gr.pos hs
  refine ⟨_,rfl,_,_,_,rfl,rfl,hA,_,rfl,_,_,_,rfl,rfl,hB,_,_,rfl,rfl,gr.b1.mulOk gs.b2 (by omega) (by omega),?_⟩
  refine ⟨_,rfl,_,_,_,rfl,rfl,hA,_,rfl,_,_,_,rfl,rfl,hB,_,_,rfl,rfl,gr.b2.mulOk gs.b1 (by omega) (by omega),?_⟩
  refine ⟨_,rfl,_,_,rfl,rfl,_,rfl,?_⟩
  refine ite2 (fun h=>?_) (fun h=>?_)
  ·have:=of_decide_eq_true h
   omega
  ·exact ⟨_,rfl,_,rfl,_,_,rfl,hp,log_mul gr.b2 gs.b1 hn,k⟩
end
end Sb
namespace Sb
open PySem L2
section
variable {K:PySem.W.Frag} {H:Hp} {Q:VK} {a b:Addr} {rs ss:List Rat}
theorem RowAt.same {H':Hp} (h:RowAt K H a rs) (S:Same H H'):RowAt K H' a rs:=h.ext (Ext.same S)
end
theorem natOf {z m:Int} (h0:0<=z) (h1:z < m):∃ i:Nat,z=(i:Int)/\(i:Int) < m:=⟨z.toNat,by omega,by omega⟩
theorem log1000 {c:Nat} (h:c<=1000):(c:Int).natAbs.log2 < 9000:=by
 have e:(c:Int).natAbs=c:=by omega
 rw [e]
 rcases Nat.eq_zero_or_pos c with z | z
 ·subst z; decide
 ·exact Nat.lt_of_le_of_lt (Nat.log2_le_self c) (by omega)
theorem bdS {n:Nat} {x:Int} (h:x.natAbs < 2 ^ n):Bd n x:=h
end Sb
namespace Sb
open PySem L2
end Sb
namespace Sb
open PySem L2
section
variable {P:Program} {w:World} {K:PySem.W.Frag} {mg:Str->Option Value} {base:Heap}
theorem scIsWhole:FnScope ["value"] ["value"] (defScope sIsWhole):=⟨rfl,rfl,rfl,by decide +kernel,rfl,by decide +kernel,by decide +kernel⟩
theorem okIsWhole (D:Def K mg "is_whole" sIsWhole ["value"]) (T:Blt mg):Has P w K mg base 1 "is_whole" ["value"] spWhole:=by
 refine D.has fun f fd F=>F.ok scIsWhole (fun vs H Q E h=>?_) (fun cdv A outer s H vs Q E hr h=>?_)
 ·obtain ⟨i,rfl,_⟩:=h
  rfl
 ·obtain ⟨i,rfl,q⟩:=h
  have sc:=scIsWhole
  refine ⟨_,(pss_one (ps_ret (pe_and (pe_callB call_isinst rfl T.isinstance PyProof.Rows.boot_isinstance (pa_cons (pv 0) (pa_cons (pe_ty T.int PyProof.Rows.boot_int) pa_nil))) (pe_one (pe_not (pe_callB call_isinst rfl T.isinstance PyProof.Rows.boot_isinstance (pa_cons (pv 0) (pa_cons (pe_ty T.bool PyProof.Rows.boot_bool) pa_nil)))))))),?_⟩
  refine ⟨_,rfl,_,_,_,_,rfl,TyOf.int i,kit_same,_,rfl,iteT ?_⟩
  exact ⟨_,rfl,_,_,_,_,rfl,TyOf.int i,kit_int_bool,_,rfl,q⟩
end
end Sb
namespace Sb
open PySem L2
section
variable {P:Program} {w:World} {K:PySem.W.Frag} {mg:Str->Option Value} {base:Heap}
theorem scRatioP:FnScope ["top","bottom"] ["top","bottom"] (defScope sRatioP):=⟨rfl,rfl,rfl,by decide +kernel,rfl,by decide +kernel,by decide +kernel⟩
theorem okRatio0 (D:Def K mg "ratio" sRatioP ["top","bottom"]) (hIsWhole:Has P w K mg base 1 "is_whole" ["value"] spWhole) (hLowest:Has P w K mg base 2 "lowest" ["top","bottom"] spLowest):Has P w K mg base 3 "ratio" ["top","bottom"] spLowest:=by
 refine D.has fun f fd F=>F.ok scRatioP (fun vs H Q E h=>?_) (fun cdv A outer s H vs Q E hr h=>?_)
 ·obtain ⟨p,q,rfl,_⟩:=h
  rfl
 ·obtain ⟨p,q,rfl,hq,hlog,k⟩:=h
  have sc:=scRatioP
  refine ⟨_,(pss_cons (ps_if (PW.pt (pw_or (pt_not (pt_val (pe_use hIsWhole (hr.mono (by decide)) rfl (pa_cons (pv 0) pa_nil)))) (pw_or1 (pt_not (pt_val (pe_use hIsWhole (hr.mono (by decide)) rfl (pa_cons (pv 1) pa_nil)))))))
    (pss_one ps_never)
    pss_nil)
   (pss_cons (ps_if (pt_cmpR op_eq (pv 1) pe_int (nomark _))
    (pss_one ps_never)
    pss_nil)
   (pss_one (ps_ret (pe_use hLowest (hr.mono (by decide)) rfl (pa_cons (pv 0) (pa_cons (pv 1) pa_nil))))))),?_⟩
  refine ⟨_,rfl,p,rfl,_,rfl,iteF ⟨_,rfl,q,rfl,_,rfl,iteF ?_⟩⟩
  refine ⟨_,rfl,rfl,_,rfl,iteD0 (fun z=>hq (V.int.inj z)) ?_⟩
  exact ⟨_,rfl,_,rfl,p,q,rfl,hq,hlog,k⟩
end
end Sb
namespace Sb
open PySem L2
structure Six (r:Rat):Prop where
 g:Good 21 r
 d:r.2 ∣ 6
theorem nB_dvd (p q:Int):nB p q ∣ q:=⟨sg p q,(nB_mul p q).symm⟩
theorem six_nrm {p q:Int} (h1:-2000000 < p) (h2:p < 2000000) (hq:q=1 \/ q=2 \/ q=3):Six (nrm p q):=by
 refine ⟨nrm_good (bd21 h1 h2) (bd21 (by omega) (by omega)) (by omega),Int.dvd_trans (nB_dvd p q) ?_⟩
 rcases hq with rfl | rfl | rfl
 ·exact ⟨6,rfl⟩
 ·exact ⟨3,rfl⟩
 ·exact ⟨2,rfl⟩
theorem Six.rep {r:Rat} (h:Six r):r.1 * 6=(r.1 * (6:Int).fdiv r.2) * r.2/\Bd 24 (r.1 * (6:Int).fdiv r.2):=by
 refine ⟨wholeB_rep h.d,?_⟩
 have:Bd 3 ((6:Int).fdiv r.2):=by
  refine Bd.of_le (fdiv_le (by decide) h.g.pos) ?_
  show (6:Int).natAbs < 2 ^ 3
  decide
 exact h.g.b1.mul this
theorem bd_pow {n:Nat} {x:Int} (m:Nat) (h:x.natAbs < 2 ^ m) (k:m<=n):Bd n x:=Bd.mono (m:=m) h k
theorem RepL.six {rs:List Rat} (h:∀ r ∈ rs,Six r):RepL 24 6 (wholeB rs 6) rs:=by
 refine ⟨by decide,bd_pow 3 (by decide) (by decide),by unfold wholeB; rw [List.length_map],fun i W r hW hr=>?_⟩
 unfold wholeB at hW
 rw [List.getElem?_map,hr] at hW
 cases hW
 have:=h r (List.mem_of_getElem? hr)
 exact ⟨this.rep.1,this.rep.2,this.g.low⟩
section
variable {P:Program} {w:World} {K:PySem.W.Frag} {mg:Str->Option Value} {base:Heap}
inductive spSmall6 (K:PySem.W.Frag) (vs:List V) (H:Hp) (Q:VK) (_z3:XK):Prop
 | mk (b:Addr) (n:Nat) (zz0:vs=[.ref b]) (zz1:BagAt H b n) (zz2:n<=1000000) (zz3:∀ (a:Addr) (H':Hp) (r:Rat),BagAt H' b (n + 3)->SameX b H H'->H' a=some (.tup [.int r.1,.int r.2])->Six r->Q (.ref a) H')
theorem scSmall6:FnScope ["_law_bag_here","_law_bottom"] ["_law_bag_here"] (defScope sSmall):=⟨rfl,rfl,rfl,by decide +kernel,rfl,by decide +kernel,by decide +kernel⟩
theorem okSmall6 (D:Def K mg "_law_small" sSmall ["_law_bag_here"]) (hLawTake:Has P w K mg base 1 "_law_take" ["_law_bag_here","_law_many"] spTake) (hLawLow:Has P w K mg base 2 "_law_low" ["_law_top","_law_bottom"] spLow) :
  Has P w K mg base 3 "_law_small" ["_law_bag_here"] (spSmall6 K):=by
 refine D.has fun f fd F=>F.ok scSmall6 (fun vs H Q E h=>?_) (fun cdv A outer s H vs Q E hr h=>?_)
 ·obtain ⟨b,n,rfl,_⟩:=h
  rfl
 ·obtain ⟨b,n,rfl,hB,hn,k⟩:=h
  have sc:=scSmall6
  refine ⟨_,(pss_cons (ps_set (i:=1) sc.nd rfl (Or.inl rfl) (pe_ix ix_list (pe_lst (pa_cons pe_int (pa_cons pe_int (pa_cons pe_int (pa_cons pe_int pa_nil))))) (pe_use hLawTake (hr.mono (by decide)) rfl (pa_cons (pv 0) (pa_cons pe_int pa_nil))) (fun _ _=>rfl)))
   (pss_cons (ps_if (pt_cmpR op_eq (pe_use hLawTake (hr.mono (by decide)) rfl (pa_cons (pv 0) (pa_cons pe_int pa_nil))) pe_int (nomark _))
    (pss_one (ps_ret (pe_use hLawLow (hr.mono (by decide)) rfl (pa_cons (pe_op op_sub (pe_use hLawTake (hr.mono (by decide)) rfl (pa_cons (pv 0) (pa_cons (pe_op op_add (pe_op op_mulB pe_int (pe_op op_pow pe_int pe_int)) pe_int) pa_nil))) (pe_op op_pow pe_int pe_int)) (pa_cons (pv 1) pa_nil)))))
    pss_nil)
   (pss_one (ps_ret (pe_use hLawLow (hr.mono (by decide)) rfl (pa_cons (pe_op op_sub (pe_use hLawTake (hr.mono (by decide)) rfl (pa_cons (pv 0) (pa_cons pe_int pa_nil))) pe_int) (pa_cons (pv 1) pa_nil))))))),?_⟩
  refine ⟨(by show 4<=sizeLine; decide),fun l hl=>?_⟩
  have S0:Same H (upd H l (.lst [.int 1,.int 1,.int 2,.int 3])):=Same.new hl
  have e0:upd H l (.lst [.int 1,.int 1,.int 2,.int 3]) l=some (.lst [.int 1,.int 1,.int 2,.int 3]):=upd_same
  generalize upd H l (.lst [.int 1,.int 1,.int 2,.int 3])=H0 at *
  have hbl:l ≠ b:=by
   obtain ⟨ys,e⟩:=hB.lst
   exact (ne_of_none e hl).symm
  refine ⟨_,rfl,b,_,n,rfl,hB.same S0,by omega,by decide,by decide +kernel,fun r1 H1 r10 r11 B1 S1=>?_⟩
  obtain ⟨q,eq,hq⟩:∃ q:Int,atI [V.int 1,.int 1,.int 2,.int 3] r1=some (.int q)/\(q=1 \/ q=2 \/ q=3):=by
   have h:r1=0 \/ r1=1 \/ r1=2 \/ r1=3:=by omega
   rcases h with rfl | rfl | rfl | rfl
   ·exact ⟨1,atI_nat (j:=0) rfl,.inl rfl⟩
   ·exact ⟨1,atI_nat (j:=1) rfl,.inl rfl⟩
   ·exact ⟨2,atI_nat (j:=2) rfl,.inr (.inl rfl)⟩
   ·exact ⟨3,atI_nat (j:=3) rfl,.inr (.inr rfl)⟩
  refine ⟨l,_,_,_,rfl,rfl,SqL.of (S1 _ _ e0 hbl),eq,?_⟩
  have bq:Bd 21 q:=bd21 (by omega) (by omega)
  refine ⟨_,rfl,b,_,n + 1,rfl,B1,by omega,by decide,by decide +kernel,fun r2 H2 r20 r21 B2 S2=>⟨rfl,_,rfl,?_⟩⟩
  refine ite2 (fun h=>?_) (fun h=>?_)
  ·refine ⟨_,rfl,_,_,rfl,rfl,cpow (by decide) (by decide),_,_,rfl,rfl,mulL (by decide) (by decide),_,_,rfl,rfl,b,_,n + 1 + 1,rfl,B2,by omega,by rw [p6]; decide,lg6,fun r3 H3 r30 r31 B3 S3=>?_⟩
   rw [p6] at r31
   refine ⟨_,_,rfl,rfl,cpow (by decide) (by decide),_,_,rfl,rfl,_,rfl,_,_,rfl,by omega,bq.log (by decide),fun a H4 fa S4 e=>?_⟩
   rw [p6] at e
   exact k a H4 (nrm (r3 - 1000000) q) (B3.same S4) (((((SameX.of S0).trans S1).trans S2).trans S3).trans (SameX.of S4)) e (six_nrm (by omega) (by omega) hq)
  ·refine ⟨_,rfl,b,_,n + 1 + 1,rfl,B2,by omega,by decide,by decide +kernel,fun r3 H3 r30 r31 B3 S3=>⟨_,_,rfl,rfl,_,rfl,?_⟩⟩
   refine ⟨_,_,rfl,by omega,bq.log (by decide),fun a H4 fa S4 e=>?_⟩
   exact k a H4 (nrm (r3 - 8) q) (B3.same S4) (((((SameX.of S0).trans S1).trans S2).trans S3).trans (SameX.of S4)) e (six_nrm (by omega) (by omega) hq)
inductive spRow6 (K:PySem.W.Frag) (vs:List V) (H:Hp) (Q:VK) (_z3:XK):Prop
 | mk (b:Addr) (c n:Nat) (zz0:vs=[.ref b,.int c]) (zz1:BagAt H b n) (zz2:n<=100000) (zz3:c<=1000) (zz4:∀ (a:Addr) (H':Hp) (rs:List Rat),BagAt H' b (n + 3 * c)->SameX b H H'->RowAt K H' a rs->rs.length=c->(∀ r ∈ rs,Six r)->Q (.ref a) H')
theorem scRow6:FnScope ["_law_bag_here","_law_count"] ["_law_bag_here","_law_count"] (defScope sRow):=⟨rfl,rfl,rfl,by decide +kernel,rfl,by decide +kernel,by decide +kernel⟩
theorem okRow6 (D:Def K mg "_law_row" sRow ["_law_bag_here","_law_count"]) (T:Blt mg) (hLawSmall:Has P w K mg base 3 "_law_small" ["_law_bag_here"] (spSmall6 K)):Has P w K mg base 4 "_law_row" ["_law_bag_here","_law_count"] (spRow6 K):=by
 refine D.has fun f fd F=>F.ok scRow6 (fun vs H Q E h=>?_) (fun cdv A outer s H vs Q E hr h=>?_)
 ·obtain ⟨b,c,n,rfl,_⟩:=h
  rfl
 ·obtain ⟨b,c,n,rfl,hB,hn,hc,k⟩:=h
  have sc:=scRow6
  have nd1:(["_law_k","_law_bag_here"]:List Str).Nodup:=by decide +kernel
  refine ⟨_,(pss_one (ps_ret (pe_callTy call_tuple_of rfl T.tuple PyProof.Rows.boot_tuple (pa_cons (pe_comp (N:=["_law_k","_law_bag_here"]) (k:=1) (fv:=[0]) rfl (pi_range1 rfl T.range (pa_cons (pv 1) pa_nil))
   (fun _ _ _ _ _=>pg_name (i:=0) nd1 rfl (Or.inl rfl)) (fun _ _ _ _ _=>pts_nil) (fun _ _ _ _ _=>(pe_use hLawSmall (hr.mono (by decide)) rfl (pa_cons (pv 1) pa_nil))) weak_name) pa_nil)))),?_⟩
  have hBl:=hB.lst
  refine ⟨_,rfl,(c:Int),rfl,(by omega),(by omega),fun d hd=>?_⟩
  have hdb:d ≠ b:=by
   obtain ⟨ys,e⟩:=hBl
   exact (ne_of_none e hd).symm
  have et:(c:Int).toNat=c:=by omega
  rw [et]
  refine ⟨c,fun i ys H2=>∃ rs,Rs K H2 rs ys/\rs.length=i/\(∀ r ∈ rs,Six r)/\BagAt H2 b (n + 3 * i)/\SameX b H H2,size1000 hc,?_,?_,?_⟩
  ·exact ⟨[],.nil,rfl,(fun _ h=>nomatch h),hB.upd (Ne.symm hdb),SameX.of (Same.new hd)⟩
  ·rintro i ys H2 hi ⟨rs,h1,h2,h3,h4,h5⟩ hd2
   refine ⟨hi,?_⟩
   rintro x H3 ⟨rfl,rfl⟩
   refine nameyes ?_
   refine ⟨_,rfl,b,n + 3 * i,rfl,h4,by omega,fun a H4 r B4 S4 e4 g4=>?_⟩
   have E4:=Ext.bag S4 h4
   have hd4:H4 d=some (.lst ys):=S4 _ _ hd2 hdb
   have E5:Ext H4 (upd H4 d (.lst (ys ++ [.ref a]))):=Ext.upd hd4
   refine ⟨hd4,rs ++ [r],(h1.ext (E4.trans E5)).snoc ⟨a,rfl,E5.sq (SqT.of e4)⟩,by rw [List.length_append,h2]; rfl,fun r' hr'=>?_,(B4.upd (Ne.symm hdb)).mono (by omega),?_⟩
   ·rcases List.mem_append.mp hr' with z | z
    ·exact h3 r' z
    ·rw [List.mem_singleton.mp z]; exact g4
   ·exact fun q o e ne=>by
     have e2:=S4 q o (h5 q o e ne) ne
     rw [upd_ne (ne_of_none e hd)]
     exact e2
  ·rintro ys H2 ⟨rs,h1,h2,h3,h4,h5⟩ hd2
   refine ⟨Nat.le_refl _,d,ys,rfl,.inl ⟨SqL.of hd2,fun l hl=>?_⟩⟩
   have E:=Ext.new (o:=.tup ys) hl
   exact k l _ rs (h4.same (Same.new hl)) (h5.trans (SameX.of (Same.new hl))) ⟨ys,SqT.of upd_same,h1.ext E⟩ h2 h3
structure WtsR (c:Nat) (Ws:List Int) (rs:List Rat):Prop where
 len:rs.length=c
 nn:∀ W ∈ Ws,0<=W
 pos:0 < Ws.sum
 rep:RepL 10 Ws.sum Ws rs
inductive spWeightsR (K:PySem.W.Frag) (vs:List V) (H:Hp) (Q:VK) (_z3:XK):Prop
 | mk (b:Addr) (c n:Nat) (zz0:vs=[.ref b,.int c]) (zz1:BagAt H b n) (zz2:n<=100000) (zz3:1<=c) (zz4:c<=100) (zz5:∀ (a:Addr) (H':Hp) (Ws:List Int) (rs:List Rat),BagAt H' b (n + c + 1)->SameX b H H'->RowAt K H' a rs->WtsR c Ws rs->Q (.ref a) H')
theorem scWeightsR:FnScope ["_law_bag_here","_law_count","_law_parts"] ["_law_bag_here","_law_count"] (defScope sWeights):=⟨rfl,rfl,rfl,by decide +kernel,rfl,by decide +kernel,by decide +kernel⟩
theorem okWeightsR (D:Def K mg "_law_weights" sWeights ["_law_bag_here","_law_count"]) (T:Blt mg) (hLawTake:Has P w K mg base 1 "_law_take" ["_law_bag_here","_law_many"] spTake) (hLawLow:Has P w K mg base 2 "_law_low" ["_law_top","_law_bottom"] spLow) :
  Has P w K mg base 3 "_law_weights" ["_law_bag_here","_law_count"] (spWeightsR K):=by
 refine D.has fun f fd F=>F.ok scWeightsR (fun vs H Q E h=>?_) (fun cdv A outer s H vs Q E hr h=>?_)
 ·obtain ⟨b,c,n,rfl,_⟩:=h
  rfl
 ·obtain ⟨b,c,n,rfl,hB,hn,hc1,hc,k⟩:=h
  have sc:=scWeightsR
  have nd1:(["_law_k","_law_bag_here"]:List Str).Nodup:=by decide +kernel
  have nd2:(["_law_part","_law_parts"]:List Str).Nodup:=by decide +kernel
  refine ⟨_,(pss_cons (ps_set (i:=2) sc.nd rfl (Or.inr rfl) (pe_comp (N:=["_law_k","_law_bag_here"]) (k:=1) (fv:=[0]) rfl (pi_range1 rfl T.range (pa_cons (pv 1) pa_nil))
   (fun _ _ _ _ _=>pg_name (i:=0) nd1 rfl (Or.inl rfl)) (fun _ _ _ _ _=>pts_nil) (fun _ _ _ _ _=>(pe_use hLawTake (hr.mono (by decide)) rfl (pa_cons (pv 1) (pa_cons pe_int pa_nil)))) weak_name))
   (pss_cons (ps_join (ps_if (pt_cmpR op_eq (pe_callB (call_sumL (K:=K) rfl) rfl T.sum PyProof.Rows.boot_sum (pa_cons (pv 2) pa_nil)) pe_int (nomark _))
    (pss_one (ps_asg pe_int (pg_sub (pv 2) (pe_use hLawTake (hr.mono (by decide)) rfl (pa_cons (pv 0) (pa_cons (pv 1) pa_nil))) set_list)))
    pss_nil))
   (pss_one (ps_ret (pe_callTy call_tuple_of rfl T.tuple PyProof.Rows.boot_tuple (pa_cons (pe_comp (N:=["_law_part","_law_parts"]) (k:=1) (fv:=[2]) rfl (pi_list (pv 2))
   (fun _ _ _ _ _=>pg_name (i:=0) nd2 rfl (Or.inl rfl)) (fun _ _ _ _ _=>pts_nil) (fun _ _ _ _ _=>(pe_use hLawLow (hr.mono (by decide)) rfl (pa_cons (pv 0) (pa_cons (pe_callB (call_sumL (K:=K) rfl) rfl T.sum PyProof.Rows.boot_sum (pa_cons (pv 1) pa_nil)) pa_nil)))) weak_name) pa_nil)))))),?_⟩
  have hBl:=hB.lst
  refine ⟨_,rfl,(c:Int),rfl,(by omega),(by omega),fun d hd=>?_⟩
  have hdb:d ≠ b:=by
   obtain ⟨ys,e⟩:=hBl
   exact (ne_of_none e hd).symm
  have et:(c:Int).toNat=c:=by omega
  rw [et]
  refine ⟨c,fun i ys H2=>∃ ns:List Int,ys=ns.map V.int/\ns.length=i/\(∀ z ∈ ns,0<=z/\z<=4)/\BagAt H2 b (n + i)/\SameX b H H2,size1000 (by omega),?_,?_,?_⟩
  ·exact ⟨[],rfl,rfl,(fun _ h=>nomatch h),hB.upd (Ne.symm hdb),SameX.of (Same.new hd)⟩
  ·rintro i ys H2 hi ⟨ns,rfl,h2,h3,B2,S2⟩ hd2
   refine ⟨hi,?_⟩
   rintro x H3 ⟨rfl,rfl⟩
   refine nameyes ?_
   refine ⟨_,rfl,b,_,_,rfl,B2,by omega,by decide,by decide +kernel,fun r H4 r0 r1 B4 S4=>?_⟩
   have hd4:H4 d=some (.lst (ns.map V.int)):=S4 _ _ hd2 hdb
   refine ⟨hd4,ns ++ [r],by rw [List.map_append]; rfl,by rw [List.length_append,h2]; rfl,fun z hz=>?_,(B4.upd (Ne.symm hdb)).mono (by omega),?_⟩
   ·rcases List.mem_append.mp hz with z' | z'
    ·exact h3 z z'
    ·rw [List.mem_singleton.mp z']; omega
   ·exact fun q o e ne=>by
     have e2:=S4 q o (S2 q o e ne) ne
     rw [upd_ne (ne_of_none e hd)]
     exact e2
  ·rintro ys H2 ⟨ns,rfl,h2,h3,B2,S2⟩ hd2
   refine ⟨Nat.le_refl _,?_⟩
   refine ⟨fun σ H'=>σ=[some (.ref b),some (.int c),some (.ref d)]/\∃ ms:List Int,ms.length=c/\(∀ z ∈ ms,0<=z/\z<=4)/\1<=ms.sum/\H' d=some (.lst (ms.map V.int))/\BagAt H' b (n + c + 1)/\SameX b H H',?_,?_⟩
   ·refine ⟨_,rfl,d,ns,rfl,SqL.of hd2,rfl,_,rfl,?_⟩
    refine ite2 (fun h=>?_) (fun h=>?_)
    ·refine ⟨_,rfl,_,rfl,_,rfl,b,_,_,rfl,B2,by omega,by omega,log1000 (by omega),fun r H4 r0 r1 B4 S4=>?_⟩
     obtain ⟨j,rfl,hj⟩:=natOf r0 r1
     have hd4:H4 d=some (.lst (ns.map V.int)):=S4 _ _ hd2 hdb
     have hjn:j < ns.length:=by omega
     refine ⟨d,_,_,j,rfl,rfl,hd4,?_,?_⟩
     ·rw [List.length_map]
      exact ixN_in (by omega) (by omega)
     have em:(ns.map V.int).set j (V.int 1)=(ns.set j 1).map V.int:=by rw [List.map_set]
     rw [em]
     have h4:∀ z ∈ ns.set j 1,0<=z/\z<=4:=fun z hz=>by
      rcases List.mem_or_eq_of_mem_set hz with e | e
      ·exact h3 z e
      ·omega
     refine ⟨rfl,ns.set j 1,by rw [List.length_set]; exact h2,h4,?_,upd_same,(B4.upd (Ne.symm hdb)).mono (by omega),fun q o e ne=>?_⟩
     ·exact sum_pos _ (fun z hz=>(h4 z hz).1) ⟨1,by
       refine List.mem_iff_getElem?.mpr ⟨j,?_⟩
       rw [List.getElem?_set_self (by simpa using hjn)],by omega⟩
     ·rw [upd_ne (ne_of_none e hd)]
      exact S4 q o (S2 q o e ne) ne
    ·have h0:ns.sum ≠ 0:=fun z=>h (decide_eq_true (by rw [z]))
     have:=(sum_le ns 4 h3).1
     exact ⟨rfl,ns,h2,h3,by omega,hd2,B2.mono (by omega),S2⟩
   ·rintro σ H5 ⟨rfl,ms,l4,h4,s1,hd5,B5,S5⟩
    have s2:ms.sum<=4 * (c:Int):=by
     have:=(sum_le _ 4 h4).2
     rw [l4] at this
     exact this
    refine ⟨_,rfl,d,rfl,⟨_,SqL.of hd5⟩,fun e he=>?_⟩
    have hed:d ≠ e:=ne_of_none hd5 he
    refine ⟨c,fun i ys H2=>Same H5 H2/\Rs K H2 ((ms.map fun m=>nrm m ms.sum).take i) ys,size1000 (by omega),⟨Same.new he,.nil⟩,?_,?_⟩
    ·rintro i ys H6 hi ⟨S6,R6⟩ he6
     have him:i < ms.length:=by omega
     refine ⟨⟨_,V.int ms[i],SqL.of (S6 _ _ hd5),by simp [him]⟩,?_⟩
     rintro x H7 ⟨rfl,fx⟩
     have ex:x=V.int ms[i]:=by
      have:=fx _ (SqL.of (S6 _ _ hd5))
      rw [List.getElem?_map,show ms[i]?=some ms[i] by simp [him]] at this
      exact (Option.some.inj this).symm
     subst ex
     refine nameyes ?_
     have b2:Bd 10 ms.sum:=bdS (by omega)
     refine ⟨_,rfl,_,rfl,d,ms,rfl,SqL.of (S6 _ _ hd5),ms[i],ms.sum,rfl,by omega,b2.log (by decide),fun a8 H8 f8 S8 e8=>?_⟩
     have he8:=S8 _ _ he6
     refine ⟨he8,fun q o' e'=>?_,?_⟩
     ·rw [upd_ne (ne_of_none e' he)]
      exact S8 _ _ (S6 _ _ e')
     ·rw [take_snoc (show (ms.map fun m=>nrm m ms.sum)[i]?=some (nrm ms[i] ms.sum) by rw [List.getElem?_map,show ms[i]?=some ms[i] by simp [him]]; rfl)]
      exact (R6.ext ((Ext.same S8).trans (Ext.upd he8))).snoc ⟨a8,rfl,(Ext.upd he8).sq (SqT.of e8)⟩
    ·rintro ys H6 ⟨S6,R6⟩ he6
     refine ⟨⟨_,SqL.of (S6 _ _ hd5),by rw [List.length_map]; omega⟩,e,ys,rfl,.inl ⟨SqL.of he6,fun l hl'=>?_⟩⟩
     rw [List.take_of_length_le (by rw [List.length_map]; omega)] at R6
     refine k l _ ms _ (((B5.same S6).same (Same.new hl')).mono (by omega)) ((S5.trans (SameX.of S6)).trans (SameX.of (Same.new hl'))) ⟨ys,SqT.of upd_same,R6.ext (Ext.new hl')⟩ ⟨by rw [List.length_map]; exact l4,fun W hW=>(h4 W hW).1,by omega,⟨by omega,bdS (by omega),by rw [List.length_map],fun i W r hW hr=>?_⟩⟩
     rw [List.getElem?_map,hW] at hr
     cases hr
     have:=h4 W (List.mem_of_getElem? hW)
     exact ⟨rep_nrm (by omega),bdS (by omega),low_nrm (by omega)⟩
end
end Sb
namespace Sb
open Sv (sm sm_congr sm_add sm_mul sm_zero sm_nonneg sm_split sm_le)
theorem ones_getD {c i:Nat} (h:i < c):(List.replicate c (1:Int)).getD i 0=1:=by simp [List.getD,h]
theorem share_nn {c:Nat} {Ws:List Int} {o:Option (Nat->Bool)} (lW:Ws.length=c) (nn:∀ W ∈ Ws,0<=W):0<=(List.zipWith (· * ·) Ws (cutZ o (List.replicate c 1))).sum ∧
  ∀ i,i < c->0<=Ws.getD i 0 * (cutZ o (List.replicate c 1)).getD i 0:=by
 have h:∀ i,i < c->0<=Ws.getD i 0 * (cutZ o (List.replicate c 1)).getD i 0:=fun i hi=>by
  rw [cutZ_getD,ones_getD hi]
  have:0<=Ws.getD i 0:=by
   have e:Ws.getD i 0=Ws[i]'(by omega):=by simp [List.getD,show i < Ws.length by omega]
   rw [e]
   exact nn _ (List.getElem_mem _)
  split
  ·omega
  ·simp
 refine ⟨?_,h⟩
 rw [zip_sum c _ _ lW (by rw [cutZ_len]; simp)]
 exact sm_nonneg h
end Sb
namespace Sb
open PySem L2
theorem RepL.scale {n:Nat} {D:Int} {Zs:List Int} {rs:List Rat} (h:RepL n D Zs rs) {k:Int} {m:Nat} (hk:0 < k) (bk:Bd m k):RepL (n + m) (D * k) (Zs.map fun z=>z * k) rs:=by
 refine ⟨Int.mul_pos h.pos hk,h.bD.mul bk,by rw [List.length_map,h.len],fun i W r hW hr=>?_⟩
 rw [List.getElem?_map] at hW
 cases e:Zs[i]? with
 | none=>rw [e] at hW; cases hW
 | some z =>
  rw [e] at hW
  cases hW
  obtain ⟨a1,a2,a3⟩:=h.at_ i z r e hr
  exact ⟨rep_scale k a1,a2.mul bk,a3⟩
end Sb
namespace Sb
open PySem L2
section
variable {P:Program} {w:World} {K:PySem.W.Frag} {mg:Str->Option Value} {base:Heap}
inductive spIsIn (K:PySem.W.Frag) (vs:List V) (H:Hp) (Q:VK) (_z3:XK):Prop
 | mk (i c:Nat) (o:Option (Nat->Bool)) (v:V) (zz0:vs=[.int i,v]) (zz1:EvAt K H c o v) (zz2:i < c) (zz3:Q (.bl (inE o i)) H)
theorem in_ev {H:Hp} {c i:Nat} {o:Option (Nat->Bool)} {v:V} {Q:VK} (h:EvAt K H c o v) (hi:i < c) (q:Q (.bl (inE o i)) H) :
  if decide (v=V.non)=true then Q (.bl true) H else rIn K false (.int i) v H Q:=by
 cases o with
 | none =>
  have e:v=.non:=h
  exact iteD1 e q
 | some p =>
  obtain ⟨a,rfl,h⟩:=h
  refine iteD0 (by intro z; cases z) ⟨a,_,rfl,.inr h,rfl,flat_ints _,?_⟩
  show Q (.bl (inV (.int (i:Int)) ((evI c p).map V.int))) H
  rw [inV_ints]
  have e:decide ((i:Int) ∈ evI c p)=p i:=by
   rw [Bool.eq_iff_iff,decide_eq_true_eq,mem_evI]
   simp [hi]
  rw [e]
  exact q
theorem scIsIn:FnScope ["world","event"] ["world","event"] (defScope sIsIn):=⟨rfl,rfl,rfl,by decide +kernel,rfl,by decide +kernel,by decide +kernel⟩
theorem okIsIn (D:Def K mg "is_in" sIsIn ["world","event"]):Has P w K mg base 1 "is_in" ["world","event"] (spIsIn K):=by
 refine D.has fun f fd F=>F.ok scIsIn (fun vs H Q E h=>?_) (fun cdv A outer s H vs Q E hr h=>?_)
 ·obtain ⟨i,c,o,v,rfl,_⟩:=h
  rfl
 ·obtain ⟨i,c,o,v,rfl,hv,hi,q⟩:=h
  have sc:=scIsIn
  refine ⟨_,(pss_one (ps_ret (pe_or (pe_cmpR op_isN (pv 1) pe_non (nomark _)) (pe_one (pe_cmpR op_in_seq (pv 0) (pv 1) rfl))))),?_⟩
  refine ⟨_,rfl,rfl,_,rfl,?_⟩
  have:=in_ev (Q:=Q) hv hi q
  refine iteB (fun e=>?_) (fun e=>?_)
  ·rw [e] at this
   rw [if_pos rfl] at this
   exact this
  ·rw [e] at this
   rw [if_neg Bool.false_ne_true] at this
   exact ⟨_,rfl,_,rfl,this⟩
inductive spCut (K:PySem.W.Frag) (vs:List V) (H:Hp) (Q:VK) (_z3:XK):Prop
 | mk (a:Addr) (v:V) (rs:List Rat) (o:Option (Nat->Bool)) (zz0:vs=[.ref a,v]) (zz1:RowAt K H a rs) (zz2:EvAt K H rs.length o v) (zz3:rs.length<=1000) (zz4:∀ p H',Same H H'->RowAt K H' p (cutR o rs)->Q (.ref p) H')
theorem scCut:FnScope ["row","event"] ["row","event"] (defScope sCut):=⟨rfl,rfl,rfl,by decide +kernel,rfl,by decide +kernel,by decide +kernel⟩
theorem okCut (D:Def K mg "cut" sCut ["row","event"]) (T:Blt mg) (hIsIn:Has P w K mg base 1 "is_in" ["world","event"] (spIsIn K)) (hNOUGHT:Con K mg "NOUGHT" (0,1)):Has P w K mg base 2 "cut" ["row","event"] (spCut K):=by
 refine D.has fun f fd F=>F.ok scCut (fun vs H Q E h=>?_) (fun cdv A outer s H vs Q E hr h=>?_)
 ·obtain ⟨a,v,rs,o,rfl,_⟩:=h
  rfl
 ·obtain ⟨a,v,rs,o,rfl,⟨xs,hA,hRs⟩,hv,hl,k⟩:=h
  obtain ⟨c_NOUGHT,m_NOUGHT,s_NOUGHT⟩:=hNOUGHT
  have sc:=scCut
  have nd1:(["world","worth","event"]:List Str).Nodup:=by decide +kernel
  refine ⟨_,(pss_one (ps_ret (pe_callTy call_tuple_of rfl T.tuple PyProof.Rows.boot_tuple (pa_cons (pe_comp (N:=["world","worth","event"]) (k:=2) (fv:=[1]) rfl (pi_enum rfl T.enumerate (pa_cons (pv 0) pa_nil))
   (fun _ _ _ _ _=>pg_tup (n:=2) rfl (pgs_cons (pg_name (i:=0) nd1 rfl (Or.inl rfl)) (pgs_cons (pg_name (i:=1) nd1 rfl (Or.inl rfl)) pgs_nil))) (fun _ _ _ _ _=>pts_nil) (fun _ _ _ _ _=>(pe_ifExp (pt_val (pe_use hIsIn (hr.mono (by decide)) rfl (pa_cons (pv 0) (pa_cons (pv 2) pa_nil)))) (pv 1) (pe_glob (v:=.ref c_NOUGHT) rfl m_NOUGHT rfl))) weak_pair) pa_nil)))),?_⟩
  refine ⟨_,rfl,a,rfl,⟨_,hA⟩,fun d hd=>?_⟩
  have lx:=hRs.len
  refine ⟨rs.length,fun i ys H2=>Same H H2/\Rs K H2 ((cutR o rs).take i) ys,size1000 hl,⟨Same.new hd,.nil⟩,?_,?_⟩
  ·rintro i ys H2 hi ⟨S2,R2⟩ hd2
   refine ⟨⟨xs,sameT S2 hA,by omega⟩,?_⟩
   rintro x H3 ⟨p,x0,rfl,hp,rfl,fx⟩
   obtain ⟨r,er,ix⟩:=hRs.back (fx xs (sameT S2 hA))
   have S3:Same H2 (upd H2 p (.tup [.int (i:Int),x0])):=Same.new hp
   have ix3:=ix.ext ((Ext.same S2).trans (Ext.same S3))
   refine pairyes (SqT.of upd_same) ?_
   refine ⟨_,rfl,_,rfl,i,rs.length,o,v,rfl,(hv.same S2).same S3,hi,_,rfl,?_⟩
   have hpd:d ≠ p:=ne_of_none hd2 hp
   have hd3:upd H2 p (.tup [.int (i:Int),x0]) d=some (.lst ys):=S3 _ _ hd2
   have fin:∀ y,IsR K (upd H2 p (.tup [.int (i:Int),x0])) (if inE o i then r else (0,1)) y →
     upd H2 p (.tup [.int (i:Int),x0]) d=some (.lst ys)/\Same H (upd (upd H2 p (.tup [.int (i:Int),x0])) d (.lst (ys ++ [y])))/\Rs K (upd (upd H2 p (.tup [.int (i:Int),x0])) d (.lst (ys ++ [y]))) ((cutR o rs).take (i + 1)) (ys ++ [y]):=fun y hy=>by
    refine ⟨hd3,fun q o' e=>?_,?_⟩
    ·rw [upd_ne (ne_of_none e hd)]
     exact S3 _ _ (S2 _ _ e)
    ·rw [take_snoc (cutR_at er)]
     have E5:Ext (upd H2 p (.tup [.int (i:Int),x0])) (upd (upd H2 p (.tup [.int (i:Int),x0])) d (.lst (ys ++ [y]))):=Ext.upd hd3
     exact (R2.ext ((Ext.same S3).trans E5)).snoc (hy.ext E5)
   refine iteB (fun e=>?_) (fun e=>?_)
   ·exact ⟨_,rfl,fin _ (by rw [e,if_pos rfl]; exact ix3)⟩
   ·exact fin _ (by rw [e,if_neg Bool.false_ne_true]; exact ⟨_,rfl,s_NOUGHT _⟩)
  ·rintro ys H2 ⟨S2,R2⟩ hd2
   refine ⟨⟨xs,sameT S2 hA,by omega⟩,d,ys,rfl,.inl ⟨SqL.of hd2,fun l hl'=>?_⟩⟩
   rw [List.take_of_length_le (by rw [cutR_len]; omega)] at R2
   exact k l _ (S2.trans (Same.new hl')) ⟨ys,SqT.of upd_same,R2.ext (Ext.new hl')⟩
inductive spLCut (K:PySem.W.Frag) (vs:List V) (H:Hp) (Q:VK) (_z3:XK):Prop
 | mk (a:Addr) (v:V) (xs:List V) (rs:List Rat) (o:Option (Nat->Bool)) (zz0:vs=[.ref a,v]) (zz1:(SqL K H a xs \/ SqT K H a xs)) (zz2:Rs K H rs xs) (zz3:EvAt K H rs.length o v) (zz4:rs.length<=1000) (zz5:∀ p H',Same H H'->RowAt K H' p (cutR o rs)->Q (.ref p) H')
theorem scLCut:FnScope ["_law_row_here","_law_event_here"] ["_law_row_here","_law_event_here"] (defScope sLCut):=⟨rfl,rfl,rfl,by decide +kernel,rfl,by decide +kernel,by decide +kernel⟩
theorem cutR_none' (rs:List Rat):cutR none rs=rs:=by
 apply List.ext_getElem?
 intro i
 cases e:rs[i]? with
 | none=>rw [List.getElem?_eq_none (by rw [cutR_len]; exact (List.getElem?_eq_none_iff.mp e))]
 | some r=>rw [cutR_at e]; rfl
theorem okLCut (D:Def K mg "_law_cut" sLCut ["_law_row_here","_law_event_here"]) (T:Blt mg):Has P w K mg base 2 "_law_cut" ["_law_row_here","_law_event_here"] (spLCut K):=by
 refine D.has fun f fd F=>F.ok scLCut (fun vs H Q E h=>?_) (fun cdv A outer s H vs Q E hr h=>?_)
 ·obtain ⟨a,v,xs,rs,o,rfl,_⟩:=h
  rfl
 ·obtain ⟨a,v,xs,rs,o,rfl,hA,hRs,hv,hl,k⟩:=h
  have sc:=scLCut
  have nd1:(["_law_k","_law_row_here","_law_event_here"]:List Str).Nodup:=by decide +kernel
  refine ⟨_,(pss_cons (ps_if (pt_cmpR op_isN (pv 1) pe_non (nomark _))
    (pss_one (ps_ret (pe_callTy call_tuple_of rfl T.tuple PyProof.Rows.boot_tuple (pa_cons (pv 0) pa_nil))))
    pss_nil)
   (pss_one (ps_ret (pe_callTy call_tuple_of rfl T.tuple PyProof.Rows.boot_tuple (pa_cons (pe_comp (N:=["_law_k","_law_row_here","_law_event_here"]) (k:=1) (fv:=[0,1]) rfl (pi_range1 rfl T.range (pa_cons (pe_callB call_len_seq rfl T.len boot_len (pa_cons (pv 0) pa_nil)) pa_nil))
   (fun _ _ _ _ _=>pg_name (i:=0) nd1 rfl (Or.inl rfl)) (fun _ _ _ _ _=>pts_nil) (fun _ _ _ _ _=>(pe_ifExp (pt_cmpR (op_inK (K:=K)) (pv 0) (pv 2) rfl) (pe_ix (ix_aK (K:=K)) (pv 1) (pv 0) (fun _ _=>rfl)) (pe_tup (pa_cons pe_int (pa_cons pe_int pa_nil))))) weak_name) pa_nil))))),?_⟩
  have lx:=hRs.len
  refine ⟨_,rfl,rfl,_,rfl,?_⟩
  cases o with
  | none =>
   have e:v=.non:=hv
   refine iteD1 e ?_
   refine ⟨_,rfl,a,xs,rfl,?_⟩
   rcases hA with hA | hA
   ·exact .inl ⟨hA,fun l hl'=>k l _ (Same.new hl') ⟨xs,SqT.of upd_same,by rw [cutR_none']; exact hRs.ext (Ext.new hl')⟩⟩
   ·exact .inr ⟨hA,k a H (Same.refl _) ⟨xs,hA,by rw [cutR_none']; exact hRs⟩⟩
  | some p =>
   obtain ⟨e9,rfl,he9⟩:=hv
   refine iteD0 (by intro z; cases z) ?_
   refine ⟨_,rfl,a,xs,rfl,hA,(xs.length:Int),rfl,(by omega),(by omega),fun d hd=>?_⟩
   have et:(xs.length:Int).toNat=xs.length:=by omega
   rw [et]
   refine ⟨xs.length,fun i ys H2=>Same H H2/\Rs K H2 ((cutR (some p) rs).take i) ys,size1000 (by omega),⟨Same.new hd,.nil⟩,?_,?_⟩
   ·rintro i ys H2 hi ⟨S2,R2⟩ hd2
    refine ⟨hi,?_⟩
    rintro x H3 ⟨rfl,rfl⟩
    have e0:(0 + (i:Int))=((i:Nat):Int):=by omega
    rw [e0]
    refine nameyes ?_
    have hir:i < rs.length:=by omega
    have er:rs[i]?=some rs[i]:=by simp [hir]
    obtain ⟨x0,ex,ix⟩:=hRs.at er
    have hA2:SqL K H3 a xs \/ SqT K H3 a xs:=hA.elim (fun z=>.inl (sameL S2 z)) fun z=>.inr (sameT S2 z)
    refine ⟨_,rfl,_,rfl,e9,_,rfl,.inr (sameT S2 he9),rfl,flat_ints _,_,rfl,?_⟩
    have ev:inV (.int (i:Int)) ((evI rs.length p).map V.int)=inE (some p) i:=by
     rw [inV_ints,Bool.eq_iff_iff,decide_eq_true_eq,mem_evI]
     show _ ↔ p i=true
     simp [hir]
    show if inV (.int (i:Int)) ((evI rs.length p).map V.int)=true then _ else _
    rw [ev]
    refine iteB (fun e=>?_) (fun e=>?_)
    ·refine ⟨_,rfl,_,rfl,a,xs,_,_,rfl,rfl,hA2,atI_nat ex,hd2,fun q o' e=>?_,?_⟩
     ·rw [upd_ne (ne_of_none e hd)]
      exact S2 _ _ e
     ·rw [take_snoc (cutR_at er),e,if_pos rfl]
      exact (R2.ext (Ext.upd hd2)).snoc ((ix.ext (Ext.same S2)).ext (Ext.upd hd2))
    ·refine ⟨(by show 2<=sizeLine; decide),fun p hp=>?_⟩
     have S3:Same H3 (upd H3 p (.tup [.int 0,.int 1])):=Same.new hp
     have hd3:=S3 _ _ hd2
     refine ⟨hd3,fun q o' e=>?_,?_⟩
     ·rw [upd_ne (ne_of_none e hd)]
      exact S3 _ _ (S2 _ _ e)
     ·rw [take_snoc (cutR_at er),e,if_neg Bool.false_ne_true]
      exact (R2.ext ((Ext.same S3).trans (Ext.upd hd3))).snoc ⟨p,rfl,(Ext.upd hd3).sq (SqT.of upd_same)⟩
   ·rintro ys H2 ⟨S2,R2⟩ hd2
    refine ⟨Nat.le_refl _,d,ys,rfl,.inl ⟨SqL.of hd2,fun l hl'=>?_⟩⟩
    rw [List.take_of_length_le (by rw [cutR_len]; omega)] at R2
    exact k l _ (S2.trans (Same.new hl')) ⟨ys,SqT.of upd_same,R2.ext (Ext.new hl')⟩
end
end Sb
namespace Sb
open PySem L2
section
variable {P:Program} {w:World} {K:PySem.W.Frag} {mg:Str->Option Value} {base:Heap}
inductive spPaper (K:PySem.W.Frag) (vs:List V) (H:Hp) (Q:VK) (_z3:XK):Prop
 | mk (c:Nat) (v:V) (o:Option (Nat->Bool)) (zz0:vs=[.int c,v]) (zz1:EvAt K H c o v) (zz2:1<=c) (zz3:c<=1000) (zz4:∀ p H',Same H H'->RowAt K H' p (cutR o (List.replicate c (1,1)))->Q (.ref p) H')
theorem scPaper:FnScope ["count","event"] ["count","event"] (defScope sPaperOf):=⟨rfl,rfl,rfl,by decide +kernel,rfl,by decide +kernel,by decide +kernel⟩
theorem Rs.rep {H:Hp} {r:Rat} {v:V} (h:IsR K H r v):∀ n:Nat,Rs K H (List.replicate n r) (List.replicate n v)
 | 0=>.nil
 | n + 1=>.cons h (Rs.rep h n)
theorem okPaper (D:Def K mg "paper_of" sPaperOf ["count","event"]) (hCut:Has P w K mg base 2 "cut" ["row","event"] (spCut K)) (hONE:Con K mg "ONE" (1,1)):Has P w K mg base 3 "paper_of" ["count","event"] (spPaper K):=by
 refine D.has fun f fd F=>F.ok scPaper (fun vs H Q E h=>?_) (fun cdv A outer s H vs Q E hr h=>?_)
 ·obtain ⟨c,v,o,rfl,_⟩:=h
  rfl
 ·obtain ⟨c,v,o,rfl,hv,h2,hl,k⟩:=h
  obtain ⟨c_ONE,m_ONE,s_ONE⟩:=hONE
  have sc:=scPaper
  refine ⟨_,(pss_one (ps_ret (pe_use hCut (hr.mono (by decide)) rfl (pa_cons (pe_op op_repU (pe_tup (pa_cons (pe_glob (v:=.ref c_ONE) rfl m_ONE rfl) pa_nil)) (pv 0)) (pa_cons (pv 1) pa_nil))))),?_⟩
  refine ⟨(by show 1<=sizeLine; decide),fun t ht=>⟨_,rfl,t,c,[.ref c_ONE],rfl,rfl,SqT.of upd_same,by omega,by simp,by simpa using hl,fun p H1 S1' sq=>?_⟩⟩
  have S1:Same H (upd H t (.tup [.ref c_ONE])):=Same.new ht
  have et:(c:Int).toNat=c:=by omega
  have ef:(List.replicate (c:Int).toNat [V.ref c_ONE]).flatten=List.replicate c (V.ref c_ONE):=by rw [et]; simp
  rw [ef] at sq
  have S2:=S1.trans S1'
  refine ⟨_,rfl,p,v,List.replicate c (1,1),o,rfl,⟨_,sq,Rs.rep ⟨c_ONE,rfl,s_ONE _⟩ c⟩,?_,by simpa using hl,fun p' H' S' R'=>k p' H' (S2.trans S') R'⟩
  rw [List.length_replicate]
  exact hv.same S2
end
end Sb
namespace Sb
open PySem L2
section
variable {P:Program} {w:World} {K:PySem.W.Frag} {mg:Str->Option Value} {base:Heap}
inductive spCommon (K:PySem.W.Frag) (vs:List V) (H:Hp) (Q:VK) (_z3:XK):Prop
 | mk (a:Addr) (xs:List V) (rs:List Rat) (n:Nat) (D:Int) (Ws:List Int) (zz0:vs=[.ref a]) (zz1:(SqL K H a xs \/ SqT K H a xs)) (zz2:Rs K H rs xs) (zz3:RepL n D Ws rs) (zz4:n<=4000) (zz5:Q (.int (lcmB rs)) H)
theorem scCommon:FnScope ["several","least","one"] ["several"] (defScope sCommonBottom):=⟨rfl,rfl,rfl,by decide +kernel,rfl,by decide +kernel,by decide +kernel⟩
theorem okCommon (D:Def K mg "common_bottom" sCommonBottom ["several"]) (hCommonDivisor:Has P w K mg base 1 "common_divisor" ["one","other"] spGcd):Has P w K mg base 2 "common_bottom" ["several"] (spCommon K):=by
 refine D.has fun f fd F=>F.ok scCommon (fun vs H Q E h=>?_) (fun cdv A outer s H vs Q E hr h=>?_)
 ·obtain ⟨a,xs,rs,n,D,Ws,rfl,_⟩:=h
  rfl
 ·obtain ⟨a,xs,rs,n,D,Ws,rfl,hA,hRs,rep,hn,q⟩:=h
  have sc:=scCommon
  refine ⟨_,(pss_cons (ps_set (i:=1) sc.nd rfl (Or.inl rfl) pe_int)
   (pss_cons (ps_for PassesOwn.never rfl (pi_seq (pv 0)) (pg_name (i:=2) sc.nd rfl (Or.inl rfl))
    (pss_one (ps_set (i:=1) sc.nd rfl (Or.inl rfl) (pe_op op_divB (pe_op op_mulB (pv 1) (pe_ix ix_p1 (pv 2) pe_int (fun _ _=>rfl))) (pe_use hCommonDivisor (hr.mono (by decide)) rfl (pa_cons (pv 1) (pa_cons (pe_ix ix_p1 (pv 2) pe_int (fun _ _=>rfl)) pa_nil)))))))
   (pss_one (ps_ret (pv 1))))),?_⟩
  have lx:=hRs.len
  refine ⟨_,rfl,for_seq (K:=K) (a:=a) (xs:=xs) (fun i σ H'=>H'=H/\∃ x:Option V,σ=[some (.ref a),some (.int (lcmB (rs.take i))),x]) hA ⟨rfl,none,rfl⟩ (fun i σ H' _ h=>by rw [h.1]; exact Same.refl _) ?_ ?_⟩
  ·rintro i x σ H1 hi ⟨rfl,x0,rfl⟩
   obtain ⟨r,er,b,rfl,hb⟩:=hRs.back hi
   have g:=rep.good r (List.mem_of_getElem? er)
   have lo:=(rep.take i).least
   have hg:((Int.gcd (lcmB (rs.take i)) r.2:Nat):Int) ≠ 0:=by
    have:=Int.gcd_pos_of_ne_zero_left r.2 (show lcmB (rs.take i) ≠ 0 by have:=lo.pos; omega)
    omega
   have hgb:Bd n ((Int.gcd (lcmB (rs.take i)) r.2:Nat):Int):=g.b2.of_le' (le_of_dvd_pos g.pos (Int.gcd_dvd_right _ _))
   refine ⟨_,rfl,_,rfl,b,_,_,rfl,rfl,hb,_,_,rfl,rfl,lo.bD.mulOk g.b2 (by omega) (by omega),_,rfl,_,rfl,b,_,_,rfl,rfl,hb,_,_,rfl,_,_,rfl,rfl,⟨hg,hgb.log (by omega)⟩,?_⟩
   refine ⟨rfl,some (.ref b),?_⟩
   rw [lcmB_take er]
   rfl
  ·rintro σ H1 ⟨rfl,x0,rfl⟩
   rw [← lx,List.take_of_length_le (Nat.le_refl _)]
   exact ⟨_,rfl,q⟩
inductive spWholeBy (K:PySem.W.Frag) (vs:List V) (H:Hp) (Q:VK) (_z3:XK):Prop
 | mk (a:Addr) (D:Int) (xs:List V) (rs:List Rat) (n:Nat) (zz0:vs=[.ref a,.int D]) (zz1:(SqL K H a xs \/ SqT K H a xs)) (zz2:Rs K H rs xs) (zz3:(∀ r ∈ rs,Good n r)) (zz4:Bd n D) (zz5:0 < D) (zz6:n<=4000) (zz7:rs.length<=1000) (zz8:∀ (d:Addr) (H':Hp),H d=none->Same H H'->H' d=some (.lst ((wholeB rs D).map V.int))->Q (.ref d) H')
theorem scWholeBy:FnScope ["several","bottom"] ["several","bottom"] (defScope sWholeBy):=⟨rfl,rfl,rfl,by decide +kernel,rfl,by decide +kernel,by decide +kernel⟩
theorem okWholeBy (D:Def K mg "whole_by" sWholeBy ["several","bottom"]):Has P w K mg base 1 "whole_by" ["several","bottom"] (spWholeBy K):=by
 refine D.has fun f fd F=>F.ok scWholeBy (fun vs H Q E h=>?_) (fun cdv A outer s H vs Q E hr h=>?_)
 ·obtain ⟨a,D,xs,rs,n,rfl,_⟩:=h
  rfl
 ·obtain ⟨a,D,xs,rs,n,rfl,hA,hRs,g,bD,hD,hn,hl,k⟩:=h
  have sc:=scWholeBy
  have nd1:(["one","bottom"]:List Str).Nodup:=by decide +kernel
  refine ⟨_,(pss_one (ps_ret (pe_comp (N:=["one","bottom"]) (k:=1) (fv:=[1]) rfl (pi_any (pv 0))
   (fun _ _ _ _ _=>pg_name (i:=0) nd1 rfl (Or.inl rfl)) (fun _ _ _ _ _=>pts_nil) (fun _ _ _ _ _=>(pe_op op_mulB (pe_ix (ix_p0K (K:=K)) (pv 0) pe_int (fun _ _=>rfl)) (pe_op op_divB (pv 1) (pe_ix (ix_p1K (K:=K)) (pv 0) pe_int (fun _ _=>rfl))))) weak_name))),?_⟩
  have lx:=hRs.len
  refine ⟨_,rfl,a,xs,rfl,hA,fun J G d hd=>?_⟩
  refine ⟨xs.length,fun i ys H2=>Same H H2/\ys=((wholeB rs D).take i).map V.int,size1000 (by omega),⟨Same.new hd,rfl⟩,?_,?_⟩
  ·rintro i ys H2 hi ⟨S2,rfl⟩ hd2
   refine ⟨G.go i H2 S2 hi,?_⟩
   intro x H3 hy
   obtain ⟨rfl,ex⟩:=G.yld i H2 x H3 S2 hy
   obtain ⟨r,er,ix⟩:=hRs.back ex
   obtain ⟨b,rfl,hb⟩:=ix.ext (Ext.same S2)
   have gr:=g r (List.mem_of_getElem? er)
   refine nameyes ?_
   refine ⟨_,rfl,b,_,_,rfl,rfl,hb,_,rfl,_,rfl,b,_,_,rfl,rfl,hb,_,_,rfl,rfl,⟨by have:=gr.pos; omega,gr.b2.log (by omega)⟩,_,_,rfl,rfl,gr.b1.mulOk (bD.of_le' (fdiv_le hD gr.pos)) (by omega) (by omega),hd2,fun q o' e=>?_,?_⟩
   ·rw [upd_ne (ne_of_none e hd)]
    exact S2 _ _ e
   ·have:(wholeB rs D)[i]?=some (r.1 * D.fdiv r.2):=by unfold wholeB; rw [List.getElem?_map,er]; rfl
    rw [take_snoc this,List.map_append]
    rfl
  ·rintro ys H2 ⟨S2,rfl⟩ hd2
   refine ⟨G.stop H2 S2,?_⟩
   rw [List.take_of_length_le (by unfold wholeB; rw [List.length_map]; omega)] at hd2
   exact k d H2 hd S2 hd2
end
end Sb
namespace Sb
open PySem L2
inductive spMeanP (K:PySem.W.Frag) (vs:List V) (H:Hp) (Q:VK) (_z3:XK):Prop
 | mk (a b:Addr) (xs us:List V) (ws rs:List Rat) (n n':Nat) (D D':Int) (Ws Zs:List Int) (zz0:vs=[.ref a,.ref b]) (zz1:(SqL K H a xs \/ SqT K H a xs)) (zz2:Rs K H ws xs) (zz3:(SqL K H b us \/ SqT K H b us)) (zz4:Rs K H rs us) (zz5:ws.length=rs.length) (zz6:rs.length<=1000) (zz7:RepL n D Ws ws) (zz8:RepL n' D' Zs rs) (zz9:n + n' + 10<=4000) (zz10:∀ c H',Same H H'->SqT K H' c [.int (sumR (List.zipWith mulR' ws rs)).1,.int (sumR (List.zipWith mulR' ws rs)).2]->Q (.ref c) H')
end Sb
namespace Sb
open PySem L2
section
variable {P:Program} {w:World} {K:PySem.W.Frag} {mg:Str->Option Value} {base:Heap}
theorem scLMeanP:FnScope ["_law_weights_here","_law_row_here","_law_come","_law_k"] ["_law_weights_here","_law_row_here"] (defScope sLMean):=⟨rfl,rfl,rfl,by decide +kernel,rfl,by decide +kernel,by decide +kernel⟩
theorem okLMeanP (D:Def K mg "_law_mean" sLMean ["_law_weights_here","_law_row_here"]) (T:Blt mg) (hLawPlus:Has P w K mg base 3 "_law_plus" ["_law_one","_law_other"] (spTwo K addR)) (hLawTimes:Has P w K mg base 3 "_law_times" ["_law_one","_law_other"] (spTwo K mulR')) :
  Has P w K mg base 4 "_law_mean" ["_law_weights_here","_law_row_here"] (spMeanP K):=by
 refine D.has fun f fd F=>F.ok scLMeanP (fun vs H Q E h=>?_) (fun cdv A outer s H vs Q E hr h=>?_)
 ·obtain ⟨a,b,xs,us,ws,rs,n,n',D,D',Ws,Zs,rfl,_⟩:=h
  rfl
 ·obtain ⟨a,b,xs,us,ws,rs,n,n',D,D',Ws,Zs,rfl,hA,hWs,hB,hRs,hl,hl2,rw_,rr,hnn,k⟩:=h
  have sc:=scLMeanP
  refine ⟨_,(pss_cons (ps_set (i:=2) sc.nd rfl (Or.inl rfl) (pe_tup (pa_cons pe_int (pa_cons pe_int pa_nil))))
   (pss_cons (ps_for PassesOwn.never rfl (pi_range1 rfl T.range (pa_cons (pe_callB call_len_seq rfl T.len boot_len (pa_cons (pv 1) pa_nil)) pa_nil)) (pg_name (i:=3) sc.nd rfl (Or.inl rfl))
    (pss_one (ps_set (i:=2) sc.nd rfl (Or.inl rfl) (pe_use hLawPlus (hr.mono (by decide)) rfl (pa_cons (pv 2) (pa_cons (pe_use hLawTimes (hr.mono (by decide)) rfl (pa_cons (pe_ix ix_any (pv 0) (pv 3) (fun _ _=>rfl)) (pa_cons (pe_ix ix_any (pv 1) (pv 3) (fun _ _=>rfl)) pa_nil))) pa_nil))))))
   (pss_one (ps_ret (pv 2))))),?_⟩
  refine ⟨(by show 2<=sizeLine; decide),fun p hp=>?_⟩
  have lx:=hWs.len
  have lu:=hRs.len
  have S0:Same H (upd H p (.tup [.int 0,.int 1])):=Same.new hp
  have rm:=rw_.mul rr hl
  have lz:(List.zipWith mulR' ws rs).length=rs.length:=by rw [List.length_zipWith]; omega
  have anyS:∀ {c:Addr} {ys:List V} {H1:Hp},Same H H1->(SqL K H c ys \/ SqT K H c ys)->(SqL K H1 c ys \/ SqT K H1 c ys):=fun S h=>h.elim (fun z=>.inl (sameL S z)) fun z=>.inr (sameT S z)
  refine ⟨_,rfl,b,us,rfl,anyS S0 hB,(us.length:Int),rfl,(by omega),(by omega),?_⟩
  have et:(us.length:Int).toNat=us.length:=by omega
  rw [et]
  refine for_range (lo:=0) (n:=us.length) (fun i σ H'=>Same H H'/\∃ (c:Addr) (x:Option V),σ=[some (.ref a),some (.ref b),some (.ref c),x]/\SqT K H' c [.int (sumR ((List.zipWith mulR' ws rs).take i)).1,.int (sumR ((List.zipWith mulR' ws rs).take i)).2]) ⟨S0,p,none,rfl,SqT.of upd_same⟩ ?_ ?_
  ·rintro i σ H1 hi ⟨S1,c,x0,rfl,hc⟩
   have e0:(0 + (i:Int))=((i:Nat):Int):=by omega
   rw [e0]
   have hir:i < ws.length:=by omega
   have his:i < rs.length:=by omega
   have er:ws[i]?=some ws[i]:=by simp [hir]
   have es:rs[i]?=some rs[i]:=by simp [his]
   obtain ⟨x1,ex,ix⟩:=hWs.at er
   obtain ⟨y1,ey,iy⟩:=hRs.at es
   obtain ⟨a1,rfl,sq1⟩:=ix.ext (Ext.same S1)
   obtain ⟨b1,rfl,sq2⟩:=iy.ext (Ext.same S1)
   refine ⟨_,rfl,_,rfl,_,rfl,a,xs,_,_,rfl,rfl,anyS S1 hA,atI_nat ex,_,rfl,_,rfl,b,us,_,_,rfl,rfl,anyS S1 hB,atI_nat ey,?_⟩
   refine ⟨a1,b1,ws[i],rs[i],n + n' + 10,rfl,sq1,sq2,(rw_.good _ (List.getElem_mem hir)).mono (by omega),(rr.good _ (List.getElem_mem his)).mono (by omega),by omega,fun c2 H2 f2 S2 e2=>?_⟩
   have ez:(List.zipWith mulR' ws rs)[i]?=some (mulR' ws[i] rs[i]):=by rw [List.getElem?_zipWith,er,es]
   refine ⟨c,c2,_,mulR' ws[i] rs[i],n + n' + 10,rfl,sameT S2 hc,SqT.of e2,(rm.take i).sumGood (k:=10) (by rw [List.length_take]; omega),(rm.good _ (List.mem_of_getElem? ez)).mono (by omega),hnn,fun c3 H3 f3 S3 e3=>?_⟩
   refine ⟨(S1.trans S2).trans S3,c3,_,rfl,?_⟩
   rw [sumR_take ez]
   exact SqT.of e3
  ·rintro σ H1 ⟨S1,c,x0,rfl,hc⟩
   rw [List.take_of_length_le (by omega)] at hc
   exact ⟨_,rfl,k c H1 S1 hc⟩
end
end Sb
namespace Sb
open PySem L2
section
variable {P:Program} {w:World} {K:PySem.W.Frag} {mg:Str->Option Value} {base:Heap}
inductive spEvent (K:PySem.W.Frag) (vs:List V) (H:Hp) (Q:VK) (_z3:XK):Prop
 | mk (b:Addr) (c n:Nat) (zz0:vs=[.ref b,.int c]) (zz1:BagAt H b n) (zz2:n<=100000) (zz3:c<=1000) (zz4:∀ (v:V) (H':Hp) (o:Option (Nat->Bool)),BagAt H' b (n + c + 1)->SameX b H H'->EvAt K H' c o v->Q v H')
theorem scEvent:FnScope ["_law_bag_here","_law_count"] ["_law_bag_here","_law_count"] (defScope sEvent):=⟨rfl,rfl,rfl,by decide +kernel,rfl,by decide +kernel,by decide +kernel⟩
theorem okEvent (D:Def K mg "_law_event" sEvent ["_law_bag_here","_law_count"]) (T:Blt mg) (hLawTake:Has P w K mg base 1 "_law_take" ["_law_bag_here","_law_many"] spTake):Has P w K mg base 2 "_law_event" ["_law_bag_here","_law_count"] (spEvent K):=by
 refine D.has fun f fd F=>F.ok scEvent (fun vs H Q E h=>?_) (fun cdv A outer s H vs Q E hr h=>?_)
 ·obtain ⟨b,c,n,rfl,_⟩:=h
  rfl
 ·obtain ⟨b,c,n,rfl,hB,hn,hl,k⟩:=h
  have sc:=scEvent
  have nd1:(["_law_k","_law_bag_here"]:List Str).Nodup:=by decide +kernel
  refine ⟨_,(pss_cons (ps_if (pt_cmpR op_eq (pe_use hLawTake (hr.mono (by decide)) rfl (pa_cons (pv 0) (pa_cons pe_int pa_nil))) pe_int (nomark _))
    (pss_one (ps_ret pe_non))
    pss_nil)
   (pss_one (ps_ret (pe_callTy call_tuple_of rfl T.tuple PyProof.Rows.boot_tuple (pa_cons (pe_comp (N:=["_law_k","_law_bag_here"]) (k:=1) (fv:=[0]) rfl (pi_range1 rfl T.range (pa_cons (pv 1) pa_nil))
   (fun _ _ _ _ _=>pg_name (i:=0) nd1 rfl (Or.inl rfl)) (fun _ _ _ _ _=>pts_one (pt_cmpR op_eq (pe_use hLawTake (hr.mono (by decide)) rfl (pa_cons (pv 1) (pa_cons pe_int pa_nil))) pe_int (nomark _))) (fun _ _ _ _ _=>(pv 0)) weak_name) pa_nil))))),?_⟩
  refine ⟨_,rfl,b,_,_,rfl,hB,by omega,by decide,by decide +kernel,fun z H1 z0 z1 B1 S1=>⟨rfl,_,rfl,?_⟩⟩
  refine ite2 (fun h=>?_) (fun h=>?_)
  ·exact k _ _ none (B1.mono (by omega)) S1 rfl
  have hBl:=B1.lst
  refine ⟨_,rfl,(c:Int),rfl,(by omega),(by omega),fun d hd=>?_⟩
  have hdb:d ≠ b:=by
   obtain ⟨ys,e⟩:=hBl
   exact (ne_of_none e hd).symm
  have et:(c:Int).toNat=c:=by omega
  rw [et]
  refine ⟨c,fun i ys H2=>∃ p:Nat->Bool,ys=(evI i p).map V.int/\BagAt H2 b (n + 1 + i)/\SameX b H H2,size1000 hl,?_,?_,?_⟩
  ·exact ⟨fun _=>true,rfl,B1.upd (Ne.symm hdb),S1.trans (SameX.of (Same.new hd))⟩
  ·rintro i ys H2 hi ⟨p,rfl,B2,S2⟩ hd2
   refine ⟨hi,?_⟩
   rintro x H3 ⟨rfl,rfl⟩
   have e0:(0 + (i:Int))=((i:Nat):Int):=by omega
   rw [e0]
   refine nameyes0 ?_
   refine ⟨_,rfl,b,_,_,rfl,B2,by omega,by decide,by decide +kernel,fun r H4 r0 r1 B4 S4=>⟨rfl,_,rfl,?_⟩⟩
   have hd4:H4 d=some (.lst ((evI i p).map V.int)):=S4 _ _ hd2 hdb
   have ep:evI i p=evI i (fun j=>if j=i then decide (r=1) else p j):=evI_congr fun j hj=>by rw [if_neg (by omega)]
   refine ite2 (fun h=>?_) (fun h=>?_)
   ·have h0:r=1:=by
     have:=of_decide_eq_true h
     injection this
    refine ⟨_,rfl,hd4,fun j=>if j=i then decide (r=1) else p j,?_,(B4.upd (Ne.symm hdb)).mono (by omega),?_⟩
    ·rw [evI_succ,if_pos (by simp [h0]),List.map_append,← ep]
     rfl
    ·exact fun q o e ne=>by
      have e2:=S4 q o (S2 q o e ne) ne
      rw [upd_ne (ne_of_none (S1 q o e ne) hd)]
      exact e2
   ·have h0:¬ r=1:=fun z=>h (decide_eq_true (by rw [z]))
    refine ⟨hd4,fun j=>if j=i then decide (r=1) else p j,?_,B4.mono (by omega),S2.trans S4⟩
    rw [evI_succ,if_neg (by simp [h0]),List.append_nil,← ep]
  ·rintro ys H2 ⟨p,rfl,B2,S2⟩ hd2
   refine ⟨Nat.le_refl _,d,_,rfl,.inl ⟨SqL.of hd2,fun l hl'=>?_⟩⟩
   have S3:Same H2 (upd H2 l (.tup ((evI c p).map V.int))):=Same.new hl'
   exact k _ _ (some p) ((B2.same S3).mono (by omega)) (S2.trans (SameX.of S3)) ⟨l,rfl,SqT.of upd_same⟩
end
end Sb
namespace Sb
open PySem PySem.Spec PyProof.Rows L2
section
variable {X:Cx} {K:PySem.W.Frag}
inductive rNeI (K:PySem.W.Frag) (x:V) (y:V) (H:Hp) (Q:VK):Prop
 | mk (a b:Addr) (ns ms:List Int) (zz0:x=.ref a) (zz1:y=.ref b) (zz2:SqT K H a (ns.map V.int)) (zz3:SqT K H b (ms.map V.int)) (zz4:Q (.bl (!decide (ns=ms))) H)
theorem op_neI (hu:X.A.units < cLine) (hK:X.K=K:=by rfl):OpR X (compareOp .NotEq) (rNeI K):=by
 subst hK
 intro pins s σ H x y v u Q I rx ry h
 obtain ⟨a,b,ns,ms,rfl,rfl,ha,hb,q⟩:=h
 cases rx
 cases ry
 obtain ⟨its,r1,p1,_⟩:=I.tuple ha
 obtain ⟨its2,r2,p2,_⟩:=I.tuple hb
 have l1:=r1.length
 have l2:=r2.length
 rw [List.length_map] at l1 l2
 refine SeqAt.RcNeAt.tuples (A:=X.A) (e:=fun j=>ns.getD j 0 == ms.getD j 0) p1 p2 hu (fun j h1 h2=>?_) _ _ _ _ ?_
 ·obtain ⟨t,e1⟩:=ints_at r1 (j:=j) (by simpa using h1)
  obtain ⟨t',e2⟩:=ints_at r2 (j:=j) (by simpa using h2)
  have e1':its.toArray[j]=Value.int (ns.getD j 0) t:=by simpa using e1
  have e2':its2.toArray[j]=Value.int (ms.getD j 0) t':=by simpa using e2
  rw [e1',e2']
  exact SeqAt.EqAt.int_int _ _ _ _
 ·rw [List.size_toArray,List.size_toArray,← l1,← l2,all_eq]
  exact ⟨.bl _,H,I,rfl,q⟩
end
end Sb
namespace Sb
open PySem L2
section
variable {P:Program} {w:World} {K:PySem.W.Frag} {mg:Str->Option Value} {base:Heap}
theorem scMinus:FnScope ["one","other"] ["one","other"] (defScope sMinus):=⟨rfl,rfl,rfl,by decide +kernel,rfl,by decide +kernel,by decide +kernel⟩
theorem okMinus (D:Def K mg "minus" sMinus ["one","other"]) (hLowest:Has P w K mg base 2 "lowest" ["top","bottom"] spLowest):Has P w K mg base 3 "minus" ["one","other"] (spTwo K subR):=by
 refine D.has fun f fd F=>F.ok scMinus (fun vs H Q E h=>?_) (fun cdv A outer s H vs Q E hr h=>?_)
 ·obtain ⟨a,b,r,s,n,rfl,_⟩:=h
  rfl
 ·obtain ⟨a,b,r,s,n,rfl,hA,hB,gr,gs,hn,k⟩:=h
  have sc:=scMinus
  refine ⟨_,(pss_one (ps_ret (pe_use hLowest (hr.mono (by decide)) rfl (pa_cons (pe_op op_sub (pe_op op_mulB (pe_ix ix_p0 (pv 0) pe_int (fun _ _=>rfl)) (pe_ix ix_p1 (pv 1) pe_int (fun _ _=>rfl))) (pe_op op_mulB (pe_ix ix_p0 (pv 1) pe_int (fun _ _=>rfl)) (pe_ix ix_p1 (pv 0) pe_int (fun _ _=>rfl)))) (pa_cons (pe_op op_mulB (pe_ix ix_p1 (pv 0) pe_int (fun _ _=>rfl)) (pe_ix ix_p1 (pv 1) pe_int (fun _ _=>rfl))) pa_nil))))),?_⟩
  exact ⟨_,rfl,_,_,_,rfl,rfl,hA,_,rfl,_,_,_,rfl,rfl,hB,_,_,rfl,rfl,gr.b1.mulOk gs.b2 (by omega) (by omega),_,rfl,_,_,_,rfl,rfl,hB,_,rfl,_,_,_,rfl,rfl,hA,_,_,rfl,rfl,gs.b1.mulOk gr.b2 (by omega) (by omega),_,_,rfl,rfl,_,rfl,_,_,_,rfl,rfl,hA,_,rfl,_,_,_,rfl,rfl,hB,_,_,rfl,rfl,gr.b2.mulOk gs.b2 (by omega) (by omega),_,_,rfl,mul_ne gr.pos gs.pos,log_mul gr.b2 gs.b2 hn,k⟩
end
end Sb
namespace Sb
open PySem L2
def ConI (mg:Str->Option Value) (x:Str) (i:Int):Prop:=∃ t,mg x=some (Value.int i t)
theorem conI_mk {K:PySem.W.Frag} {h:Heap} {mg:Str->Option Value} {x:Str} {i:Int} {t:Tok} (X:K.In h) (G:h.Ns mainGlobals mg) (e:PySem.W.nsIn K mainGlobals x=some (some (.int i t))):ConI mg x i:=⟨t,PySem.W.mg_of X G e⟩
structure Offr where
 row:List Rat
 ask:Option Rat
 bid:Option Rat
 ev:Option (Nat->Bool)
def MayAt (K:PySem.W.Frag) (H:Hp) (o:Option Rat) (v:V):Prop:=match o with
 | none=>v=.non
 | some r=>IsR K H r v
theorem MayAt.ext {K:PySem.W.Frag} {H H':Hp} {o:Option Rat} {v:V} (h:MayAt K H o v) (e:Ext H H'):MayAt K H' o v:=by
 cases o with
 | none=>exact h
 | some r=>exact IsR.ext h e
def OffAt (K:PySem.W.Frag) (H:Hp) (c:Nat) (o:Offr) (v:V):Prop:=∃ (p a:Addr) (va vb ve:V),v=.ref p/\SqT K H p [.ref a,va,vb,ve]/\RowAt K H a o.row/\o.row.length=c/\MayAt K H o.ask va/\MayAt K H o.bid vb/\EvAt K H c o.ev ve
theorem OffAt.ext {K:PySem.W.Frag} {H H':Hp} {c:Nat} {o:Offr} {v:V} (h:OffAt K H c o v) (e:Ext H H'):OffAt K H' c o v:=by
 obtain ⟨p,a,va,vb,ve,h0,h1,h2,h3,h4,h5,h6⟩:=h
 exact ⟨p,a,va,vb,ve,h0,e.sq h1,h2.ext e,h3,h4.ext e,h5.ext e,h6.ext e⟩
theorem OffAt.same {K:PySem.W.Frag} {H H':Hp} {c:Nat} {o:Offr} {v:V} (h:OffAt K H c o v) (e:Same H H'):OffAt K H' c o v:=h.ext (Ext.same e)
structure GoodO (n:Nat) (o:Offr):Prop where
 row:∀ r ∈ o.row,Good n r
 ask:∀ r,o.ask=some r->Good n r
 bid:∀ r,o.bid=some r->Good n r
def gainR (o:Offr) (buy:Bool):List Rat:=cutR o.ev (o.row.map fun r=>if buy then subR r (o.ask.getD (0,1)) else subR (o.bid.getD (0,1)) r)
def priceO (o:Offr) (buy:Bool):Option Rat:=if buy then o.ask else o.bid
def wordO (buy:Bool):Str:=if buy then "buy" else "sell"
theorem gainR_len (o:Offr) (buy:Bool):(gainR o buy).length=o.row.length:=by unfold gainR; rw [cutR_len,List.length_map]
end Sb
namespace Sb
open PySem L2
section
variable {P:Program} {w:World} {K:PySem.W.Frag} {mg:Str->Option Value} {base:Heap}
inductive spGain (K:PySem.W.Frag) (vs:List V) (H:Hp) (Q:VK) (_z3:XK):Prop
 | mk (v:V) (c n:Nat) (o:Offr) (buy:Bool) (pr:Rat) (zz0:vs=[v,.str (wordO buy)]) (zz1:OffAt K H c o v) (zz2:c<=1000) (zz3:GoodO n o) (zz4:n<=4000) (zz5:priceO o buy=some pr) (zz6:∀ p H',Same H H'->RowAt K H' p (gainR o buy)->Q (.ref p) H')
theorem scGain:FnScope ["offer","word","worths"] ["offer","word"] (defScope sGain):=⟨rfl,rfl,rfl,by decide +kernel,rfl,by decide +kernel,by decide +kernel⟩
theorem okGain (D:Def K mg "gain" sGain ["offer","word"]) (T:Blt mg) (hMinus:Has P w K mg base 3 "minus" ["one","other"] (spTwo K subR)) (hCut:Has P w K mg base 2 "cut" ["row","event"] (spCut K)) (hROW:ConI mg "ROW" 0) (hASK:ConI mg "ASK" 1) (hBID:ConI mg "BID" 2) (hEVENT:ConI mg "EVENT" 3) :
  Has P w K mg base 4 "gain" ["offer","word"] (spGain K):=by
 refine D.has fun f fd F=>F.ok scGain (fun vs H Q E h=>?_) (fun cdv A outer s H vs Q E hr h=>?_)
 ·obtain ⟨v,c,n,o,buy,pr,rfl,_⟩:=h
  rfl
 ·obtain ⟨v,c,n,o,buy,pr,rfl,⟨p,a,va,vb,ve,rfl,hp,hR,hl,hA,hB,hE⟩,hc,g,hn,hpr,k⟩:=h
  obtain ⟨t0,m_ROW⟩:=hROW
  obtain ⟨t1,m_ASK⟩:=hASK
  obtain ⟨t2,m_BID⟩:=hBID
  obtain ⟨t3,m_EVENT⟩:=hEVENT
  obtain ⟨xs,hxs,hrs⟩:=hR
  have lx:=hrs.len
  have sc:=scGain
  have nd1:(["worth","offer"]:List Str).Nodup:=by decide +kernel
  have nd2:(["worth","offer"]:List Str).Nodup:=by decide +kernel
  refine ⟨_,(pss_cons (ps_if (pt_cmpR op_eq (pv 1) pe_str (nomark _))
    (pss_one (ps_setC (i:=2) (N:=["worth","offer"]) (k:=1) (fv:=[0]) sc.nd rfl (Or.inl rfl) rfl (pi_tup (pe_ix ix_tup (pv 0) (pe_glob (v:=.int 0) rfl m_ROW ⟨_,rfl⟩) (fun _ _=>rfl)))
   (fun _ _ _ _ _=>pg_name (i:=0) nd1 rfl (Or.inl rfl)) (fun _ _ _ _ _=>pts_nil) (fun _ _ _ _ _=>(pe_use hMinus (hr.mono (by decide)) rfl (pa_cons (pv 0) (pa_cons (pe_ix (ix_tK (K:=K)) (pv 1) (pe_glob (v:=.int 1) rfl m_ASK ⟨_,rfl⟩) (fun _ _=>rfl)) pa_nil)))) weak_name))
    (pss_one (ps_setC (i:=2) (N:=["worth","offer"]) (k:=1) (fv:=[0]) sc.nd rfl (Or.inl rfl) rfl (pi_tup (pe_ix ix_tup (pv 0) (pe_glob (v:=.int 0) rfl m_ROW ⟨_,rfl⟩) (fun _ _=>rfl)))
   (fun _ _ _ _ _=>pg_name (i:=0) nd2 rfl (Or.inl rfl)) (fun _ _ _ _ _=>pts_nil) (fun _ _ _ _ _=>(pe_use hMinus (hr.mono (by decide)) rfl (pa_cons (pe_ix (ix_tK (K:=K)) (pv 1) (pe_glob (v:=.int 2) rfl m_BID ⟨_,rfl⟩) (fun _ _=>rfl)) (pa_cons (pv 0) pa_nil)))) weak_name)))
   (pss_one (ps_ret (pe_use hCut (hr.mono (by decide)) rfl (pa_cons (pe_callTy call_tuple_of rfl T.tuple PyProof.Rows.boot_tuple (pa_cons (pv 2) pa_nil)) (pa_cons (pe_ix ix_tup (pv 0) (pe_glob (v:=.int 3) rfl m_EVENT ⟨_,rfl⟩) (fun _ _=>rfl)) pa_nil)))))),?_⟩
  cases buy with
  | true =>
   replace hpr:o.ask=some pr:=hpr
   have kk:=k
   unfold gainR at kk
   rw [hpr] at hA kk
   obtain ⟨b,rfl,hb⟩:=hA
   refine ⟨_,rfl,rfl,_,rfl,iteD1 rfl ?_⟩
   refine ⟨_,rfl,p,_,_,_,rfl,rfl,hp,atI_nat (j:=0) rfl,a,rfl,⟨_,hxs⟩,fun d hd=>?_⟩
   refine ⟨o.row.length,fun i ys H2=>Same H H2/\Rs K H2 ((o.row.map fun r=>subR r pr).take i) ys,size1000 (by omega),⟨Same.new hd,.nil⟩,?_,?_⟩
   ·rintro i ys H2 hi ⟨S2,R2⟩ hd2
    refine ⟨⟨xs,xs[i]'(by omega),sameT S2 hxs,by simp⟩,?_⟩
    rintro x H3 ⟨rfl,fx⟩
    obtain ⟨r,er,ix⟩:=hrs.back (fx xs (sameT S2 hxs))
    obtain ⟨a1,rfl,sq1⟩:=ix.ext (Ext.same S2)
    refine nameyes ?_
    refine ⟨_,rfl,_,rfl,p,_,_,_,rfl,rfl,sameT S2 hp,atI_nat (j:=1) rfl,a1,b,r,pr,n,rfl,sq1,sameT S2 hb,g.row r (List.mem_of_getElem? er),g.ask pr hpr,hn,fun c4 H4 f4 S4 e4=>?_⟩
    have hd4:=S4 _ _ hd2
    refine ⟨hd4,fun q o' e=>?_,?_⟩
    ·rw [upd_ne (ne_of_none e hd)]
     exact S4 _ _ (S2 _ _ e)
    ·rw [take_map _ er]
     exact (R2.ext ((Ext.same S4).trans (Ext.upd hd4))).snoc ⟨c4,rfl,(Ext.upd hd4).sq (SqT.of e4)⟩
   ·rintro ys H2 ⟨S2,R2⟩ hd2
    rw [List.take_of_length_le (by rw [List.length_map]; omega)] at R2
    refine ⟨⟨xs,sameT S2 hxs,by omega⟩,_,rfl,d,ys,rfl,.inl ⟨SqL.of hd2,fun l hl'=>?_⟩⟩
    have S3:Same H2 (upd H2 l (.tup ys)):=Same.new hl'
    refine ⟨_,rfl,p,_,_,_,rfl,rfl,sameT (S2.trans S3) hp,atI_nat (j:=3) rfl,l,ve,_,o.ev,rfl,⟨ys,SqT.of upd_same,R2.ext (Ext.same S3)⟩,?_,by rw [List.length_map]; omega,fun p' H' S' R'=>kk p' H' ((S2.trans S3).trans S') R'⟩
    rw [List.length_map,hl]
    exact hE.same (S2.trans S3)
  | false =>
   replace hpr:o.bid=some pr:=hpr
   have kk:=k
   unfold gainR at kk
   rw [hpr] at hB kk
   obtain ⟨b,rfl,hb⟩:=hB
   refine ⟨_,rfl,rfl,_,rfl,iteD0 (by decide) ?_⟩
   refine ⟨_,rfl,p,_,_,_,rfl,rfl,hp,atI_nat (j:=0) rfl,a,rfl,⟨_,hxs⟩,fun d hd=>?_⟩
   refine ⟨o.row.length,fun i ys H2=>Same H H2/\Rs K H2 ((o.row.map fun r=>subR pr r).take i) ys,size1000 (by omega),⟨Same.new hd,.nil⟩,?_,?_⟩
   ·rintro i ys H2 hi ⟨S2,R2⟩ hd2
    refine ⟨⟨xs,xs[i]'(by omega),sameT S2 hxs,by simp⟩,?_⟩
    rintro x H3 ⟨rfl,fx⟩
    obtain ⟨r,er,ix⟩:=hrs.back (fx xs (sameT S2 hxs))
    obtain ⟨a1,rfl,sq1⟩:=ix.ext (Ext.same S2)
    refine nameyes ?_
    refine ⟨_,rfl,p,_,_,_,rfl,rfl,sameT S2 hp,atI_nat (j:=2) rfl,_,rfl,b,a1,pr,r,n,rfl,sameT S2 hb,sq1,g.bid pr hpr,g.row r (List.mem_of_getElem? er),hn,fun c4 H4 f4 S4 e4=>?_⟩
    have hd4:=S4 _ _ hd2
    refine ⟨hd4,fun q o' e=>?_,?_⟩
    ·rw [upd_ne (ne_of_none e hd)]
     exact S4 _ _ (S2 _ _ e)
    ·rw [take_map _ er]
     exact (R2.ext ((Ext.same S4).trans (Ext.upd hd4))).snoc ⟨c4,rfl,(Ext.upd hd4).sq (SqT.of e4)⟩
   ·rintro ys H2 ⟨S2,R2⟩ hd2
    rw [List.take_of_length_le (by rw [List.length_map]; omega)] at R2
    refine ⟨⟨xs,sameT S2 hxs,by omega⟩,_,rfl,d,ys,rfl,.inl ⟨SqL.of hd2,fun l hl'=>?_⟩⟩
    have S3:Same H2 (upd H2 l (.tup ys)):=Same.new hl'
    refine ⟨_,rfl,p,_,_,_,rfl,rfl,sameT (S2.trans S3) hp,atI_nat (j:=3) rfl,l,ve,_,o.ev,rfl,⟨ys,SqT.of upd_same,R2.ext (Ext.same S3)⟩,?_,by rw [List.length_map]; omega,fun p' H' S' R'=>kk p' H' ((S2.trans S3).trans S') R'⟩
    rw [List.length_map,hl]
    exact hE.same (S2.trans S3)
end
end Sb
namespace Sb
open PySem L2
def wordsO (o:Offr):List Bool:=(if o.ask.isSome then [true] else []) ++ if o.bid.isSome then [false] else []
def offD:Offr:=⟨[],none,none,none⟩
def sidesP (os:List Offr) (n:Nat):List (Nat × Bool):=(List.range n).flatMap fun i=>(wordsO (os.getD i offD)).map fun b=>(i,b)
def gainsP (os:List Offr) (n:Nat):List (List Rat):=(List.range n).flatMap fun i=>(wordsO (os.getD i offD)).map fun b=>gainR (os.getD i offD) b
theorem sidesP_succ (os:List Offr) (n:Nat):sidesP os (n + 1)=sidesP os n ++ (wordsO (os.getD n offD)).map fun b=>(n,b):=by
 unfold sidesP
 rw [List.range_succ,List.flatMap_append]
 simp
theorem gainsP_succ (os:List Offr) (n:Nat):gainsP os (n + 1)=gainsP os n ++ (wordsO (os.getD n offD)).map fun b=>gainR (os.getD n offD) b:=by
 unfold gainsP
 rw [List.range_succ,List.flatMap_append]
 simp
theorem gains_sides (os:List Offr) (n:Nat):(sidesP os n).map (fun s=>gainR (os.getD s.1 offD) s.2)=gainsP os n:=by
 unfold sidesP gainsP
 rw [List.map_flatMap]
 congr 1
 funext i
 rw [List.map_map]
 rfl
theorem sidesP_mem {os:List Offr} {n i:Nat} {b:Bool} (h:(i,b) ∈ sidesP os n):i < n/\∃ r,priceO (os.getD i offD) b=some r:=by
 unfold sidesP at h
 rw [List.mem_flatMap] at h
 obtain ⟨j,hj,hm⟩:=h
 rw [List.mem_map] at hm
 obtain ⟨b',hb,e⟩:=hm
 cases e
 refine ⟨List.mem_range.mp hj,?_⟩
 unfold wordsO at hb
 rcases List.mem_append.mp hb with z | z
 ·split at z
  ·rename_i hs
   rw [List.mem_singleton.mp z]
   exact Option.isSome_iff_exists.mp hs
  ·cases z
 ·split at z
  ·rename_i hs
   rw [List.mem_singleton.mp z]
   exact Option.isSome_iff_exists.mp hs
  ·cases z
theorem wordsO_len (o:Offr):(wordsO o).length<=2:=by
 unfold wordsO
 split <;> split <;> decide
theorem sidesP_len (os:List Offr):∀ n,(sidesP os n).length<=2 * n
 | 0=>by unfold sidesP; simp
 | n + 1=>by
  rw [sidesP_succ,List.length_append,List.length_map]
  have:=sidesP_len os n
  have:=wordsO_len (os.getD n offD)
  omega
section
variable {P:Program} {w:World} {K:PySem.W.Frag} {mg:Str->Option Value} {base:Heap}
def OffsAt (K:PySem.W.Frag) (H:Hp) (l:Addr) (c:Nat) (os:List Offr):Prop:=∃ vs:List V,H l=some (.lst vs)/\Paired (fun v o=>OffAt K H c o v) vs os
theorem offs_ext {H H':Hp} {c:Nat} {vs:List V} {os:List Offr} (h:Paired (fun v o=>OffAt K H c o v) vs os) (x:Ext H H'):Paired (fun v o=>OffAt K H' c o v) vs os:=Paired.mapP h fun _ _ q=>q.ext x
theorem OffAt.asks {H:Hp} {c:Nat} {o:Offr} {v:V} (h:OffAt K H c o v):∃ (p a:Addr) (va vb ve:V),v=.ref p/\SqT K H p [.ref a,va,vb,ve]/\(va=.non ↔ o.ask=none)/\(vb=.non ↔ o.bid=none):=by
 obtain ⟨p,a,va,vb,ve,rfl,hp,_,_,hA,hB,_⟩:=h
 refine ⟨p,a,va,vb,ve,rfl,hp,?_,?_⟩
 ·cases e:o.ask with
  | none=>rw [e] at hA; exact ⟨fun _=>rfl,fun _=>hA⟩
  | some r=>rw [e] at hA; obtain ⟨b,rfl,_⟩:=hA; exact ⟨(fun z=>nomatch z),fun z=>nomatch z⟩
 ·cases e:o.bid with
  | none=>rw [e] at hB; exact ⟨fun _=>rfl,fun _=>hB⟩
  | some r=>rw [e] at hB; obtain ⟨b,rfl,_⟩:=hB; exact ⟨(fun z=>nomatch z),fun z=>nomatch z⟩
inductive spWords (K:PySem.W.Frag) (vs:List V) (H:Hp) (Q:VK) (_z3:XK):Prop
 | mk (v:V) (c:Nat) (o:Offr) (zz0:vs=[v]) (zz1:OffAt K H c o v) (zz2:∀ l H',H l=none->Same H H'->H' l=some (.lst ((wordsO o).map fun b=>V.str (wordO b)))->Q (.ref l) H')
theorem scWords:FnScope ["offer","told"] ["offer"] (defScope sWordsOf):=⟨rfl,rfl,rfl,by decide +kernel,rfl,by decide +kernel,by decide +kernel⟩
theorem okWords (D:Def K mg "words_of" sWordsOf ["offer"]) (hASK:ConI mg "ASK" 1) (hBID:ConI mg "BID" 2):Has P w K mg base 1 "words_of" ["offer"] (spWords K):=by
 refine D.has fun f fd F=>F.ok scWords (fun vs H Q E h=>?_) (fun cdv A outer s H vs Q E hr h=>?_)
 ·obtain ⟨v,c,o,rfl,_⟩:=h
  rfl
 ·obtain ⟨v,c,o,rfl,hO,k⟩:=h
  obtain ⟨t1,m_ASK⟩:=hASK
  obtain ⟨t2,m_BID⟩:=hBID
  obtain ⟨p,a,va,vb,ve,rfl,hp,ha,hb⟩:=hO.asks
  have sc:=scWords
  refine ⟨_,(pss_cons (ps_set (i:=1) sc.nd rfl (Or.inl rfl) (pe_lst pa_nil))
   (pss_cons (ps_join (ps_if (pt_cmpR op_notN (pe_ix ix_tup (pv 0) (pe_glob (v:=.int 1) rfl m_ASK ⟨_,rfl⟩) (fun _ _=>rfl)) pe_non (nomark _))
    (pss_one (ps_expr (pe_bm PySem.F.plainAttrs_list PySem.F.slot_list_append PySem.F.type_list_append mt_append (pv 1) (pa_cons pe_str pa_nil))))
    pss_nil))
   (pss_cons (ps_if (pt_cmpR op_notN (pe_ix ix_tup (pv 0) (pe_glob (v:=.int 2) rfl m_BID ⟨_,rfl⟩) (fun _ _=>rfl)) pe_non (nomark _))
    (pss_one (ps_expr (pe_bm PySem.F.plainAttrs_list PySem.F.slot_list_append PySem.F.type_list_append mt_append (pv 1) (pa_cons pe_str pa_nil))))
    pss_nil)
   (pss_one (ps_ret (pv 1)))))),?_⟩
  refine ⟨(by show 0<=sizeLine; decide),fun l hl=>?_⟩
  have S0:Same H (upd H l (.lst [])):=Same.new hl
  have up:∀ (zs:List V) (H1:Hp),Same H H1->Same H (upd H1 l (.lst zs)):=fun zs H1 S1 q o e=>by
   rw [upd_ne (ne_of_none e hl)]
   exact S1 _ _ e
  refine ⟨fun σ H'=>Same H H'/\σ=[some (.ref p),some (.ref l)]/\H' l=some (.lst ((if o.ask.isSome then [true] else []).map fun b=>V.str (wordO b))),?_,?_⟩
  ·refine ⟨_,rfl,p,_,_,_,rfl,rfl,sameT S0 hp,atI_nat (j:=1) rfl,rfl,_,rfl,?_⟩
   cases e:o.ask with
   | none =>
    have:=ha.mpr e
    subst this
    exact iteF ⟨S0,rfl,upd_same⟩
   | some r =>
    have hne:va ≠ V.non:=fun z=>by rw [ha.mp z] at e; cases e
    refine iteNT hne ?_
    exact ⟨_,rfl,.inl ⟨rfl,_,SqL.of upd_same⟩,l,_,_,rfl,rfl,upd_same,(by show 0 < sizeLine; decide),up _ _ S0,rfl,upd_same⟩
  ·rintro σ H1 ⟨S1,rfl,h1⟩
   refine ⟨_,rfl,p,_,_,_,rfl,rfl,sameT S1 hp,atI_nat (j:=2) rfl,rfl,_,rfl,?_⟩
   cases e:o.bid with
   | none =>
    have:=hb.mpr e
    subst this
    refine iteF ⟨_,rfl,k l H1 hl S1 ?_⟩
    rw [h1]
    unfold wordsO
    rw [e]
    simp
   | some r =>
    have hne:vb ≠ V.non:=fun z=>by rw [hb.mp z] at e; cases e
    refine iteNT hne ⟨_,rfl,.inl ⟨rfl,_,SqL.of h1⟩,l,_,_,rfl,rfl,h1,?_,_,rfl,k l _ hl (up _ _ S1) ?_⟩
    ·refine small1000 ?_
     rw [List.length_map]
     split <;> decide
    ·rw [upd_same]
     unfold wordsO
     rw [e]
     simp
     rfl
def SideV (K:PySem.W.Frag) (H:Hp) (v:V) (s:Nat × Bool):Prop:=∃ t:Addr,v=.ref t/\SqT K H t [.int (s.1:Int),.str (wordO s.2)]
theorem SideV.ext {H H':Hp} {v:V} {s:Nat × Bool} (h:SideV K H v s) (x:Ext H H'):SideV K H' v s:=by
 obtain ⟨t,e,q⟩:=h
 exact ⟨t,e,x.sq q⟩
inductive spSides (K:PySem.W.Frag) (vs:List V) (H:Hp) (Q:VK) (_z3:XK):Prop
 | mk (l:Addr) (c:Nat) (os:List Offr) (zz0:vs=[.ref l]) (zz1:OffsAt K H l c os) (zz2:os.length<=100) (zz3:∀ (d:Addr) (ws:List V) (H':Hp),H d=none->Same H H'->H' d=some (.lst ws)->Paired (SideV K H') ws (sidesP os os.length)->Q (.ref d) H')
theorem scSides:FnScope ["offers","told","number","offer"] ["offers"] (defScope sSides):=⟨rfl,rfl,rfl,by decide +kernel,rfl,by decide +kernel,by decide +kernel⟩
theorem okSides (D:Def K mg "sides" sSides ["offers"]) (T:Blt mg) (hWordsOf:Has P w K mg base 1 "words_of" ["offer"] (spWords K)):Has P w K mg base 2 "sides" ["offers"] (spSides K):=by
 refine D.has fun f fd F=>F.ok scSides (fun vs H Q E h=>?_) (fun cdv A outer s H vs Q E hr h=>?_)
 ·obtain ⟨l,c,os,rfl,_⟩:=h
  rfl
 ·obtain ⟨l,c,os,rfl,⟨vs,hl,hO⟩,hlen,k⟩:=h
  have sc:=scSides
  have nd1:(["word","number"]:List Str).Nodup:=by decide +kernel
  refine ⟨_,(pss_cons (ps_set (i:=1) sc.nd rfl (Or.inl rfl) (pe_lst pa_nil))
   (pss_cons (ps_for PassesOwn.never rfl (pi_enumL rfl T.enumerate (pa_cons (pv 0) pa_nil)) (pg_tup (n:=2) rfl (pgs_cons (pg_name (i:=2) sc.nd rfl (Or.inr rfl)) (pgs_cons (pg_name (i:=3) sc.nd rfl (Or.inl rfl)) pgs_nil)))
    (pss_one (ps_expr (pe_bm PySem.F.plainAttrs_list PySem.F.slot_list_extend PySem.F.type_list_extend mt_extend (pv 1) (pa_cons (pe_comp (N:=["word","number"]) (k:=1) (fv:=[2]) rfl (pi_list (pe_use hWordsOf (hr.mono (by decide)) rfl (pa_cons (pv 3) pa_nil)))
   (fun _ _ _ _ _=>pg_name (i:=0) nd1 rfl (Or.inl rfl)) (fun _ _ _ _ _=>pts_nil) (fun _ _ _ _ _=>(pe_tup (pa_cons (pv 1) (pa_cons (pv 0) pa_nil)))) weak_name) pa_nil)))))
   (pss_one (ps_ret (pv 1))))),?_⟩
  have lo:=Paired.length hO
  refine ⟨(by show 0<=sizeLine; decide),fun d hd=>?_⟩
  have S0:Same H (upd H d (.lst [])):=Same.new hd
  have up:∀ (zs:List V) (H1:Hp),Same H H1->Same H (upd H1 d (.lst zs)):=fun zs H1 S1 q o e=>by
   rw [upd_ne (ne_of_none e hd)]
   exact S1 _ _ e
  refine ⟨_,rfl,l,rfl,⟨_,SqL.of (S0 _ _ hl)⟩,for_enumL (K:=K) (a:=l) (xs:=vs) (fun i σ H'=>Same H H'/\∃ (ws:List V) (x y:Option V),σ=[some (.ref l),some (.ref d),x,y]/\H' d=some (.lst ws)/\Paired (SideV K H') ws (sidesP os i)) ⟨S0,[],none,none,rfl,upd_same,.nil⟩ (fun i σ H' _ h=>SqL.of (h.1 _ _ hl)) ?_ ?_⟩
  ·rintro i v σ H1 p hi ⟨S1,ws,x,y,rfl,hd1,P1⟩ hp
   have S2:Same H1 (upd H1 p (.tup [.int (i:Int),v])):=Same.new hp
   have hd2:=S2 _ _ hd1
   have hiv:i < vs.length:=(List.getElem?_eq_some_iff.mp hi).1
   have hio:i < os.length:=by omega
   have eo:os[i]?=some (os.getD i offD):=by simp [List.getD,hio]
   have hv:=((Paired.getB hO hi eo).same S1).same S2
   refine ⟨p,_,rfl,SqT.of upd_same,rfl,_,_,rfl,_,_,rfl,rfl,?_⟩
   refine ⟨_,rfl,.inl ⟨rfl,_,SqL.of hd2⟩,_,rfl,v,c,os.getD i offD,rfl,hv,fun lw H3 f3 S3 e3=>?_⟩
   generalize hw:wordsO (os.getD i offD)=wo at *
   have lwo:wo.length<=2:=by rw [← hw]; exact wordsO_len _
   refine ⟨lw,rfl,⟨_,SqL.of e3⟩,fun dc hdc=>?_⟩
   refine ⟨wo.length,fun j ys H4=>Same H3 H4/\Paired (SideV K H4) ys ((wo.map fun b=>(i,b)).take j),size1000 (by omega),⟨Same.new hdc,.nil⟩,?_,?_⟩
   ·rintro j ys H4 hj ⟨S4,P4⟩ hd4
    have ew:wo[j]?=some wo[j]:=by simp [hj]
    refine ⟨⟨_,V.str (wordO wo[j]),SqL.of (S4 _ _ e3),by simp [hj]⟩,?_⟩
    rintro x' H5 ⟨rfl,fx⟩
    have ex:x'=V.str (wordO wo[j]):=by
     have:=fx _ (SqL.of (S4 _ _ e3))
     rw [List.getElem?_map,ew] at this
     exact (Option.some.inj this).symm
    subst ex
    refine nameyes ?_
    refine ⟨_,rfl,_,rfl,(by show 2<=sizeLine; decide),fun t ht=>?_⟩
    have S6:Same H5 (upd H5 t (.tup [.int (i:Int),.str (wordO wo[j])])):=Same.new ht
    have hd6:=S6 _ _ hd4
    refine ⟨hd6,fun q o' e=>?_,?_⟩
    ·rw [upd_ne (ne_of_none e hdc)]
     exact S6 _ _ (S4 _ _ e)
    ·rw [take_map _ ew]
     have x7:=(Ext.same S6).trans (Ext.upd (o:=.lst (ys ++ [.ref t])) hd6)
     exact Paired.snoc (Paired.mapP P4 fun _ _ q=>q.ext x7) ⟨t,rfl,(Ext.upd hd6).sq (SqT.of upd_same)⟩
   ·rintro ys H4 ⟨S4,P4⟩ hd4
    rw [List.take_of_length_le (by rw [List.length_map]; omega)] at P4
    refine ⟨⟨_,SqL.of (S4 _ _ e3),by rw [List.length_map]; omega⟩,?_⟩
    have hd5:=S4 _ _ (S3 _ _ hd2)
    have lw1:=Paired.length P1
    have lw4:=Paired.length P4
    have sl:=sidesP_len os i
    rw [List.length_map] at lw4
    refine ⟨d,dc,ws,ys,rfl,rfl,hd5,hd4,size1000 (by omega),?_⟩
    have S15:Same H1 H4:=(S2.trans S3).trans S4
    refine ⟨up _ _ (S1.trans S15),ws ++ ys,_,_,rfl,upd_same,?_⟩
    rw [sidesP_succ,hw]
    have xx:=Ext.upd (o:=.lst (ws ++ ys)) hd5
    exact Paired.appP (Paired.mapP P1 fun _ _ q=>q.ext ((Ext.same S15).trans xx)) (Paired.mapP P4 fun _ _ q=>q.ext xx)
  ·rintro σ H1 ⟨S1,ws,x,y,rfl,hd1,P1⟩
   rw [lo] at P1
   exact ⟨_,rfl,k d ws H1 hd S1 hd1 P1⟩
inductive spGainsP (K:PySem.W.Frag) (vs:List V) (H:Hp) (Q:VK) (_z3:XK):Prop
 | mk (l:Addr) (c n:Nat) (os:List Offr) (zz0:vs=[.ref l]) (zz1:OffsAt K H l c os) (zz2:os.length<=100) (zz3:c<=1000) (zz4:n<=4000) (zz5:(∀ o ∈ os,GoodO n o)) (zz6:∀ (d:Addr) (H':Hp),H d=none->Same H H'->RowsAt K H' d (gainsP os os.length)->Q (.ref d) H')
theorem scGainsP:FnScope ["offers"] ["offers"] (defScope sGains):=⟨rfl,rfl,rfl,by decide +kernel,rfl,by decide +kernel,by decide +kernel⟩
theorem okGainsP (D:Def K mg "gains" sGains ["offers"]) (hSides:Has P w K mg base 2 "sides" ["offers"] (spSides K)) (hGain:Has P w K mg base 4 "gain" ["offer","word"] (spGain K)):Has P w K mg base 5 "gains" ["offers"] (spGainsP K):=by
 refine D.has fun f fd F=>F.ok scGainsP (fun vs H Q E h=>?_) (fun cdv A outer s H vs Q E hr h=>?_)
 ·obtain ⟨l,c,n,os,rfl,_⟩:=h
  rfl
 ·obtain ⟨l,c,n,os,rfl,⟨vs,hl,hO⟩,hlen,hc,hn,g,k⟩:=h
  have sc:=scGainsP
  have nd1:(["number","word","offers"]:List Str).Nodup:=by decide +kernel
  refine ⟨_,(pss_one (ps_ret (pe_comp (N:=["number","word","offers"]) (k:=2) (fv:=[0]) rfl (pi_list (pe_use hSides (hr.mono (by decide)) rfl (pa_cons (pv 0) pa_nil)))
   (fun _ _ _ _ _=>pg_tup (n:=2) rfl (pgs_cons (pg_name (i:=0) nd1 rfl (Or.inl rfl)) (pgs_cons (pg_name (i:=1) nd1 rfl (Or.inl rfl)) pgs_nil))) (fun _ _ _ _ _=>pts_nil) (fun _ _ _ _ _=>(pe_use hGain (hr.mono (by decide)) rfl (pa_cons (pe_ix (ix_lK (K:=K)) (pv 2) (pv 0) (fun _ _=>rfl)) (pa_cons (pv 1) pa_nil)))) weak_pair))),?_⟩
  have lo:=Paired.length hO
  refine ⟨_,rfl,l,c,os,rfl,⟨vs,hl,hO⟩,hlen,fun ds ws H1 f1 S1 e1 P1=>?_⟩
  have lp:=Paired.length P1
  have sl:=sidesP_len os os.length
  refine ⟨ds,rfl,⟨_,SqL.of e1⟩,fun d hd=>?_⟩
  have hd0:H d=none:=by
   cases q:H d with
   | none=>rfl
   | some o=>rw [S1 _ _ q] at hd; cases hd
  refine ⟨ws.length,fun i ys H2=>Same H1 H2/\∃ as:List Addr,ys=as.map V.ref/\Paired (RowAt K H2) as ((gainsP os os.length).take i),size1000 (by omega),⟨Same.new hd,[],rfl,.nil⟩,?_,?_⟩
  ·rintro i ys H2 hi ⟨S2,as,rfl,P2⟩ hd2
   have ew:ws[i]?=some ws[i]:=by simp [hi]
   refine ⟨⟨_,ws[i],SqL.of (S2 _ _ e1),by simp⟩,?_⟩
   rintro x' H3 ⟨rfl,fx⟩
   have ex:x'=ws[i]:=by
    have:=fx _ (SqL.of (S2 _ _ e1))
    rw [ew] at this
    exact (Option.some.inj this).symm
   subst ex
   have his:i < (sidesP os os.length).length:=by omega
   have es:(sidesP os os.length)[i]?=some ((sidesP os os.length)[i]):=by simp [his]
   obtain ⟨t,et,sqt⟩:=(Paired.getB P1 ew es).ext (Ext.same S2)
   have hmem:=List.getElem_mem his
   generalize hsd:(sidesP os os.length)[i]=sd at *
   obtain ⟨j,b⟩:=sd
   obtain ⟨hj,r,hr'⟩:=sidesP_mem hmem
   rw [et]
   refine pairyes sqt ?_
   have ej:os[j]?=some (os.getD j offD):=by simp [List.getD,hj]
   have hjv:j < vs.length:=by omega
   have ev:vs[j]?=some vs[j]:=by simp [hjv]
   have hov:=((Paired.getB hO ev ej).same S1).same S2
   refine ⟨_,rfl,_,rfl,l,vs,_,_,rfl,rfl,SqL.of (S2 _ _ (S1 _ _ hl)),atI_nat ev,_,rfl,?_⟩
   refine ⟨vs[j],c,n,os.getD j offD,b,r,rfl,hov,hc,g _ (List.mem_of_getElem? ej),hn,hr',fun p H4 S4 R4=>?_⟩
   have hd4:=S4 _ _ hd2
   refine ⟨hd4,fun q o' e=>?_,as ++ [p],by rw [List.map_append]; rfl,?_⟩
   ·rw [upd_ne (ne_of_none e hd)]
    exact S4 _ _ (S2 _ _ e)
   ·have eg:(gainsP os os.length)[i]?=some (gainR (os.getD j offD) b):=by rw [← gains_sides,List.getElem?_map,es]; rfl
    rw [take_snoc eg]
    exact Paired.snoc (rows_ext P2 ((Ext.same S4).trans (Ext.upd hd4))) (R4.ext (Ext.upd hd4))
  ·rintro ys H2 ⟨S2,as,rfl,P2⟩ hd2
   have lg:(gainsP os os.length).length=ws.length:=by rw [← gains_sides,List.length_map,lp]
   rw [List.take_of_length_le (by omega)] at P2
   exact ⟨⟨_,SqL.of (S2 _ _ e1),Nat.le_refl _⟩,k d H2 hd0 (S1.trans S2) ⟨as,hd2,P2⟩⟩
end
end Sb
namespace Sb
open PySem L2
def papR (c:Nat) (o:Option (Nat->Bool)):List Rat:=cutR o (List.replicate c (1,1))
theorem nn_of_rep {r:Rat} {D W:Int} (hD:0 < D) (hr:0 < r.2) (h:r.1 * D=W * r.2):(0<=r.1 ↔ 0<=W)/\(r.1<=0 ↔ W<=0)/\(r.1=0 ↔ W=0):=by
 have a1:0 < r.1->0 < W:=fun z=>by
  have h1:=Int.mul_pos z hD
  rw [h] at h1
  apply Classical.byContradiction
  intro q
  have:=Int.mul_nonpos_of_nonpos_of_nonneg (show W<=0 by omega) (show 0<=r.2 by omega)
  omega
 have a2:r.1 < 0->W < 0:=fun z=>by
  have h1:=Int.mul_pos (show 0 < -r.1 by omega) hD
  rw [Int.neg_mul,h] at h1
  apply Classical.byContradiction
  intro q
  have:=Int.mul_nonneg (show 0<=W by omega) (show 0<=r.2 by omega)
  omega
 have a3:r.1=0->W=0:=fun z=>by
  rw [z,Int.zero_mul] at h
  rcases Int.mul_eq_zero.mp h.symm with q | q <;> omega
 omega
open Sv (sm sm_congr sm_add sm_mul sm_zero sm_nonneg sm_split sm_le)
def mn (ls as:List Rat):Rat:=sumR (List.zipWith mulR' ls as)
def leR (r s:Rat):Prop:=r.1 * s.2<=s.1 * r.2
def negR (r:Rat):Rat:=(-r.1,r.2)
theorem negR.low {r:Rat} (h:Low r):Low (negR r):=⟨h.pos,by show Int.gcd (-r.1) r.2=1; rw [Int.neg_gcd]; exact h.cop⟩
def RowR (c:Nat) (as:List Rat):Prop:=as.length=c/\∃ n D Zs,RepL n D Zs as
section
variable {c:Nat} {rss:List (List Rat)} {ls as bs:List Rat}
end
end Sb
namespace Sb
open PySem L2
def gainsO (o:Offr):List (List Rat):=(wordsO o).map fun b=>gainR o b
theorem gainsP_take (os:List Offr):∀ n,n<=os.length->gainsP os n=(os.take n).flatMap gainsO
 | 0,_=>rfl
 | n + 1,h=>by
  have e:os[n]?=some (os.getD n offD):=by simp [List.getD,show n < os.length by omega]
  rw [gainsP_succ,gainsP_take os n (by omega),take_snoc e,List.flatMap_append]
  simp [gainsO]
theorem gainsP_all (os:List Offr):gainsP os os.length=os.flatMap gainsO:=by rw [gainsP_take os _ (Nat.le_refl _),List.take_of_length_le (Nat.le_refl _)]
end Sb
namespace Sb
open PySem L2
structure OffRep (c:Nat) (o:Offr):Prop where
 len:o.row.length=c
 rep:∃ (D A B:Int) (Zs:List Int),RepL 90 D Zs o.row/\(∀ r,o.ask=some r->Low r/\r.1 * D=A * r.2/\Bd 90 A)/\∀ r,o.bid=some r->Low r/\r.1 * D=B * r.2/\Bd 90 B
theorem OffRep.good {c:Nat} {o:Offr} (h:OffRep c o):GoodO 90 o:=by
 obtain ⟨D,A,B,Zs,h1,h2,h3⟩:=h.rep
 exact ⟨h1.good,fun r e=>good_of_rep h1.pos (h2 r e).1.pos (h2 r e).1.cop (h2 r e).2.1 h1.bD (h2 r e).2.2,fun r e=>good_of_rep h1.pos (h3 r e).1.pos (h3 r e).1.cop (h3 r e).2.1 h1.bD (h3 r e).2.2⟩
theorem OffRep.gain {c:Nat} {o:Offr} (h:OffRep c o) {b:Bool} {r:Rat} (hr:priceO o b=some r):(gainR o b).length=c/\∃ D Zs,RepL 91 D Zs (gainR o b):=by
 refine ⟨by rw [gainR_len]; exact h.len,?_⟩
 obtain ⟨D,A,B,Zs,h1,h2,h3⟩:=h.rep
 have key:∀ (f:Rat->Rat) (g:Int->Int),(∀ i W x,Zs[i]?=some W->o.row[i]?=some x->(f x).1 * D=g W * (f x).2/\Bd 91 (g W)/\Low (f x))->RepL 91 D (Zs.map g) (o.row.map f):=fun f g hf=>by
  refine ⟨h1.pos,h1.bD.mono (by decide),by rw [List.length_map,List.length_map,h1.len],fun i W x hW hx=>?_⟩
  rw [List.getElem?_map] at hW hx
  cases e1:Zs[i]? with
  | none=>rw [e1] at hW; cases hW
  | some W' =>
   cases e2:o.row[i]? with
   | none=>rw [e2] at hx; cases hx
   | some x' =>
    rw [e1] at hW
    rw [e2] at hx
    cases hW
    cases hx
    exact hf i W' x' e1 e2
 unfold gainR
 cases b with
 | true =>
  have hr:o.ask=some r:=hr
  obtain ⟨lr,er,br⟩:=h2 r hr
  rw [hr]
  refine ⟨D,_,RepL.cut (key _ (fun W=>W - A) fun i W x e1 e2=>?_) o.ev⟩
  obtain ⟨a1,a2,a3⟩:=h1.at_ i W x e1 e2
  exact ⟨rep_sub a3.pos lr.pos a1 er,a2.sub br,low_sub a3 lr⟩
 | false =>
  have hr:o.bid=some r:=hr
  obtain ⟨lr,er,br⟩:=h3 r hr
  rw [hr]
  refine ⟨D,_,RepL.cut (key _ (fun W=>B - W) fun i W x e1 e2=>?_) o.ev⟩
  obtain ⟨a1,a2,a3⟩:=h1.at_ i W x e1 e2
  exact ⟨rep_sub lr.pos a3.pos er a1,br.sub a2,low_sub lr a3⟩
def PriceR (t:Int) (mid:Rat) (o:Option Rat):Prop:=∀ r,o=some r->∃ (sl:Rat) (s:Int),r=addR mid sl/\Low sl/\0<=s/\s<=18/\sl.1 * 6=(t * s) * sl.2
section
variable {c:Nat} {rs:List Rat} {ask bid:Option Rat} {ev:Option (Nat->Bool)} {mid:Rat} {k C:Int}
theorem price_rep {t:Int} {o:Option Rat} {r:Rat} (hp:PriceR t mid o) (lm:Low mid) (hm:mid.1 * (6 * k)=C * mid.2) (bk:Bd 21 k) (bC:Bd 46 C) (ht:t=1 \/ t=-1) (hr:o=some r):∃ s,0<=s/\s<=18/\Low r/\r.1 * (6 * k)=(C + t * s * k) * r.2/\Bd 50 (C + t * s * k):=by
 obtain ⟨sl,s,e,ls,s0,s1,es⟩:=hp r hr
 refine ⟨s,s0,s1,by rw [e]; exact low_add lm ls,?_,?_⟩
 ·rw [e]
  exact rep_add lm.pos ls.pos hm (rep_scale k es)
 ·have b1:Bd 6 (t * s):=bd_pow 6 (show (t * s).natAbs < 64 by rcases ht with rfl | rfl <;> omega) (by decide)
  exact ((bC.mono (show 46<=49 by decide)).add ((b1.mul bk).mono (by decide))).mono (by decide)
end
end Sb
namespace Sb
open PySem L2
theorem add_neg (r s:Rat):subR r s=addR r (negR s):=by
 show nrm (r.1 * s.2 - s.1 * r.2) (r.2 * s.2)=nrm (r.1 * s.2 + -s.1 * r.2) (r.2 * s.2)
 rw [Int.neg_mul,Int.sub_eq_add_neg]
theorem half_rep {z:Int}:(nrm z 2).1 * 6=z * 3 * (nrm z 2).2:=by
 have:=rep_nrm (p:=z) (show (2:Int) ≠ 0 by decide)
 have e:=rep_scale 3 this
 exact e
theorem price_up {z:Int} {mid:Rat} (h0:0<=z) (h1:z<=6):PriceR 1 mid (some (addR mid (nrm z 2))):=fun r e=>by
 cases e
 refine ⟨nrm z 2,z * 3,rfl,low_nrm (by decide),by omega,by omega,?_⟩
 rw [Int.one_mul]
 exact half_rep
theorem price_down {z:Int} {mid:Rat} (h0:0<=z) (h1:z<=6):PriceR (-1) mid (some (subR mid (nrm z 2))):=fun r e=>by
 cases e
 refine ⟨negR (nrm z 2),z * 3,add_neg _ _,negR.low (low_nrm (by decide)),by omega,by omega,?_⟩
 show -(nrm z 2).1 * 6=-1 * (z * 3) * (nrm z 2).2
 rw [Int.neg_mul,half_rep]
 grind
theorem PriceR.non {t:Int} {mid:Rat}:PriceR t mid none:=fun r e=>nomatch e
structure MidR (c:Nat) (Ws:List Int) (rs:List Rat) (o:Option (Nat->Bool)) (mid:Rat) (k C:Int):Prop where
 len:rs.length=c
 six:∀ r ∈ rs,Six r
 g:Good 100 mid
 pos:0 < k
 eq:mid.1 * (6 * k)=C * mid.2
 bk:Bd 21 k
 bC:Bd 46 C
 at_:0 < (List.zipWith (· * ·) Ws (cutZ o (List.replicate c 1))).sum->k=(List.zipWith (· * ·) Ws (cutZ o (List.replicate c 1))).sum/\C=(List.zipWith (· * ·) Ws (cutZ o (wholeB rs 6))).sum
section
variable {P:Program} {w:World} {K:PySem.W.Frag} {mg:Str->Option Value} {base:Heap}
inductive spMid (K:PySem.W.Frag) (vs:List V) (H:Hp) (Q:VK) (_z3:XK):Prop
 | mk (a g:Addr) (ve:V) (c:Nat) (Ws:List Int) (ws rs:List Rat) (o:Option (Nat->Bool)) (zz0:vs=[.ref a,.ref g,ve]) (zz1:RowAt K H a ws) (zz2:WtsR c Ws ws) (zz3:RowAt K H g rs) (zz4:rs.length=c) (zz5:(∀ r ∈ rs,Six r)) (zz6:EvAt K H c o ve) (zz7:1<=c) (zz8:c<=100) (zz9:∀ (am:Addr) (H':Hp) (mid:Rat) (k C:Int),Same H H'->SqT K H' am [.int mid.1,.int mid.2]->MidR c Ws rs o mid k C->Q (.ref am) H')
theorem scMid:FnScope ["_law_weights_here","_law_row_here","_law_event_here","_law_share"] ["_law_weights_here","_law_row_here","_law_event_here"] (defScope sMid):=⟨rfl,rfl,rfl,by decide +kernel,rfl,by decide +kernel,by decide +kernel⟩
set_option maxHeartbeats 1600000 in
theorem okMid (D:Def K mg "_law_mid" sMid ["_law_weights_here","_law_row_here","_law_event_here"]) (T:Blt mg) (hLawMean:Has P w K mg base 4 "_law_mean" ["_law_weights_here","_law_row_here"] (spMeanP K)) (hLawCut:Has P w K mg base 2 "_law_cut" ["_law_row_here","_law_event_here"] (spLCut K)) (hLawParted:Has P w K mg base 3 "_law_parted" ["_law_one","_law_other"] (spParted K)) :
  Has P w K mg base 5 "_law_mid" ["_law_weights_here","_law_row_here","_law_event_here"] (spMid K):=by
 refine D.has fun f fd F=>F.ok scMid (fun vs H Q E h=>?_) (fun cdv A outer s H vs Q E hr h=>?_)
 ·obtain ⟨a,g,ve,c,Ws,ws,rs,o,rfl,_⟩:=h
  rfl
 ·obtain ⟨a,g,ve,c,Ws,ws,rs,o,rfl,⟨xs,hxs,hws⟩,wt,⟨us,hus,hrs⟩,l1,six,E0,hc1,hc,k⟩:=h
  have sc:=scMid
  have nd1:(["_law_one"]:List Str).Nodup:=by decide +kernel
  refine ⟨_,(pss_cons (ps_set (i:=3) sc.nd rfl (Or.inl rfl) (pe_use hLawMean (hr.mono (by decide)) rfl (pa_cons (pv 0) (pa_cons (pe_use hLawCut (hr.mono (by decide)) rfl (pa_cons (pe_comp (N:=["_law_one"]) (k:=1) (fv:=[]) rfl (pi_tup (pv 1))
   (fun _ _ _ _ _=>pg_name (i:=0) nd1 rfl (Or.inl rfl)) (fun _ _ _ _ _=>pts_nil) (fun _ _ _ _ _=>(pe_tup (pa_cons pe_int (pa_cons pe_int pa_nil)))) weak_name) (pa_cons (pv 2) pa_nil))) pa_nil))))
   (pss_cons (ps_if (pt_cmpR op_eq (pe_ix ix_p0 (pv 3) pe_int (fun _ _=>rfl)) pe_int (nomark _))
    (pss_one (ps_ret (pe_tup (pa_cons pe_int (pa_cons pe_int pa_nil)))))
    pss_nil)
   (pss_one (ps_ret (pe_use hLawParted (hr.mono (by decide)) rfl (pa_cons (pe_use hLawMean (hr.mono (by decide)) rfl (pa_cons (pv 0) (pa_cons (pe_use hLawCut (hr.mono (by decide)) rfl (pa_cons (pv 1) (pa_cons (pv 2) pa_nil))) pa_nil))) (pa_cons (pv 3) pa_nil))))))),?_⟩
  have lus:=hrs.len
  refine ⟨_,rfl,_,rfl,g,rfl,⟨_,hus⟩,fun d hd=>?_⟩
  refine ⟨c,fun j ys H'=>Same H H'/\Rs K H' (List.replicate j (1,1)) ys,size1000 (by omega),⟨Same.new hd,.nil⟩,?_,?_⟩
  ·rintro j ys H10 hj ⟨S10,R10⟩ hd10
   refine ⟨⟨us,us[j]'(by omega),sameT S10 hus,by simp⟩,?_⟩
   rintro x' H3 ⟨rfl,fx⟩
   refine nameyes ?_
   refine ⟨(by show 2<=sizeLine; decide),fun p hp=>?_⟩
   have S11:Same H3 (upd H3 p (.tup [.int 1,.int 1])):=Same.new hp
   have hd11:=S11 _ _ hd10
   refine ⟨hd11,fun q o' e=>?_,?_⟩
   ·rw [upd_ne (ne_of_none e hd)]
    exact S11 _ _ (S10 _ _ e)
   ·rw [List.replicate_succ']
    exact (R10.ext ((Ext.same S11).trans (Ext.upd hd11))).snoc ⟨p,rfl,(Ext.upd hd11).sq (SqT.of upd_same)⟩
  rintro ys H10 ⟨S10,R10⟩ hd10
  refine ⟨⟨us,sameT S10 hus,by omega⟩,_,rfl,d,ve,ys,List.replicate c (1,1),o,rfl,.inl (SqL.of hd10),R10,by rw [List.length_replicate]; exact E0.same S10,by rw [List.length_replicate]; omega,fun p11 H11 S11 R11=>?_⟩
  obtain ⟨ys11,h11,r11⟩:=R11
  have S011:=S10.trans S11
  have ro:=(RepL.ones c).cut o
  have lo:(cutR o (List.replicate c (1,1))).length=c:=by rw [cutR_len,List.length_replicate]
  refine ⟨a,p11,xs,ys11,ws,_,10,1,_,_,_,_,rfl,.inr (sameT S011 hxs),hws.ext (Ext.same S011),.inr h11,r11,by rw [lo]; exact wt.len,by rw [lo]; omega,wt.rep,ro,by decide,fun ash H12 S12 e12=>?_⟩
  have S012:=S011.trans S12
  have lWs:Ws.length=c:=by rw [wt.rep.len]; exact wt.len
  obtain ⟨shE,shL⟩:=(wt.rep.mul ro (by rw [lo]; exact wt.len)).sum
  have shG:=(wt.rep.mul ro (by rw [lo]; exact wt.len)).sumGood (k:=10) (by rw [List.length_zipWith,lo]; omega)
  replace shE:(sumR (List.zipWith mulR' ws (cutR o (List.replicate c (1,1))))).1 * (Ws.sum * 1)=(List.zipWith (· * ·) Ws (cutZ o (List.replicate c 1))).sum * (sumR (List.zipWith mulR' ws (cutR o (List.replicate c (1,1))))).2:=shE
  replace shL:Low (sumR (List.zipWith mulR' ws (cutR o (List.replicate c (1,1))))):=shL
  replace shG:Good (10 + 1 + 10) (sumR (List.zipWith mulR' ws (cutR o (List.replicate c (1,1))))):=shG
  generalize sumR (List.zipWith mulR' ws (cutR o (List.replicate c (1,1))))=sh at *
  have bS:Bd 21 (List.zipWith (· * ·) Ws (cutZ o (List.replicate c 1))).sum:=dot_bd (m:=10) (n:=1) (k:=10) (fun W hW=>wt.rep.bdW W hW) (fun z hz=>ro.bdW z hz) (by rw [lWs]; omega)
  have r6:=RepL.six six
  have bM:Bd 44 (List.zipWith (· * ·) Ws (cutZ o (wholeB rs 6))).sum:=dot_bd (m:=10) (n:=24) (k:=10) (fun W hW=>wt.rep.bdW W hW) (fun z hz=>(r6.cut o).bdW z hz) (by rw [lWs]; omega)
  have Snn:0<=(List.zipWith (· * ·) Ws (cutZ o (List.replicate c 1))).sum:=(share_nn lWs wt.nn).1
  have wp:=wt.pos
  refine ⟨_,rfl,ash,_,_,rfl,rfl,e12,rfl,_,rfl,?_⟩
  refine ite2 (fun h=>?_) (fun h=>?_)
  ·have h0:sh.1=0:=by
    have:=of_decide_eq_true h
    injection this
   have S0:¬ 0 < (List.zipWith (· * ·) Ws (cutZ o (List.replicate c 1))).sum:=fun z=>by
    have h1:=Int.mul_pos z shL.pos
    rw [h0,Int.zero_mul] at shE
    omega
   refine ⟨(by show 2<=sizeLine; decide),fun p hp=>?_⟩
   exact k p _ (0,1) 1 0 (S012.trans (Same.new hp)) (SqT.of upd_same) ⟨l1,six,⟨bd0 _,bd_pow 1 (by decide) (by decide),by decide,by decide⟩,by decide,by decide,bd_pow 1 (by decide) (by decide),bd0 _,fun z=>absurd z S0⟩
  ·have h0:sh.1 ≠ 0:=fun z=>h (decide_eq_true (by rw [z]))
   have hpos:0 < sh.1:=by
    have:0<=sh.1:=((nn_of_rep (show 0 < Ws.sum * 1 by omega) shL.pos shE).1).mpr Snn
    omega
   have Spos:0 < (List.zipWith (· * ·) Ws (cutZ o (List.replicate c 1))).sum:=by
    apply Classical.byContradiction
    intro z
    have:(List.zipWith (· * ·) Ws (cutZ o (List.replicate c 1))).sum=0:=by omega
    rw [this,Int.zero_mul] at shE
    have:=Int.mul_pos hpos (show 0 < Ws.sum * 1 by omega)
    omega
   refine ⟨_,rfl,_,rfl,_,rfl,g,ve,us,rs,o,rfl,.inr (sameT S012 hus),hrs.ext (Ext.same S012),by rw [l1]; exact E0.same S012,by omega,fun p13 H13 S13 R13=>?_⟩
   obtain ⟨ys13,h13,r13⟩:=R13
   have rc:=r6.cut o
   have lc:(cutR o rs).length=c:=by rw [cutR_len]; exact l1
   refine ⟨a,p13,xs,ys13,ws,_,10,24,_,_,_,_,rfl,.inr (sameT (S012.trans S13) hxs),hws.ext (Ext.same (S012.trans S13)),.inr h13,r13,by rw [lc]; exact wt.len,by rw [lc]; omega,wt.rep,rc,by decide,fun am2 H14 S14 e14=>?_⟩
   obtain ⟨miE,miL⟩:=(wt.rep.mul rc (by rw [lc]; exact wt.len)).sum
   have miG:=(wt.rep.mul rc (by rw [lc]; exact wt.len)).sumGood (k:=10) (by rw [List.length_zipWith,lc]; omega)
   replace miE:(sumR (List.zipWith mulR' ws (cutR o rs))).1 * (Ws.sum * 6)=(List.zipWith (· * ·) Ws (cutZ o (wholeB rs 6))).sum * (sumR (List.zipWith mulR' ws (cutR o rs))).2:=miE
   replace miL:Low (sumR (List.zipWith mulR' ws (cutR o rs))):=miL
   replace miG:Good (10 + 24 + 10) (sumR (List.zipWith mulR' ws (cutR o rs))):=miG
   generalize sumR (List.zipWith mulR' ws (cutR o rs))=mi at *
   have S1214:=S13.trans S14
   replace e12:=sameT S1214 e12
   refine ⟨_,rfl,am2,ash,mi,sh,44,rfl,e14,e12,miG,shG.mono (by decide),hpos,by decide,fun aq H15 f15 S15 e15=>?_⟩
   have qE:=rep_quot (q:=nrm (mi.1 * sh.2) (mi.2 * sh.1)) miL.pos shL.pos miE shE (n_cross (mi.1 * sh.2) (mi.2 * sh.1))
   have hne:mi.2 * sh.1 ≠ 0:=mul_ne miL.pos hpos
   have qG:Good 65 (nrm (mi.1 * sh.2) (mi.2 * sh.1)):=nrm_good (miG.b1.mul shG.b2) (miG.b2.mul shG.b1) hne
   exact k aq H15 _ _ _ ((S012.trans S1214).trans S15) (SqT.of e15) ⟨l1,six,qG.mono (by decide),Spos,qE,bS,bM.mono (by decide),fun _=>⟨rfl,rfl⟩⟩
end
end Sb
namespace Sb
open PySem L2
section
variable {P:Program} {w:World} {K:PySem.W.Frag} {mg:Str->Option Value} {base:Heap}
theorem half_any {z:Int} {mid:Rat} (h0:-6<=z) (h1:z<=6):∃ t:Int,(t=1 \/ t=-1)/\PriceR t mid (some (addR mid (nrm z 2)))/\PriceR (-t) mid (some (subR mid (nrm z 2))):=by
 by_cases h:0<=z
 ·exact ⟨1,.inl rfl,price_up h h1,price_down h h1⟩
 ·refine ⟨-1,.inr rfl,fun r e=>?_,fun r e=>?_⟩
  ·cases e
   refine ⟨nrm z 2,-z * 3,rfl,low_nrm (by decide),by omega,by omega,?_⟩
   rw [half_rep]
   grind
  ·cases e
   refine ⟨negR (nrm z 2),-z * 3,add_neg _ _,negR.low (low_nrm (by decide)),by omega,by omega,?_⟩
   show -(nrm z 2).1 * 6=- -1 * (-z * 3) * (nrm z 2).2
   rw [Int.neg_mul,half_rep]
   grind
theorem offer_repL {c:Nat} {rs:List Rat} {ask bid:Option Rat} {ev:Option (Nat->Bool)} {mid:Rat} {k C t u:Int} (six:∀ r ∈ rs,Six r) (lr:rs.length=c) (lm:Low mid) (hk:0 < k) (hm:mid.1 * (6 * k)=C * mid.2) (bk:Bd 21 k) (bC:Bd 46 C) (ht:t=1 \/ t=-1) (hu:u=1 \/ u=-1) (ha:PriceR t mid ask) (hb:PriceR u mid bid):OffRep c ⟨rs,ask,bid,ev⟩:=by
 refine ⟨lr,?_⟩
 have r6:=(RepL.six six).scale hk bk
 have A:∃ A:Int,∀ r,ask=some r->Low r/\r.1 * (6 * k)=A * r.2/\Bd 90 A:=by
  cases ask with
  | none=>exact ⟨0,fun r e=>nomatch e⟩
  | some x =>
   obtain ⟨s,_,_,l,e,b⟩:=price_rep ha lm hm bk bC ht rfl
   exact ⟨_,fun r er=>by cases er; exact ⟨l,e,b.mono (by decide)⟩⟩
 have B:∃ A:Int,∀ r,bid=some r->Low r/\r.1 * (6 * k)=A * r.2/\Bd 90 A:=by
  cases bid with
  | none=>exact ⟨0,fun r e=>nomatch e⟩
  | some x =>
   obtain ⟨s,_,_,l,e,b⟩:=price_rep hb lm hm bk bC hu rfl
   exact ⟨_,fun r er=>by cases er; exact ⟨l,e,b.mono (by decide)⟩⟩
 obtain ⟨A,hA⟩:=A
 obtain ⟨B,hB⟩:=B
 exact ⟨6 * k,A,B,_,r6.mono (by decide),hA,hB⟩
inductive spOfferL (K:PySem.W.Frag) (vs:List V) (H:Hp) (Q:VK) (_z3:XK):Prop
 | mk (b a:Addr) (c n:Nat) (lo:Int) (Ws:List Int) (ws:List Rat) (zz0:vs=[.ref b,.ref a,.int lo]) (zz1:0<=lo) (zz2:lo<=2) (zz3:BagAt H b n) (zz4:n<=50000) (zz5:RowAt K H a ws) (zz6:WtsR c Ws ws) (zz7:1<=c) (zz8:c<=100) (zz9:∀ (v:V) (H':Hp) (o:Offr),SameX b H H'->OffAt K H' c o v->OffRep c o->Q v H')
theorem scOfferL:FnScope ["_law_bag_here","_law_weights_here","_law_loose","_law_event_here","_law_row_here","_law_mid_here","_law_ask","_law_bid","_law_way"] ["_law_bag_here","_law_weights_here","_law_loose"] (defScope sOffer):=⟨rfl,rfl,rfl,by decide +kernel,rfl,by decide +kernel,by decide +kernel⟩
set_option maxHeartbeats 1600000 in
theorem okOfferL (D:Def K mg "_law_offer" sOffer ["_law_bag_here","_law_weights_here","_law_loose"]) (T:Blt mg) (hLawTake:Has P w K mg base 1 "_law_take" ["_law_bag_here","_law_many"] spTake) (hLawEvent:Has P w K mg base 2 "_law_event" ["_law_bag_here","_law_count"] (spEvent K)) (hLawRow:Has P w K mg base 4 "_law_row" ["_law_bag_here","_law_count"] (spRow6 K)) (hLawMid:Has P w K mg base 5 "_law_mid" ["_law_weights_here","_law_row_here","_law_event_here"] (spMid K))
  (hLawLow:Has P w K mg base 2 "_law_low" ["_law_top","_law_bottom"] spLow) (hLawPlus:Has P w K mg base 3 "_law_plus" ["_law_one","_law_other"] (spTwo K addR)) (hLawMinus:Has P w K mg base 3 "_law_minus" ["_law_one","_law_other"] (spTwo K subR)) :
  Has P w K mg base 6 "_law_offer" ["_law_bag_here","_law_weights_here","_law_loose"] (spOfferL K):=by
 refine D.has fun f fd F=>F.ok scOfferL (fun vs H Q E h=>?_) (fun cdv A outer s H vs Q E hr h=>?_)
 ·obtain ⟨b,a,c,n,lo,Ws,ws,rfl,_⟩:=h
  rfl
 ·obtain ⟨b,a,c,n,lo,Ws,ws,rfl,lo0,lo2,hB,hn,⟨xs,hxs,hws⟩,wt,hc1,hc,k⟩:=h
  have sc:=scOfferL
  refine ⟨_,(pss_cons (ps_set (i:=3) sc.nd rfl (Or.inl rfl) (pe_use hLawEvent (hr.mono (by decide)) rfl (pa_cons (pv 0) (pa_cons (pe_callB call_len_seq rfl T.len boot_len (pa_cons (pv 1) pa_nil)) pa_nil))))
   (pss_cons (ps_set (i:=4) sc.nd rfl (Or.inl rfl) (pe_use hLawRow (hr.mono (by decide)) rfl (pa_cons (pv 0) (pa_cons (pe_callB call_len_seq rfl T.len boot_len (pa_cons (pv 1) pa_nil)) pa_nil))))
   (pss_cons (ps_set (i:=5) sc.nd rfl (Or.inl rfl) (pe_use hLawMid (hr.mono (by decide)) rfl (pa_cons (pv 1) (pa_cons (pv 4) (pa_cons (pv 3) pa_nil)))))
   (pss_cons (ps_set (i:=6) sc.nd rfl (Or.inl rfl) (pe_use hLawPlus (hr.mono (by decide)) rfl (pa_cons (pv 5) (pa_cons (pe_use hLawLow (hr.mono (by decide)) rfl (pa_cons (pe_op op_sub (pe_use hLawTake (hr.mono (by decide)) rfl (pa_cons (pv 0) (pa_cons pe_int pa_nil))) (pv 2)) (pa_cons pe_int pa_nil))) pa_nil))))
   (pss_cons (ps_set (i:=7) sc.nd rfl (Or.inl rfl) (pe_use hLawMinus (hr.mono (by decide)) rfl (pa_cons (pv 5) (pa_cons (pe_use hLawLow (hr.mono (by decide)) rfl (pa_cons (pe_op op_sub (pe_use hLawTake (hr.mono (by decide)) rfl (pa_cons (pv 0) (pa_cons pe_int pa_nil))) (pv 2)) (pa_cons pe_int pa_nil))) pa_nil))))
   (pss_cons (ps_set (i:=8) sc.nd rfl (Or.inl rfl) (pe_use hLawTake (hr.mono (by decide)) rfl (pa_cons (pv 0) (pa_cons pe_int pa_nil))))
   (pss_cons (ps_join (ps_if (pt_cmpR op_eq (pv 8) pe_int (nomark _))
    (pss_one (ps_set (i:=6) sc.nd rfl (Or.inl rfl) pe_non))
    pss_nil))
   (pss_cons (ps_join (ps_if (pt_cmpR op_eq (pv 8) pe_int (nomark _))
    (pss_one (ps_set (i:=7) sc.nd rfl (Or.inl rfl) pe_non))
    pss_nil))
   (pss_one (ps_ret (pe_tup (pa_cons (pv 4) (pa_cons (pv 6) (pa_cons (pv 7) (pa_cons (pv 3) pa_nil))))))))))))))),?_⟩
  have lx:=hws.len
  obtain rfl:c=xs.length:=by have:=wt.len; omega
  generalize hcc:xs.length=c at *
  refine ⟨_,rfl,_,rfl,a,xs,rfl,.inr hxs,?_⟩
  rw [hcc]
  refine ⟨b,c,n,rfl,hB,by omega,by omega,fun ve H1 o B1 S1 E1=>?_⟩
  have hxs1:SqT K H1 a xs:=(Ext.bag S1 hB).sq hxs
  have hws1:=hws.ext (Ext.bag S1 hB)
  refine ⟨_,rfl,_,rfl,a,xs,rfl,.inr hxs1,?_⟩
  rw [hcc]
  refine ⟨b,c,_,rfl,B1,by omega,by omega,fun a1 H2 rs B2 S2 R2 l1 six=>?_⟩
  have x12:=Ext.bag S2 B1
  refine ⟨_,rfl,_,rfl,_,rfl,a,a1,ve,c,Ws,ws,rs,o,rfl,⟨xs,x12.sq hxs1,hws1.ext x12⟩,wt,R2,l1,six,E1.ext x12,hc1,hc,fun am H3 mid kk C S3 sqm mr=>?_⟩
  have B3:=B2.same S3
  have E3:=(E1.ext x12).same S3
  have R3:=R2.same S3
  have S03:SameX b H H3:=(S1.trans S2).trans (SameX.of S3)
  clear S1 S2 S3 B1 B2 hxs1 hws1 x12 E1 R2
  refine ⟨_,rfl,_,rfl,b,_,_,rfl,B3,by omega,by decide,by decide +kernel,fun z H4 z0 z1 B4 S4=>⟨_,rfl,_,_,rfl,rfl,?_⟩⟩
  refine ⟨_,_,rfl,by decide,by decide,fun asl H5 f5 S5 e5=>?_⟩
  have g5:Good 100 (nrm (z - lo) 2):=(six_nrm (by omega) (by omega) (.inr (.inl rfl))).g.mono (by decide)
  have x35:=(Ext.bag S4 B3).trans (Ext.same S5)
  refine ⟨am,asl,mid,nrm (z - lo) 2,100,rfl,x35.sq sqm,SqT.of e5,mr.g,g5,by decide,fun aA H6 f6 S6 e6=>?_⟩
  have S36:SameX b H3 H6:=(S4.trans (SameX.of S5)).trans (SameX.of S6)
  have B6:=(B4.same S5).same S6
  have x36:=Ext.bag S36 B3
  clear S4 S5 S6 e5 x35 f5 f6 B4
  refine ⟨_,rfl,_,rfl,b,_,_,rfl,B6,by omega,by decide,by decide +kernel,fun y H7 y0 y1 B7 S7=>⟨_,rfl,_,_,rfl,rfl,?_⟩⟩
  refine ⟨_,_,rfl,by decide,by decide,fun asl H8 f8 S8 e8=>?_⟩
  have g8:Good 100 (nrm (y - lo) 2):=(six_nrm (by omega) (by omega) (.inr (.inl rfl))).g.mono (by decide)
  have x68:=(Ext.bag S7 B6).trans (Ext.same S8)
  refine ⟨am,asl,mid,nrm (y - lo) 2,100,rfl,x68.sq (x36.sq sqm),SqT.of e8,mr.g,g8,by decide,fun aB H9 f9 S9 e9=>?_⟩
  have S69:SameX b H6 H9:=(S7.trans (SameX.of S8)).trans (SameX.of S9)
  have B9:=(B7.same S8).same S9
  have x69:=Ext.bag S69 B6
  have sqA:=x69.sq (SqT.of (K:=K) e6)
  have sqB:=SqT.of (K:=K) e9
  have x39:=x36.trans x69
  have S09:=(S03.trans S36).trans S69
  clear S7 S8 S9 e8 x68 f8 f9 B7 e6 e9
  refine ⟨_,rfl,b,_,_,rfl,B9,by omega,by decide,by decide +kernel,fun wy H10 w0 w1 B10 S10=>?_⟩
  have x910:=Ext.bag S10 B9
  obtain ⟨ta,hta,pu,_⟩:=half_any (z:=z - lo) (mid:=mid) (by omega) (by omega)
  obtain ⟨tb',htb',_,pd⟩:=half_any (z:=y - lo) (mid:=mid) (by omega) (by omega)
  obtain ⟨tb,etb⟩:∃ tb,tb=-tb':=⟨_,rfl⟩
  have htb:tb=1 \/ tb=-1:=by omega
  rw [← etb] at pd
  have fin:∀ (oa ob:Option Rat) (va vb:V),MayAt K H10 oa va->MayAt K H10 ob vb->PriceR ta mid oa->PriceR tb mid ob->∀ p,H10 p=none->Q (.ref p) (upd H10 p (.tup [.ref a1,va,vb,ve])):=fun oa ob va vb Ma Mb pa pb p hp=>by
   have S11:Same H10 (upd H10 p (.tup [.ref a1,va,vb,ve])):=Same.new hp
   have x11:=Ext.same S11
   have x311:=(x39.trans x910).trans x11
   have lWs:Ws.length=c:=by rw [wt.rep.len]; exact wt.len
   exact k _ _ ⟨rs,oa,ob,o⟩ ((S09.trans S10).trans (SameX.of S11)) ⟨p,a1,va,vb,ve,rfl,SqT.of upd_same,R3.ext x311,l1,Ma.ext x11,Mb.ext x11,E3.ext x311⟩ (offer_repL six l1 mr.g.low mr.pos mr.eq mr.bk mr.bC hta htb pa pb)
  refine ⟨fun σ H'=>H'=H10/\∃ (oa:Option Rat) (va:V),σ=[some (.ref b),some (.ref a),some (.int lo),some ve,some (.ref a1),some (.ref am),some va,some (.ref aB),some (.int wy)]/\MayAt K H10 oa va/\PriceR ta mid oa,?_,?_⟩
  ·refine ⟨_,rfl,rfl,_,rfl,?_⟩
   refine ite2 (fun h=>?_) (fun h=>?_)
   ·exact ⟨rfl,none,.non,rfl,rfl,PriceR.non⟩
   ·exact ⟨rfl,some _,.ref aA,rfl,⟨aA,rfl,x910.sq sqA⟩,pu⟩
  rintro σ H11 ⟨rfl,oa,va,rfl,Ma,pa⟩
  refine ⟨fun σ H'=>H'=H11/\∃ (ob:Option Rat) (vb:V),σ=[some (.ref b),some (.ref a),some (.int lo),some ve,some (.ref a1),some (.ref am),some va,some vb,some (.int wy)]/\MayAt K H11 ob vb/\PriceR tb mid ob,?_,?_⟩
  ·refine ⟨_,rfl,rfl,_,rfl,?_⟩
   refine ite2 (fun h=>?_) (fun h=>?_)
   ·exact ⟨rfl,none,.non,rfl,rfl,PriceR.non⟩
   ·exact ⟨rfl,some _,.ref aB,rfl,⟨aB,rfl,x910.sq sqB⟩,pd⟩
  rintro σ H12 ⟨rfl,ob,vb,rfl,Mb,pb⟩
  exact ⟨_,rfl,_,rfl,_,rfl,_,rfl,(by show 4<=sizeLine; decide),fun p hp=>fin oa ob va vb Ma Mb pa pb p hp⟩
end
end Sb
namespace Sb
open PySem L2
section
variable {P:Program} {w:World} {K:PySem.W.Frag} {mg:Str->Option Value} {base:Heap}
theorem scGainsOf:FnScope ["_law_offers","_law_rows","_law_row_here","_law_ask","_law_bid","_law_event_here"] ["_law_offers"] (defScope sLGains):=⟨rfl,rfl,rfl,by decide +kernel,rfl,by decide +kernel,by decide +kernel⟩
set_option maxHeartbeats 800000 in
theorem okGainsOf (D:Def K mg "_law_gains" sLGains ["_law_offers"]) (hLawMinus:Has P w K mg base 3 "_law_minus" ["_law_one","_law_other"] (spTwo K subR)) (hLawCut:Has P w K mg base 2 "_law_cut" ["_law_row_here","_law_event_here"] (spLCut K)):Has P w K mg base 4 "_law_gains" ["_law_offers"] (spGainsP K):=by
 refine D.has fun f fd F=>F.ok scGainsOf (fun vs H Q E h=>?_) (fun cdv A outer s H vs Q E hr h=>?_)
 ·obtain ⟨l,c,n,os,rfl,_⟩:=h
  rfl
 ·obtain ⟨l,c,n,os,rfl,⟨vs,hl,hO⟩,hlen,hc,hn,g,k⟩:=h
  have sc:=scGainsOf
  have nd1:(["_law_worth","_law_ask"]:List Str).Nodup:=by decide +kernel
  have nd2:(["_law_worth","_law_bid"]:List Str).Nodup:=by decide +kernel
  refine ⟨_,(pss_cons (ps_set (i:=1) sc.nd rfl (Or.inl rfl) (pe_lst pa_nil))
   (pss_cons (ps_for PassesOwn.never rfl (pi_list (pv 0)) (pg_tup (n:=4) rfl (pgs_cons (pg_name (i:=2) sc.nd rfl (Or.inl rfl)) (pgs_cons (pg_name (i:=3) sc.nd rfl (Or.inr rfl)) (pgs_cons (pg_name (i:=4) sc.nd rfl (Or.inr rfl)) (pgs_cons (pg_name (i:=5) sc.nd rfl (Or.inl rfl)) pgs_nil)))))
    (pss_cons (ps_join (ps_if (pt_cmpR op_notN (pv 3) pe_non (nomark _))
     (pss_one (ps_expr (pe_bm PySem.F.plainAttrs_list PySem.F.slot_list_append PySem.F.type_list_append mt_append (pv 1) (pa_cons (pe_use hLawCut (hr.mono (by decide)) rfl (pa_cons (pe_comp (N:=["_law_worth","_law_ask"]) (k:=1) (fv:=[3]) rfl (pi_tup (pv 2))
   (fun _ _ _ _ _=>pg_name (i:=0) nd1 rfl (Or.inl rfl)) (fun _ _ _ _ _=>pts_nil) (fun _ _ _ _ _=>(pe_use hLawMinus (hr.mono (by decide)) rfl (pa_cons (pv 0) (pa_cons (pv 1) pa_nil)))) weak_name) (pa_cons (pv 5) pa_nil))) pa_nil))))
     pss_nil))
    (pss_one (ps_if (pt_cmpR op_notN (pv 4) pe_non (nomark _))
     (pss_one (ps_expr (pe_bm PySem.F.plainAttrs_list PySem.F.slot_list_append PySem.F.type_list_append mt_append (pv 1) (pa_cons (pe_use hLawCut (hr.mono (by decide)) rfl (pa_cons (pe_comp (N:=["_law_worth","_law_bid"]) (k:=1) (fv:=[4]) rfl (pi_tup (pv 2))
   (fun _ _ _ _ _=>pg_name (i:=0) nd2 rfl (Or.inl rfl)) (fun _ _ _ _ _=>pts_nil) (fun _ _ _ _ _=>(pe_use hLawMinus (hr.mono (by decide)) rfl (pa_cons (pv 1) (pa_cons (pv 0) pa_nil)))) weak_name) (pa_cons (pv 5) pa_nil))) pa_nil))))
     pss_nil))))
   (pss_one (ps_ret (pv 1))))),?_⟩
  have lo:=Paired.length hO
  refine ⟨(by show 0<=sizeLine; decide),fun d hd=>?_⟩
  have S0:Same H (upd H d (.lst [])):=Same.new hd
  have up:∀ (zs:List V) (H1:Hp),Same H H1->Same H (upd H1 d (.lst zs)):=fun zs H1 S1 q o e=>by
   rw [upd_ne (ne_of_none e hd)]
   exact S1 _ _ e
  have glen:∀ i,i<=os.length->(gainsP os i).length<=2 * i:=fun i _=>by rw [← gains_sides,List.length_map]; exact sidesP_len os i
  refine ⟨_,rfl,l,rfl,⟨_,SqL.of (S0 _ _ hl)⟩,for_list (K:=K) (a:=l) (xs:=vs) (fun i σ H'=>Same H H'/\∃ (as:List Addr) (x1 x2 x3 x4:Option V),σ=[some (.ref l),some (.ref d),x1,x2,x3,x4]/\H' d=some (.lst (as.map V.ref))/\Paired (RowAt K H') as (gainsP os i)) ⟨S0,[],none,none,none,none,rfl,upd_same,.nil⟩ (fun i σ H' _ h=>SqL.of (h.1 _ _ hl)) ?_ ?_⟩
  ·rintro i v σ H1 hi ⟨S1,as,x1,x2,x3,x4,rfl,hd1,P1⟩
   have hiv:i < vs.length:=(List.getElem?_eq_some_iff.mp hi).1
   have hio:i < os.length:=by omega
   have eo:os[i]?=some (os.getD i offD):=by simp [List.getD,hio]
   have hv:=(Paired.getB hO hi eo).same S1
   have go:=g _ (List.mem_of_getElem? eo)
   have gl:=glen i (by omega)
   have ga:=gainsP_succ os i
   generalize os.getD i offD=o at *
   obtain ⟨p,ar,va,vb,ve,rfl,hp,hR,hrl,hA,hB,hE⟩:=hv
   have la1:=Paired.length P1
   refine ⟨p,_,rfl,hp,rfl,_,_,rfl,_,_,rfl,_,_,rfl,_,_,rfl,rfl,?_⟩
   obtain ⟨xs,hxs,hrs⟩:=hR
   have lx:=hrs.len
   refine ⟨fun σ H'=>SameX d H1 H'/\Same H H'/\∃ as':List Addr,σ=[some (.ref l),some (.ref d),some (.ref ar),some va,some vb,some ve]/\H' d=some (.lst (as'.map V.ref))/\Paired (RowAt K H') as' (gainsP os i ++ (if o.ask.isSome then [gainR o true] else [])),?_,?_⟩
   ·refine ⟨_,rfl,rfl,_,rfl,?_⟩
    cases e:o.ask with
    | none =>
     rw [e] at hA
     have z:va=V.non:=hA
     subst z
     exact iteF ⟨SameX.refl _ _,S1,as,rfl,hd1,by simpa using P1⟩
    | some r =>
     rw [e] at hA
     obtain ⟨ab,rfl,hab⟩:=hA
     refine iteNT (fun z=>nomatch z) ?_
     refine ⟨_,rfl,.inl ⟨rfl,_,SqL.of hd1⟩,_,rfl,ar,rfl,⟨_,hxs⟩,fun dd hdd=>?_⟩
     refine ⟨o.row.length,fun j ys H2=>Same H1 H2/\Rs K H2 ((o.row.map fun x=>subR x r).take j) ys,size1000 (by omega),⟨Same.new hdd,.nil⟩,?_,?_⟩
     ·rintro j ys H2 hj ⟨S2,R2⟩ hd2
      refine ⟨⟨xs,xs[j]'(by omega),sameT S2 hxs,by simp⟩,?_⟩
      rintro x H3 ⟨rfl,fx⟩
      obtain ⟨x0,er,ix⟩:=hrs.back (fx xs (sameT S2 hxs))
      obtain ⟨a1,rfl,sq1⟩:=ix.ext (Ext.same S2)
      refine nameyes ?_
      refine ⟨_,rfl,_,rfl,a1,ab,x0,r,n,rfl,sq1,sameT S2 hab,go.row x0 (List.mem_of_getElem? er),go.ask r e,hn,fun c4 H4 f4 S4 e4=>?_⟩
      have hd4:=S4 _ _ hd2
      refine ⟨hd4,fun q o' e=>?_,?_⟩
      ·rw [upd_ne (ne_of_none e hdd)]
       exact S4 _ _ (S2 _ _ e)
      ·rw [take_map _ er]
       exact (R2.ext ((Ext.same S4).trans (Ext.upd hd4))).snoc ⟨c4,rfl,(Ext.upd hd4).sq (SqT.of e4)⟩
     ·rintro ys H2 ⟨S2,R2⟩ hd2
      rw [List.take_of_length_le (by rw [List.length_map]; omega)] at R2
      refine ⟨⟨xs,sameT S2 hxs,by omega⟩,_,rfl,dd,ve,ys,_,o.ev,rfl,.inl (SqL.of hd2),R2,by rw [List.length_map,hrl]; exact hE.same S2,by rw [List.length_map]; omega,fun p' H' S' R'=>?_⟩
      have S1':=S2.trans S'
      have hd':=S1' _ _ hd1
      refine ⟨d,_,_,rfl,rfl,hd',small1000 (by rw [List.length_map]; omega),(SameX.of S1').trans (SameX.upd d H' _),up _ _ (S1.trans S1'),as ++ [p'],rfl,by rw [upd_same,List.map_append]; rfl,?_⟩
      ·have hg:cutR o.ev (o.row.map fun x=>subR x r)=gainR o true:=by unfold gainR; rw [e]; rfl
       rw [hg] at R'
       simp only [Option.isSome_some,if_true]
       exact Paired.snoc (rows_ext P1 ((Ext.same S1').trans (Ext.upd hd'))) (R'.ext (Ext.upd hd'))
   ·rintro σ H2 ⟨SX,S2,as',rfl,hd2,P2⟩
    have x2:Ext H1 H2:=Ext.x SX hd1
    replace hxs:=x2.sq hxs
    replace hrs:=hrs.ext x2
    replace hE:=hE.ext x2
    replace hB:=hB.ext x2
    have la2:=Paired.length P2
    have la3:(gainsP os i ++ (if o.ask.isSome then [gainR o true] else [])).length<=2 * i + 1:=by
     rw [List.length_append]
     have:(if o.ask.isSome then [gainR o true] else []).length<=1:=by split <;> simp
     omega
    refine ⟨_,rfl,rfl,_,rfl,?_⟩
    cases e:o.bid with
    | none =>
     rw [e] at hB
     have z:vb=V.non:=hB
     subst z
     refine iteF ⟨S2,as',_,_,_,_,rfl,hd2,?_⟩
     rw [ga]
     unfold wordsO
     rw [e]
     cases ea:o.ask with
     | none=>rw [ea] at P2; simpa using P2
     | some r=>rw [ea] at P2; simpa using P2
    | some r =>
     rw [e] at hB
     obtain ⟨ab,rfl,hab⟩:=hB
     refine iteNT (fun z=>nomatch z) ?_
     refine ⟨_,rfl,.inl ⟨rfl,_,SqL.of hd2⟩,_,rfl,ar,rfl,⟨_,hxs⟩,fun dd hdd=>?_⟩
     refine ⟨o.row.length,fun j ys H3=>Same H2 H3/\Rs K H3 ((o.row.map fun x=>subR r x).take j) ys,size1000 (by omega),⟨Same.new hdd,.nil⟩,?_,?_⟩
     ·rintro j ys H3 hj ⟨S3,R3⟩ hd3
      refine ⟨⟨xs,xs[j]'(by omega),sameT S3 hxs,by simp⟩,?_⟩
      rintro x H4 ⟨rfl,fx⟩
      obtain ⟨x0,er,ix⟩:=hrs.back (fx xs (sameT S3 hxs))
      obtain ⟨a1,rfl,sq1⟩:=ix.ext (Ext.same S3)
      refine nameyes ?_
      refine ⟨_,rfl,_,rfl,ab,a1,r,x0,n,rfl,sameT S3 hab,sq1,go.bid r e,go.row x0 (List.mem_of_getElem? er),hn,fun c4 H5 f4 S4 e4=>?_⟩
      have hd4:=S4 _ _ hd3
      refine ⟨hd4,fun q o' e=>?_,?_⟩
      ·rw [upd_ne (ne_of_none e hdd)]
       exact S4 _ _ (S3 _ _ e)
      ·rw [take_map _ er]
       exact (R3.ext ((Ext.same S4).trans (Ext.upd hd4))).snoc ⟨c4,rfl,(Ext.upd hd4).sq (SqT.of e4)⟩
     ·rintro ys H3 ⟨S3,R3⟩ hd3
      rw [List.take_of_length_le (by rw [List.length_map]; omega)] at R3
      refine ⟨⟨xs,sameT S3 hxs,by omega⟩,_,rfl,dd,ve,ys,_,o.ev,rfl,.inl (SqL.of hd3),R3,by rw [List.length_map,hrl]; exact hE.same S3,by rw [List.length_map]; omega,fun p' H' S' R'=>?_⟩
      have S2':=S3.trans S'
      have hd':=S2' _ _ hd2
      refine ⟨d,_,_,rfl,rfl,hd',small1000 (by rw [List.length_map]; omega),up _ _ (S2.trans S2'),as' ++ [p'],_,_,_,_,rfl,by rw [upd_same,List.map_append]; rfl,?_⟩
      have hg:cutR o.ev (o.row.map fun x=>subR r x)=gainR o false:=by unfold gainR; rw [e]; rfl
      rw [hg] at R'
      have P3:=Paired.snoc (rows_ext P2 ((Ext.same S2').trans (Ext.upd (o:=.lst (as'.map V.ref ++ [.ref p'])) hd'))) (R'.ext (Ext.upd hd'))
      rw [ga]
      unfold wordsO
      rw [e]
      cases ea:o.ask with
      | none=>rw [ea] at P3; simpa using P3
      | some r=>rw [ea] at P3; simpa using P3
  ·rintro σ H1 ⟨S1,as,x1,x2,x3,x4,rfl,hd1,P1⟩
   rw [lo] at P1
   exact ⟨_,rfl,k d H1 hd S1 ⟨as,hd1,P1⟩⟩
end
end Sb
namespace Sb
open PySem L2
theorem RowR.low8 {c:Nat} {as:List Rat} (ra:RowR c as) {x:Rat} (h:x ∈ as):Low x:=by
 obtain ⟨_,n,D,Z,r⟩:=ra
 exact (r.good x h).low
theorem RowR.cut {c:Nat} {as:List Rat} (ra:RowR c as) (ev:Option (Nat->Bool)):RowR c (cutR ev as):=by
 obtain ⟨l,n,D,Z,r⟩:=ra
 exact ⟨by rw [cutR_len]; exact l,n,_,_,r.cut ev⟩
def gP (o:Option (Nat->Bool)) (as:List Rat) (p:Rat):List Rat:=cutR o (as.map fun x=>subR x p)
theorem low_good {r:Rat} (l:Low r):∃ m,Good m r:=⟨r.1.natAbs + r.2.natAbs,Nat.lt_of_lt_of_le Nat.lt_two_pow_self (Nat.pow_le_pow_right (by decide) (by omega)),Nat.lt_of_lt_of_le Nat.lt_two_pow_self (Nat.pow_le_pow_right (by decide) (by omega)),l.pos,l.cop⟩
theorem papR_len (c:Nat) (o:Option (Nat->Bool)):(papR c o).length=c:=by unfold papR; rw [cutR_len,List.length_replicate]
end Sb
namespace Sb
open PySem L2
abbrev QQ:=_root_.Rat
def qv (r:Rat):QQ:=(r.1:QQ) / (r.2:QQ)
theorem qc_ne {z:Int} (h:0 < z):(z:QQ) ≠ 0:=fun e=>by
 have:z=0:=_root_.Rat.intCast_inj.mp (e.trans _root_.Rat.intCast_zero.symm)
 omega
theorem qc_pos {z:Int} (h:0 < z):0 < (z:QQ):=_root_.Rat.intCast_pos.mpr h
theorem q_nn {a b:QQ} (h:0<=a * b) (p:0 < b):0<=a:=by
 by_cases q:0<=a
 ·exact q
 ·have:=_root_.Rat.mul_pos (show 0 < -a by grind) p
  grind
theorem qv_of {r:Rat} {p q:Int} (hr:0 < r.2) (hq:0 < q) (e:r.1 * q=p * r.2):qv r=(p:QQ) / q:=by
 unfold qv
 have h1:=qc_ne hr
 have h2:=qc_ne hq
 have e':(r.1:QQ) * q=p * r.2:=by rw [← _root_.Rat.intCast_mul,← _root_.Rat.intCast_mul,e]
 grind
theorem qv_nrm {p q:Int} (h:0 < q):qv (nrm p q)=(p:QQ) / q:=qv_of (low_nrm (by omega)).pos h (n_cross p q)
theorem qv_add {r s:Rat} (lr:Low r) (ls:Low s):qv (addR r s)=qv r + qv s:=by
 have h1:=qc_ne lr.pos
 have h2:=qc_ne ls.pos
 rw [show addR r s=nrm (r.1 * s.2 + s.1 * r.2) (r.2 * s.2) from rfl,qv_nrm (Int.mul_pos lr.pos ls.pos)]
 unfold qv
 rw [_root_.Rat.intCast_add,_root_.Rat.intCast_mul,_root_.Rat.intCast_mul,_root_.Rat.intCast_mul]
 grind
theorem qv_sub {r s:Rat} (lr:Low r) (ls:Low s):qv (subR r s)=qv r - qv s:=by
 have h1:=qc_ne lr.pos
 have h2:=qc_ne ls.pos
 rw [show subR r s=nrm (r.1 * s.2 - s.1 * r.2) (r.2 * s.2) from rfl,qv_nrm (Int.mul_pos lr.pos ls.pos)]
 unfold qv
 rw [_root_.Rat.intCast_sub,_root_.Rat.intCast_mul,_root_.Rat.intCast_mul,_root_.Rat.intCast_mul]
 grind
theorem qv_mul {r s:Rat} (lr:Low r) (ls:Low s):qv (mulR' r s)=qv r * qv s:=by
 have h1:=qc_ne lr.pos
 have h2:=qc_ne ls.pos
 rw [show mulR' r s=nrm (r.1 * s.1) (r.2 * s.2) from rfl,qv_nrm (Int.mul_pos lr.pos ls.pos)]
 unfold qv
 rw [_root_.Rat.intCast_mul,_root_.Rat.intCast_mul]
 grind
theorem qv_top {r:Rat} (h:0 < r.2):qv r * (r.2:QQ)=r.1:=by
 have:=qc_ne h
 unfold qv
 grind
theorem qv_nn {r:Rat} (h:0 < r.2):0<=r.1 ↔ 0<=qv r:=by
 have e:=qv_top h
 have p:=qc_pos h
 constructor
 ·intro q
  have:(0:QQ)<=(r.1:QQ):=_root_.Rat.intCast_nonneg.mpr q
  rw [← e] at this
  exact q_nn this p
 ·intro q
  have:=_root_.Rat.mul_nonneg q (_root_.Rat.le_of_lt p)
  rw [e] at this
  exact _root_.Rat.intCast_nonneg.mp this
theorem qv_np {r:Rat} (h:0 < r.2):r.1<=0 ↔ qv r<=0:=by
 have a:=qv_nn (r:=(-r.1,r.2)) h
 have e:qv (-r.1,r.2)=- qv r:=by
  unfold qv
  rw [show ((-r.1,r.2):Rat).1=-r.1 from rfl,_root_.Rat.intCast_neg]
  grind
 rw [e] at a
 constructor
 ·intro q
  have:=a.mp (show 0<=-r.1 by omega)
  grind
 ·intro q
  have:0<=-r.1:=a.mpr (by grind)
  omega
theorem qv_pos {r:Rat} (h:0 < r.2):0 < r.1 ↔ 0 < qv r:=by
 have:=qv_np h
 constructor
 ·intro q
  by_cases z:qv r<=0
  ·have:=this.mpr z; omega
  ·grind
 ·intro q
  by_cases z:r.1<=0
  ·have:=this.mp z; grind
  ·omega
theorem qv_inj {r s:Rat} (lr:Low r) (ls:Low s) (h:qv r=qv s):r=s:=by
 refine rat_unique lr.pos ls.pos lr.cop ls.cop ?_
 have h1:=qv_top lr.pos
 have h2:=qv_top ls.pos
 have:(r.1:QQ) * s.2=s.1 * r.2:=by rw [← h1,← h2,h]; grind
 rw [← _root_.Rat.intCast_mul,← _root_.Rat.intCast_mul] at this
 exact _root_.Rat.intCast_inj.mp this
theorem qv01:qv (0,1)=0:=by
 show ((0:Int):QQ) / ((1:Int):QQ)=0
 rw [_root_.Rat.intCast_zero,_root_.Rat.intCast_one]
 grind
theorem qv11:qv (1,1)=1:=by
 show ((1:Int):QQ) / ((1:Int):QQ)=1
 rw [_root_.Rat.intCast_one]
 grind
def sQ:Nat->(Nat->QQ)->QQ
 | 0,_=>0
 | n + 1,f=>sQ n f + f n
theorem sQ_congr {f g:Nat->QQ}:∀ {n:Nat},(∀ k,k < n->f k=g k)->sQ n f=sQ n g
 | 0,_=>rfl
 | n + 1,h=>by
  show sQ n f + f n=sQ n g + g n
  rw [sQ_congr fun k hk=>h k (by omega),h n (by omega)]
theorem sQ_add (f g:Nat->QQ):∀ (n:Nat),sQ n (fun k=>f k + g k)=sQ n f + sQ n g
 | 0=>by show (0:QQ)=0 + 0; grind
 | n + 1=>by
  show sQ n (fun k=>f k + g k) + (f n + g n)=(sQ n f + f n) + (sQ n g + g n)
  rw [sQ_add f g n]
  grind
theorem sQ_mul (a:QQ) (f:Nat->QQ):∀ (n:Nat),sQ n (fun k=>a * f k)=a * sQ n f
 | 0=>by show 0=a * 0; grind
 | n + 1=>by
  show sQ n (fun k=>a * f k) + a * f n=a * (sQ n f + f n)
  rw [sQ_mul a f n]
  grind
theorem sQ_zero {f:Nat->QQ} {n:Nat} (h:∀ k,k < n->f k=0):sQ n f=0:=by
 rw [sQ_congr h]
 have:∀ n,sQ n (fun _=>0)=0:=fun n=>by
  induction n with
  | zero=>rfl
  | succ n ih=>show sQ n _ + 0=0; rw [ih]; grind
 exact this n
theorem sQ_nn {f:Nat->QQ}:∀ {n:Nat},(∀ k,k < n->0<=f k)->0<=sQ n f
 | 0,_=>by show (0:QQ)<=0; grind
 | n + 1,h=>by
  show 0<=sQ n f + f n
  have h1:=sQ_nn (f:=f) fun k (hk:k < n)=>h k (by omega)
  have h2:=h n (by omega)
  grind
theorem sQ_first (f:Nat->QQ):∀ (n:Nat),sQ (n + 1) f=f 0 + sQ n (fun k=>f (k + 1))
 | 0=>by show 0 + f 0=f 0 + 0; grind
 | n + 1=>by
  show sQ (n + 1) f + f (n + 1)=f 0 + (sQ n (fun k=>f (k + 1)) + f (n + 1))
  rw [sQ_first f n]
  grind
def qr (l:List Rat) (k:Nat):QQ:=qv (l.getD k (0,1))
def Lows (l:List Rat):Prop:=∀ r ∈ l,Low r
theorem RowR.lows {c:Nat} {l:List Rat} (h:RowR c l):Lows l:=fun r hr=>h.low8 hr
theorem Lows.row {l:List Rat} (h:Lows l):RowR l.length l:=by
 have:∃ n,∀ r ∈ l,Good n r:=by
  induction l with
  | nil=>exact ⟨0,fun r hr=>nomatch hr⟩
  | cons a t ih =>
   obtain ⟨n,hn⟩:=ih fun r hr=>h r (List.mem_cons_of_mem _ hr)
   obtain ⟨m,hm⟩:=low_good (h a List.mem_cons_self)
   refine ⟨n + m,fun r hr=>?_⟩
   rcases List.mem_cons.mp hr with rfl | hr
   ·exact hm.mono (by omega)
   ·exact (hn r hr).mono (by omega)
 obtain ⟨n,hn⟩:=this
 exact ⟨rfl,_,_,_,RepL.of_good hn⟩
theorem sum_lows:∀ {l:List Rat} {x:Rat},Low x->Lows l->Low (l.foldl addR x)/\qv (l.foldl addR x)=qv x + sQ l.length (qr l)
 | [],x,lx,_=>⟨lx,by show qv x=qv x + 0; grind⟩
 | a :: t,x,lx,h=>by
  have la:=h a List.mem_cons_self
  obtain ⟨h1,h2⟩:=sum_lows (x:=addR x a) (low_add lx la) fun r hr=>h r (List.mem_cons_of_mem _ hr)
  refine ⟨h1,?_⟩
  show qv (t.foldl addR (addR x a))=qv x + sQ (t.length + 1) (qr (a :: t))
  rw [h2,sQ_first,qv_add lx la]
  have e:sQ t.length (fun k=>qr (a :: t) (k + 1))=sQ t.length (qr t):=sQ_congr fun k _=>rfl
  rw [e]
  show qv x + qv a + _=qv x + (qv a + _)
  grind
theorem sum_low {l:List Rat} (h:Lows l):Low (sumR l):=(sum_lows low01 h).1
theorem qv_sum {l:List Rat} (h:Lows l):qv (sumR l)=sQ l.length (qr l):=by
 have:=(sum_lows low01 h).2
 rw [qv01] at this
 show qv (l.foldl addR (0,1))=_
 rw [this]
 grind
theorem lows_at {l:List Rat} (h:Lows l) (k:Nat):Low (l.getD k (0,1)):=by
 rw [List.getD_eq_getElem?_getD]
 cases e:l[k]? with
 | none=>exact low01
 | some x=>exact h x (List.mem_of_getElem? e)
theorem lows_mul {l m:List Rat} (h:Lows l) (h':Lows m):Lows (List.zipWith mulR' l m):=fun r hr=>by
 obtain ⟨i,hi⟩:=List.getElem?_of_mem hr
 rw [List.getElem?_zipWith] at hi
 cases e1:l[i]? with
 | none=>rw [e1] at hi; simp at hi
 | some x =>
  cases e2:m[i]? with
  | none=>rw [e1,e2] at hi; simp at hi
  | some y =>
   rw [e1,e2] at hi
   cases hi
   exact low_mul (h x (List.mem_of_getElem? e1)) (h' y (List.mem_of_getElem? e2))
theorem qr_mul {l m:List Rat} (h:Lows l) (h':Lows m) {k:Nat} (h1:k < l.length) (h2:k < m.length):qr (List.zipWith mulR' l m) k=qr l k * qr m k:=by
 unfold qr
 have e:(List.zipWith mulR' l m).getD k (0,1)=mulR' (l.getD k (0,1)) (m.getD k (0,1)):=by
  rw [List.getD_eq_getElem?_getD,List.getElem?_zipWith,List.getD_eq_getElem?_getD,List.getD_eq_getElem?_getD,List.getElem?_eq_getElem h1,List.getElem?_eq_getElem h2]
  rfl
 rw [e,qv_mul (lows_at h k) (lows_at h' k)]
theorem mn_low {l m:List Rat} (h:Lows l) (h':Lows m):Low (mn l m):=sum_low (lows_mul h h')
theorem qv_mn {l m:List Rat} {c:Nat} (h:Lows l) (h':Lows m) (h1:l.length=c) (h2:m.length=c):qv (mn l m)=sQ c (fun k=>qr l k * qr m k):=by
 show qv (sumR _)=_
 rw [qv_sum (lows_mul h h')]
 have:(List.zipWith mulR' l m).length=c:=by rw [List.length_zipWith,h1,h2]; omega
 rw [this]
 exact sQ_congr fun k hk=>qr_mul h h' (by omega) (by omega)
theorem lows_cut {o:Option (Nat->Bool)} {l:List Rat} (h:Lows l):Lows (cutR o l):=(h.row.cut o).lows
theorem qr_cut {o:Option (Nat->Bool)} {l:List Rat} {k:Nat}:qr (cutR o l) k=if inE o k then qr l k else 0:=by
 unfold qr cutR
 rw [List.getD_eq_getElem?_getD,List.getElem?_mapIdx,List.getD_eq_getElem?_getD]
 cases l[k]? with
 | none=>show qv (0,1)=if inE o k then qv (0,1) else 0; rw [qv01]; cases inE o k <;> rfl
 | some x =>
  show qv (if inE o k then x else (0,1))=if inE o k then qv x else 0
  cases inE o k
  ·exact qv01
  ·rfl
theorem qr_ones {c k:Nat} (h:k < c):qr (List.replicate c (1,1)) k=1:=by
 unfold qr
 rw [List.getD_eq_getElem?_getD,List.getElem?_replicate,if_pos h]
 exact qv11
theorem lows_ones (c:Nat):Lows (List.replicate c (1,1)):=fun r hr=>by rw [List.eq_of_mem_replicate hr]; exact low11
theorem qr_pap {c k:Nat} {o:Option (Nat->Bool)} (h:k < c):qr (papR c o) k=if inE o k then 1 else 0:=by
 unfold papR
 rw [qr_cut,qr_ones h]
theorem lows_pap (c:Nat) (o:Option (Nat->Bool)):Lows (papR c o):=lows_cut (lows_ones c)
end Sb
namespace Sb
open PySem L2
open Sv (sm)
theorem RepL.each {n:Nat} {D:Int} (hD:0 < D) (bD:Bd n D):∀ {rs:List Rat},(∀ r ∈ rs,∃ W,r.1 * D=W * r.2/\Bd n W/\Low r)->∃ Ws,RepL n D Ws rs
 | [],_=>⟨[],hD,bD,rfl,fun i W r h=>by simp at h⟩
 | r :: t,h=>by
  obtain ⟨Ws,p⟩:=RepL.each hD bD (rs:=t) fun x hx=>h x (List.mem_cons_of_mem _ hx)
  obtain ⟨W,e⟩:=h r List.mem_cons_self
  refine ⟨W :: Ws,hD,bD,by simp [p.len],fun i V x hV hx=>?_⟩
  cases i with
  | zero=>cases hV; cases hx; exact e
  | succ i=>exact p.at_ i V x (by simpa using hV) (by simpa using hx)
theorem sQ_each {f:Nat->QQ}:∀ {n:Nat},(∀ k,k < n->0<=f k)->sQ n f=0->∀ k,k < n->f k=0
 | 0,_,_=>fun k hk=>absurd hk (by omega)
 | n + 1,h,e=>fun k hk=>by
  have e':sQ n f + f n=0:=e
  have a:=sQ_nn (n:=n) (f:=f) fun k hk=>h k (by omega)
  have b:=h n (by omega)
  by_cases z:k=n
  ·rw [z]
   grind
  ·exact sQ_each (n:=n) (fun k hk=>h k (by omega)) (by grind) k (by omega)
end Sb
namespace Sb
open PySem L2
section
variable {n:Nat}
abbrev Pt:=Nat->QQ
def dq (n:Nat) (x e:Pt):QQ:=sQ n fun k=>x k * e k
theorem dq_lin (x d e:Pt) (t:QQ):dq n (fun k=>x k + t * d k) e=dq n x e + t * dq n d e:=by
 unfold dq
 rw [← sQ_mul,← sQ_add]
 exact sQ_congr fun k _=>by grind
theorem dq_congr {x y e:Pt} (h:∀ k,k < n->x k=y k):dq n x e=dq n y e:=sQ_congr fun k hk=>by rw [h k hk]
theorem sum_lin (x d:Pt) (t:QQ):sQ n (fun k=>x k + t * d k)=sQ n x + t * sQ n d:=by
 rw [← sQ_mul,← sQ_add]
structure Bnds (n m:Nat) (c:Nat->Pt):Prop where
 le:n<=m
 un:∀ i,i < n->∀ x:Pt,dq n x (c i)=-x i
structure InP (n m:Nat) (c:Nat->Pt) (x:Pt):Prop where
 le:∀ k,k < m->dq n x (c k)<=0
 one:sQ n x=1
def Stuck (n m:Nat) (c:Nat->Pt) (x:Pt):Prop:=∀ d:Pt,sQ n d=0->(∀ k,k < m->dq n x (c k)=0->dq n d (c k)=0)->∀ i,i < n->d i=0
structure Vx (n m:Nat) (c:Nat->Pt) (x:Pt):Prop where
 inn:InP n m c x
 st:Stuck n m c x
theorem least_ratio (a b:Nat->QQ):∀ m:Nat,(∃ k,k < m/\0 < b k)->(∀ k,k < m->0 < b k->0 < a k)->∃ k,k < m/\0 < b k/\∀ j,j < m->0 < b j->a k / b k<=a j / b j
 | 0,⟨k,h,_⟩,_=>absurd h (by omega)
 | m + 1,⟨k,hk,bk⟩,pos=>by
  by_cases h:∃ k,k < m/\0 < b k
  ·obtain ⟨k0,h0,b0,l0⟩:=least_ratio a b m h fun k hk=>pos k (by omega)
   by_cases bm:0 < b m
   ·by_cases le:a k0 / b k0<=a m / b m
    ·refine ⟨k0,by omega,b0,fun j hj bj=>?_⟩
     by_cases e:j=m
     ·subst e; exact le
     ·exact l0 j (by omega) bj
    ·refine ⟨m,by omega,bm,fun j hj bj=>?_⟩
     by_cases e:j=m
     ·subst e; grind
     ·have:=l0 j (by omega) bj
      grind
   ·refine ⟨k0,by omega,b0,fun j hj bj=>?_⟩
    by_cases e:j=m
    ·subst e; exact absurd bj bm
    ·exact l0 j (by omega) bj
  ·refine ⟨k,hk,bk,fun j hj bj=>?_⟩
   have e1:k=m:=by
    by_cases z:k=m
    ·exact z
    ·exact absurd ⟨k,by omega,bk⟩ h
   have e2:j=m:=by
    by_cases z:j=m
    ·exact z
    ·exact absurd ⟨j,by omega,bj⟩ h
   rw [e1,e2]
   grind
variable {m:Nat} {c:Nat->Pt} {x d:Pt}
theorem sQ_neg_one {d:Pt} (h:sQ n d=0) {i:Nat} (hi:i < n) (ne:d i ≠ 0):∃ j,j < n/\d j < 0:=by
 by_cases q:∃ j,j < n/\d j < 0
 ·exact q
 ·have nn:∀ k,k < n->0<=d k:=fun k hk=>by
   by_cases z:0<=d k
   ·exact z
   ·exact absurd ⟨k,hk,by grind⟩ q
  exact absurd (sQ_each nn h i hi) ne
theorem div_mul {a b:QQ} (h:0 < b):a / b * b=a:=by
 have:b ≠ 0:=by grind
 grind
theorem InP.go (B:Bnds n m c) (I:InP n m c x) (s0:sQ n d=0) (al:∀ k,k < m->dq n x (c k)=0->dq n d (c k)=0) {i:Nat} (hi:i < n) (ne:d i ≠ 0) :
  ∃ t:QQ,0 < t/\InP n m c (fun k=>x k + t * d k)/\(∀ k,k < m->dq n x (c k)=0->dq n (fun k=>x k + t * d k) (c k)=0)/\∃ k,k < m/\dq n x (c k) ≠ 0/\dq n (fun k=>x k + t * d k) (c k)=0:=by
 obtain ⟨j,hj,nj⟩:=sQ_neg_one s0 hi ne
 have bj:0 < dq n d (c j):=by rw [B.un j hj]; grind
 have le:=B.le
 obtain ⟨k,hk,bk,lk⟩:=least_ratio (fun k=>-dq n x (c k)) (fun k=>dq n d (c k)) m ⟨j,by omega,bj⟩ fun k hk bk=>by
  have:=I.le k hk
  have:dq n x (c k) ≠ 0:=fun z=>by have:=al k hk z; grind
  grind
 have nk:dq n x (c k) ≠ 0:=fun z=>by have:=al k hk z; grind
 have lk0:=I.le k hk
 have e:=div_mul (a:=-dq n x (c k)) bk
 have tp:0 < -dq n x (c k) / dq n d (c k):=by
  by_cases z:0 < -dq n x (c k) / dq n d (c k)
  ·exact z
  ·have:0<=-(-dq n x (c k) / dq n d (c k)):=by grind
   have:=_root_.Rat.mul_nonneg this (show 0<=dq n d (c k) by grind)
   grind
 refine ⟨-dq n x (c k) / dq n d (c k),tp,⟨fun q hq=>?_,?_⟩,fun q hq z=>?_,k,hk,nk,?_⟩
 ·rw [dq_lin]
  have:=I.le q hq
  by_cases bq:0 < dq n d (c q)
  ·have h:=lk q hq bq
   have e2:=div_mul (a:=-dq n x (c q)) bq
   have:=_root_.Rat.mul_le_mul_of_nonneg_right h (show 0<=dq n d (c q) by grind)
   grind
  ·have:=_root_.Rat.mul_nonneg (show 0<=-dq n x (c k) / dq n d (c k) by grind) (show 0<=-dq n d (c q) by grind)
   grind
 ·rw [sum_lin,s0,I.one]
  grind
 ·rw [dq_lin,z,al q hq z]
  grind
 ·rw [dq_lin,e]
  grind
def nz:Nat->(Nat->QQ)->Nat
 | 0,_=>0
 | m + 1,f=>nz m f + if f m=0 then 0 else 1
theorem nz_le {f g:Nat->QQ}:∀ {m:Nat},(∀ k,k < m->f k=0->g k=0)->nz m g<=nz m f
 | 0,_=>Nat.le_refl _
 | m + 1,h=>by
  have:=nz_le (m:=m) fun k hk=>h k (by omega)
  unfold nz
  by_cases e:f m=0
  ·rw [if_pos e,if_pos (h m (by omega) e)]; omega
  ·rw [if_neg e]; split <;> omega
theorem nz_lt {f g:Nat->QQ}:∀ {m:Nat},(∀ k,k < m->f k=0->g k=0)->(∃ k,k < m/\f k ≠ 0/\g k=0)->nz m g < nz m f
 | 0,_,⟨k,h,_⟩=>absurd h (by omega)
 | m + 1,h,⟨k,hk,fk,gk⟩=>by
  unfold nz
  by_cases e:k=m
  ·subst e
   have:=nz_le (m:=k) fun j hj=>h j (by omega)
   rw [if_neg fk,if_pos gk]
   omega
  ·have:=nz_lt (m:=m) (fun j hj=>h j (by omega)) ⟨k,by omega,fk,gk⟩
   by_cases e:f m=0
   ·rw [if_pos e,if_pos (h m (by omega) e)]; omega
   ·rw [if_neg e]; split <;> omega
theorem not_stuck (h:¬ Stuck n m c x):∃ d:Pt,sQ n d=0/\(∀ k,k < m->dq n x (c k)=0->dq n d (c k)=0)/\∃ i,i < n/\d i ≠ 0:=by
 refine Classical.byContradiction fun q=>h fun d s0 al i hi=>?_
 refine Classical.byContradiction fun ne=>q ⟨d,s0,al,i,hi,ne⟩
theorem dq_neg (d e:Pt):dq n (fun k=>-d k) e=-dq n d e:=by
 have:=dq_lin (n:=n) (fun _=>0) d e (-1)
 have z:dq n (fun _=>0) e=0:=sQ_zero fun k _=>by grind
 rw [z] at this
 rw [show (fun k=>-d k)=fun k=>(0:QQ) + -1 * d k by funext k; grind,this]
 grind
theorem sum_neg (d:Pt):sQ n (fun k=>-d k)=-sQ n d:=by
 have:=sQ_mul (-1) d n
 rw [show (fun k=>-d k)=fun k=>(-1:QQ) * d k by funext k; grind,this]
 grind
theorem InP.top (B:Bnds n m c) (f:Pt):∀ (N:Nat) (x:Pt),nz m (fun k=>dq n x (c k))<=N->InP n m c x->∃ w,Vx n m c w/\(∀ k,k < m->dq n x (c k)=0->dq n w (c k)=0)/\dq n x f<=dq n w f
 | N,x,hN,I=>by
  by_cases st:Stuck n m c x
  ·exact ⟨x,⟨I,st⟩,fun _ _ h=>h,by grind⟩
  ·obtain ⟨d,s0,al,i,hi,ne⟩:=not_stuck st
   have key:∀ d:Pt,sQ n d=0->(∀ k,k < m->dq n x (c k)=0->dq n d (c k)=0)->d i ≠ 0->0<=dq n d f->∃ w,Vx n m c w/\(∀ k,k < m->dq n x (c k)=0->dq n w (c k)=0)/\dq n x f<=dq n w f:=fun d s0 al ne h0=>by
    obtain ⟨t,tp,I',al',k,hk,nk,ek⟩:=I.go B s0 al hi ne
    have lt:=nz_lt (m:=m) (f:=fun k=>dq n x (c k)) (g:=fun k=>dq n (fun k=>x k + t * d k) (c k)) al' ⟨k,hk,nk,ek⟩
    cases N with
    | zero=>omega
    | succ N =>
     obtain ⟨w,vw,tw,fw⟩:=InP.top B f N _ (by omega) I'
     refine ⟨w,vw,fun k hk z=>tw k hk (al' k hk z),?_⟩
     rw [dq_lin] at fw
     have:=_root_.Rat.mul_nonneg (show 0<=t by grind) h0
     grind
   by_cases h0:0<=dq n d f
   ·exact key d s0 al ne h0
   ·refine key (fun k=>-d k) (by rw [sum_neg,s0]; grind) (fun k hk z=>by rw [dq_neg,al k hk z]; grind) (by grind) (by rw [dq_neg]; grind)
theorem InP.corner (B:Bnds n m c) (f:Pt) (I:InP n m c x):∃ w,Vx n m c w/\(∀ k,k < m->dq n x (c k)=0->dq n w (c k)=0)/\dq n x f<=dq n w f:=InP.top B f _ x (Nat.le_refl _) I
theorem InP.congr {y:Pt} (h:∀ k,k < n->x k=y k) (I:InP n m c x):InP n m c y:=⟨fun k hk=>by rw [← dq_congr h]; exact I.le k hk,by rw [← I.one]; exact (sQ_congr h).symm⟩
theorem Vx.congr {y:Pt} (h:∀ k,k < n->x k=y k) (v:Vx n m c x):Vx n m c y:=⟨v.inn.congr h,fun d s0 al=>v.st d s0 fun k hk z=>al k hk (by rw [← dq_congr h]; exact z)⟩
theorem Vx.mid {p q:QQ} (v:Vx n m c x) (s0:sQ n d=0) (pp:0 < p) (qp:0 < q) (I1:InP n m c fun k=>x k + p * d k) (I2:InP n m c fun k=>x k + -q * d k):∀ i,i < n->d i=0:=by
 refine v.st d s0 fun k hk z=>?_
 have h1:=I1.le k hk
 have h2:=I2.le k hk
 rw [dq_lin,z] at h1 h2
 by_cases a:0 < dq n d (c k)
 ·have:=_root_.Rat.mul_pos pp a; grind
 ·by_cases b:dq n d (c k) < 0
  ·have:=_root_.Rat.mul_pos qp (show 0 < -dq n d (c k) by grind); grind
  ·grind
theorem dq_lin2 (x e e':Pt) (a b:QQ):dq n x (fun k=>a * e k + b * e' k)=a * dq n x e + b * dq n x e':=by
 unfold dq
 rw [← sQ_mul,← sQ_mul,← sQ_add]
 exact sQ_congr fun k _=>by grind
def Near (n m:Nat) (c:Nat->Pt) (V:List Pt) (u v:Pt):Prop:=∀ w ∈ V,(∀ k,k < m->dq n u (c k)=0->dq n v (c k)=0->dq n w (c k)=0)->(∀ i,i < n->w i=u i) \/ ∀ i,i < n->w i=v i
def crs (n:Nat) (g u v:Pt):Pt:=fun k=>u k + dq n u g / (dq n u g - dq n v g) * (v k - u k)
structure Cors (n m:Nat) (c:Nat->Pt) (V:List Pt):Prop where
 vx:∀ v ∈ V,Vx n m c v
 all:∀ x,Vx n m c x->∃ v ∈ V,∀ i,i < n->v i=x i
variable {V:List Pt} {u v:Pt}
theorem crs_by {g:Pt} (hu:dq n u g < 0) (hv:0 < dq n v g):∃ t:QQ,0 < t/\t < 1/\t=dq n u g / (dq n u g - dq n v g)/\t * (dq n v g - dq n u g)=-dq n u g:=by
 have e:=div_mul (a:=-dq n u g) (b:=dq n v g - dq n u g) (by grind)
 have e2:dq n u g / (dq n u g - dq n v g)=-dq n u g / (dq n v g - dq n u g):=by
  have h1:dq n u g - dq n v g ≠ 0:=by grind
  have h2:dq n v g - dq n u g ≠ 0:=by grind
  grind
 refine ⟨_,?_,?_,e2.symm,e⟩
 ·by_cases z:0 < -dq n u g / (dq n v g - dq n u g)
  ·exact z
  ·have:=_root_.Rat.mul_nonneg (show 0<=-(-dq n u g / (dq n v g - dq n u g)) by grind) (show 0<=dq n v g - dq n u g by grind)
   grind
 ·by_cases z:-dq n u g / (dq n v g - dq n u g) < 1
  ·exact z
  ·have:=_root_.Rat.mul_nonneg (show 0<=-dq n u g / (dq n v g - dq n u g) - 1 by grind) (show 0<=dq n v g - dq n u g by grind)
   grind
theorem dq_sub (a b e:Pt):dq n (fun k=>a k - b k) e=dq n a e - dq n b e:=by
 have:=dq_lin (n:=n) a b e (-1)
 rw [show (fun k=>a k - b k)=fun k=>a k + -1 * b k by funext k; grind,this]
 grind
theorem sum_sub (a b:Pt):sQ n (fun k=>a k - b k)=sQ n a - sQ n b:=by
 have:=sum_lin (n:=n) a b (-1)
 rw [show (fun k=>a k - b k)=fun k=>a k + -1 * b k by funext k; grind,this]
 grind
theorem dq_crs {g:Pt} (e:Pt):dq n (crs n g u v) e=dq n u e + dq n u g / (dq n u g - dq n v g) * (dq n v e - dq n u e):=by
 show dq n (fun k=>u k + _ * (v k - u k)) e=_
 rw [dq_lin u (fun k=>v k - u k),dq_sub]
theorem crs_met {g:Pt} (Iu:InP n m c u) (Iv:InP n m c v) (hu:dq n u g < 0) (hv:0 < dq n v g) {k:Nat} (hk:k < m):dq n (crs n g u v) (c k)=0 ↔ dq n u (c k)=0/\dq n v (c k)=0:=by
 obtain ⟨t,t0,t1,et,_⟩:=crs_by hu hv
 rw [dq_crs,← et]
 have a:=Iu.le k hk
 have b:=Iv.le k hk
 constructor
 ·intro z
  have h1:=_root_.Rat.mul_nonneg (show 0<=t by grind) (show 0<=-dq n v (c k) by grind)
  have h2:=_root_.Rat.mul_nonneg (show 0<=1 - t by grind) (show 0<=-dq n u (c k) by grind)
  have e:(1 - t) * -dq n u (c k) + t * -dq n v (c k)=0:=by grind
  have z1:t * -dq n v (c k)=0:=by grind
  have z2:(1 - t) * -dq n u (c k)=0:=by grind
  have n1:t ≠ 0:=by grind
  have n2:1 - t ≠ 0:=by grind
  constructor
  ·rcases _root_.Rat.mul_eq_zero.mp z2 with h | h
   ·exact absurd h n2
   ·grind
  ·rcases _root_.Rat.mul_eq_zero.mp z1 with h | h
   ·exact absurd h n1
   ·grind
 ·rintro ⟨z1,z2⟩
  rw [z1,z2]
  grind
theorem crs_in {g:Pt} (Iu:InP n m c u) (Iv:InP n m c v) (hu:dq n u g < 0) (hv:0 < dq n v g):InP n m c (crs n g u v):=by
 obtain ⟨t,t0,t1,et,_⟩:=crs_by hu hv
 refine ⟨fun k hk=>?_,?_⟩
 ·rw [dq_crs,← et]
  have h1:=_root_.Rat.mul_nonneg (show 0<=t by grind) (show 0<=-dq n v (c k) by have:=Iv.le k hk; grind)
  have h2:=_root_.Rat.mul_nonneg (show 0<=1 - t by grind) (show 0<=-dq n u (c k) by have:=Iu.le k hk; grind)
  grind
 ·show sQ n (fun k=>u k + _ * (v k - u k))=1
  rw [sum_lin u (fun k=>v k - u k),sum_sub,Iu.one,Iv.one]
  grind
theorem crs_on {g:Pt} (hu:dq n u g < 0) (hv:0 < dq n v g):dq n (crs n g u v) g=0:=by
 obtain ⟨t,t0,t1,et,e⟩:=crs_by hu hv
 rw [dq_crs,← et]
 grind
theorem Cors.cross (B:Bnds n m c) (C:Cors n m c V) (hu:u ∈ V) (hv:v ∈ V) (lu:dq n u (c m) < 0) (lv:0 < dq n v (c m)) (nr:Near n m c V u v):Vx n (m + 1) c (crs n (c m) u v):=by
 have Iu:=(C.vx u hu).inn
 have Iv:=(C.vx v hv).inn
 have I:=crs_in Iu Iv lu lv
 have on:=crs_on (n:=n) lu lv
 refine ⟨⟨fun k hk=>?_,I.one⟩,fun d s0 al=>?_⟩
 ·by_cases e:k=m
  ·subst e; rw [on]; grind
  ·exact I.le k (by omega)
 refine Classical.byContradiction fun q=>?_
 obtain ⟨i,hi,ne⟩:∃ i,i < n/\d i ≠ 0:=Classical.byContradiction fun z=>q fun i hi=>Classical.byContradiction fun y=>z ⟨i,hi,y⟩
 have al':∀ k,k < m->dq n (Sb.crs n (c m) u v) (c k)=0->dq n d (c k)=0:=fun k hk=>al k (by omega)
 obtain ⟨t,tp,I',t',_⟩:=I.go B s0 al' hi ne
 have half:∀ f:Pt,dq n u f=dq n v f->dq n d f<=0:=fun f ef=>by
  obtain ⟨w,vw,tw,fw⟩:=I'.corner B f
  obtain ⟨w',hw',ew⟩:=C.all w vw
  have cl:=nr w' hw' fun k hk z1 z2=>by
   rw [dq_congr ew]
   exact tw k hk (t' k hk ((crs_met Iu Iv lu lv hk).mpr ⟨z1,z2⟩))
  have e:dq n w f=dq n u f:=by
   rw [← dq_congr ew]
   rcases cl with h | h
   ·exact dq_congr h
   ·rw [ef]; exact dq_congr h
  rw [dq_lin,dq_crs,ef,e,ef] at fw
  by_cases z:0 < dq n d f
  ·have:=_root_.Rat.mul_pos tp z; grind
  ·grind
 have zero:∀ f:Pt,dq n u f=dq n v f->dq n d f=0:=fun f ef=>by
  have h1:=half f ef
  have ng:∀ x:Pt,dq n x (fun k=>(-1) * f k + 0 * f k)=-dq n x f:=fun x=>by rw [dq_lin2]; grind
  have h2:=half (fun k=>(-1) * f k + 0 * f k) (by rw [ng,ng,ef])
  rw [ng] at h2
  grind
 obtain ⟨i0,h0,n0⟩:∃ i,i < n/\u i ≠ v i:=by
  refine Classical.byContradiction fun z=>?_
  have:dq n u (c m)=dq n v (c m):=dq_congr fun k hk=>Classical.byContradiction fun y=>z ⟨k,hk,y⟩
  grind
 have un:=B.un
 have prop:∀ j,j < n->(v i0 - u i0) * d j=(v j - u j) * d i0:=fun j hj=>by
  have h:=zero (fun k=>(v i0 - u i0) * c j k + -(v j - u j) * c i0 k) (by rw [dq_lin2,dq_lin2,un j hj,un i0 h0,un j hj,un i0 h0]; grind)
  rw [dq_lin2,un j hj,un i0 h0] at h
  grind
 have eg:=al m (by omega) on
 have:(v i0 - u i0) * dq n d (c m)=(dq n v (c m) - dq n u (c m)) * d i0:=by
  rw [← dq_sub]
  unfold dq
  rw [← sQ_mul,show ∀ z:QQ,z * d i0=d i0 * z from fun z=>by grind,← sQ_mul]
  exact sQ_congr fun k hk=>by have:=prop k hk; grind
 rw [eg] at this
 have di0:d i0=0:=by
  have h:(dq n v (c m) - dq n u (c m)) * d i0=0:=by grind
  rcases _root_.Rat.mul_eq_zero.mp h with h | h
  ·grind
  ·exact h
 have:=prop i hi
 rw [di0] at this
 have h:(v i0 - u i0) * d i=0:=by grind
 rcases _root_.Rat.mul_eq_zero.mp h with h | h
 ·exact n0 (by grind)
 ·exact ne h
theorem Cors.kept (C:Cors n m c V) (hv:v ∈ V) (h:dq n v (c m)<=0):Vx n (m + 1) c v:=by
 have x:=C.vx v hv
 refine ⟨⟨fun k hk=>?_,x.inn.one⟩,fun d s0 al=>x.st d s0 fun k hk=>al k (by omega)⟩
 by_cases e:k=m
 ·subst e; exact h
 ·exact x.inn.le k (by omega)
theorem Vx.along {g:QQ} (v:Vx n (m + 1) c x) (s0:sQ n d=0) (al:∀ k,k < m->dq n x (c k)=0->dq n d (c k)=0) (nd:dq n d (c m) ≠ 0) {b:Pt} (sb:sQ n b=0) (ab:∀ k,k < m->dq n x (c k)=0->dq n b (c k)=0) (eg:g=dq n b (c m) / dq n d (c m)):∀ i,i < n->b i=g * d i:=by
 have e:g * dq n d (c m)=dq n b (c m):=by rw [eg]; grind
 have h:=v.st (fun k=>b k + -g * d k) (by rw [sum_lin,sb,s0]; grind) fun k hk z=>by
  rw [dq_lin]
  by_cases q:k=m
  ·subst q; grind
  ·rw [ab k (by omega) z,al k (by omega) z]; grind
 intro i hi
 have:=h i hi
 grind
theorem Cors.new (B:Bnds n m c) (C:Cors n m c V) (X:Vx n (m + 1) c x):(∃ v ∈ V,(∀ i,i < n->v i=x i)/\dq n v (c m)<=0) \/ ∃ u ∈ V,∃ v ∈ V,dq n u (c m) < 0/\0 < dq n v (c m)/\Near n m c V u v/\∀ i,i < n->crs n (c m) u v i=x i:=by
 have I:InP n m c x:=⟨fun k hk=>X.inn.le k (by omega),X.inn.one⟩
 by_cases st:Stuck n m c x
 ·obtain ⟨v,hv,ev⟩:=C.all x ⟨I,st⟩
  exact .inl ⟨v,hv,ev,by rw [dq_congr ev]; exact X.inn.le m (by omega)⟩
 refine .inr ?_
 obtain ⟨d0,s00,al0,i,hi,ne0⟩:=not_stuck st
 have on:dq n x (c m)=0:=Classical.byContradiction fun q=>ne0 (X.st d0 s00 (fun k hk z=>by
  by_cases e:k=m
  ·subst e; exact absurd z q
  ·exact al0 k (by omega) z) i hi)
 have nd0:dq n d0 (c m) ≠ 0:=fun q=>ne0 (X.st d0 s00 (fun k hk z=>by
  by_cases e:k=m
  ·subst e; exact q
  ·exact al0 k (by omega) z) i hi)
 obtain ⟨d,s0,al,ne,pd⟩:∃ d:Pt,sQ n d=0/\(∀ k,k < m->dq n x (c k)=0->dq n d (c k)=0)/\d i ≠ 0/\0 < dq n d (c m):=by
  by_cases p:0 < dq n d0 (c m)
  ·exact ⟨d0,s00,al0,ne0,p⟩
  ·exact ⟨fun k=>-d0 k,by rw [sum_neg,s00]; grind,fun k hk z=>by rw [dq_neg,al0 k hk z]; grind,by grind,by rw [dq_neg]; grind⟩
 have nd:dq n d (c m) ≠ 0:=by grind
 have neg_al:∀ k,k < m->dq n x (c k)=0->dq n (fun k=>-d k) (c k)=0:=fun k hk z=>by rw [dq_neg,al k hk z]; grind
 have end_vx:∀ (b:Pt) (t:QQ),t ≠ 0->(∀ k,b k=x k + t * d k)->InP n m c b->(∃ k,k < m/\dq n x (c k) ≠ 0/\dq n b (c k)=0)->Vx n m c b:=fun b t t0 eb Ib ⟨k,hk,nk,zk⟩=>by
  refine ⟨Ib,fun b' s' al'=>?_⟩
  have eb':b=fun k=>x k + t * d k:=funext eb
  have sub:∀ k,k < m->dq n x (c k)=0->dq n b' (c k)=0:=fun k hk z=>al' k hk (by rw [eb',dq_lin,z,al k hk z]; grind)
  have pr:=X.along s0 al nd s' sub rfl
  have e1:=al' k hk zk
  rw [dq_congr pr] at e1
  have e2:dq n (fun i=>dq n b' (c m) / dq n d (c m) * d i) (c k)=dq n b' (c m) / dq n d (c m) * dq n d (c k):=by
   have:=dq_lin (n:=n) (fun _=>0) d (c k) (dq n b' (c m) / dq n d (c m))
   rw [show (fun k=>(0:QQ) + dq n b' (c m) / dq n d (c m) * d k)=fun i=>dq n b' (c m) / dq n d (c m) * d i by funext k; grind,show dq n (fun _=>0) (c k)=0 from sQ_zero fun k _=>by grind] at this
   grind
  rw [e2] at e1
  have nk2:dq n d (c k) ≠ 0:=fun q=>by rw [eb',dq_lin,q] at zk; grind
  intro j hj
  rw [pr j hj]
  rcases _root_.Rat.mul_eq_zero.mp e1 with h | h
  ·rw [h]; grind
  ·exact absurd h nk2
 obtain ⟨t1,p1,I1,a1,w1⟩:=I.go B s0 al hi ne
 obtain ⟨t2,p2,I2,a2,w2⟩:=I.go B (d:=fun k=>-d k) (by rw [sum_neg,s0]; grind) neg_al hi (by grind)
 obtain ⟨v,hv,ev⟩:=C.all _ (end_vx _ t1 (by grind) (fun _=>rfl) I1 w1)
 obtain ⟨u,hu,eu⟩:=C.all _ (end_vx _ (-t2) (by grind) (fun k=>by grind) I2 w2)
 have dv:∀ e,dq n v e=dq n x e + t1 * dq n d e:=fun e=>by rw [dq_congr ev,dq_lin]
 have du:∀ e,dq n u e=dq n x e - t2 * dq n d e:=fun e=>by rw [dq_congr eu,dq_lin x fun k=>-d k,dq_neg]; grind
 have lu:dq n u (c m) < 0:=by rw [du,on]; have:=_root_.Rat.mul_pos p2 pd; grind
 have lv:0 < dq n v (c m):=by rw [dv,on]; have:=_root_.Rat.mul_pos p1 pd; grind
 refine ⟨u,hu,v,hv,lu,lv,fun w hw al'=>?_,fun j hj=>?_⟩
 ·have vw:=C.vx w hw
  have sub:∀ k,k < m->dq n x (c k)=0->dq n (fun k=>w k - x k) (c k)=0:=fun k hk z=>by
   rw [dq_sub,z,al' k hk (by rw [du,z,al k hk z]; grind) (by rw [dv,z,al k hk z]; grind)]
   grind
  have pr:=X.along s0 al nd (by rw [sum_sub,vw.inn.one,I.one]; grind) sub rfl
  generalize dq n (fun k=>w k - x k) (c m) / dq n d (c m)=s at pr
  have ew:∀ k,k < n->w k=x k + s * d k:=fun k hk=>by have:=pr k hk; grind
  have at_:∀ t:QQ,t=s->∀ k,k < n->w k=x k + t * d k:=fun t e=>e ▸ ew
  by_cases e1:s=t1
  ·exact .inr fun k hk=>by rw [ew k hk,ev k hk,e1]
  by_cases e2:s=-t2
  ·exact .inl fun k hk=>by rw [ew k hk,eu k hk,e2]; grind
  exfalso
  by_cases h1:t1 < s
  ·have V1:=(C.vx v hv).congr ev
   exact ne (V1.mid s0 (p:=s - t1) (q:=t1) (by grind) p1 (vw.inn.congr fun k hk=>by rw [ew k hk]; grind) (I.congr fun k hk=>by grind) i hi)
  ·by_cases h2:s < -t2
   ·have V2:=(C.vx u hu).congr eu
    exact ne (V2.mid s0 (p:=t2) (q:=-t2 - s) p2 (by grind) (I.congr fun k hk=>by grind) (vw.inn.congr fun k hk=>by rw [ew k hk]; grind) i hi)
   ·have V3:=vw.congr ew
    exact ne (V3.mid s0 (p:=t1 - s) (q:=s + t2) (by grind) (by grind) (I1.congr fun k hk=>by grind) (I2.congr fun k hk=>by grind) i hi)
 ·obtain ⟨t,t0,tl,et,e⟩:=crs_by (n:=n) lu lv
  show u j + dq n u (c m) / (dq n u (c m) - dq n v (c m)) * (v j - u j)=x j
  rw [← et]
  rw [du,dv,on] at e
  have q:t * (t1 + t2)=t2:=by
   have:(t * (t1 + t2) - t2) * dq n d (c m)=0:=by grind
   rcases _root_.Rat.mul_eq_zero.mp this with h | h
   ·grind
   ·exact absurd h nd
  have:=ev j hj
  have:=eu j hj
  have:t * (v j - u j)=t * (t1 + t2) * d j:=by grind
  grind
theorem Cors.fresh (C:Cors n m c V) (hu:u ∈ V) (hv:v ∈ V) (lu:dq n u (c m) < 0) (lv:0 < dq n v (c m)) {w:Pt} (hw:w ∈ V):¬ ∀ i,i < n->w i=crs n (c m) u v i:=fun h=>by
 obtain ⟨t,t0,tl,et,_⟩:=crs_by (n:=n) lu lv
 have W:=(C.vx w hw).congr h
 have Iu:=(C.vx u hu).inn
 have Iv:=(C.vx v hv).inn
 have:=W.mid (d:=fun k=>v k - u k) (p:=1 - t) (q:=t) (by rw [sum_sub,Iu.one,Iv.one]; grind) (by grind) t0 (Iv.congr fun k hk=>by show v k=u k + _ * (v k - u k) + _; rw [← et]; grind) (Iu.congr fun k hk=>by show u k=u k + _ * (v k - u k) + _; rw [← et]; grind)
 have:dq n v (c m)=dq n u (c m):=dq_congr fun k hk=>by have:=this k hk; grind
 grind
theorem Cors.apart (C:Cors n m c V) {u' v':Pt} (hu:u ∈ V) (hv:v ∈ V) (hu':u' ∈ V) (hv':v' ∈ V) (lu:dq n u (c m) < 0) (lv:0 < dq n v (c m)) (lu':dq n u' (c m) < 0) (lv':0 < dq n v' (c m)) (nr:Near n m c V u v) (e:∀ i,i < n->crs n (c m) u v i=crs n (c m) u' v' i):(∀ i,i < n->u' i=u i)/\∀ i,i < n->v' i=v i:=by
 have Iu:=(C.vx u hu).inn
 have Iv:=(C.vx v hv).inn
 have Iu':=(C.vx u' hu').inn
 have Iv':=(C.vx v' hv').inn
 have met:∀ k,k < m->dq n u (c k)=0->dq n v (c k)=0->dq n u' (c k)=0/\dq n v' (c k)=0:=fun k hk z1 z2=>(crs_met Iu' Iv' lu' lv' hk).mp (by rw [← dq_congr e]; exact (crs_met Iu Iv lu lv hk).mpr ⟨z1,z2⟩)
 constructor
 ·rcases nr u' hu' fun k hk z1 z2=>(met k hk z1 z2).1 with h | h
  ·exact h
  ·have:dq n u' (c m)=dq n v (c m):=dq_congr h
   grind
 ·rcases nr v' hv' fun k hk z1 z2=>(met k hk z1 z2).2 with h | h
  ·have:dq n v' (c m)=dq n u (c m):=dq_congr h
   grind
  ·exact h
end
end Sb
namespace Sb
open PySem L2
section
variable {P:Program} {w:World} {K:PySem.W.Frag} {mg:Str->Option Value} {base:Heap}
inductive spUnder (K:PySem.W.Frag) (vs:List V) (H:Hp) (Q:VK) (_z3:XK):Prop
 | mk (a b:Addr) (p q r s:Int) (zz0:vs=[.ref a,.ref b]) (zz1:SqT K H a [.int p,.int q]) (zz2:SqT K H b [.int r,.int s]) (zz3:IntMulOk p s) (zz4:IntMulOk r q) (zz5:Q (.bl (decide (p * s < r * q))) H)
theorem scUnder:FnScope ["one","other"] ["one","other"] (defScope sUnder):=⟨rfl,rfl,rfl,by decide +kernel,rfl,by decide +kernel,by decide +kernel⟩
theorem okUnder (D:Def K mg "under" sUnder ["one","other"]):Has P w K mg base 1 "under" ["one","other"] (spUnder K):=by
 refine D.has fun f fd F=>F.ok scUnder (fun vs H Q E h=>?_) (fun cdv A outer s H vs Q E hr h=>?_)
 ·obtain ⟨a,b,p,q,r,s,rfl,_⟩:=h
  rfl
 ·obtain ⟨a,b,p,q,r,s,rfl,hA,hB,m1,m2,k⟩:=h
  have sc:=scUnder
  refine ⟨_,(pss_one (ps_ret (pe_cmpR op_lt (pe_op op_mulB (pe_ix ix_p0 (pv 0) pe_int (fun _ _=>rfl)) (pe_ix ix_p1 (pv 1) pe_int (fun _ _=>rfl))) (pe_op op_mulB (pe_ix ix_p0 (pv 1) pe_int (fun _ _=>rfl)) (pe_ix ix_p1 (pv 0) pe_int (fun _ _=>rfl))) (nomark _)))),?_⟩
  exact ⟨_,rfl,_,_,_,rfl,rfl,hA,_,rfl,_,_,_,rfl,rfl,hB,_,_,rfl,rfl,m1,_,rfl,_,_,_,rfl,rfl,hB,_,rfl,_,_,_,rfl,rfl,hA,_,_,rfl,rfl,m2,_,_,rfl,rfl,k⟩
end
end Sb
namespace Sb
open PySem L2
theorem for_zipT {K:PySem.W.Frag} {t u:Addr} {xs ys:List V} {g:TG} {tb:TS} {D:Ends} {σ:L2.St} {H:Hp} (Pv:Nat->L2.St->Hp->Prop) (le:xs.length=ys.length) (h0:Pv 0 σ H) (hl:∀ i σ H,i<=xs.length->Pv i σ H->SqT K H t xs/\SqT K H u ys)
  (hs:∀ i x y σ H p,xs[i]?=some x->ys[i]?=some y->Pv i σ H->H p=none->g (.ref p) σ (upd H p (.tup [x,y])) fun σ2 H2=>tb { D with nx:=Pv (i + 1),ct:=Pv (i + 1),bk:=D.nx } σ2 H2) (hd:∀ σ H,Pv xs.length σ H->D.nx σ H) :
  ∃ W:Nat->Nat->L2.St->Hp->Prop,(∃ m,W 0 m σ H)/\∀ i m σ H,W i m σ H →
   ((Itz K t u).stop i H/\D.nx σ H) \/ ((Itz K t u).go i H/\∃ N:L2.St->Hp->Prop,(∀ σ' H',N σ' H'->∃ m',m' < m/\W (i + 1) m' σ' H')/\∀ x H',(Itz K t u).yld i H x H'->g x σ H' fun σ2 H2=>tb { D with nx:=N,ct:=N,bk:=D.nx } σ2 H2):=by
 refine ⟨fun i m σ H=>m=xs.length - i/\i<=xs.length/\Pv i σ H,⟨xs.length,by simp,Nat.zero_le _,h0⟩,?_⟩
 rintro i m σ H ⟨rfl,hi,p⟩
 obtain ⟨q1,q2⟩:=hl i σ H hi p
 by_cases hlt:i < xs.length
 ·refine .inr ⟨⟨xs,ys,q1,q2,hlt,by omega⟩,Pv (i + 1),fun σ' H' p'=>⟨xs.length - (i + 1),by omega,rfl,hlt,p'⟩,fun x H' y=>?_⟩
  obtain ⟨pp,x0,y0,rfl,hp,rfl,fx,fy⟩:=y
  exact hs i x0 y0 σ H pp (fx xs q1) (fy ys q2) p hp
 ·have e:i=xs.length:=by omega
  subst e
  exact .inl ⟨⟨xs,ys,q1,q2,rfl⟩,hd σ H p⟩
section
variable {P:Program} {w:World} {K:PySem.W.Frag} {mg:Str->Option Value} {base:Heap}
def aheadR:List Rat->List Rat->Bool
 | r :: rs,s :: ss=>if r=s then aheadR rs ss else decide (r.1 * s.2 < s.1 * r.2)
 | _,_=>false
theorem ahead_drop {rs ss:List Rat} {i:Nat} {r s:Rat} (h1:rs[i]?=some r) (h2:ss[i]?=some s):aheadR (rs.drop i) (ss.drop i)=if r=s then aheadR (rs.drop (i + 1)) (ss.drop (i + 1)) else decide (r.1 * s.2 < s.1 * r.2):=by
 obtain ⟨a,rfl⟩:=List.getElem?_eq_some_iff.mp h1
 obtain ⟨b,rfl⟩:=List.getElem?_eq_some_iff.mp h2
 rw [List.drop_eq_getElem_cons a,List.drop_eq_getElem_cons b]
 rfl
inductive spAhead (K:PySem.W.Frag) (vs:List V) (H:Hp) (Q:VK) (_z3:XK):Prop
 | mk (a b:Addr) (rs ss:List Rat) (n:Nat) (zz0:vs=[.ref a,.ref b]) (zz1:RowAt K H a rs) (zz2:RowAt K H b ss) (zz3:rs.length=ss.length) (zz4:rs.length<=1000) (zz5:(∀ r ∈ rs,Good n r)) (zz6:(∀ r ∈ ss,Good n r)) (zz7:n<=4000) (zz8:∀ H',Same H H'->Q (.bl (aheadR rs ss)) H')
theorem scAhead:FnScope ["one","other","mine","theirs"] ["one","other"] (defScope sIsAhead):=⟨rfl,rfl,rfl,by decide +kernel,rfl,by decide +kernel,by decide +kernel⟩
theorem okAhead (D:Def K mg "is_ahead" sIsAhead ["one","other"]) (T:Blt mg) (hUnder:Has P w K mg base 1 "under" ["one","other"] (spUnder K)):Has P w K mg base 2 "is_ahead" ["one","other"] (spAhead K):=by
 refine D.has fun f fd F=>F.ok scAhead (fun vs H Q E h=>?_) (fun cdv A outer s H vs Q E hr h=>?_)
 ·obtain ⟨a,b,rs,ss,n,rfl,_⟩:=h
  rfl
 ·obtain ⟨a,b,rs,ss,n,rfl,⟨xs,hA,hRs⟩,⟨us,hB,hSs⟩,hl,hl2,gr,gs,hn,k⟩:=h
  have sc:=scAhead
  have hU:=Nat.lt_of_succ_lt (hu_of hr)
  refine ⟨_,(pss_cons (ps_for PassesOwn.never rfl (pi_zip rfl T.zip (pa_cons (pv 0) (pa_cons (pv 1) pa_nil))) (pg_tup (n:=2) rfl (pgs_cons (pg_name (i:=2) sc.nd rfl (Or.inl rfl)) (pgs_cons (pg_name (i:=3) sc.nd rfl (Or.inl rfl)) pgs_nil)))
    (pss_one (ps_if (pt_cmpR (op_neI (K:=K) hU) (pv 2) (pv 3) (nomark _))
     (pss_one (ps_ret (pe_use hUnder (hr.mono (by decide)) rfl (pa_cons (pv 2) (pa_cons (pv 3) pa_nil)))))
     pss_nil)))
   (pss_one (ps_ret pe_bl))),?_⟩
  have lx:=hRs.len
  have lu:=hSs.len
  refine ⟨_,rfl,_,rfl,a,b,rfl,⟨_,hA⟩,⟨_,hB⟩,?_⟩
  refine for_zipT (K:=K) (xs:=xs) (ys:=us) (fun i σ H'=>Same H H'/\aheadR rs ss=aheadR (rs.drop i) (ss.drop i)/\∃ x y,σ=[some (.ref a),some (.ref b),x,y]) (by omega) ⟨Same.refl H,rfl,none,none,rfl⟩ (fun i σ H' _ h=>⟨sameT h.1 hA,sameT h.1 hB⟩) ?_ ?_
  ·rintro i x y σ H1 p hx hy ⟨S1,ea,x1,y1,rfl⟩ hp
   have t4:SqT K (upd H1 p (.tup [x,y])) p [x,y]:=SqT.of upd_same
   have S4:=S1.trans (Same.new (o:=.tup [x,y]) hp)
   obtain ⟨r,er,a1,rfl,sq1⟩:=(Rs.ext hRs (Ext.same S4)).back hx
   obtain ⟨s',es,b1,rfl,sq2⟩:=(Rs.ext hSs (Ext.same S4)).back hy
   generalize upd H1 p (.tup [V.ref a1,V.ref b1])=H4 at *
   have g1:=gr r (List.mem_of_getElem? er)
   have g2:=gs s' (List.mem_of_getElem? es)
   rw [ahead_drop er es] at ea
   refine ⟨_,_,rfl,t4,rfl,_,_,rfl,_,_,rfl,rfl,?_⟩
   refine ⟨_,rfl,_,rfl,a1,b1,[r.1,r.2],[s'.1,s'.2],rfl,rfl,sq1,sq2,?_⟩
   refine ⟨_,rfl,?_⟩
   by_cases e:r=s'
   ·have e2:[r.1,r.2]=[s'.1,s'.2]:=by rw [e]
    rw [if_pos e] at ea
    show if (!decide ([r.1,r.2]=[s'.1,s'.2]))=true then _ else _
    rw [decide_eq_true e2]
    exact iteF ⟨S4,ea,_,_,rfl⟩
   ·have e2:¬ [r.1,r.2]=[s'.1,s'.2]:=fun z=>by
     injection z with z1 z2
     injection z2 with z2 _
     exact e (Prod.ext z1 z2)
    rw [if_neg e] at ea
    show if (!decide ([r.1,r.2]=[s'.1,s'.2]))=true then _ else _
    rw [decide_eq_false e2]
    refine iteT ⟨_,rfl,_,rfl,a1,b1,r.1,r.2,s'.1,s'.2,rfl,sq1,sq2,g1.b1.mulOk g2.b2 (by omega) (by omega),g2.b1.mulOk g1.b2 (by omega) (by omega),?_⟩
    rw [← ea]
    exact k _ S4
  ·rintro σ H1 ⟨S1,ea,x1,y1,rfl⟩
   have e0:aheadR rs ss=false:=by rw [ea,List.drop_of_length_le (by omega)]; rfl
   rw [e0] at k
   exact k H1 S1
end
end Sb
namespace Sb
open PySem PySem.Spec PyProof.Rows L2
theorem call_lenK {X:Cx} {K:PySem.W.Frag} (h:X.K=K:=by rfl):CallR X (.builtin "len") (fun xs H Q=>∃ p ys,xs=[V.ref p]/\(SqL K H p ys \/ SqT K H p ys)/\Q (V.int ↑ys.length) H):=h ▸ call_len_seq
end Sb
namespace Sb
open PySem L2
theorem asg_r {te:TE} {g:TG} {D:Ends} {σ:L2.St} {H:Hp} (h:te σ H fun x H1=>g x σ H1 D.nx):tAsg te g D σ H:=h
theorem cons_r {te:TE} {t:TA} {σ:L2.St} {H:Hp} {Q:List V->Hp->Prop} (h:te σ H fun x H1=>t σ H1 fun xs H2=>Q (x :: xs) H2):tCons te t σ H Q:=h
theorem cb_r {r:List V->Hp->VK->Prop} {t:TA} {σ:L2.St} {H:Hp} {Q:VK} (h:t σ H fun vs H1=>r vs H1 Q):tCB r t σ H Q:=h
theorem ret_r {te:TE} {D:Ends} {σ:L2.St} {H:Hp} (h:te σ H D.rt):tRet te D σ H:=h
theorem pairyes1 {K:PySem.W.Frag} {p:Addr} {u v:V} {σ:L2.St} {H:Hp} {A B:L2.St->Hp->Prop} {t:TT} (hp:SqT K H p [u,v]) (h:t ((σ.set 0 (some u)).set 1 (some v)) H fun b H5=>if b=true then A ((σ.set 0 (some u)).set 1 (some v)) H5 else B ((σ.set 0 (some u)).set 1 (some v)) H5) :
  gTup K 2 (gCons (gName 0) (gCons (gName 1) gNil)) (.ref p) σ H fun σ4 H4=>t σ4 H4 fun b H5=>if b=true then A σ4 H5 else B σ4 H5 :=
 ⟨p,[u,v],rfl,hp,rfl,u,[v],rfl,v,[],rfl,rfl,h⟩
section
variable {K:PySem.W.Frag} {α:Type}
theorem upd_same2 {H H1:Hp} {d:Addr} {o:HO} (S:Same H H1) (hd:H d=none):Same H (upd H1 d o):=fun b ob e=>by
 rw [upd_ne (ne_of_none e hd)]
 exact S b ob e
theorem take_succ' {zs:List α} {i:Nat} {z:α} (h:zs[i]?=some z):zs.take (i + 1)=zs.take i ++ [z]:=by
 rw [List.take_add_one,h]; rfl
theorem comp_filt {l:Addr} {as:List Addr} {zs:List α} {q:α->Bool} {tl:TE} {tt:TT} {k:Nat} {fv:List Nat} {σ:L2.St} {H:Hp} {Q:VK} (R:Hp->Addr->α->Prop) (hext:∀ H1 H2 a z,Ext H1 H2->R H1 a z->R H2 a z)
  (htl:∀ G:VK,G (.ref l) H->tl σ H G) (hl:SqL K H l (as.map V.ref)) (hz:as.length<=1000) (hp:Paired (R H) as zs)
  (test:∀ (i:Nat) (a:Addr) (z:α) (H1:Hp) (G:Bool->Hp->Prop),as[i]?=some a->zs[i]?=some z->Same H H1->R H1 a z->(∀ H2,Same H1 H2->G (q z) H2)->tt ((comp0 k fv σ).set 0 (some (.ref a))) H1 G)
  (h0:((comp0 k fv σ).length ≠ 0))
  (fin:∀ (d:Addr) (H2:Hp) (bs:List Addr),H d=none->Same H H2->H2 d=some (.lst (bs.map V.ref))->Paired (R H2) bs (zs.filter q)->(∀ b ∈ bs,b ∈ as)->Q (.ref d) H2) :
  tComp (iList K tl) (gName 0) tt (tVar 0) k fv σ H Q:=by
 refine htl _ ⟨l,rfl,⟨_,hl⟩,fun d hd=>?_⟩
 have lp:=Paired.length hp
 refine ⟨as.length,fun i ys H2=>Same H H2/\∃ bs:List Addr,ys=bs.map V.ref/\Paired (R H2) bs ((zs.take i).filter q)/\∀ b ∈ bs,b ∈ as,Nat.le_trans hz (by decide),⟨Same.new hd,[],rfl,by simpa using Paired.nil,fun b hb=>by cases hb⟩,?_,?_⟩
 ·rintro i ys H2 hi ⟨S2,bs,rfl,P2,M2⟩ hd2
  have hl2:=sameL S2 hl
  have ea:as[i]?=some as[i]:=by simp [hi]
  have ez:zs[i]?=some (zs[i]'(by omega)):=by simp
  generalize as[i]=a at ea
  generalize (zs[i]'(by omega))=z at ez
  have ex:(as.map V.ref)[i]?=some (V.ref a):=by rw [List.getElem?_map,ea]; rfl
  refine ⟨⟨_,V.ref a,hl2,ex⟩,?_⟩
  rintro x H3 ⟨rfl,fx⟩
  have e:=fx _ hl2
  rw [ex] at e
  cases e
  refine nameyes0 ?_
  refine test i a z H3 _ ea ez S2 (hext _ _ _ _ (Ext.same S2) (Paired.getB hp ea ez)) fun H4 S4=>?_
  have hd4:=S4 _ _ hd2
  have S24:=S2.trans S4
  by_cases e:q z=true
  ·rw [e]
   have hgd:((comp0 k fv σ).set 0 (some (V.ref a)))[0]?=some (some (V.ref a)):=by
    rw [List.getElem?_set_self (by omega)]
   refine iteT ⟨V.ref a,hgd,hd4,upd_same2 S24 hd,bs ++ [a],by simp,?_,?_⟩
   ·rw [take_succ' ez,List.filter_append,List.filter_cons,if_pos e,List.filter_nil]
    have E5:Ext H4 (upd H4 d (.lst (bs.map V.ref ++ [V.ref a]))):=Ext.upd hd4
    exact Paired.appP (Paired.mapP P2 fun b y h=>hext _ _ _ _ ((Ext.same S4).trans E5) h) (.cons (hext _ _ _ _ ((Ext.same S24).trans E5) (Paired.getB hp ea ez)) .nil)
   ·intro b hb
    rcases List.mem_append.mp hb with hb | hb
    ·exact M2 b hb
    ·rw [List.mem_singleton.mp hb]; exact List.mem_of_getElem? ea
  ·have e':q z=false:=by simpa using e
   rw [e']
   refine iteF ⟨hd4,S24,bs,rfl,?_,M2⟩
   rw [take_succ' ez,List.filter_append,List.filter_cons,if_neg e,List.filter_nil,List.append_nil]
   exact Paired.mapP P2 fun b y h=>hext _ _ _ _ (Ext.same S4) h
 ·rintro ys H2 ⟨S2,bs,rfl,P2,M2⟩ hd2
  rw [lp,List.take_length] at P2
  exact ⟨⟨_,sameL S2 hl,by simp⟩,fin d H2 bs hd S2 hd2 P2 M2⟩
end
end Sb
namespace Sb
open PySem PySem.Spec PyProof.Rows L2
theorem lam_scope {x y:Str} {sc:Scope} (kind:sc.kind=.function) (co:sc.isCoroutine=false) (gen:sc.isGenerator=false) (ne:x ≠ y) (par:sc.names.lookup x=some .cell) (fre:sc.names.lookup y=some .free)
  (only:∀ p ∈ sc.names,p.2=.cell \/ p.2=.free->p.1=x \/ p.1=y) (cs:∀ n c,cellsFrom n sc.names [(y,c)]=[(x,n),(y,c)]) (pc:∀ h,pushCells h sc.names=h.push { cls:=.type "cell",data:=.cell none }):LamScope x y sc :=
 ⟨kind,co,gen,ne,par,fre,fun z h=>h.elim (fun h=>only _ (PySem.mem_of_lookup h) (.inl rfl)) (fun h=>only _ (PySem.mem_of_lookup h) (.inr rfl)),cs,pc⟩
def DefC (K:PySem.W.Frag) (mg:Str->Option Value) (x:Str) (st:Stmt) (ps:List Str) (cc:Addr):Prop :=
 ∃ (f:Addr) (fd:FuncData),Fun K x x st f fd/\mg x=some (.ref f)/\Binds K fd ps []/\fd.code=.ref cc
section
variable {P:Program} {w:World} {K:PySem.W.Frag} {mg:Str->Option Value} {base:Heap}
theorem DefC.has {k:Nat} {x:Str} {st:Stmt} {ps:List Str} {cc:Addr} {sp:Sp} {sr:Bool} (D:DefC K mg x st ps cc)
  (h:∀ (f:Addr) (fd:FuncData),Fun K x x st f fd->fd.code=.ref cc->FnOk P w K mg base CX0 k f fd ps sp sr):Has P w K mg base k x ps sp sr:=by
 obtain ⟨f,fd,F,hm,b,c⟩:=D
 exact ⟨f,fd,h f fd F c,hm,F.kp,b⟩
theorem Fun.okC {x qual:Str} {st:Stmt} {f:Addr} {fd:FuncData} {N ps:List Str} {k:Nat} {sp:Sp} {sr:Bool} {cc:Addr} (F:Fun K x qual st f fd) (hc:fd.code=.ref cc) (S:FnScope N ps (defScope st)) (len:∀ vs H Q E,sp vs H Q E->vs.length=ps.length)
  (hbody:∀ (A:Around) (outer:List Env) (s:Shared) (H:Hp) (vs:List V) (Q:VK) (E:XK),Room k (A.deeper (envOfC qual (defScope st) s.heap.objs.size f (.ref cc))) sr->sp vs H Q E →
   ∃ t,PSs (cxOf CX0 P w K mg base N qual (defScope st) f (.ref cc) A outer s H E).nox (defBody st) t/\t { nx:=fun _ H'=>Q .non H',rt:=Q } (start N vs) H):FnOk P w K mg base CX0 (k + 1) f fd ps sp sr:=by
 obtain ⟨oc,od,kV,doc,pm,an,cdv,ct,osl,rfl,lk,hcd⟩:=F.ex
 cases (show cdv=.ref cc from hc)
 refine fn_of lk hcd S len fun A outer s H vs Q E hr hsp=>?_
 obtain ⟨t,h,q⟩:=hbody A outer s H vs Q E hr hsp
 exact ⟨t,h.nox,q⟩
theorem zip_cnt (f:List Rat->Int):∀ (as:List Addr) (rss:List (List Rat)),as.length=rss.length->(rss.map f).zip (as.map V.ref)=(as.zip rss).map fun q=>(f q.2,V.ref q.1)
 | [],[],_=>rfl
 | _ :: as,_ :: rss,h=>by
  have:=zip_cnt f as rss (by simpa using h)
  simp only [List.map_cons,List.zip_cons_cons,this]
 | [],_ :: _,h=>by simp at h
 | _ :: _,[],h=>by simp at h
theorem paired_map {α β:Type} {R:α->β->Prop}:∀ (L:List (α × β)),(∀ q ∈ L,R q.1 q.2)->Paired R (L.map Prod.fst) (L.map Prod.snd)
 | [],_=>.nil
 | q :: L,h=>.cons (h q List.mem_cons_self) (paired_map L fun z hz=>h z (List.mem_cons_of_mem _ hz))
theorem paired_mem {α β:Type} {R:α->β->Prop}:∀ {xs:List α} {ys:List β},Paired R xs ys->∀ {q:α × β},q ∈ xs.zip ys->R q.1 q.2
 | _,_,.nil,_,h=>by cases h
 | _,_,.cons r t,q,h=>by
  rcases List.mem_cons.mp h with rfl | h
  ·exact r
  ·exact paired_mem t h
def cntR (rss:List (List Rat)) (r:List Rat):Int:=((rss.filter fun o=>aheadR o r).length:Nat)
inductive spRising (K:PySem.W.Frag) (T:Addr) (vs:List V) (H:Hp) (Q:VK) (_z3:XK):Prop
 | mk (l:Addr) (as:List Addr) (rss:List (List Rat)) (c n:Nat) (zz0:vs=[.ref l]) (zz1:H l=some (.lst (as.map V.ref))) (zz2:Paired (RowAt K H) as rss) (zz3:rss.length < 64) (zz4:∀ r ∈ rss,r.length=c) (zz5:c<=1000) (zz6:∀ r ∈ rss,∀ x ∈ r,Good n x) (zz7:n<=4000) (zz8:H T=some (.tbl #[]))
  (zz9:∀ (d:Addr) (H':Hp) (as':List Addr) (rss':List (List Rat)),SameX T H H'->H' d=some (.lst (as'.map V.ref))->Paired (RowAt K H') as' rss'->rss'.Perm rss->rss'.Pairwise (fun a b=>cntR rss a<=cntR rss b)->Q (.ref d) H')
theorem scRising:FnScope ["rows"] ["rows"] (defScope sRising):=⟨rfl,rfl,rfl,by decide +kernel,rfl,by decide +kernel,by decide +kernel⟩
theorem okRising {T cc:Addr} (D:DefC K mg "rising" sRising ["rows"] cc) (T0:Blt mg) (hso:mg "sorted"=none) (KB:K.In base) (hcc:PySem.W.codeHdIn K cc T=true) (hB:BltIn mg base) (hIsAhead:Has P w K mg base 2 "is_ahead" ["one","other"] (spAhead K)) :
  Has P w K mg base 6 "rising" ["rows"] (spRising K T):=by
 refine D.has fun f fd F hc=>Sb.Fun.okC F hc scRising (fun vs H Q E h=>?_) (fun A outer s H vs Q E hr h=>?_)
 ·obtain ⟨l,as,rss,c,n,rfl,_⟩:=h
  rfl
 ·obtain ⟨l,as,rss,c,n,rfl,hl,hp,h64,hlen,hc1,hg,hn,hT,k⟩:=h
  have sc:=scRising
  have nd1:(["other","row"]:List Str).Nodup:=by decide +kernel
  refine ⟨_,pss_one (ps_ret (pe_sortL (x:="row") (y:="rows") (k:=2) (iy:=0) (c:=s.heap.objs.size + 1) (cc:=cc) (P:=T) ?S hr rfl hso (pv 0) rfl rfl rfl rfl rfl rfl (PySem.W.codeHd_of_K KB hcc) hB rfl (fun _ _ _ _ _=>rfl) (fun A' outer' s' H' f' c' hr'=>pe_callB (call_lenK (K:=K)) rfl T0.len boot_len (pa_cons (pe_comp (N:=["other","row"]) (k:=1) (fv:=[0]) rfl (pi_listK (K:=K) (pv 1))
    (fun _ _ _ _ _=>pg_name (i:=0) nd1 rfl (Or.inl rfl)) (fun _ _ _ _ _=>pts_one (pt_val (pe_use hIsAhead (hr'.mono (by decide)) rfl (pa_cons (pv 0) (pa_cons (pv 1) pa_nil))))) (fun _ _ _ _ _=>(pv 0)) weak_name) pa_nil)))),?_⟩
  case S=>exact lam_scope rfl rfl rfl (by decide) rfl rfl (by decide +kernel) (fun _ _=>rfl) (fun _=>rfl)
  have lp:=Paired.length hp
  refine ⟨_,rfl,l,as.map V.ref,rss.map (cntR rss),.ref l,#[],fun H'=>SameX T H H',rfl,SqL.of hl,by simp [lp],by rw [List.length_map]; omega,rfl,hT,trivial,rfl,fun qs=>SameX.upd T H _,?_,?_⟩
  ·intro i x kk H' hx hk S1
   have hi:i < as.length:=by have:=(List.getElem?_eq_some_iff.mp hx).1; simpa using this
   have ea:as[i]?=some as[i]:=by simp [hi]
   have er:rss[i]?=some (rss[i]'(by omega)):=by simp
   generalize as[i]=a at ea
   generalize (rss[i]'(by omega))=r at er
   rw [List.getElem?_map,ea] at hx
   rw [List.getElem?_map,er] at hk
   cases hx
   cases hk
   have nT:∀ b u,H b=some u->(∀ q,u ≠ .tbl q)->b ≠ T:=fun b u e n z=>by rw [z,hT] at e; cases e; exact n _ rfl
   have E1:Ext H H':=⟨fun b xs e=>S1 b _ e (nT b _ e fun q z=>nomatch z),fun b o u e=>S1 b _ e (nT b _ e fun q z=>nomatch z)⟩
   have hl1:H' l=some (.lst (as.map V.ref)):=S1 l _ hl (nT l _ hl fun q z=>nomatch z)
   have P1:=rows_ext hp E1
   have mr:r ∈ rss:=List.mem_of_getElem? er
   refine cb_r (cons_r ?_)
   refine comp_filt (K:=K) (α:=List Rat) (tl:=tVar 1) (tt:=tB (tCall (spAhead K) [] E0 (tCons (tVar 0) (tCons (tVar 1) tNil)))) (k:=1) (fv:=[0]) (σ:=[some (V.ref a),some (V.ref l)]) (H:=H') (l:=l) (as:=as) (zs:=rss) (q:=fun o=>aheadR o r) (fun H' a r=>RowAt K H' a r) (fun _ _ _ _ e h=>h.ext e) (fun G g=>⟨_,rfl,g⟩) (SqL.of hl1) (by omega) P1 (fun j b o H2 G eb eo S2 hb hG=>?_) (by simp [comp0]) fun d H2 bs hd S2 hd2 P2 _=>?_
   ·have mo:o ∈ rss:=List.mem_of_getElem? eo
    exact ⟨_,rfl,_,rfl,b,a,o,r,n,rfl,hb,((Paired.getB P1 ea er).ext (Ext.same S2)),by rw [hlen o mo,hlen r mr],by rw [hlen o mo]; exact hc1,hg o mo,hg r mr,hn,fun H3 S3=>⟨_,rfl,hG H3 S3⟩⟩
   ·refine ⟨d,bs.map V.ref,rfl,.inl (SqL.of hd2),?_,S1.trans (SameX.of S2)⟩
    rw [List.length_map,Paired.length P2]
    rfl
  ·intro d H' ys S1 hd so
   obtain ⟨ps,pp,rfl,po⟩:=so
   have nT:∀ b u,H b=some u->(∀ q,u ≠ .tbl q)->b ≠ T:=fun b u e n z=>by rw [z,hT] at e; cases e; exact n _ rfl
   have E1:Ext H H':=⟨fun b xs e=>S1 b _ e (nT b _ e fun q z=>nomatch z),fun b o u e=>S1 b _ e (nT b _ e fun q z=>nomatch z)⟩
   have P1:=rows_ext (rows_ext hp E1) (Ext.new (o:=.lst (ps.map Prod.snd)) hd)
   obtain ⟨L,pL,eL⟩:=perm_map pp _ (zip_cnt (cntR rss) as rss lp)
   rw [eL] at po
   rw [List.pairwise_map] at po
   have e1:ps.map Prod.snd=(L.map Prod.fst).map V.ref:=by rw [eL,List.map_map,List.map_map]; rfl
   refine k d _ (L.map Prod.fst) (L.map Prod.snd) ?_ (by rw [e1,upd_same]) ?_ ?_ ?_
   ·intro b o e n
    by_cases z:b=d
    ·have q:=S1 b o e n
     rw [z,hd] at q
     cases q
    ·rw [upd_ne z]; exact S1 b o e n
   ·refine paired_map L fun q hq=>?_
    exact paired_mem P1 (pL.mem_iff.mp hq)
   ·have:=pL.map Prod.snd
    rwa [List.map_snd_zip (by omega)] at this
   ·rw [List.pairwise_map]
    exact po
end
end Sb
namespace Sb
open PySem L2
section
variable {P:Program} {w:World} {K:PySem.W.Frag} {mg:Str->Option Value} {base:Heap}
inductive spMeanW (K:PySem.W.Frag) (vs:List V) (H:Hp) (Q:VK) (_z3:XK):Prop
 | mk (a b:Addr) (xs us:List V) (ws rs:List Rat) (n n':Nat) (D D':Int) (Ws Zs:List Int) (zz0:vs=[.ref a,.ref b]) (zz1:(SqL K H a xs \/ SqT K H a xs)) (zz2:Rs K H ws xs) (zz3:(SqL K H b us \/ SqT K H b us)) (zz4:Rs K H rs us) (zz5:ws.length=rs.length) (zz6:rs.length<=1000) (zz7:RepL n D Ws ws) (zz8:RepL n' D' Zs rs) (zz9:n<=4000) (zz10:n'<=4000) (zz11:n + n' + 10<=8000) (zz12:∀ c H',Same H H'->SqT K H' c [.int (sumR (List.zipWith mulR' ws rs)).1,.int (sumR (List.zipWith mulR' ws rs)).2]->Q (.ref c) H')
theorem scMeanW:FnScope ["weights","row","mine","theirs","products"] ["weights","row"] (defScope sMean):=⟨rfl,rfl,rfl,by decide +kernel,rfl,by decide +kernel,by decide +kernel⟩
theorem okMeanW (D:Def K mg "mean" sMean ["weights","row"]) (T:Blt mg) (hCommonBottom:Has P w K mg base 2 "common_bottom" ["several"] (spCommon K)) (hWholeBy:Has P w K mg base 1 "whole_by" ["several","bottom"] (spWholeBy K)) (hRatio:Has P w K mg base 3 "ratio" ["top","bottom"] spLowest):Has P w K mg base 4 "mean" ["weights","row"] (spMeanW K):=by
 refine D.has fun f fd F=>F.ok scMeanW (fun vs H Q E h=>?_) (fun cdv A outer s H vs Q E hr h=>?_)
 ·obtain ⟨a,b,xs,us,ws,rs,n,n',D,D',Ws,Zs,rfl,_⟩:=h
  rfl
 ·obtain ⟨a,b,xs,us,ws,rs,n,n',D,D',Ws,Zs,rfl,hA,hWs,hB,hRs,hl,hl2,rw_,rr,hn,hn',hnn,k⟩:=h
  have sc:=scMeanW
  have nd1:(["one","other"]:List Str).Nodup:=by decide +kernel
  refine ⟨_,(pss_cons (ps_set (i:=2) sc.nd rfl (Or.inl rfl) (pe_use hCommonBottom (hr.mono (by decide)) rfl (pa_cons (pv 0) pa_nil)))
   (pss_cons (ps_set (i:=3) sc.nd rfl (Or.inl rfl) (pe_use hCommonBottom (hr.mono (by decide)) rfl (pa_cons (pv 1) pa_nil)))
   (pss_cons (ps_setC (i:=4) (N:=["one","other"]) (k:=2) (fv:=[]) sc.nd rfl (Or.inl rfl) rfl (pi_zipL rfl T.zip (pa_cons (pe_use hWholeBy (hr.mono (by decide)) rfl (pa_cons (pv 0) (pa_cons (pv 2) pa_nil))) (pa_cons (pe_use hWholeBy (hr.mono (by decide)) rfl (pa_cons (pv 1) (pa_cons (pv 3) pa_nil))) pa_nil)))
   (fun _ _ _ _ _=>pg_tup (n:=2) rfl (pgs_cons (pg_name (i:=0) nd1 rfl (Or.inl rfl)) (pgs_cons (pg_name (i:=1) nd1 rfl (Or.inl rfl)) pgs_nil))) (fun _ _ _ _ _=>pts_nil) (fun _ _ _ _ _=>(pe_op op_mulB (pv 0) (pv 1))) weak_pair)
   (pss_one (ps_ret (pe_use hRatio (hr.mono (by decide)) rfl (pa_cons (pe_callB (call_sumL (K:=K) rfl) rfl T.sum PyProof.Rows.boot_sum (pa_cons (pv 4) pa_nil)) (pa_cons (pe_op op_mulB (pv 2) (pv 3)) pa_nil)))))))),?_⟩
  have lw:=rw_.least
  have lr:=rr.least
  refine ⟨_,rfl,a,xs,ws,n,D,Ws,rfl,hA,hWs,rw_,hn,?_⟩
  refine ⟨_,rfl,b,us,rs,n',D',Zs,rfl,hB,hRs,rr,hn',?_⟩
  refine ⟨_,rfl,_,rfl,a,_,xs,ws,n,rfl,hA,hWs,lw.good,lw.bD,lw.pos,hn,by omega,fun d1 H1 f1 S1 e1=>?_⟩
  have hB1:SqL K H1 b us \/ SqT K H1 b us:=hB.elim (fun z=>.inl (sameL S1 z)) fun z=>.inr (sameT S1 z)
  refine ⟨_,rfl,_,rfl,b,_,us,rs,n',rfl,hB1,hRs.ext (Ext.same S1),lr.good,lr.bD,lr.pos,hn',hl2,fun d2 H2 f2 S2 e2=>?_⟩
  replace e1:=S2 _ _ e1
  refine ⟨d1,d2,rfl,⟨_,SqL.of e1⟩,⟨_,SqL.of e2⟩,fun d hd=>?_⟩
  have ll:(wholeB ws (lcmB ws)).length=rs.length:=by rw [lw.len,hl]
  have ll2:(wholeB rs (lcmB rs)).length=rs.length:=lr.len
  generalize hX:wholeB ws (lcmB ws)=As at *
  generalize hY:wholeB rs (lcmB rs)=Bs at *
  have bA:∀ z ∈ As,Bd n z:=fun z hz=>by
   obtain ⟨i,hi⟩:=List.getElem?_of_mem hz
   have hl':i < As.length:=(List.getElem?_eq_some_iff.mp hi).1
   exact (lw.at_ i z (ws[i]'(by omega)) hi (by simp)).2.1
  have bB:∀ z ∈ Bs,Bd n' z:=fun z hz=>by
   obtain ⟨i,hi⟩:=List.getElem?_of_mem hz
   have hl':i < Bs.length:=(List.getElem?_eq_some_iff.mp hi).1
   exact (lr.at_ i z (rs[i]'(by omega)) hi (by simp)).2.1
  refine ⟨rs.length,fun i ys H3=>Same H2 H3/\ys=((List.zipWith (· * ·) As Bs).take i).map V.int,size1000 hl2,⟨Same.new hd,rfl⟩,?_,?_⟩
  ·rintro i ys H3 hi ⟨S3,rfl⟩ hd3
   refine ⟨⟨_,_,SqL.of (S3 _ _ e1),SqL.of (S3 _ _ e2),by rw [List.length_map]; omega,by rw [List.length_map]; omega⟩,?_⟩
   rintro x H4 ⟨p,x0,y0,rfl,hp,rfl,fx,fy⟩
   have ea:As[i]?=some (As[i]'(by omega)):=by simp
   have eb:Bs[i]?=some (Bs[i]'(by omega)):=by simp
   have ex0:x0=V.int (As[i]'(by omega)):=by
    have:=fx _ (SqL.of (S3 _ _ e1))
    rw [List.getElem?_map,ea] at this
    exact (Option.some.inj this).symm
   have ey0:y0=V.int (Bs[i]'(by omega)):=by
    have:=fy _ (SqL.of (S3 _ _ e2))
    rw [List.getElem?_map,eb] at this
    exact (Option.some.inj this).symm
   subst ex0 ey0
   refine pairyes (SqT.of upd_same) ?_
   have hpd:d ≠ p:=ne_of_none hd3 hp
   refine ⟨_,rfl,_,rfl,_,_,rfl,rfl,(bA _ (List.getElem_mem _)).mulOk (bB _ (List.getElem_mem _)) (by omega) (by omega),by rw [upd_ne hpd]; exact hd3,fun q o e=>?_,?_⟩
   ·have:=S3 _ _ e
    rw [upd_ne (ne_of_none e hd),upd_ne (ne_of_none this hp)]
    exact this
   ·have:(List.zipWith (· * ·) As Bs)[i]?=some (As[i]'(by omega) * Bs[i]'(by omega)):=by rw [List.getElem?_zipWith,ea,eb]
    rw [take_snoc this,List.map_append]
    rfl
  ·rintro ys H3 ⟨S3,rfl⟩ hd3
   rw [List.take_of_length_le (by rw [List.length_zipWith]; omega)] at hd3
   refine ⟨⟨_,_,SqL.of (S3 _ _ e1),SqL.of (S3 _ _ e2),by rw [List.length_map]; omega⟩,?_⟩
   refine ⟨_,rfl,d,_,rfl,SqL.of hd3,_,rfl,_,rfl,_,_,rfl,rfl,lw.bD.mulOk lr.bD (by omega) (by omega),_,_,rfl,by have:=Int.mul_pos lw.pos lr.pos; omega,(lw.bD.mul lr.bD).log (by omega),fun c H4 f4 S4 e4=>?_⟩
   have me:=mean_eq lw lr hl
   have e5:sumR (List.zipWith mulR' ws rs)=nrm (List.zipWith (· * ·) As Bs).sum (lcmB ws * lcmB rs):=me.symm
   refine k c H4 (((S1.trans S2).trans S3).trans S4) ?_
   rw [e5]
   exact SqT.of e4
end
end Sb
namespace Sb
open PySem L2
section
variable {P:Program} {w:World} {K:PySem.W.Frag} {mg:Str->Option Value} {base:Heap}
def natL (us:List Nat):List V:=us.map fun k=>V.int ((k:Nat):Int)
def touR (ess:List (List Rat)) (r:List Rat):List Nat:=(List.range ess.length).filter fun k=>decide (mn r (ess.getD k [])=(0,1))
def MeanOk (r e:List Rat):Prop:=r.length=e.length/\r.length<=1000/\∃ n n' D D' Ws Zs,RepL n D Ws r/\RepL n' D' Zs e/\n + n' + 10<=4000
inductive spTouched (K:PySem.W.Frag) (vs:List V) (H:Hp) (Q:VK) (_z3:XK):Prop
 | mk (l a:Addr) (as:List Addr) (ess:List (List Rat)) (r:List Rat) (zz0:vs=[.ref l,.ref a]) (zz1:H l=some (.lst (as.map V.ref))) (zz2:Paired (RowAt K H) as ess) (zz3:RowAt K H a r) (zz4:ess.length<=1000) (zz5:∀ e ∈ ess,MeanOk r e)
  (zz6:∀ (d:Addr) (H':Hp),H d=none->Same H H'->H' d=some (.lst (natL (touR ess r)))->Q (.ref d) H')
theorem scTouched:FnScope ["edges","corner"] ["edges","corner"] (defScope sTouched):=⟨rfl,rfl,rfl,by decide +kernel,rfl,by decide +kernel,by decide +kernel⟩
theorem okTouched (D:Def K mg "touched" sTouched ["edges","corner"]) (T:Blt mg) (hMean:Has P w K mg base 4 "mean" ["weights","row"] (spMeanW K)) (hNOUGHT:Con K mg "NOUGHT" (0,1)):Has P w K mg base 5 "touched" ["edges","corner"] (spTouched K):=by
 refine D.has fun f fd F=>F.ok scTouched (fun vs H Q E h=>?_) (fun cdv A outer s H vs Q E hr h=>?_)
 ·obtain ⟨l,a,as,ess,r,rfl,_⟩:=h
  rfl
 ·obtain ⟨l,a,as,ess,r,rfl,hl,hp,hA,hz,hm,k⟩:=h
  have sc:=scTouched
  have hU:=Nat.lt_of_succ_lt (hu_of hr)
  obtain ⟨c_NOUGHT,m_NOUGHT,s_NOUGHT⟩:=hNOUGHT
  have nd1:(["place","edge","corner"]:List Str).Nodup:=by decide +kernel
  refine ⟨_,(pss_one (ps_ret (pe_comp (N:=["place","edge","corner"]) (k:=2) (fv:=[1]) rfl (pi_enumL rfl T.enumerate (pa_cons (pv 0) pa_nil))
   (fun _ _ _ _ _=>pg_tup (n:=2) rfl (pgs_cons (pg_name (i:=0) nd1 rfl (Or.inl rfl)) (pgs_cons (pg_name (i:=1) nd1 rfl (Or.inl rfl)) pgs_nil))) (fun _ _ _ _ _=>pts_one (pt_cmpR (op_eqI (K:=K) hU) (pe_use hMean (hr.mono (by decide)) rfl (pa_cons (pv 2) (pa_cons (pv 1) pa_nil))) (pe_glob (v:=.ref c_NOUGHT) rfl m_NOUGHT rfl) (nomark _))) (fun _ _ _ _ _=>(pv 0)) weak_pair))),?_⟩
  have lp:=Paired.length hp
  refine ret_r ?_
  refine ⟨_,rfl,l,rfl,⟨_,SqL.of hl⟩,fun d hd=>?_⟩
  refine ⟨as.length,fun i ys H2=>Same H H2/\ys=natL ((List.range i).filter fun k=>decide (mn r (ess.getD k [])=(0,1))),Nat.le_trans (show as.length<=1000 by omega) (by decide),⟨Same.new hd,rfl⟩,?_,?_⟩
  ·rintro i ys H2 hi ⟨S2,rfl⟩ hd2
   have hl2:=S2 _ _ hl
   refine ⟨⟨_,SqL.of hl2,by simpa using hi⟩,?_⟩
   rintro x H3 ⟨p,x0,rfl,hp3,rfl,fx⟩
   have ea:as[i]?=some as[i]:=by simp [hi]
   have ee:ess[i]?=some (ess[i]'(by omega)):=by simp
   have hgd:ess.getD i []=ess[i]'(by omega):=by simp [List.getD,show i < ess.length by omega]
   have eb:=Paired.getB hp ea ee
   have me:=hm _ (List.mem_of_getElem? ee)
   rw [← hgd] at eb me
   have ex:x0=V.ref as[i]:=by
    have:=fx _ (SqL.of hl2)
    rw [List.getElem?_map,ea] at this
    exact (Option.some.inj this).symm
   subst ex
   generalize as[i]=b at *
   have S3:=S2.trans (Same.new (o:=.tup [V.int ((i:Nat):Int),V.ref b]) hp3)
   have hd3:(upd H2 p (.tup [V.int ((i:Nat):Int),V.ref b])) d=_:=(Same.new (o:=.tup [V.int ((i:Nat):Int),V.ref b]) hp3) _ _ hd2
   have t3:SqT K (upd H2 p (.tup [V.int ((i:Nat):Int),V.ref b])) p [V.int ((i:Nat):Int),V.ref b]:=SqT.of upd_same
   generalize upd H2 p (.tup [V.int ((i:Nat):Int),V.ref b])=H3 at *
   obtain ⟨xb,qb,rb⟩:=eb.ext (Ext.same S3)
   obtain ⟨xa,qa,ra⟩:=hA.ext (Ext.same S3)
   obtain ⟨m1,m2,n,n',D1,D2,Ws,Zs,r1,r2,m3⟩:=me
   refine pairyes1 t3 ?_
   refine ⟨_,rfl,_,rfl,a,b,xa,xb,r,ess.getD i [],n,n',D1,D2,Ws,Zs,rfl,.inr qa,ra,.inr qb,rb,m1,by omega,r1,r2,by omega,by omega,by omega,fun c4 H4 S4 q4=>?_⟩
   refine ⟨c4,c_NOUGHT,[_,_],[0,1],rfl,rfl,q4,s_NOUGHT _,_,rfl,?_⟩
   have e1:decide ([(sumR (List.zipWith mulR' r (ess.getD i []))).1,(sumR (List.zipWith mulR' r (ess.getD i []))).2]=[0,1])=decide (mn r (ess.getD i [])=(0,1)):=by
    rw [decide_eq_decide]
    constructor
    ·intro z
     injection z with z1 z2
     injection z2 with z2 _
     exact Prod.ext z1 z2
    ·intro z
     show [(mn r (ess.getD i [])).1,(mn r (ess.getD i [])).2]=_
     rw [z]
   show if decide _=true then _ else _
   rw [e1]
   have hd4:=S4 _ _ hd3
   have ru:(List.range (i + 1)).filter (fun k=>decide (mn r (ess.getD k [])=(0,1)))=(List.range i).filter (fun k=>decide (mn r (ess.getD k [])=(0,1))) ++ (if decide (mn r (ess.getD i [])=(0,1))=true then [i] else []):=by
    rw [List.range_succ,List.filter_append,List.filter_cons,List.filter_nil]
   by_cases e:mn r (ess.getD i [])=(0,1)
   ·rw [decide_eq_true e]
    refine iteT ⟨_,rfl,hd4,upd_same2 (S3.trans S4) hd,?_⟩
    rw [ru,decide_eq_true e,if_pos rfl]
    unfold natL
    rw [List.map_append]
    rfl
   ·rw [decide_eq_false e]
    refine iteF ⟨hd4,S3.trans S4,?_⟩
    rw [ru,decide_eq_false e,if_neg Bool.false_ne_true,List.append_nil]
  ·rintro ys H2 ⟨S2,rfl⟩ hd2
   refine ⟨⟨_,SqL.of (S2 _ _ hl),by simp⟩,k d H2 hd S2 ?_⟩
   rw [hd2,lp]
   rfl
end
end Sb
namespace Sb
open PySem L2
section
variable {P:Program} {w:World} {K:PySem.W.Frag} {mg:Str->Option Value} {base:Heap}
theorem scPlus:FnScope ["one","other"] ["one","other"] (defScope sPlus):=⟨rfl,rfl,rfl,by decide +kernel,rfl,by decide +kernel,by decide +kernel⟩
theorem okPlus (D:Def K mg "plus" sPlus ["one","other"]) (hLowest:Has P w K mg base 2 "lowest" ["top","bottom"] spLowest):Has P w K mg base 3 "plus" ["one","other"] (spTwo K addR):=by
 refine D.has fun f fd F=>F.ok scPlus (fun vs H Q E h=>?_) (fun cdv A outer s H vs Q E hr h=>?_)
 ·obtain ⟨a,b,r,s,n,rfl,_⟩:=h
  rfl
 ·obtain ⟨a,b,r,s,n,rfl,hA,hB,gr,gs,hn,k⟩:=h
  have sc:=scPlus
  refine ⟨_,(pss_one (ps_ret (pe_use hLowest (hr.mono (by decide)) rfl (pa_cons (pe_op op_add (pe_op op_mulB (pe_ix ix_p0 (pv 0) pe_int (fun _ _=>rfl)) (pe_ix ix_p1 (pv 1) pe_int (fun _ _=>rfl))) (pe_op op_mulB (pe_ix ix_p0 (pv 1) pe_int (fun _ _=>rfl)) (pe_ix ix_p1 (pv 0) pe_int (fun _ _=>rfl)))) (pa_cons (pe_op op_mulB (pe_ix ix_p1 (pv 0) pe_int (fun _ _=>rfl)) (pe_ix ix_p1 (pv 1) pe_int (fun _ _=>rfl))) pa_nil))))),?_⟩
  exact ⟨_,rfl,_,_,_,rfl,rfl,hA,_,rfl,_,_,_,rfl,rfl,hB,_,_,rfl,rfl,gr.b1.mulOk gs.b2 (by omega) (by omega),_,rfl,_,_,_,rfl,rfl,hB,_,rfl,_,_,_,rfl,rfl,hA,_,_,rfl,rfl,gs.b1.mulOk gr.b2 (by omega) (by omega),_,_,rfl,rfl,_,rfl,_,_,_,rfl,rfl,hA,_,rfl,_,_,_,rfl,rfl,hB,_,_,rfl,rfl,gr.b2.mulOk gs.b2 (by omega) (by omega),_,_,rfl,mul_ne gr.pos gs.pos,log_mul gr.b2 gs.b2 hn,k⟩
end
end Sb
namespace Sb
open PySem L2
section
variable {P:Program} {w:World} {K:PySem.W.Frag} {mg:Str->Option Value} {base:Heap}
theorem scTimes:FnScope ["one","other"] ["one","other"] (defScope sTimes):=⟨rfl,rfl,rfl,by decide +kernel,rfl,by decide +kernel,by decide +kernel⟩
theorem okTimes (D:Def K mg "times" sTimes ["one","other"]) (hLowest:Has P w K mg base 2 "lowest" ["top","bottom"] spLowest):Has P w K mg base 3 "times" ["one","other"] (spTwo K mulR'):=by
 refine D.has fun f fd F=>F.ok scTimes (fun vs H Q E h=>?_) (fun cdv A outer s H vs Q E hr h=>?_)
 ·obtain ⟨a,b,r,s,n,rfl,_⟩:=h
  rfl
 ·obtain ⟨a,b,r,s,n,rfl,hA,hB,gr,gs,hn,k⟩:=h
  have sc:=scTimes
  refine ⟨_,(pss_one (ps_ret (pe_use hLowest (hr.mono (by decide)) rfl (pa_cons (pe_op op_mulB (pe_ix ix_p0 (pv 0) pe_int (fun _ _=>rfl)) (pe_ix ix_p0 (pv 1) pe_int (fun _ _=>rfl))) (pa_cons (pe_op op_mulB (pe_ix ix_p1 (pv 0) pe_int (fun _ _=>rfl)) (pe_ix ix_p1 (pv 1) pe_int (fun _ _=>rfl))) pa_nil))))),?_⟩
  exact ⟨_,rfl,_,_,_,rfl,rfl,hA,_,rfl,_,_,_,rfl,rfl,hB,_,_,rfl,rfl,gr.b1.mulOk gs.b1 (by omega) (by omega),_,rfl,_,_,_,rfl,rfl,hA,_,rfl,_,_,_,rfl,rfl,hB,_,_,rfl,rfl,gr.b2.mulOk gs.b2 (by omega) (by omega),_,_,rfl,mul_ne gr.pos gs.pos,log_mul gr.b2 gs.b2 hn,k⟩
end
end Sb
namespace Sb
open PySem L2
section
variable {P:Program} {w:World} {K:PySem.W.Frag} {mg:Str->Option Value} {base:Heap}
inductive spAdded (K:PySem.W.Frag) (vs:List V) (H:Hp) (Q:VK) (_z3:XK):Prop
 | mk (a b:Addr) (rs ss:List Rat) (n:Nat) (zz0:vs=[.ref a,.ref b]) (zz1:RowAt K H a rs) (zz2:RowAt K H b ss) (zz3:rs.length=ss.length) (zz4:rs.length<=1000) (zz5:(∀ r ∈ rs,Good n r)) (zz6:(∀ r ∈ ss,Good n r)) (zz7:n<=4000) (zz8:∀ c H' ys,Same H H'->H' c=some (.tup ys)->Rs K H' (List.zipWith addR rs ss) ys->Q (.ref c) H')
theorem scAdded:FnScope ["one","other"] ["one","other"] (defScope sAdded):=⟨rfl,rfl,rfl,by decide +kernel,rfl,by decide +kernel,by decide +kernel⟩
theorem okAdded (D:Def K mg "added" sAdded ["one","other"]) (T:Blt mg) (hPlus:Has P w K mg base 3 "plus" ["one","other"] (spTwo K addR)):Has P w K mg base 4 "added" ["one","other"] (spAdded K):=by
 refine D.has fun f fd F=>F.ok scAdded (fun vs H Q E h=>?_) (fun cdv A outer s H vs Q E hr h=>?_)
 ·obtain ⟨a,b,rs,ss,n,rfl,_⟩:=h
  rfl
 ·obtain ⟨a,b,rs,ss,n,rfl,⟨xs,hA,hRs⟩,⟨us,hB,hSs⟩,hl,hl2,gr,gs,hn,k⟩:=h
  have sc:=scAdded
  have nd:(["mine","theirs"]:List Str).Nodup:=by decide +kernel
  refine ⟨_,(pss_one (ps_ret (pe_callTy call_tuple_of rfl T.tuple PyProof.Rows.boot_tuple (pa_cons (pe_comp (N:=["mine","theirs"]) (k:=2) (fv:=[]) rfl (pi_zip rfl T.zip (pa_cons (pv 0) (pa_cons (pv 1) pa_nil)))
   (fun _ _ _ _ _=>pg_tup (n:=2) rfl (pgs_cons (pg_name (i:=0) nd rfl (Or.inl rfl)) (pgs_cons (pg_name (i:=1) nd rfl (Or.inl rfl)) pgs_nil))) (fun _ _ _ _ _=>pts_nil) (fun _ _ _ _ _=>pe_use hPlus (hr.mono (by decide)) rfl (pa_cons (pv 0) (pa_cons (pv 1) pa_nil))) weak_pair) pa_nil)))),?_⟩
  refine ⟨_,rfl,_,rfl,a,b,rfl,⟨_,hA⟩,⟨_,hB⟩,fun d hd=>?_⟩
  have lx:=hRs.len
  have lu:=hSs.len
  refine ⟨rs.length,fun i ys H2=>Same H H2/\Rs K H2 (zipR addR rs ss i) ys,size1000 hl2,⟨Same.new hd,.nil⟩,?_,?_⟩
  ·rintro i ys H2 hi ⟨S2,R2⟩ hd2
   refine ⟨⟨xs,us,sameT S2 hA,sameT S2 hB,by omega,by omega⟩,?_⟩
   rintro x H3 ⟨p,x0,y0,rfl,hp,rfl,fx,fy⟩
   obtain ⟨r,er,ix⟩:=hRs.back (fx xs (sameT S2 hA))
   obtain ⟨s',es,iy⟩:=hSs.back (fy us (sameT S2 hB))
   obtain ⟨a1,rfl,sq1⟩:=ix.ext ((Ext.same S2).trans (Ext.new (o:=.tup [x0,y0]) hp))
   obtain ⟨b1,rfl,sq2⟩:=iy.ext ((Ext.same S2).trans (Ext.new (o:=.tup [.ref a1,y0]) hp))
   refine pairyes (SqT.of upd_same) ?_
   refine ⟨_,rfl,_,rfl,a1,b1,r,s',n,rfl,sq1,sq2,gr r (List.mem_of_getElem? er),gs s' (List.mem_of_getElem? es),hn,fun c H4 fc S4 e4=>?_⟩
   have hpd:d ≠ p:=ne_of_none hd2 hp
   have hd4:H4 d=some (.lst ys):=S4 _ _ (by rw [upd_ne hpd]; exact hd2)
   have E4:Ext H2 H4:=(Ext.new hp).trans (Ext.same S4)
   have E5:Ext H4 (upd H4 d (.lst (ys ++ [.ref c]))):=Ext.upd hd4
   refine ⟨hd4,fun q o e=>?_,?_⟩
   ·rw [upd_ne (ne_of_none e hd)]
    exact S4 _ _ (by rw [upd_ne (ne_of_none (S2 _ _ e) hp)]; exact S2 _ _ e)
   ·rw [zipR_succ addR er es]
    exact (R2.ext (E4.trans E5)).snoc ⟨c,rfl,E5.sq (SqT.of e4)⟩
  ·rintro ys H2 ⟨S2,R2⟩ hd2
   refine ⟨⟨xs,us,sameT S2 hA,sameT S2 hB,lx⟩,d,ys,rfl,.inl ⟨SqL.of hd2,fun l hl'=>?_⟩⟩
   rw [zipR_all addR rfl hl.symm] at R2
   exact k l _ ys (S2.trans (Same.new hl')) upd_same (R2.ext (Ext.new hl'))
end
end Sb
namespace Sb
open PySem L2
section
variable {P:Program} {w:World} {K:PySem.W.Frag} {mg:Str->Option Value} {base:Heap}
inductive spMultiplied (K:PySem.W.Frag) (vs:List V) (H:Hp) (Q:VK) (_z3:XK):Prop
 | mk (a b:Addr) (rs:List Rat) (s:Rat) (n:Nat) (zz0:vs=[.ref a,.ref b]) (zz1:RowAt K H a rs) (zz2:SqT K H b [.int s.1,.int s.2]) (zz3:rs.length<=1000) (zz4:(∀ r ∈ rs,Good n r)) (zz5:Good n s) (zz6:n<=4000) (zz7:∀ c H' ys,Same H H'->H' c=some (.tup ys)->Rs K H' (rs.map fun r=>mulR' r s) ys->Q (.ref c) H')
theorem scMultiplied:FnScope ["row","by"] ["row","by"] (defScope sMultiplied):=⟨rfl,rfl,rfl,by decide +kernel,rfl,by decide +kernel,by decide +kernel⟩
theorem okMultiplied (D:Def K mg "multiplied" sMultiplied ["row","by"]) (T:Blt mg) (hTimes:Has P w K mg base 3 "times" ["one","other"] (spTwo K mulR')):Has P w K mg base 4 "multiplied" ["row","by"] (spMultiplied K):=by
 refine D.has fun f fd F=>F.ok scMultiplied (fun vs H Q E h=>?_) (fun cdv A outer s H vs Q E hr h=>?_)
 ·obtain ⟨a,b,rs,s,n,rfl,_⟩:=h
  rfl
 ·obtain ⟨a,b,rs,s,n,rfl,⟨xs,hA,hRs⟩,hB,hl2,gr,gs,hn,k⟩:=h
  have sc:=scMultiplied
  have nd:(["worth","by"]:List Str).Nodup:=by decide +kernel
  refine ⟨_,(pss_one (ps_ret (pe_callTy call_tuple_of rfl T.tuple PyProof.Rows.boot_tuple (pa_cons (pe_comp (N:=["worth","by"]) (k:=1) (fv:=[1]) rfl (pi_tup (pv 0))
   (fun _ _ _ _ _=>pg_name (i:=0) nd rfl (Or.inl rfl)) (fun _ _ _ _ _=>pts_nil) (fun _ _ _ _ _=>pe_use hTimes (hr.mono (by decide)) rfl (pa_cons (pv 0) (pa_cons (pv 1) pa_nil))) weak_name) pa_nil)))),?_⟩
  refine ⟨_,rfl,a,rfl,⟨_,hA⟩,fun d hd=>?_⟩
  have lx:=hRs.len
  refine ⟨rs.length,fun i ys H2=>Same H H2/\Rs K H2 (mapR (fun r=>mulR' r s) rs i) ys,size1000 hl2,⟨Same.new hd,.nil⟩,?_,?_⟩
  ·rintro i ys H2 hi ⟨S2,R2⟩ hd2
   refine ⟨⟨xs,xs[i]'(by omega),sameT S2 hA,by simp⟩,?_⟩
   rintro x H3 ⟨rfl,fx⟩
   obtain ⟨r,er,ix⟩:=hRs.back (fx xs (sameT S2 hA))
   obtain ⟨a1,rfl,sq1⟩:=ix.ext (Ext.same S2)
   refine nameyes ?_
   refine ⟨_,rfl,_,rfl,a1,b,r,s,n,rfl,sq1,sameT S2 hB,gr r (List.mem_of_getElem? er),gs,hn,fun c H4 fc S4 e4=>?_⟩
   have hd4:H4 d=some (.lst ys):=S4 _ _ hd2
   have E5:Ext H4 (upd H4 d (.lst (ys ++ [.ref c]))):=Ext.upd hd4
   refine ⟨hd4,fun q o e=>?_,?_⟩
   ·rw [upd_ne (ne_of_none e hd)]
    exact S4 _ _ (S2 _ _ e)
   ·rw [mapR_succ _ er]
    exact (R2.ext ((Ext.same S4).trans E5)).snoc ⟨c,rfl,E5.sq (SqT.of e4)⟩
  ·rintro ys H2 ⟨S2,R2⟩ hd2
   refine ⟨⟨xs,sameT S2 hA,by omega⟩,d,ys,rfl,.inl ⟨SqL.of hd2,fun l hl'=>?_⟩⟩
   rw [mapR_all _ rfl] at R2
   exact k l _ ys (S2.trans (Same.new hl')) upd_same (R2.ext (Ext.new hl'))
end
end Sb
namespace Sb
open PySem L2
def parR (r s:Rat):Rat:=nrm (r.1 * s.2) (r.2 * s.1)
theorem parR_ne {r s:Rat} (hr:0 < r.2) (hs:s.1 ≠ 0):r.2 * s.1 ≠ 0:=Int.mul_ne_zero (by omega) hs
theorem par_good {n m:Nat} {r s:Rat} (h:Good n r) (k:Good m s) (h0:s.1 ≠ 0):Good (n + m) (parR r s):=nrm_good (h.b1.mul k.b2) (h.b2.mul k.b1) (parR_ne h.pos h0)
theorem mul_good' {n m:Nat} {r s:Rat} (h:Good n r) (k:Good m s):Good (n + m) (mulR' r s):=nrm_good (h.b1.mul k.b1) (h.b2.mul k.b2) (Int.ne_of_gt (Int.mul_pos h.pos k.pos))
theorem sub_good' {n m:Nat} {r s:Rat} (h:Good n r) (k:Good m s):Good (n + m + 1) (subR r s):=by
 have a:=h.b1.mul k.b2
 have b:=k.b1.mul h.b2
 rw [Nat.add_comm m n] at b
 exact nrm_good (Bd.sub a b) ((h.b2.mul k.b2).mono (by omega)) (Int.ne_of_gt (Int.mul_pos h.pos k.pos))
theorem add_good' {n m:Nat} {r s:Rat} (h:Good n r) (k:Good m s):Good (n + m + 1) (addR r s):=by
 have a:=h.b1.mul k.b2
 have b:=k.b1.mul h.b2
 rw [Nat.add_comm m n] at b
 exact nrm_good (Bd.add a b) ((h.b2.mul k.b2).mono (by omega)) (Int.ne_of_gt (Int.mul_pos h.pos k.pos))
def byR (one other row:List Rat):Rat:=parR (mn one row) (subR (mn one row) (mn other row))
def crR (one other row:List Rat):List Rat:=List.zipWith addR (one.map fun r=>mulR' r (subR (1,1) (byR one other row))) (other.map fun r=>mulR' r (byR one other row))
theorem mn_good {n n':Nat} {D D':Int} {Ws Zs:List Int} {r e:List Rat} (h:RepL n D Ws r) (k:RepL n' D' Zs e) (hl:r.length=e.length) (h10:r.length<=1000):Good (n + n' + 10) (mn r e):=(h.mul k hl).sumGood (k:=10) (by rw [List.length_zipWith]; omega)
section
variable {P:Program} {w:World} {K:PySem.W.Frag} {mg:Str->Option Value} {base:Heap}
inductive spPart0 (K:PySem.W.Frag) (vs:List V) (H:Hp) (Q:VK) (_z3:XK):Prop
 | mk (a b:Addr) (r s:Rat) (n:Nat) (zz0:vs=[.ref a,.ref b]) (zz1:SqT K H a [.int r.1,.int r.2]) (zz2:SqT K H b [.int s.1,.int s.2]) (zz3:Good n r) (zz4:Good n s) (zz5:n<=4000) (zz6:s.1 ≠ 0) (zz7:∀ c H',H c=none->Same H H'->H' c=some (.tup [.int (parR r s).1,.int (parR r s).2])->Q (.ref c) H')
theorem scPartedP:FnScope ["one","other"] ["one","other"] (defScope sPartedP):=⟨rfl,rfl,rfl,by decide +kernel,rfl,by decide +kernel,by decide +kernel⟩
theorem okPart0 (D:Def K mg "parted" sPartedP ["one","other"]) (hLowest:Has P w K mg base 2 "lowest" ["top","bottom"] spLowest):Has P w K mg base 3 "parted" ["one","other"] (spPart0 K):=by
 refine D.has fun f fd F=>F.ok scPartedP (fun vs H Q E h=>?_) (fun cdv A outer s H vs Q E hr h=>?_)
 ·obtain ⟨a,b,r,s,n,rfl,_⟩:=h
  rfl
 ·obtain ⟨a,b,r,s,n,rfl,hA,hB,gr,gs,hn,h0,k⟩:=h
  have sc:=scPartedP
  refine ⟨_,(pss_cons (ps_if (pt_cmpR op_eq (pe_ix ix_p0 (pv 1) pe_int (fun _ _=>rfl)) pe_int (nomark _))
    (pss_one ps_never)
    pss_nil)
   (pss_one (ps_ret (pe_use hLowest (hr.mono (by decide)) rfl (pa_cons (pe_op op_mulB (pe_ix ix_p0 (pv 0) pe_int (fun _ _=>rfl)) (pe_ix ix_p1 (pv 1) pe_int (fun _ _=>rfl))) (pa_cons (pe_op op_mulB (pe_ix ix_p1 (pv 0) pe_int (fun _ _=>rfl)) (pe_ix ix_p0 (pv 1) pe_int (fun _ _=>rfl))) pa_nil)))))),?_⟩
  refine ⟨_,rfl,b,_,_,rfl,rfl,hB,rfl,_,rfl,iteD0 (fun z=>h0 (V.int.inj z)) ?_⟩
  exact ⟨_,rfl,_,_,_,rfl,rfl,hA,_,rfl,_,_,_,rfl,rfl,hB,_,_,rfl,rfl,gr.b1.mulOk gs.b2 (by omega) (by omega),_,rfl,_,_,_,rfl,rfl,hA,_,rfl,_,_,_,rfl,rfl,hB,_,_,rfl,rfl,gr.b2.mulOk gs.b1 (by omega) (by omega),_,_,rfl,parR_ne gr.pos h0,log_mul gr.b2 gs.b1 hn,k⟩
inductive spCrossing (K:PySem.W.Frag) (vs:List V) (H:Hp) (Q:VK) (_z3:XK):Prop
 | mk (a b e:Addr) (one other row:List Rat) (n:Nat) (D D' D2:Int) (Ws Us Zs:List Int) (zz0:vs=[.ref a,.ref b,.ref e]) (zz1:RowAt K H a one) (zz2:RowAt K H b other) (zz3:RowAt K H e row) (zz4:one.length=row.length) (zz5:other.length=row.length) (zz6:row.length<=1000) (zz7:RepL n D Ws one) (zz8:RepL n D' Us other) (zz9:RepL n D2 Zs row) (zz10:n<=400) (zz11:(subR (mn one row) (mn other row)).1 ≠ 0)
  (zz12:∀ c H',Same H H'->RowAt K H' c (crR one other row)->Q (.ref c) H')
theorem scCrossing:FnScope ["one","other","row","spare","by"] ["one","other","row"] (defScope sCrossing):=⟨rfl,rfl,rfl,by decide +kernel,rfl,by decide +kernel,by decide +kernel⟩
theorem okCrossing (D:Def K mg "crossing" sCrossing ["one","other","row"]) (hMean:Has P w K mg base 4 "mean" ["weights","row"] (spMeanW K)) (hMinus:Has P w K mg base 3 "minus" ["one","other"] (spTwo K subR)) (hParted:Has P w K mg base 3 "parted" ["one","other"] (spPart0 K)) (hAdded:Has P w K mg base 4 "added" ["one","other"] (spAdded K)) (hMultiplied:Has P w K mg base 4 "multiplied" ["row","by"] (spMultiplied K)) (hONE:Con K mg "ONE" (1,1)):Has P w K mg base 5 "crossing" ["one","other","row"] (spCrossing K):=by
 refine D.has fun f fd F=>F.ok scCrossing (fun vs H Q E h=>?_) (fun cdv A outer s H vs Q E hr h=>?_)
 ·obtain ⟨a,b,e,one,other,row,n,D,D',D2,Ws,Us,Zs,rfl,_⟩:=h
  rfl
 ·obtain ⟨a,b,e,one,other,row,n,D,D',D2,Ws,Us,Zs,rfl,⟨xa,qa,ra⟩,⟨xb,qb,rb⟩,⟨xe,qe,re⟩,l1,l2,l3,r1,r2,r3,hn,h0,k⟩:=h
  have sc:=scCrossing
  obtain ⟨c_ONE,m_ONE,s_ONE⟩:=hONE
  refine ⟨_,(pss_cons (ps_set (i:=3) sc.nd rfl (Or.inl rfl) (pe_use hMean (hr.mono (by decide)) rfl (pa_cons (pv 0) (pa_cons (pv 2) pa_nil))))
   (pss_cons (ps_set (i:=4) sc.nd rfl (Or.inl rfl) (pe_use hParted (hr.mono (by decide)) rfl (pa_cons (pv 3) (pa_cons (pe_use hMinus (hr.mono (by decide)) rfl (pa_cons (pv 3) (pa_cons (pe_use hMean (hr.mono (by decide)) rfl (pa_cons (pv 1) (pa_cons (pv 2) pa_nil))) pa_nil))) pa_nil))))
   (pss_one (ps_ret (pe_use hAdded (hr.mono (by decide)) rfl (pa_cons (pe_use hMultiplied (hr.mono (by decide)) rfl (pa_cons (pv 0) (pa_cons (pe_use hMinus (hr.mono (by decide)) rfl (pa_cons (pe_glob (v:=.ref c_ONE) rfl m_ONE rfl) (pa_cons (pv 4) pa_nil))) pa_nil))) (pa_cons (pe_use hMultiplied (hr.mono (by decide)) rfl (pa_cons (pv 1) (pa_cons (pv 4) pa_nil))) pa_nil))))))),?_⟩
  have g1:=mn_good r1 r3 l1 (by omega)
  have g2:=mn_good r2 r3 l2 (by omega)
  have g3:=sub_good' g1 g2
  have g4:=par_good g1 g3 h0
  have one1:Good 1 ((1,1):Rat):=⟨(by show (1:Int).natAbs < 2 ^ 1; decide),(by show (1:Int).natAbs < 2 ^ 1; decide),by decide,by decide⟩
  have g5:=sub_good' one1 g4
  refine ⟨_,rfl,_,rfl,a,e,xa,xe,one,row,n,n,D,D2,Ws,Zs,rfl,.inr qa,ra,.inr qe,re,l1,l3,r1,r3,by omega,by omega,by omega,fun c1 H1 S1 q1=>?_⟩
  have qa1:=sameT S1 qa
  have qb1:=sameT S1 qb
  have qe1:=sameT S1 qe
  refine ⟨_,rfl,_,rfl,_,rfl,_,rfl,b,e,xb,xe,other,row,n,n,D',D2,Us,Zs,rfl,.inr qb1,rb.ext (Ext.same S1),.inr qe1,re.ext (Ext.same S1),l2,l3,r2,r3,by omega,by omega,by omega,fun c2 H2 S2 q2=>?_⟩
  refine ⟨c1,c2,mn one row,mn other row,2 * n + 10,rfl,sameT S2 q1,q2,g1.mono (by omega),g2.mono (by omega),by omega,fun c3 H3 f3 S3 q3=>?_⟩
  refine ⟨c1,c3,mn one row,subR (mn one row) (mn other row),4 * n + 21,rfl,sameT (S2.trans S3) q1,SqT.of q3,g1.mono (by omega),g3.mono (by omega),by omega,h0,fun c4 H4 f4 S4 q4=>?_⟩
  have S14:=(S1.trans S2).trans (S3.trans S4)
  have q4':SqT K H4 c4 [.int (byR one other row).1,.int (byR one other row).2]:=SqT.of q4
  refine ⟨_,rfl,_,rfl,c_ONE,c4,(1,1),byR one other row,6 * n + 40,rfl,s_ONE _,q4',one1.mono (by omega),g4.mono (by omega),by omega,fun c5 H5 f5 S5 q5=>?_⟩
  have S15:=S14.trans S5
  have gA:∀ r ∈ one,Good (6 * n + 45) r:=fun r hr=>(r1.good r hr).mono (by omega)
  have gB:∀ r ∈ other,Good (6 * n + 45) r:=fun r hr=>(r2.good r hr).mono (by omega)
  refine ⟨a,c5,one,subR (1,1) (byR one other row),6 * n + 45,rfl,⟨xa,sameT S15 qa,ra.ext (Ext.same S15)⟩,SqT.of q5,by omega,gA,g5.mono (by omega),by omega,fun c6 H6 ys6 S6 q6 R6=>?_⟩
  have S16:=S15.trans S6
  refine ⟨_,rfl,_,rfl,b,c4,other,byR one other row,6 * n + 45,rfl,⟨xb,sameT S16 qb,rb.ext (Ext.same S16)⟩,sameT (S5.trans S6) q4',by omega,gB,g4.mono (by omega),by omega,fun c7 H7 ys7 S7 q7 R7=>?_⟩
  refine ⟨c6,c7,_,_,7 * n + 60,rfl,⟨ys6,SqT.of (S7 _ _ q6),R6.ext (Ext.same S7)⟩,⟨ys7,SqT.of q7,R7⟩,by rw [List.length_map,List.length_map]; omega,by rw [List.length_map]; omega,fun r hr=>?_,fun r hr=>?_,by omega,fun c8 H8 ys8 S8 q8 R8=>?_⟩
  ·obtain ⟨z,hz,rfl⟩:=List.mem_map.mp hr
   exact (mul_good' (r1.good z hz) g5).mono (by omega)
  ·obtain ⟨z,hz,rfl⟩:=List.mem_map.mp hr
   exact (mul_good' (r2.good z hz) g4).mono (by omega)
  ·exact k c8 H8 (S16.trans (S7.trans S8)) ⟨ys8,SqT.of q8,R8⟩
end
end Sb
namespace Sb
open PySem PySem.Spec PyProof.Rows L2
section
variable {X:Cx}
theorem ps_setCC {i:Nat} {x:Str} {pos' spos:Pos} {elt iter tg:Expr} {ifs:List Expr} {scope:Scope} {pos:Pos} {wi:TI} {g:TG} {tt:TT} {te:TE} {N:List Str} {k:Nat} {fv:List Nat} {x0:Str}
  (hXN:X.N.Nodup) (hix:X.N[i]?=some x) (hx:Loc X.env.scope x)
  (hc:X.calm=true) (hi:PI X tg iter wi) (hg:∀ cl C fp s H,PG (compCxC X N scope x0 cl C fp s H) tg g) (ht:∀ cl C fp s H,PTs (compCxC X N scope x0 cl C fp s H) ifs tt) (he:∀ cl C fp s H,PE (compCxC X N scope x0 cl C fp s H) elt te)
  (hw:∀ r x H Q,g x (List.replicate k none ++ r) H Q->g x (List.replicate k none ++ r) H fun σ4 H4=>Q σ4 H4/\Weaker σ4 (List.replicate k none ++ r))
  (hN:N.length=k + fv.length:=by rfl) (hfv:fv.map (fun j=>X.N[j]?)=(N.drop k).map some:=by rfl) (hk:(N.drop k).map X.env.kindOf=(N.drop k).map (fun _=>some .cell):=by rfl)
  (hfl:∀ y ∈ N.drop k,scope.names.lookup y=some .free:=by decide +kernel) (hfr:∀ y ∈ scope.names,y.2=.free->y.1 ∈ N.drop k:=by decide +kernel)
  (hone:(scope.names.filter fun y=>y.2 == .cell)=[(x0,.cell)]:=by decide +kernel) (hx0:scope.names.lookup x0=some .cell:=by decide +kernel) (hkind:scope.kind=.function:=by rfl) (hnames:∀ y ∈ scope.names,y.2=.local->scope.names.lookup y.1=some .local:=by decide +kernel)
  (hs:∀ x,foldedSetIterable iter X.env x=pure x:=by intro _; rfl)
  (hsw:swapsWith (.ListComp elt [⟨tg,iter,ifs,0⟩] scope pos) (some (.Name x pos')) spos.line X.env=pure true:=by rfl)
  (hf:X.fn x=true \/ X.env.scope.names.lookup x=some .local:=by first | exact .inl rfl | exact .inr rfl | assumption) :
  PS X (.Assign [.Name x pos'] (.ListComp elt [⟨tg,iter,ifs,0⟩] scope pos) spos) (tAsg (tComp wi g tt te k fv) (gName i)):=by
 intro pins s σ H D I h
 have kc:∀ y ∈ N.drop k,X.env.kindOf y=some .cell:=fun y hy=>by
  obtain ⟨j,hj⟩:=List.getElem?_of_mem hy
  have a:=congrArg (fun l=>l[j]?) hk
  simp only [List.getElem?_map,hj,Option.map_some] at a
  exact Option.some.inj a
 obtain ⟨cl,hclos,h1,h2⟩:=closureFor_ok (env:=X.env) (scope:=scope) fun y hy hf=>I.ok.has y.1 (.inl (kc y.1 (hfr y hy hf)))
 rw [exec_Assign_Name_used _ _ _ _ hsw]
 refine wpAny_bind (wpAny_standAt (wpAny_bind ?_))
 unfold evalThenUse
 refine wpAny_bind (wpAny_comprehension_free (use:=some (assign (.Name x pos') X.env)) rfl hs hclos hkind hnames (thn (hi pins s σ H _ I h) fun xv s1 h1'=>thn h1' fun itv s2 h2'=>?_))
 obtain ⟨it,fp,tn,J,H2,e,I2,T,st2,f2,body⟩:=h2'
 subst e
 refine comp_blockC (Q:=fun v H1=>gName i v σ H1 D.nx) (RR:=fun acc C=>compPost (model X.prog X.w) X.A X.xe (some (assign (.Name x pos') X.env)) _ acc C) hc hg ht he hw hN hfv hk hfl hone hx0 hkind h1 h2 I2 T st2 f2 body fun Dd C H' s' ⟨m,hm⟩ fpC q iv=>?_
 show wpAny _ _ (assign (.Name x pos') X.env (.ref Dd)) _ _ s'
 have I':Inv X pins σ H' s':=iv s'.heap ⟨rfl,fun _ _=>rfl⟩
 refine wpAny_assign_Name (store_ok2 I' hXN hix hx (v:=.ref Dd) rfl (fun s3 I3 ⟨a,sb,ha⟩=>⟨m,?_,fun h' hs'=>?_⟩) hf)
 ·have hne:C ≠ a:=by
   rcases ha with rfl | ha
   ·exact fpC.2.1
   ·exact fun z=>fpC.2.2.2.2.1 x a ha z.symm
  obtain ⟨o,es,ep,ho,r⟩:=hm
  exact ⟨o,es,ep,by rw [sb.2 C hne]; exact ho,r⟩
 ·refine wpAny_pure (wpAny_pure ?_)
  have I4:=inv_recs (ch:=[C]) (h':=h') (t':=s3.toks) I3 (fun b hb=>by rw [List.mem_singleton.mp hb]; exact fpC) fun b o hb e=>by
   rw [hs'.2 b (fun z=>hb (by rw [z]; exact List.mem_singleton.mpr rfl))]
   exact e
  exact ⟨_,H',I4,q⟩
theorem ix_dictK {P:Program} {w:World} {K:PySem.W.Frag} (hu:X.A.units + 64 < cLine) (hP:X.prog=P:=by rfl) (hw:X.w=w:=by rfl) (hK:X.K=K:=by rfl):IxR X (rIxD P w K):=by
 subst hP hw
 exact ix_dict hu hK
theorem call_dictK {P:Program} {w:World} {K:PySem.W.Frag} (hA:X.A.handled=none) (hu:X.A.units + 64 < cLine) (hP:X.prog=P:=by rfl) (hw:X.w=w:=by rfl) (hK:X.K=K:=by rfl):CallR X (.type "dict") (rDict P w K):=by
 subst hP hw
 exact call_dict_rows hA hu hK
theorem pi_dictK {P:Program} {w:World} {K:PySem.W.Frag} {l tg:Expr} {tl:TE} (hl:PE X l tl) (hP:X.prog=P:=by rfl) (hw:X.w=w:=by rfl) (hK:X.K=K:=by rfl):PI X tg l (iDict P w K tl):=by
 subst hP hw
 exact pi_dict hl hK
end
end Sb
namespace Sb
open PySem L2
theorem name_r {i:Nat} {x:V} {σ:L2.St} {H:Hp} {Q:L2.St->Hp->Prop} (h:Q (σ.set i (some x)) H):gName i x σ H Q:=h
theorem seq_r {a b:TS} {D:Ends} {σ:L2.St} {H:Hp} (h:a { D with nx:=fun σ' H'=>b D σ' H' } σ H):tSeq a b D σ H:=h
section
variable {K:PySem.W.Frag}
theorem filt_succ {xs:List V} {p:V->Bool} {i:Nat} {x:V} (h:xs[i]?=some x):(xs.take (i + 1)).filter p=(xs.take i).filter p ++ (if p x=true then [x] else []):=by
 rw [List.take_add_one,h]
 simp only [Option.toList_some,List.filter_append,List.filter_cons,List.filter_nil]
theorem comp_filtV {l:Addr} {xs:List V} {p:V->Bool} {tl:TE} {tt:TT} {k:Nat} {fv:List Nat} {σ:L2.St} {H:Hp} {Q:VK}
  (htl:∀ G:VK,G (.ref l) H->tl σ H G) (hl:SqL K H l xs) (hz:xs.length<=1000)
  (test:∀ (i:Nat) (x:V) (H1:Hp) (G:Bool->Hp->Prop),xs[i]?=some x->Same H H1->(∀ H2,Same H1 H2->G (p x) H2)->tt ((comp0 k fv σ).set 0 (some x)) H1 G)
  (h0:((comp0 k fv σ).length ≠ 0))
  (fin:∀ (d:Addr) (H2:Hp),H d=none->Same H H2->H2 d=some (.lst (xs.filter p))->Q (.ref d) H2) :
  tComp (iList K tl) (gName 0) tt (tVar 0) k fv σ H Q:=by
 refine htl _ ⟨l,rfl,⟨_,hl⟩,fun d hd=>?_⟩
 refine ⟨xs.length,fun i ys H2=>Same H H2/\ys=(xs.take i).filter p,Nat.le_trans hz (by decide),⟨Same.new hd,rfl⟩,?_,?_⟩
 ·rintro i ys H2 hi ⟨S2,rfl⟩ hd2
  have hl2:=sameL S2 hl
  have ex:xs[i]?=some xs[i]:=by simp [hi]
  generalize xs[i]=x at ex
  refine ⟨⟨_,x,hl2,ex⟩,?_⟩
  rintro y H3 ⟨rfl,fx⟩
  have e:=fx _ hl2
  rw [ex] at e
  cases e
  refine nameyes0 ?_
  refine test i x H3 _ ex S2 fun H4 S4=>?_
  have hd4:=S4 _ _ hd2
  have S24:=S2.trans S4
  have fs:=filt_succ (p:=p) ex
  by_cases e:p x=true
  ·rw [e]
   rw [if_pos e] at fs
   have hgd:((comp0 k fv σ).set 0 (some x))[0]?=some (some x):=by
    rw [List.getElem?_set_self (by omega)]
   exact iteT ⟨x,hgd,hd4,upd_same2 S24 hd,fs.symm⟩
  ·have e':p x=false:=by simpa using e
   rw [e']
   rw [if_neg e,List.append_nil] at fs
   exact iteF ⟨hd4,S24,fs.symm⟩
 ·rintro ys H2 ⟨S2,rfl⟩ hd2
  rw [List.take_length] at hd2
  exact ⟨⟨_,sameL S2 hl,Nat.le_refl _⟩,fin d H2 hd S2 hd2⟩
theorem comp_mapV {l:Addr} {xs:List V} {f:V->V} {tl te:TE} {k:Nat} {fv:List Nat} {σ:L2.St} {H:Hp} {Q:VK}
  (htl:∀ G:VK,G (.ref l) H->tl σ H G) (hl:SqL K H l xs) (hz:xs.length<=1000)
  (elt:∀ (i:Nat) (x:V) (H1:Hp) (G:VK),xs[i]?=some x->Same H H1->(∀ H2,Same H1 H2->G (f x) H2)->te ((comp0 k fv σ).set 0 (some x)) H1 G)
  (fin:∀ (d:Addr) (H2:Hp),H d=none->Same H H2->H2 d=some (.lst (xs.map f))->Q (.ref d) H2) :
  tComp (iList K tl) (gName 0) tYes te k fv σ H Q:=by
 refine htl _ ⟨l,rfl,⟨_,hl⟩,fun d hd=>?_⟩
 refine ⟨xs.length,fun i ys H2=>Same H H2/\ys=(xs.take i).map f,Nat.le_trans hz (by decide),⟨Same.new hd,rfl⟩,?_,?_⟩
 ·rintro i ys H2 hi ⟨S2,rfl⟩ hd2
  have hl2:=sameL S2 hl
  have ex:xs[i]?=some xs[i]:=by simp [hi]
  generalize xs[i]=x at ex
  refine ⟨⟨_,x,hl2,ex⟩,?_⟩
  rintro y H3 ⟨rfl,fx⟩
  have e:=fx _ hl2
  rw [ex] at e
  cases e
  refine nameyes ?_
  refine elt i x H3 _ ex S2 fun H4 S4=>?_
  have hd4:=S4 _ _ hd2
  refine ⟨hd4,upd_same2 (S2.trans S4) hd,?_⟩
  rw [List.take_add_one,ex]
  simp
 ·rintro ys H2 ⟨S2,rfl⟩ hd2
  rw [List.take_length] at hd2
  exact ⟨⟨_,sameL S2 hl,Nat.le_refl _⟩,fin d H2 hd S2 hd2⟩
theorem comp_filtD {P:Program} {w:World} {d0:Addr} {es:List (List Rat × Addr × Addr)} {ep:Nat} {p:List Rat->Bool} {tl:TE} {tt:TT} {k:Nat} {fv:List Nat} {σ:L2.St} {H:Hp} {Q:VK}
  (htl:∀ G:VK,G (.ref d0) H->tl σ H G) (hl:DcAt P w K H d0 es ep) (hz:es.length<=1000)
  (test:∀ (i:Nat) (e:List Rat × Addr × Addr) (H1:Hp) (G:Bool->Hp->Prop),es[i]?=some e->Same H H1->(∀ H2,Same H1 H2->G (p e.1) H2)->tt ((comp0 k fv σ).set 0 (some (.ref e.2.1))) H1 G)
  (h0:((comp0 k fv σ).length ≠ 0))
  (fin:∀ (d:Addr) (H2:Hp),H d=none->Same H H2->H2 d=some (.lst ((es.filter fun e=>p e.1).map fun e=>V.ref e.2.1))->Q (.ref d) H2) :
  tComp (iDict P w K tl) (gName 0) tt (tVar 0) k fv σ H Q:=by
 refine htl _ ⟨d0,es,ep,rfl,hl,fun d hd=>?_⟩
 refine ⟨es.length,fun i ys H2=>Same H H2/\ys=((es.take i).filter fun e=>p e.1).map fun e=>V.ref e.2.1,Nat.le_trans hz (by decide),⟨Same.new hd,rfl⟩,?_,?_⟩
 ·rintro i ys H2 hi ⟨S2,rfl⟩ hd2
  refine ⟨⟨hl.same S2,hi⟩,?_⟩
  rintro y H3 ⟨rfl,e,ee,rfl⟩
  refine nameyes0 ?_
  refine test i e H3 _ ee S2 fun H4 S4=>?_
  have hd4:=S4 _ _ hd2
  have S24:=S2.trans S4
  have fs:((es.take (i + 1)).filter fun e=>p e.1).map (fun e=>V.ref e.2.1)=((es.take i).filter fun e=>p e.1).map (fun e=>V.ref e.2.1) ++ (if p e.1=true then [V.ref e.2.1] else []):=by
   rw [List.take_add_one,ee]
   simp only [Option.toList_some,List.filter_append,List.filter_cons,List.filter_nil,List.map_append]
   split <;> rfl
  by_cases z:p e.1=true
  ·rw [z]
   rw [if_pos z] at fs
   have hgd:((comp0 k fv σ).set 0 (some (V.ref e.2.1)))[0]?=some (some (V.ref e.2.1)):=by
    rw [List.getElem?_set_self (by omega)]
   exact iteT ⟨_,hgd,hd4,upd_same2 S24 hd,fs.symm⟩
  ·have z':p e.1=false:=by simpa using z
   rw [z']
   rw [if_neg z,List.append_nil] at fs
   exact iteF ⟨hd4,S24,fs.symm⟩
 ·rintro ys H2 ⟨S2,rfl⟩ hd2
  rw [List.take_length] at hd2
  exact ⟨⟨hl.same S2,Nat.le_refl _⟩,fin d H2 hd S2 hd2⟩
end
end Sb
namespace Sb
open PySem L2
theorem comp_mapR {K:PySem.W.Frag} {α:Type} {l:Addr} {as:List Addr} {zs:List α} {g:α->List Rat} {tl te:TE} {k:Nat} {fv:List Nat} {σ:L2.St} {H:Hp} {Q:VK} (R:Hp->Addr->α->Prop) (hext:∀ H1 H2 a z,Ext H1 H2->R H1 a z->R H2 a z)
  (htl:∀ G:VK,G (.ref l) H->tl σ H G) (hl:SqL K H l (as.map V.ref)) (hz:as.length<=1000) (hp:Paired (R H) as zs)
  (elt:∀ (i:Nat) (a:Addr) (z:α) (H1:Hp) (G:VK),as[i]?=some a->zs[i]?=some z->Same H H1->R H1 a z->(∀ c H2,Same H1 H2->RowAt K H2 c (g z)->G (.ref c) H2)->te ((comp0 k fv σ).set 0 (some (.ref a))) H1 G)
  (fin:∀ (d:Addr) (H2:Hp) (bs:List Addr),H d=none->Same H H2->H2 d=some (.lst (bs.map V.ref))->Paired (RowAt K H2) bs (zs.map g)->Q (.ref d) H2) :
  tComp (iList K tl) (gName 0) tYes te k fv σ H Q:=by
 refine htl _ ⟨l,rfl,⟨_,hl⟩,fun d hd=>?_⟩
 have lp:=Paired.length hp
 refine ⟨as.length,fun i ys H2=>Same H H2/\∃ bs:List Addr,ys=bs.map V.ref/\Paired (RowAt K H2) bs ((zs.take i).map g),Nat.le_trans hz (by decide),⟨Same.new hd,[],rfl,by simpa using Paired.nil⟩,?_,?_⟩
 ·rintro i ys H2 hi ⟨S2,bs,rfl,P2⟩ hd2
  have hl2:=sameL S2 hl
  have ea:as[i]?=some as[i]:=by simp [hi]
  have ez:zs[i]?=some (zs[i]'(by omega)):=by simp
  generalize as[i]=a at ea
  generalize (zs[i]'(by omega))=z at ez
  have ex:(as.map V.ref)[i]?=some (V.ref a):=by rw [List.getElem?_map,ea]; rfl
  refine ⟨⟨_,V.ref a,hl2,ex⟩,?_⟩
  rintro x H3 ⟨rfl,fx⟩
  have e:=fx _ hl2
  rw [ex] at e
  cases e
  refine nameyes ?_
  refine elt i a z H3 _ ea ez S2 (hext _ _ _ _ (Ext.same S2) (Paired.getB hp ea ez)) fun c H4 S4 r4=>?_
  have hd4:=S4 _ _ hd2
  have E5:Ext H4 (upd H4 d (.lst (bs.map V.ref ++ [V.ref c]))):=Ext.upd hd4
  refine ⟨hd4,upd_same2 (S2.trans S4) hd,bs ++ [c],by simp,?_⟩
  rw [take_succ' ez,List.map_append]
  exact Paired.appP (rows_ext P2 ((Ext.same S4).trans E5)) (.cons (r4.ext E5) .nil)
 ·rintro ys H2 ⟨S2,bs,rfl,P2⟩ hd2
  rw [lp,List.take_length] at P2
  exact ⟨⟨_,sameL S2 hl,by simp⟩,fin d H2 bs hd S2 hd2 P2⟩
end Sb
namespace Sb
open PySem PySem.Spec PyProof.Rows L2
section
variable {P:Program} {w:World} {K:PySem.W.Frag} {mg:Str->Option Value} {base:Heap}
structure Touch (P:Program) (w:World) (K:PySem.W.Frag) (H:Hp) (d:Addr) (es:List (List Rat × Addr × Addr)) (ep:Nat) (tou:List Rat->List Nat):Prop where
 dc:DcAt P w K H d es ep
 ls:∀ e ∈ es,H e.2.2=some (.lst (natL (tou e.1)))
def nearR (rows:List (List Rat)) (tou:List Rat->List Nat) (one other:List Rat):Bool :=
 decide ((rows.filter fun r=>((tou one).filter fun k=>decide (k ∈ tou other)).all fun k=>decide (k ∈ tou r)).length=2)
theorem natL_len (us:List Nat):(natL us).length=us.length:=List.length_map ..
theorem natL_flat {us:List Nat} (x:V) (h:x ∈ natL us):flatV x=true:=by
 obtain ⟨k,_,rfl⟩:=List.mem_map.mp h
 rfl
theorem natL_all (us:List Nat):(natL us).all flatV=true:=List.all_eq_true.mpr fun x h=>natL_flat x h
theorem inV_nat (k:Nat) (us:List Nat):inV (V.int ((k:Nat):Int)) (natL us)=decide (k ∈ us):=by
 unfold inV natL
 rw [List.any_map,Bool.eq_iff_iff,List.any_eq_true,decide_eq_true_iff]
 constructor
 ·rintro ⟨j,hj,e⟩
  have e':eqV (V.int ((j:Nat):Int)) (V.int ((k:Nat):Int))=true:=e
  have e2:(j:Int)=(k:Int):=by simpa [eqV] using e'
  have:j=k:=by omega
  exact this ▸ hj
 ·intro h
  exact ⟨k,h,by simp [eqV]⟩
theorem natL_filt (us vs:List Nat):(natL us).filter (fun x=>inV x (natL vs))=natL (us.filter fun k=>decide (k ∈ vs)):=by
 conv=>lhs; unfold natL
 rw [List.filter_map]
 unfold natL
 congr 1
 refine List.filter_congr fun k _=>?_
 exact inV_nat k vs
theorem natL_map (us vs:List Nat):(natL us).map (fun x=>V.bl (inV x (natL vs)))=(us.map fun k=>decide (k ∈ vs)).map V.bl:=by
 conv=>lhs; unfold natL
 rw [List.map_map,List.map_map]
 refine List.map_congr_left fun k _=>?_
 show V.bl (inV (V.int ((k:Nat):Int)) (natL vs))=_
 rw [inV_nat]
 rfl
inductive spNear (P:Program) (w:World) (K:PySem.W.Frag) (vs:List V) (H:Hp) (Q:VK) (_z3:XK):Prop
 | mk (d a b:Addr) (es:List (List Rat × Addr × Addr)) (ep:Nat) (tou:List Rat->List Nat) (one other:List Rat) (zz0:vs=[.ref d,.ref a,.ref b]) (zz1:Touch P w K H d es ep tou) (zz2:RowAt K H a one) (zz3:RowAt K H b other) (zz4:one ∈ es.map (·.1)) (zz5:other ∈ es.map (·.1)) (zz6:es.length<=1000) (zz7:∀ r,(tou r).length<=1000)
  (zz8:∀ H',Same H H'->Q (.bl (nearR (es.map (·.1)) tou one other)) H')
theorem scNear:FnScope ["touching","one","other","both","beside"] ["touching","one","other"] (defScope sAreNeighbours):=⟨rfl,rfl,rfl,by decide +kernel,rfl,by decide +kernel,by decide +kernel⟩
theorem okNear (D:Def K mg "are_neighbours" sAreNeighbours ["touching","one","other"]) (T:Blt mg) (hal:mg "all"=none):Has P w K mg base 2 "are_neighbours" ["touching","one","other"] (spNear P w K):=by
 refine D.has fun f fd F=>F.ok scNear (fun vs H Q E h=>?_) (fun cdv A outer s H vs Q E hr h=>?_)
 ·obtain ⟨d,a,b,es,ep,tou,one,other,rfl,_⟩:=h
  rfl
 ·obtain ⟨d,a,b,es,ep,tou,one,other,rfl,hT,hA,hB,m1,m2,hz,hz2,k⟩:=h
  have sc:=scNear
  have nd1:(["place","touching","other"]:List Str).Nodup:=by decide +kernel
  have nd2:(["corner","touching","both"]:List Str).Nodup:=by decide +kernel
  have nd3:(["place","corner","touching"]:List Str).Nodup:=by decide +kernel
  refine ⟨_,(pss_cons (ps_set (i:=3) sc.nd rfl (Or.inr rfl) (pe_comp (N:=["place","touching","other"]) (k:=1) (fv:=[0,2]) rfl (pi_list (pe_ix (ix_dictK (P:=P) (w:=w) (K:=K) (by exact hr.units)) (pv 0) (pv 1) (fun _ _=>rfl)))
   (fun _ _ _ _ _=>pg_name (i:=0) nd1 rfl (Or.inl rfl)) (fun _ _ _ _ _=>pts_one (pt_cmpR (op_inK (K:=K)) (pv 0) (pe_ix (ix_dictK (P:=P) (w:=w) (K:=K) (by exact hr.units)) (pv 1) (pv 2) (fun _ _=>rfl)) rfl)) (fun _ _ _ _ _=>(pv 0)) weak_name))
 (pss_cons (ps_setCC (i:=4) (N:=["corner","touching","both"]) (k:=1) (fv:=[0,3]) (x0:="corner") sc.nd rfl (Or.inl rfl) rfl (pi_dictK (P:=P) (w:=w) (K:=K) (pv 0))
   (fun _ _ _ _ _=>pg_name (i:=0) nd2 rfl (Or.inr rfl)) (fun _ _ _ _ _=>pts_one (pt_val (pe_callB (call_allL (K:=K) (by rfl)) rfl hal PyProof.Rows.boot_all (pa_cons (pe_comp (N:=["place","corner","touching"]) (k:=1) (fv:=[0,1]) rfl (pi_listK (K:=K) (pv 2))
   (fun _ _ _ _ _=>pg_name (i:=0) nd3 rfl (Or.inl rfl)) (fun _ _ _ _ _=>pts_nil) (fun _ _ _ _ _=>(pe_cmpR (op_inK (K:=K)) (pv 0) (pe_ix (ix_dictK (P:=P) (w:=w) (K:=K) (by exact hr.units)) (pv 2) (pv 1) (fun _ _=>rfl)) rfl)) weak_name) pa_nil)))) (fun _ _ _ _ _=>(pv 0)) weak_name)
 (pss_one (ps_ret (pe_cmpR op_eq (pe_callB call_len_seq rfl T.len boot_len (pa_cons (pv 4) pa_nil)) pe_int (nomark _)))))),?_⟩
  have idx:∀ {x:List Rat},x ∈ es.map (·.1)->∃ (i:Nat) (e:List Rat × Addr × Addr),es[i]?=some e/\e.1=x:=fun {x} hx=>by
   obtain ⟨e,he,ex⟩:=List.mem_map.mp hx
   obtain ⟨i,ei⟩:=List.getElem?_of_mem he
   exact ⟨i,e,ei,ex⟩
  obtain ⟨i1,e1,ei1,rfl⟩:=idx m1
  obtain ⟨i2,e2,ei2,rfl⟩:=idx m2
  have l1:=hT.ls e1 (List.mem_of_getElem? ei1)
  have l2:=hT.ls e2 (List.mem_of_getElem? ei2)
  refine asg_r ?_
  refine comp_filtV (K:=K) (tl:=tOp (rIxD P w K) (tVar 0) (tVar 1)) (tt:=tTest (tOp (rIn K false) (tVar 0) (tOp (rIxD P w K) (tVar 1) (tVar 2)))) (k:=1) (fv:=[0,2]) (p:=fun x=>inV x (natL (tou e2.1))) (fun G g=>⟨_,rfl,_,rfl,d,a,es,i1,e1,rfl,rfl,ep,hT.dc,ei1,hA,g⟩) (SqL.of l1) (by rw [natL_len]; exact hz2 _) (fun i x H1 G ex S1 hG=>?_) (by simp [comp0]) fun d1 H1 f1 S1 q1=>?_
  ·have fx:flatV x=true:=natL_flat x (List.mem_of_getElem? ex)
   exact ⟨_,rfl,_,rfl,_,rfl,d,b,es,i2,e2,rfl,rfl,ep,hT.dc.same S1,ei2,hB.ext (Ext.same S1),_,_,rfl,.inl (SqL.of (S1 _ _ l2)),fx,natL_all _,_,rfl,hG _ (Same.refl _)⟩
  ·have q1':H1 d1=some (.lst (natL ((tou e1.1).filter fun k=>decide (k ∈ tou e2.1)))):=by rw [q1,natL_filt]
   refine name_r ?_
   dsimp only
   refine seq_r (asg_r ?_)
   refine comp_filtD (K:=K) (P:=P) (w:=w) (tl:=tVar 0) (k:=1) (fv:=[0,3]) (p:=fun r=>((tou e1.1).filter fun k=>decide (k ∈ tou e2.1)).all fun k=>decide (k ∈ tou r)) (fun G g=>⟨_,rfl,g⟩) (hT.dc.same S1) hz (fun i e H2 G ei S2 hG=>?_) (by simp [comp0]) fun d2 H2 f2 S2 q2=>?_
   ·have le:=(S1.trans S2) _ _ (hT.ls e (List.mem_of_getElem? ei))
    have ke:=(hT.dc.ks e (List.mem_of_getElem? ei)).ext (Ext.same (S1.trans S2))
    refine cb_r (cons_r ?_)
    refine comp_mapV (K:=K) (tl:=tVar 2) (k:=1) (fv:=[0,1]) (f:=fun x=>.bl (inV x (natL (tou e.1)))) (fun G g=>⟨_,rfl,g⟩) (SqL.of (S2 _ _ q1')) (by rw [natL_len]; exact Nat.le_trans (List.length_filter_le _ _) (hz2 _)) (fun j x H3 G' ex S3 hG'=>?_) fun d3 H3 f3 S3 q3=>?_
    ·have fx:flatV x=true:=natL_flat x (List.mem_of_getElem? ex)
     exact ⟨_,rfl,_,rfl,_,rfl,d,e.2.1,es,i,e,rfl,rfl,ep,hT.dc.same ((S1.trans S2).trans S3),ei,ke.ext (Ext.same S3),_,_,rfl,.inl (SqL.of (S3 _ _ le)),fx,natL_all _,hG' _ (Same.refl _)⟩
    ·refine ⟨d3,((tou e1.1).filter fun k=>decide (k ∈ tou e2.1)).map fun k=>decide (k ∈ tou e.1),rfl,SqL.of (by rw [q3,natL_map]),_,rfl,?_⟩
     rw [List.all_map]
     exact hG H3 S3
   ·refine ⟨_,rfl,d2,_,rfl,.inl (SqL.of q2),rfl,?_⟩
    refine Eq.mp (congrArg (fun b=>Q (V.bl b) H2) ?_) (k H2 (S1.trans S2))
    unfold nearR
    rw [List.filter_map,List.length_map,List.length_map,decide_eq_decide]
    constructor
    ·intro z
     exact congrArg V.int (by rw [show ((es.filter fun e=>((tou e1.1).filter fun k=>decide (k ∈ tou e2.1)).all fun k=>decide (k ∈ tou e.1)).length:Nat)=2 from z]; rfl)
    ·intro z
     have z':=V.int.inj z
     show (es.filter fun e=>((tou e1.1).filter fun k=>decide (k ∈ tou e2.1)).all fun k=>decide (k ∈ tou e.1)).length=2
     omega
end
end Sb
namespace Sb
open PySem PySem.Spec PyProof.Rows L2
section
variable {P:Program} {w:World} {K:PySem.W.Frag} {mg:Str->Option Value} {base:Heap}
def inR (fss:List (List Rat)) (r:List Rat):List (List Rat):=fss.filter fun f=>decide ((mn f r).1 < 0)
def outR (fss:List (List Rat)) (r:List Rat):List (List Rat):=fss.filter fun f=>decide (0 < (mn f r).1)
def cutC (fss ess:List (List Rat)) (r:List Rat):List (List Rat) :=
 (fss.filter fun f=>!decide (f ∈ outR fss r)) ++ (inR fss r).flatMap fun one=>((outR fss r).filter fun o=>nearR fss (touR ess) one o).map fun o=>crR one o r
def RowN (n c:Nat) (r:List Rat):Prop:=r.length=c/\∃ D Ws,RepL n D Ws r
theorem RowN.mean {n c:Nat} {r e:List Rat} (h:RowN n c r) (k:RowN n c e) (hc:c<=1000) (hn:n<=400):MeanOk r e:=by
 obtain ⟨l1,D,Ws,r1⟩:=h
 obtain ⟨l2,D',Zs,r2⟩:=k
 exact ⟨by omega,by omega,n,n,D,D',Ws,Zs,r1,r2,by omega⟩
inductive spCutOff (K:PySem.W.Frag) (vs:List V) (H:Hp) (Q:VK) (_z3:XK):Prop
 | mk (l m e:Addr) (as bs:List Addr) (fss ess:List (List Rat)) (r:List Rat) (n c:Nat) (zz0:vs=[.ref l,.ref m,.ref e]) (zz1:H l=some (.lst (as.map V.ref))) (zz2:Paired (RowAt K H) as fss) (zz3:H m=some (.lst (bs.map V.ref))) (zz4:Paired (RowAt K H) bs ess) (zz5:RowAt K H e r) (zz6:c<=1000) (zz7:n<=400) (zz8:∀ f ∈ fss,RowN n c f) (zz9:∀ f ∈ ess,RowN n c f) (zz10:RowN n c r) (zz11:fss.Nodup) (zz12:fss.length<=60) (zz13:ess.length<=60)
  (zz14:∀ (d:Addr) (H':Hp),Same H H'->RowsAt K H' d (cutC fss ess r)->Q (.ref d) H')
theorem scCutOff:FnScope ["found","edges","row","touching","inside","outside","kept","one","near"] ["found","edges","row"] (defScope sCutOff):=⟨rfl,rfl,rfl,by decide +kernel,rfl,by decide +kernel,by decide +kernel⟩
theorem okCutOff (D:Def K mg "cut_off" sCutOff ["found","edges","row"]) (hdi:mg "dict"=none) (hTouched:Has P w K mg base 5 "touched" ["edges","corner"] (spTouched K)) (hUnder:Has P w K mg base 1 "under" ["one","other"] (spUnder K)) (hMean:Has P w K mg base 4 "mean" ["weights","row"] (spMeanW K)) (hAreNeighbours:Has P w K mg base 2 "are_neighbours" ["touching","one","other"] (spNear P w K)) (hCrossing:Has P w K mg base 5 "crossing" ["one","other","row"] (spCrossing K)) (hNOUGHT:Con K mg "NOUGHT" (0,1)) :
  Has P w K mg base 6 "cut_off" ["found","edges","row"] (spCutOff K) true:=by
 refine D.has fun f fd F=>F.ok scCutOff (fun vs H Q E h=>?_) (fun cdv A outer s H vs Q E hr h=>?_)
 ·obtain ⟨l,m,e,as,bs,fss,ess,r,n,c,rfl,_⟩:=h
  rfl
 ·obtain ⟨l,m,e,as,bs,fss,ess,r,n,c,rfl,hl,hp,hm,hq,he,hc,hn,hf,hs,hrn,hnd,hz,hz2,k⟩:=h
  have sc:=scCutOff
  obtain ⟨c_NOUGHT,m_NOUGHT,s_NOUGHT⟩:=hNOUGHT
  have nd1:(["corner","edges"]:List Str).Nodup:=by decide +kernel
  have nd2:(["corner","row"]:List Str).Nodup:=by decide +kernel
  have nd4:(["corner","outside"]:List Str).Nodup:=by decide +kernel
  have nd5:(["other","touching","one"]:List Str).Nodup:=by decide +kernel
  have nd6:(["other","row","one"]:List Str).Nodup:=by decide +kernel
  refine ⟨_,(pss_cons (ps_set (i:=3) sc.nd rfl (Or.inr rfl) (pe_callTy (call_dictK (P:=P) (w:=w) (K:=K) (by exact hr.hd rfl) (by exact hr.units)) rfl hdi PyProof.Rows.boot_dict (pa_cons (pe_comp (N:=["corner","edges"]) (k:=1) (fv:=[1]) rfl (pi_list (pv 0))
   (fun _ _ _ _ _=>pg_name (i:=0) nd1 rfl (Or.inl rfl)) (fun _ _ _ _ _=>pts_nil) (fun _ _ _ _ _=>(pe_tup (pa_cons (pv 0) (pa_cons (pe_use hTouched (hr.mono (by decide)) rfl (pa_cons (pv 1) (pa_cons (pv 0) pa_nil))) pa_nil)))) weak_name) pa_nil)))
 (pss_cons (ps_setC (i:=4) (N:=["corner","row"]) (k:=1) (fv:=[2]) sc.nd rfl (Or.inl rfl) rfl (pi_list (pv 0))
   (fun _ _ _ _ _=>pg_name (i:=0) nd2 rfl (Or.inl rfl)) (fun _ _ _ _ _=>pts_one (pt_val (pe_use hUnder (hr.mono (by decide)) rfl (pa_cons (pe_use hMean (hr.mono (by decide)) rfl (pa_cons (pv 0) (pa_cons (pv 1) pa_nil))) (pa_cons (pe_glob (v:=.ref c_NOUGHT) rfl m_NOUGHT rfl) pa_nil))))) (fun _ _ _ _ _=>(pv 0)) weak_name)
 (pss_cons (ps_set (i:=5) sc.nd rfl (Or.inr rfl) (pe_comp (N:=["corner","row"]) (k:=1) (fv:=[2]) rfl (pi_list (pv 0))
   (fun _ _ _ _ _=>pg_name (i:=0) nd2 rfl (Or.inl rfl)) (fun _ _ _ _ _=>pts_one (pt_val (pe_use hUnder (hr.mono (by decide)) rfl (pa_cons (pe_glob (v:=.ref c_NOUGHT) rfl m_NOUGHT rfl) (pa_cons (pe_use hMean (hr.mono (by decide)) rfl (pa_cons (pv 0) (pa_cons (pv 1) pa_nil))) pa_nil))))) (fun _ _ _ _ _=>(pv 0)) weak_name))
 (pss_cons (ps_setC (i:=6) (N:=["corner","outside"]) (k:=1) (fv:=[5]) sc.nd rfl (Or.inl rfl) rfl (pi_list (pv 0))
   (fun _ _ _ _ _=>pg_name (i:=0) nd4 rfl (Or.inl rfl)) (fun _ _ _ _ _=>pts_one (pt_cmpR (op_notInR (K:=K) (by exact hr.units)) (pv 0) (pv 1) rfl)) (fun _ _ _ _ _=>(pv 0)) weak_name)
 (pss_cons (ps_for PassesOwn.never rfl (pi_list (pv 4)) (pg_name (i:=7) sc.nd rfl (Or.inr rfl))
  (pss_cons (ps_setC (i:=8) (N:=["other","touching","one"]) (k:=1) (fv:=[3,7]) sc.nd rfl (Or.inl rfl) rfl (pi_list (pv 5))
   (fun _ _ _ _ _=>pg_name (i:=0) nd5 rfl (Or.inl rfl)) (fun _ _ _ _ _=>pts_one (pt_val (pe_use hAreNeighbours (hr.mono (by decide)) rfl (pa_cons (pv 1) (pa_cons (pv 2) (pa_cons (pv 0) pa_nil)))))) (fun _ _ _ _ _=>(pv 0)) weak_name)
  (pss_one (ps_expr (pe_bm PySem.F.plainAttrs_list PySem.F.slot_list_extend PySem.F.type_list_extend mt_extend (pv 6) (pa_cons (pe_comp (N:=["other","row","one"]) (k:=1) (fv:=[2,7]) rfl (pi_list (pv 8))
   (fun _ _ _ _ _=>pg_name (i:=0) nd6 rfl (Or.inl rfl)) (fun _ _ _ _ _=>pts_nil) (fun _ _ _ _ _=>(pe_use hCrossing (hr.mono (by decide)) rfl (pa_cons (pv 2) (pa_cons (pv 0) (pa_cons (pv 1) pa_nil))))) weak_name) pa_nil))))))
 (pss_one (ps_ret (pv 6)))))))),?_⟩
  have lp:=Paired.length hp
  refine seq_r (asg_r (cb_r (cons_r ?_)))
  refine ⟨_,rfl,l,rfl,⟨_,SqL.of hl⟩,fun d hd=>?_⟩
  refine ⟨as.length,fun i ys H2=>Same H H2/\∃ es:List (List Rat × Addr × Addr),es.map (·.1)=fss.take i/\Paired (fun v e=>∃ t,v=V.ref t/\SqT K H2 t [.ref e.2.1,.ref e.2.2]/\RowAt K H2 e.2.1 e.1) ys es/\∀ e ∈ es,H2 e.2.2=some (.lst (natL (touR ess e.1)))/\e.2.2 ≠ d,Nat.le_trans (show as.length<=60 by omega) (by decide),⟨Same.new hd,[],rfl,.nil,fun e he=>by cases he⟩,?_,?_⟩
  ·rintro i ys H2 hi ⟨S2,es,ef,P2,L2'⟩ hd2
   have ea:as[i]?=some as[i]:=by simp [hi]
   have ez:fss[i]?=some (fss[i]'(by omega)):=by simp
   generalize as[i]=a at ea
   generalize (fss[i]'(by omega))=z at ez
   have ex:(as.map V.ref)[i]?=some (V.ref a):=by rw [List.getElem?_map,ea]; rfl
   have hl2:=S2 _ _ hl
   refine ⟨⟨_,V.ref a,SqL.of hl2,ex⟩,?_⟩
   rintro x H3 ⟨rfl,fx⟩
   have e':=fx _ (SqL.of hl2)
   rw [ex] at e'
   cases e'
   have mz:=List.mem_of_getElem? ez
   have ra:=(Paired.getB hp ea ez).ext (Ext.same S2)
   refine nameyes ?_
   refine ⟨_,rfl,_,rfl,_,rfl,m,a,bs,ess,z,rfl,S2 _ _ hm,rows_ext hq (Ext.same S2),ra,by omega,fun f hf'=>(hf z mz).mean (hs f hf') hc hn,fun d4 H4 f4 S4 q4=>⟨(by show 2<=sizeLine; decide),fun p hp4=>?_⟩⟩
   have hd4:=S4 _ _ hd2
   have npd:d ≠ p:=ne_of_none hd4 hp4
   have hd5:(upd H4 p (.tup [V.ref a,V.ref d4])) d=some (.lst ys):=by rw [upd_ne npd]; exact hd4
   have S5:=Same.new (o:=.tup [V.ref a,V.ref d4]) hp4
   have E6:Ext (upd H4 p (.tup [V.ref a,V.ref d4])) (upd (upd H4 p (.tup [V.ref a,V.ref d4])) d (.lst (ys ++ [V.ref p]))):=Ext.upd hd5
   have E46:=(Ext.same S5).trans E6
   have n4:d4 ≠ d:=fun z=>by rw [z,hd2] at f4; cases f4
   refine ⟨hd5,upd_same2 ((S2.trans S4).trans S5) hd,es ++ [(z,a,d4)],by rw [List.map_append,ef,take_succ' ez]; rfl,?_,?_⟩
   ·refine Paired.appP (Paired.mapP P2 fun v e ⟨t,e1,e2,e3⟩=>⟨t,e1,((Ext.same S4).trans E46).sq e2,e3.ext ((Ext.same S4).trans E46)⟩) (.cons ⟨p,rfl,E6.sq (SqT.of upd_same),ra.ext ((Ext.same S4).trans E46)⟩ .nil)
   ·intro e he'
    rcases List.mem_append.mp he' with he' | he'
    ·obtain ⟨e1,e2⟩:=L2' e he'
     exact ⟨by rw [upd_ne e2]; exact S5 _ _ (S4 _ _ e1),e2⟩
    ·rw [List.mem_singleton.mp he']
     exact ⟨by show upd _ d _ d4=_; rw [upd_ne n4]; exact S5 _ _ q4,n4⟩
  ·rintro ys H2 ⟨S2,es,ef,P2,L2'⟩ hd2
   rw [lp,List.take_length] at ef
   refine ⟨⟨_,SqL.of (S2 _ _ hl),by simp⟩,?_⟩
   refine ⟨d,ys,es,rfl,SqL.of hd2,P2,by rw [ef]; exact hnd,fun dt ep hdt=>?_⟩
   have S3:=Same.new (o:=dcO P w dt es ep) hdt
   have key:∀ (ys:List V) (es:List (List Rat × Addr × Addr)),Paired (fun v e=>∃ t,v=V.ref t/\SqT K H2 t [.ref e.2.1,.ref e.2.2]/\RowAt K H2 e.2.1 e.1) ys es->∀ e ∈ es,RowAt K H2 e.2.1 e.1:=fun ys es h=>by
    induction h with
    | nil=>intro e he; cases he
    | cons h1 _ ih =>
     intro e he
     rcases List.mem_cons.mp he with rfl | he
     ·obtain ⟨t,_,_,r⟩:=h1; exact r
     ·exact ih e he
   have hT:Touch P w K (upd H2 dt (dcO P w dt es ep)) dt es ep (touR ess):=⟨⟨upd_same,fun e he=>(key _ _ P2 e he).ext (Ext.same S3),by rw [ef]; exact hnd⟩,fun e he=>S3 _ _ (L2' e he).1⟩
   have S23:=S2.trans S3
   generalize upd H2 dt (dcO P w dt es ep)=H3 at *
   refine name_r ?_
   dsimp only
   have meanT:∀ {H4 H5:Hp} {a:Addr} {z:List Rat},Same H H4->RowAt K H4 a z->z ∈ fss->∀ (G:VK),(∀ c4 H5,Same H4 H5->SqT K H5 c4 [.int (mn z r).1,.int (mn z r).2]->G (.ref c4) H5)->spMeanW K [.ref a,.ref e] H4 G E0:=fun {H4 H5 a z} S4 ra mz G hG=>by
    obtain ⟨xe,qe,re⟩:=he.ext (Ext.same S4)
    obtain ⟨xa,qa,ra'⟩:=ra
    obtain ⟨l1,D1,W1,r1⟩:=hf z mz
    obtain ⟨l2,D2,W2,r2⟩:=hrn
    exact ⟨a,e,xa,xe,z,r,n,n,D1,D2,W1,W2,rfl,.inr qa,ra',.inr qe,re,by omega,by omega,r1,r2,by omega,by omega,by omega,fun c4 H5 S5 q5=>hG c4 H5 S5 q5⟩
   have meanG:∀ z ∈ fss,Good 810 (mn z r):=fun z mz=>by
    obtain ⟨l1,D1,W1,r1⟩:=hf z mz
    obtain ⟨l2,D2,W2,r2⟩:=hrn
    exact (mn_good r1 r2 (by omega) (by omega)).mono (by omega)
   have b01:Bd 1 (0:Int):=(by show (0:Int).natAbs < 2 ^ 1; decide)
   have b11:Bd 1 (1:Int):=(by show (1:Int).natAbs < 2 ^ 1; decide)
   refine seq_r (asg_r ?_)
   refine comp_filt (K:=K) (α:=List Rat) (tl:=tVar 0) (k:=1) (fv:=[2]) (l:=l) (as:=as) (zs:=fss) (q:=fun f=>decide ((mn f r).1 < 0)) (fun H' a r=>RowAt K H' a r) (fun _ _ _ _ e h=>h.ext e) (fun G g=>⟨_,rfl,g⟩) (SqL.of (S23 _ _ hl)) (by omega) (rows_ext hp (Ext.same S23)) (fun i a z H4 G ea ez S4 ra hG=>?_) (by simp [comp0]) fun d1 H4 is1 f1 S4 q4 P4 M4=>?_
   ·have mz:=List.mem_of_getElem? ez
    have g:=meanG z mz
    refine ⟨_,rfl,_,rfl,meanT (H5:=H4) (S23.trans S4) ra mz _ fun c5 H5 S5 q5=>?_⟩
    refine ⟨c5,c_NOUGHT,_,_,0,1,rfl,q5,s_NOUGHT _,g.b1.mulOk b11 (by omega) (by omega),b01.mulOk g.b2 (by omega) (by omega),_,rfl,?_⟩
    have e1:decide ((mn z r).1 * 1 < 0 * (mn z r).2)=decide ((mn z r).1 < 0):=by rw [decide_eq_decide]; omega
    rw [e1]
    exact hG H5 S5
   have S34:=S23.trans S4
   refine name_r ?_
   dsimp only
   refine seq_r (asg_r ?_)
   refine comp_filt (K:=K) (α:=List Rat) (tl:=tVar 0) (k:=1) (fv:=[2]) (l:=l) (as:=as) (zs:=fss) (q:=fun f=>decide (0 < (mn f r).1)) (fun H' a r=>RowAt K H' a r) (fun _ _ _ _ e h=>h.ext e) (fun G g=>⟨_,rfl,g⟩) (SqL.of (S34 _ _ hl)) (by omega) (rows_ext hp (Ext.same S34)) (fun i a z H5 G ea ez S5 ra hG=>?_) (by simp [comp0]) fun d2 H5 os f2 S5 q5 P5 M5=>?_
   ·have mz:=List.mem_of_getElem? ez
    have g:=meanG z mz
    refine ⟨_,rfl,_,rfl,meanT (H5:=H5) (S34.trans S5) ra mz _ fun c5 H6 S6 q6=>?_⟩
    refine ⟨c_NOUGHT,c5,0,1,_,_,rfl,s_NOUGHT _,q6,b01.mulOk g.b2 (by omega) (by omega),g.b1.mulOk b11 (by omega) (by omega),_,rfl,?_⟩
    have e1:decide (0 * (mn z r).2 < (mn z r).1 * 1)=decide (0 < (mn z r).1):=by rw [decide_eq_decide]; omega
    rw [e1]
    exact hG H6 S6
   have S35:=S34.trans S5
   refine name_r ?_
   dsimp only
   refine seq_r (asg_r ?_)
   refine comp_filt (K:=K) (α:=List Rat) (tl:=tVar 0) (k:=1) (fv:=[5]) (l:=l) (as:=as) (zs:=fss) (q:=fun f=>!decide (f ∈ outR fss r)) (fun H' a r=>RowAt K H' a r) (fun _ _ _ _ e h=>h.ext e) (fun G g=>⟨_,rfl,g⟩) (SqL.of (S35 _ _ hl)) (by omega) (rows_ext hp (Ext.same S35)) (fun i a z H6 G ea ez S6 ra hG=>?_) (by simp [comp0]) fun dk H6 ks f3 S6 q6 P6 M6=>?_
   ·exact ⟨_,rfl,_,rfl,a,d2,z,os,outR fss r,rfl,rfl,ra,SqL.of (S6 _ _ q5),rows_ext P5 (Ext.same S6),_,rfl,hG H6 (Same.refl _)⟩
   have S36:=S35.trans S6
   refine name_r ?_
   dsimp only
   have li:is1.length<=60:=by rw [Paired.length P4]; exact Nat.le_trans (List.length_filter_le _ _) hz
   have lo:os.length<=60:=by rw [Paired.length P5]; exact Nat.le_trans (List.length_filter_le _ _) hz
   have lk:ks.length<=60:=by rw [Paired.length P6]; exact Nat.le_trans (List.length_filter_le _ _) hz
   have les:es.length<=60:=by have:=congrArg List.length ef; rw [List.length_map] at this; omega
   have hT5:∀ {H':Hp},Same H5 H'->Touch P w K H' dt es ep (touR ess):=fun {H'} S'=>⟨hT.dc.same ((S4.trans S5).trans S'),fun e he=>S' _ _ (S5 _ _ (S4 _ _ (hT.ls e he)))⟩
   have tl:∀ x,(touR ess x).length<=1000:=fun x=>by
    unfold touR
    refine Nat.le_trans (List.length_filter_le _ _) ?_
    rw [List.length_range]; omega
   refine seq_r ⟨_,rfl,d1,rfl,⟨_,SqL.of (S6 _ _ (S5 _ _ q4))⟩,?_⟩
   refine for_list (K:=K) (xs:=is1.map V.ref) (fun i σ H'=>Same H5 H'/\(∃ cs:List Addr,H' dk=some (.lst (cs.map V.ref))/\Paired (RowAt K H') cs ((fss.filter fun f=>!decide (f ∈ outR fss r)) ++ ((inR fss r).take i).flatMap fun one=>((outR fss r).filter fun o=>nearR fss (touR ess) one o).map fun o=>crR one o r)/\cs.length<=60 + i * 60)/\∃ x y,σ=[some (.ref l),some (.ref m),some (.ref e),some (.ref dt),some (.ref d1),some (.ref d2),some (.ref dk),x,y]) ⟨S6,⟨ks,q6,by simpa using P6,by omega⟩,none,none,rfl⟩ (fun i σ H' _ h=>SqL.of (h.1 _ _ (S5 _ _ q4))) ?_ ?_
   ·rintro i x σ H7 hx ⟨S7,⟨cs,q7,P7,l7⟩,x1,y1,rfl⟩
    have hi:i < is1.length:=by have:=(List.getElem?_eq_some_iff.mp hx).1; simpa using this
    have li4:=Paired.length P4
    have ea:is1[i]?=some is1[i]:=by simp [hi]
    have ez:(inR fss r)[i]?=some ((inR fss r)[i]'(by unfold inR; omega)):=by simp
    generalize is1[i]=a1 at ea
    generalize ((inR fss r)[i]'(by unfold inR; omega))=z at ez
    rw [List.getElem?_map,ea] at hx
    cases hx
    have mzi:=List.mem_of_getElem? ez
    have mz:z ∈ fss:=(List.mem_filter.mp mzi).1
    have nz:(mn z r).1 < 0:=by simpa using (List.mem_filter.mp mzi).2
    have S47:=S5.trans S7
    have rz:=(Paired.getB P4 ea ez).ext (Ext.same S47)
    refine name_r (seq_r (asg_r ?_))
    refine comp_filt (K:=K) (α:=List Rat) (tl:=tVar 5) (k:=1) (fv:=[3,7]) (l:=d2) (as:=os) (zs:=outR fss r) (q:=fun o=>nearR fss (touR ess) z o) (fun H' a r=>RowAt K H' a r) (fun _ _ _ _ e h=>h.ext e) (fun G g=>⟨_,rfl,g⟩) (SqL.of (S7 _ _ q5)) (by omega) (rows_ext P5 (Ext.same S7)) (fun j b o H8 G eb eo S8 rb hG=>?_) (by simp [comp0]) fun d8 H8 ns f8 S8 q8 P8 M8=>?_
    ·have mo:o ∈ fss:=(List.mem_filter.mp (List.mem_of_getElem? eo)).1
     refine ⟨_,rfl,_,rfl,_,rfl,dt,a1,b,es,ep,touR ess,z,o,rfl,hT5 (S7.trans S8),rz.ext (Ext.same S8),rb,by rw [ef]; exact mz,by rw [ef]; exact mo,by omega,tl,fun H9 S9=>?_⟩
     rw [ef]
     exact ⟨_,rfl,hG H9 S9⟩
    ·have l5:(outR fss r).length<=60:=by have:=Paired.length P5; unfold outR; omega
     have ln:ns.length<=60:=by rw [Paired.length P8]; exact Nat.le_trans (List.length_filter_le _ _) l5
     refine name_r ?_
     refine ⟨_,rfl,.inl ⟨rfl,_,SqL.of (S8 _ _ q7)⟩,?_⟩
     refine cons_r ?_
     refine comp_mapR (K:=K) (α:=List Rat) (tl:=tVar 8) (k:=1) (fv:=[2,7]) (l:=d8) (as:=ns) (zs:=(outR fss r).filter fun o=>nearR fss (touR ess) z o) (g:=fun o=>crR z o r) (fun H' a r=>RowAt K H' a r) (fun _ _ _ _ e h=>h.ext e) (fun G g=>⟨_,rfl,g⟩) (SqL.of q8) (by omega) P8 (fun j b o H9 G eb eo S9 rb hG=>?_) fun d9 H9 bs' f9 S9 q9 P9=>?_
     ·have mo:=(List.mem_filter.mp (List.mem_of_getElem? eo)).1
      have mo1:o ∈ fss:=(List.mem_filter.mp mo).1
      have po:0 < (mn o r).1:=by simpa using (List.mem_filter.mp mo).2
      have h0:(subR (mn z r) (mn o r)).1 ≠ 0:=fun z0=>by
       have g1:=meanG z mz
       have g2:=meanG o mo1
       have q0:=qv_sub g1.low g2.low
       have:qv (subR (mn z r) (mn o r))=0:=by unfold qv; rw [z0]; grind
       have a1:=(qv_pos g2.pos).mp po
       have a2:qv (mn z r) < 0:=by
        have:¬ 0<=qv (mn z r):=fun y=>by have:=(qv_nn g1.pos).mpr y; omega
        grind
       grind
      obtain ⟨l1,D1,W1,r1⟩:=hf z mz
      obtain ⟨l2,D2,W2,r2⟩:=hf o mo1
      obtain ⟨l3,D3,W3,r3⟩:=hrn
      exact ⟨_,rfl,_,rfl,_,rfl,a1,b,e,z,o,r,n,D1,D2,D3,W1,W2,W3,rfl,rz.ext (Ext.same (S8.trans S9)),rb,he.ext (Ext.same ((S35.trans S7).trans (S8.trans S9))),by omega,by omega,by omega,r1,r2,r3,hn,h0,fun c0 H10 S10 r10=>hG c0 H10 S10 r10⟩
     ·have lb:bs'.length<=60:=by rw [Paired.length P9,List.length_map,← Paired.length P8]; exact ln
      have q79:=S9 _ _ (S8 _ _ q7)
      have E9:Ext H9 (upd H9 dk (.lst (cs.map V.ref ++ bs'.map V.ref))):=Ext.upd q79
      refine ⟨dk,d9,cs.map V.ref,bs'.map V.ref,rfl,rfl,q79,q9,Nat.le_trans (show _<=10000 by rw [List.length_map,List.length_map]; omega) (by decide),?_⟩
      refine ⟨upd_same2 (S7.trans (S8.trans S9)) f3,⟨cs ++ bs',by rw [upd_same,List.map_append],?_,by rw [List.length_append]; omega⟩,_,_,rfl⟩
      rw [take_succ' ez,List.flatMap_append,List.flatMap_cons,List.flatMap_nil,List.append_nil,← List.append_assoc]
      exact Paired.appP (rows_ext P7 ((Ext.same (S8.trans S9)).trans E9)) (rows_ext P9 E9)
   ·rintro σ H7 ⟨S7,⟨cs,q7,P7,l7⟩,x1,y1,rfl⟩
    have li4:=Paired.length P4
    rw [List.length_map,List.take_of_length_le (by unfold inR; omega)] at P7
    refine ⟨_,rfl,k dk H7 ((S35.trans S7)) ⟨cs,q7,P7⟩⟩
end
end Sb
namespace Sb
open PySem L2
section
variable {m:Nat} {c:Nat->Pt} {x:Pt}
theorem sQ2 (f:Pt):sQ 2 f=f 0 + f 1:=by
 show (0:QQ) + f 0 + f 1=_
 grind
theorem sQ3 (f:Pt):sQ 3 f=f 0 + f 1 + f 2:=by
 show (0:QQ) + f 0 + f 1 + f 2=_
 grind
theorem dq2 (x e:Pt):dq 2 x e=x 0 * e 0 + x 1 * e 1:=sQ2 _
theorem dq3 (x e:Pt):dq 3 x e=x 0 * e 0 + x 1 * e 1 + x 2 * e 2:=sQ3 _
def cr0 (e f:Pt):QQ:=e 1 * f 2 - e 2 * f 1
def cr1 (e f:Pt):QQ:=e 2 * f 0 - e 0 * f 2
def cr2 (e f:Pt):QQ:=e 0 * f 1 - e 1 * f 0
def crS (e f:Pt):QQ:=cr0 e f + cr1 e f + cr2 e f
theorem stuck_two (st:Stuck 2 m c x):∃ k,k < m/\dq 2 x (c k)=0/\c k 1 - c k 0 ≠ 0:=by
 refine Classical.byContradiction fun q=>?_
 have h:=st (fun i=>if i=0 then 1 else -1) (by rw [sQ2]; simp; grind) (fun k hk z=>?_) 0 (by decide)
 ·simp at h
 ·have:c k 1 - c k 0=0:=Classical.byContradiction fun n=>q ⟨k,hk,z,n⟩
  rw [dq2]
  simp
  grind
theorem two_stuck {k:Nat} (hk:k < m) (z:dq 2 x (c k)=0) (n:c k 1 - c k 0 ≠ 0):Stuck 2 m c x:=fun d s0 al i hi=>by
 have a:=al k hk z
 rw [dq2] at a
 rw [sQ2] at s0
 have e:d 0 * (c k 1 - c k 0)=0:=by grind
 have d0:d 0=0:=(_root_.Rat.mul_eq_zero.mp e).resolve_right n
 have d1:d 1=0:=by grind
 match i,hi with
 | 0,_=>exact d0
 | 1,_=>exact d1
theorem two_at {e:Pt} (s1:sQ 2 x=1) (z:dq 2 x e=0):x 0 * (e 1 - e 0)=e 1/\x 1=1 - x 0:=by
 rw [dq2] at z
 rw [sQ2] at s1
 exact ⟨by grind,by grind⟩
theorem crS_self (e:Pt):crS e e=0:=by unfold crS cr0 cr1 cr2; grind
theorem crS_swap (e f:Pt):crS f e=-crS e f:=by unfold crS cr0 cr1 cr2; grind
theorem stuck_three (st:Stuck 3 m c x):∃ j,j < m/\∃ k,k < j/\dq 3 x (c j)=0/\dq 3 x (c k)=0/\crS (c j) (c k) ≠ 0:=by
 have two:∃ j,j < m/\∃ k,k < m/\dq 3 x (c j)=0/\dq 3 x (c k)=0/\crS (c j) (c k) ≠ 0:=by
  refine Classical.byContradiction fun q=>?_
  have zero:∀ j,j < m->dq 3 x (c j)=0->∀ k,k < m->dq 3 x (c k)=0->crS (c j) (c k)=0:=fun j hj zj k hk zk=>Classical.byContradiction fun n=>q ⟨j,hj,k,hk,zj,zk,n⟩
  by_cases al:∀ k,k < m->dq 3 x (c k)=0->c k 0=c k 1
  ·have h:=st (fun i=>if i=0 then 1 else if i=1 then -1 else 0) (by rw [sQ3]; simp; grind) (fun k hk z=>by rw [dq3]; simp; have:=al k hk z; grind) 0 (by decide)
   simp at h
  ·have:∃ k,k < m/\dq 3 x (c k)=0/\c k 0 ≠ c k 1:=Classical.byContradiction fun n=>al fun k hk z=>Classical.byContradiction fun y=>n ⟨k,hk,z,y⟩
   obtain ⟨k,hk,z,ne⟩:=this
   have h:=st (fun i=>if i=0 then c k 2 - c k 1 else if i=1 then c k 0 - c k 2 else c k 1 - c k 0) (by rw [sQ3]; simp; grind) (fun j hj zj=>by
    have:=zero k hk z j hj zj
    unfold crS cr0 cr1 cr2 at this
    rw [dq3]; simp; grind) 2 (by decide)
   simp at h
   exact ne (by grind)
 obtain ⟨j,hj,k,hk,zj,zk,n⟩:=two
 by_cases e:k < j
 ·exact ⟨j,hj,k,e,zj,zk,n⟩
 ·by_cases e2:j=k
  ·subst e2; exact absurd (crS_self _) n
  ·refine ⟨k,hk,j,by omega,zk,zj,?_⟩
   rw [crS_swap]
   grind
theorem three_stuck {j k:Nat} (hj:j < m) (hk:k < m) (zj:dq 3 x (c j)=0) (zk:dq 3 x (c k)=0) (n:crS (c j) (c k) ≠ 0):Stuck 3 m c x:=fun d s0 al i hi=>by
 have a:=al j hj zj
 have b:=al k hk zk
 rw [dq3] at a b
 rw [sQ3] at s0
 have e0:crS (c j) (c k) * d 0=0:=by
  have:crS (c j) (c k) * d 0=(d 0 + d 1 + d 2) * cr0 (c j) (c k) + (d 0 * c j 0 + d 1 * c j 1 + d 2 * c j 2) * (c k 1 - c k 2) + (d 0 * c k 0 + d 1 * c k 1 + d 2 * c k 2) * (c j 2 - c j 1):=by unfold crS cr0 cr1 cr2; grind
  rw [this,s0,a,b]; grind
 have e1:crS (c j) (c k) * d 1=0:=by
  have:crS (c j) (c k) * d 1=(d 0 + d 1 + d 2) * cr1 (c j) (c k) + (d 0 * c j 0 + d 1 * c j 1 + d 2 * c j 2) * (c k 2 - c k 0) + (d 0 * c k 0 + d 1 * c k 1 + d 2 * c k 2) * (c j 0 - c j 2):=by unfold crS cr0 cr1 cr2; grind
  rw [this,s0,a,b]; grind
 have e2:crS (c j) (c k) * d 2=0:=by
  have:crS (c j) (c k) * d 2=(d 0 + d 1 + d 2) * cr2 (c j) (c k) + (d 0 * c j 0 + d 1 * c j 1 + d 2 * c j 2) * (c k 0 - c k 1) + (d 0 * c k 0 + d 1 * c k 1 + d 2 * c k 2) * (c j 1 - c j 0):=by unfold crS cr0 cr1 cr2; grind
  rw [this,s0,a,b]; grind
 match i,hi with
 | 0,_=>exact (_root_.Rat.mul_eq_zero.mp e0).resolve_left n
 | 1,_=>exact (_root_.Rat.mul_eq_zero.mp e1).resolve_left n
 | 2,_=>exact (_root_.Rat.mul_eq_zero.mp e2).resolve_left n
theorem three_at {e f:Pt} (s1:sQ 3 x=1) (ze:dq 3 x e=0) (zf:dq 3 x f=0):x 0 * crS e f=cr0 e f/\x 1 * crS e f=cr1 e f/\x 2 * crS e f=cr2 e f:=by
 rw [dq3] at ze zf
 rw [sQ3] at s1
 have h:∀ (y c0 q0 q1:QQ),y * crS e f=(x 0 + x 1 + x 2) * c0 + (x 0 * e 0 + x 1 * e 1 + x 2 * e 2) * q0 + (x 0 * f 0 + x 1 * f 1 + x 2 * f 2) * q1->y * crS e f=c0:=fun y c0 q0 q1 h=>by
  rw [h,s1,ze,zf]; grind
 refine ⟨h _ _ (f 1 - f 2) (e 2 - e 1) ?_,h _ _ (f 2 - f 0) (e 0 - e 2) ?_,h _ _ (f 0 - f 1) (e 1 - e 0) ?_⟩ <;> (unfold crS cr0 cr1 cr2; grind)
theorem at_three {e f:Pt} (n:crS e f ≠ 0) (h0:x 0 * crS e f=cr0 e f) (h1:x 1 * crS e f=cr1 e f) (h2:x 2 * crS e f=cr2 e f):sQ 3 x=1/\dq 3 x e=0/\dq 3 x f=0:=by
 have k:∀ y:QQ,y * crS e f=0->y=0:=fun y h=>(_root_.Rat.mul_eq_zero.mp h).resolve_right n
 rw [sQ3,dq3,dq3]
 refine ⟨?_,k _ ?_,k _ ?_⟩
 ·have:=k (x 0 + x 1 + x 2 - 1) (by have:crS e f=cr0 e f + cr1 e f + cr2 e f:=rfl; grind)
  grind
 ·have:(x 0 * e 0 + x 1 * e 1 + x 2 * e 2) * crS e f=(x 0 * crS e f) * e 0 + (x 1 * crS e f) * e 1 + (x 2 * crS e f) * e 2:=by grind
  rw [this,h0,h1,h2]; unfold cr0 cr1 cr2; grind
 ·have:(x 0 * f 0 + x 1 * f 1 + x 2 * f 2) * crS e f=(x 0 * crS e f) * f 0 + (x 1 * crS e f) * f 1 + (x 2 * crS e f) * f 2:=by grind
  rw [this,h0,h1,h2]; unfold cr0 cr1 cr2; grind
theorem at_two {e:Pt} (n:e 1 - e 0 ≠ 0) (h0:x 0 * (e 1 - e 0)=e 1) (h1:x 1=1 - x 0):sQ 2 x=1/\dq 2 x e=0:=by
 rw [sQ2,dq2]
 exact ⟨by grind,by grind⟩
end
end Sb
namespace Sb
open PySem L2
theorem qr_eq {n:Nat}:∀ {f g:List Rat},Lows f->Lows g->f.length=n->g.length=n->(∀ i,i < n->qr f i=qr g i)->f=g:=fun {f g} lf lg h1 h2 h=>by
 refine List.ext_getElem (by omega) fun i a b=>?_
 have e:=h i (by omega)
 unfold qr at e
 have e1:f.getD i (0,1)=f[i]:=by simp [List.getD,a]
 have e2:g.getD i (0,1)=g[i]:=by simp [List.getD,b]
 rw [e1,e2] at e
 exact qv_inj (lf _ (List.getElem_mem a)) (lg _ (List.getElem_mem b)) e
theorem mn_dq {n:Nat} {f e:List Rat} (lf:Lows f) (le:Lows e) (h1:f.length=n) (h2:e.length=n):qv (mn f e)=dq n (qr f) (qr e):=qv_mn lf le h1 h2
theorem mn_zero {n:Nat} {f e:List Rat} (lf:Lows f) (le:Lows e) (h1:f.length=n) (h2:e.length=n):mn f e=(0,1) ↔ dq n (qr f) (qr e)=0:=by
 rw [← mn_dq lf le h1 h2]
 constructor
 ·intro z; rw [z]; exact qv01
 ·intro z; exact qv_inj (mn_low lf le) low01 (by rw [z,qv01])
theorem qv_par {r s:Rat} (lr:Low r) (ls:Low s) (h:s.1 ≠ 0):Low (parR r s)/\qv (parR r s)=qv r / qv s:=by
 have q0:r.2 * s.1 ≠ 0:=parR_ne lr.pos h
 refine ⟨low_nrm q0,?_⟩
 have cr:=n_cross (r.1 * s.2) (r.2 * s.1)
 have b1:=qc_ne lr.pos
 have b2:=qc_ne ls.pos
 have b3:(s.1:QQ) ≠ 0:=fun z=>h (by have:=_root_.Rat.intCast_inj.mp (show ((s.1:Int):QQ)=((0:Int):QQ) by rw [z]; rfl); exact this)
 have key:qv (parR r s) * ((r.2:QQ) * (s.1:QQ))=(r.1:QQ) * (s.2:QQ):=by
  have lp:=(low_nrm (p:=r.1 * s.2) q0).pos
  have b4:=qc_ne lp
  have cr':((nT (r.1 * s.2) (r.2 * s.1):Int):QQ) * ((r.2 * s.1:Int):QQ)=((r.1 * s.2:Int):QQ) * ((nB (r.1 * s.2) (r.2 * s.1):Int):QQ):=by
   rw [← _root_.Rat.intCast_mul,← _root_.Rat.intCast_mul,cr]
  rw [_root_.Rat.intCast_mul,_root_.Rat.intCast_mul] at cr'
  have b4':((nB (r.1 * s.2) (r.2 * s.1):Int):QQ) ≠ 0:=b4
  show ((nT (r.1 * s.2) (r.2 * s.1):Int):QQ) / ((nB (r.1 * s.2) (r.2 * s.1):Int):QQ) * _=_
  grind
 unfold qv at *
 grind
theorem crR_row {n:Nat} {u v r:List Rat} (lu:Lows u) (lv:Lows v) (lr:Lows r) (h1:u.length=n) (h2:v.length=n) (h3:r.length=n) (nu:(mn u r).1 < 0) (pv:0 < (mn v r).1) :
  Lows (crR u v r)/\(crR u v r).length=n/\∀ k,k < n->qr (crR u v r) k=crs n (qr r) (qr u) (qr v) k:=by
 have m1:=mn_low lu lr
 have m2:=mn_low lv lr
 have s1:Low (subR (mn u r) (mn v r)):=low_nrm (Int.ne_of_gt (Int.mul_pos m1.pos m2.pos))
 have a1:0 < qv (mn v r):=(qv_pos m2.pos).mp pv
 have a2:qv (mn u r) < 0:=by
  have:¬ 0<=qv (mn u r):=fun y=>by have:=(qv_nn m1.pos).mpr y; omega
  grind
 have q0:=qv_sub m1 m2
 have h0:(subR (mn u r) (mn v r)).1 ≠ 0:=fun z0=>by
  have:qv (subR (mn u r) (mn v r))=0:=by unfold qv; rw [z0]; grind
  grind
 obtain ⟨lb,qb⟩:=qv_par m1 s1 h0
 rw [q0,mn_dq lu lr h1 h3,mn_dq lv lr h2 h3] at qb
 have lb':Low (byR u v r):=lb
 have l1:Low (subR (1,1) (byR u v r)):=low_nrm (Int.ne_of_gt (Int.mul_pos (by decide) lb'.pos))
 have q1:qv (subR (1,1) (byR u v r))=1 - qv (byR u v r):=by rw [qv_sub low11 lb',qv11]
 have el:∀ {a b:Rat},Low a->Low b->Low (addR (mulR' a (subR (1,1) (byR u v r))) (mulR' b (byR u v r)))/\qv (addR (mulR' a (subR (1,1) (byR u v r))) (mulR' b (byR u v r)))=qv a * (1 - qv (byR u v r)) + qv b * qv (byR u v r):=fun {a b} la lb2=>by
  have x1:Low (mulR' a (subR (1,1) (byR u v r))):=low_nrm (Int.ne_of_gt (Int.mul_pos la.pos l1.pos))
  have x2:Low (mulR' b (byR u v r)):=low_nrm (Int.ne_of_gt (Int.mul_pos lb2.pos lb'.pos))
  refine ⟨low_nrm (Int.ne_of_gt (Int.mul_pos x1.pos x2.pos)),?_⟩
  rw [qv_add x1 x2,qv_mul la l1,qv_mul lb2 lb',q1]
 have len:(crR u v r).length=n:=by unfold crR; rw [List.length_zipWith,List.length_map,List.length_map]; omega
 refine ⟨fun x hx=>?_,len,fun k hk=>?_⟩
 ·obtain ⟨i,hi⟩:=List.getElem?_of_mem hx
  unfold crR at hi
  rw [List.getElem?_zipWith,List.getElem?_map,List.getElem?_map] at hi
  have hk:i < n:=by
   by_cases z:i < n
   ·exact z
   ·rw [List.getElem?_eq_none (by omega)] at hi; cases hi
  rw [List.getElem?_eq_getElem (show i < u.length by omega),List.getElem?_eq_getElem (show i < v.length by omega)] at hi
  cases hi
  exact (el (lu _ (List.getElem_mem _)) (lv _ (List.getElem_mem _))).1
 ·have hu:k < u.length:=by omega
  have hv:k < v.length:=by omega
  have e1:(crR u v r).getD k (0,1)=addR (mulR' u[k] (subR (1,1) (byR u v r))) (mulR' v[k] (byR u v r)):=by
   unfold crR
   rw [List.getD_eq_getElem?_getD,List.getElem?_zipWith,List.getElem?_map,List.getElem?_map,List.getElem?_eq_getElem hu,List.getElem?_eq_getElem hv]
   rfl
  have e2:qr u k=qv u[k]:=by unfold qr; simp [List.getD,hu]
  have e3:qr v k=qv v[k]:=by unfold qr; simp [List.getD,hv]
  unfold qr crs
  rw [e1,(el (lu _ (List.getElem_mem hu)) (lv _ (List.getElem_mem hv))).2]
  have e2':qv (u.getD k (0,1))=qv u[k]:=e2
  have e3':qv (v.getD k (0,1))=qv v[k]:=e3
  have qb':qv (byR u v r)=dq n (qr u) (qr r) / (dq n (qr u) (qr r) - dq n (qr v) (qr r)):=qb
  show _=qr u k + dq n (qr u) (qr r) / (dq n (qr u) (qr r) - dq n (qr v) (qr r)) * (qr v k - qr u k)
  rw [e2,e3,← qb']
  grind
end Sb
namespace Sb
open PySem L2
theorem nodup_le {α:Type} [DecidableEq α]:∀ {L M:List α},L.Nodup->(∀ x ∈ L,x ∈ M)->L.length<=M.length
 | [],_,_,_=>Nat.zero_le _
 | x :: L,M,nd,h=>by
  obtain ⟨n1,n2⟩:=List.nodup_cons.mp nd
  have hx:=h x List.mem_cons_self
  have:=nodup_le (L:=L) (M:=M.erase x) n2 fun y hy=>(List.mem_erase_of_ne (a:=y) (b:=x) (fun z=>by rw [z] at hy; exact n1 hy)).mpr (h y (List.mem_cons_of_mem _ hy))
  rw [List.length_erase_of_mem hx] at this
  have:0 < M.length:=List.length_pos_of_mem hx
  simp only [List.length_cons]
  omega
theorem two_iff {α:Type} [DecidableEq α] {L:List α} {u v:α} (nd:L.Nodup) (hu:u ∈ L) (hv:v ∈ L) (ne:u ≠ v):L.length=2 ↔ ∀ w ∈ L,w=u \/ w=v:=by
 have ge:2<=L.length:=nodup_le (L:=[u,v]) (by simp [ne]) fun x hx=>by
  rcases List.mem_cons.mp hx with rfl | hx
  ·exact hu
  ·rw [List.mem_singleton.mp hx]; exact hv
 constructor
 ·intro h w hw
  apply Classical.byContradiction
  intro n
  have:3<=L.length:=nodup_le (L:=[w,u,v]) (by
   simp only [List.nodup_cons,List.mem_cons,List.not_mem_nil,not_or]
   exact ⟨⟨fun z=>n (.inl z),fun z=>n (.inr z),fun z=>z⟩,⟨ne,fun z=>z⟩,fun z=>z,List.nodup_nil⟩) fun x hx=>by
   rcases List.mem_cons.mp hx with rfl | hx
   ·exact hw
   ·rcases List.mem_cons.mp hx with rfl | hx
    ·exact hu
    ·rw [List.mem_singleton.mp hx]; exact hv
  omega
 ·intro h
  have:L.length<=[u,v].length:=nodup_le nd fun x hx=>by
   rcases h x hx with rfl | rfl
   ·exact List.mem_cons_self
   ·exact List.mem_cons_of_mem _ List.mem_cons_self
  have e:[u,v].length=2:=rfl
  omega
structure CorR (n:Nat) (ess:List (List Rat)) (c:Nat->Pt) (fss:List (List Rat)):Prop where
 nd:fss.Nodup
 len:∀ f ∈ fss,f.length=n
 low:∀ f ∈ fss,Lows f
 cors:Cors n ess.length c (fss.map qr)
 el:∀ e ∈ ess,Lows e/\e.length=n
 ed:∀ k,k < ess.length->∀ x:Pt,dq n x (c k)=0 ↔ dq n x (qr (ess.getD k []))=0
section
variable {n:Nat} {ess fss:List (List Rat)} {c:Nat->Pt} {u v r:List Rat}
theorem CorR.tou (C:CorR n ess c fss) (hu:u ∈ fss) {k:Nat}:k ∈ touR ess u ↔ k < ess.length/\dq n (qr u) (c k)=0:=by
 unfold touR
 rw [List.mem_filter,List.mem_range,decide_eq_true_iff]
 refine and_congr_right fun hk=>?_
 have he:ess.getD k [] ∈ ess:=by
  have:ess.getD k []=ess[k]:=by simp [List.getD,hk]
  rw [this]; exact List.getElem_mem hk
 obtain ⟨l1,l2⟩:=C.el _ he
 rw [mn_zero (C.low u hu) l1 (C.len u hu) l2,C.ed k hk]
theorem CorR.near (C:CorR n ess c fss) (hu:u ∈ fss) (hv:v ∈ fss) (ne:u ≠ v):nearR fss (touR ess) u v=true ↔ Near n ess.length c (fss.map qr) (qr u) (qr v):=by
 have be:∀ w ∈ fss,(((touR ess u).filter fun k=>decide (k ∈ touR ess v)).all fun k=>decide (k ∈ touR ess w))=true ↔ ∀ k,k < ess.length->dq n (qr u) (c k)=0->dq n (qr v) (c k)=0->dq n (qr w) (c k)=0:=fun w hw=>by
  rw [List.all_eq_true]
  constructor
  ·intro h k hk z1 z2
   have:=h k (List.mem_filter.mpr ⟨(C.tou hu).mpr ⟨hk,z1⟩,decide_eq_true ((C.tou hv).mpr ⟨hk,z2⟩)⟩)
   exact ((C.tou hw).mp (of_decide_eq_true this)).2
  ·intro h k hk
   obtain ⟨a,b⟩:=List.mem_filter.mp hk
   obtain ⟨k1,k2⟩:=(C.tou hu).mp a
   obtain ⟨_,k3⟩:=(C.tou hv).mp (of_decide_eq_true b)
   exact decide_eq_true ((C.tou hw).mpr ⟨k1,h k k1 k2 k3⟩)
 unfold nearR
 rw [decide_eq_true_iff]
 have mu:u ∈ fss.filter fun w=>((touR ess u).filter fun k=>decide (k ∈ touR ess v)).all fun k=>decide (k ∈ touR ess w):=List.mem_filter.mpr ⟨hu,(be u hu).mpr fun _ _ z _=>z⟩
 have mv:v ∈ fss.filter fun w=>((touR ess u).filter fun k=>decide (k ∈ touR ess v)).all fun k=>decide (k ∈ touR ess w):=List.mem_filter.mpr ⟨hv,(be v hv).mpr fun _ _ _ z=>z⟩
 rw [two_iff (C.nd.sublist List.filter_sublist) mu mv ne]
 constructor
 ·intro h w hw al
  obtain ⟨f,hf,rfl⟩:=List.mem_map.mp hw
  rcases h f (List.mem_filter.mpr ⟨hf,(be f hf).mpr al⟩) with rfl | rfl
  ·exact .inl fun _ _=>rfl
  ·exact .inr fun _ _=>rfl
 ·intro h w hw
  obtain ⟨hf,hb⟩:=List.mem_filter.mp hw
  rcases h (qr w) (List.mem_map.mpr ⟨w,hf,rfl⟩) ((be w hf).mp hb) with z | z
  ·exact .inl (qr_eq (C.low w hf) (C.low u hu) (C.len w hf) (C.len u hu) z)
  ·exact .inr (qr_eq (C.low w hf) (C.low v hv) (C.len w hf) (C.len v hv) z)
theorem CorR.cut (B:Bnds n ess.length c) (C:CorR n ess c fss) (lr:Lows r) (hr:r.length=n) (hc:∀ x:Pt,dq n x (c ess.length)=dq n x (qr r)):CorR n (ess ++ [r]) c (cutC fss ess r):=by
 have neg:∀ f ∈ fss,(mn f r).1 < 0 ↔ dq n (qr f) (c ess.length) < 0:=fun f hf=>by
  rw [hc,← mn_dq (C.low f hf) lr (C.len f hf) hr]
  have:=qv_nn (mn_low (C.low f hf) lr).pos
  constructor
  ·intro z; have:¬ 0<=qv (mn f r):=fun y=>by have:=this.mpr y; omega
   grind
  ·intro z
   have:¬ 0<=(mn f r).1:=fun y=>by have:=this.mp y; grind
   omega
 have pos:∀ f ∈ fss,0 < (mn f r).1 ↔ 0 < dq n (qr f) (c ess.length):=fun f hf=>by
  rw [hc,← mn_dq (C.low f hf) lr (C.len f hf) hr]
  exact qv_pos (mn_low (C.low f hf) lr).pos
 have mo:∀ f,f ∈ outR fss r ↔ f ∈ fss/\0 < (mn f r).1:=fun f=>by unfold outR; rw [List.mem_filter,decide_eq_true_iff]
 have mi:∀ f,f ∈ inR fss r ↔ f ∈ fss/\(mn f r).1 < 0:=fun f=>by unfold inR; rw [List.mem_filter,decide_eq_true_iff]
 have mk:∀ f,f ∈ (fss.filter fun f=>!decide (f ∈ outR fss r)) ↔ f ∈ fss/\¬ 0 < (mn f r).1:=fun f=>by
  rw [List.mem_filter]
  refine and_congr_right fun hf=>?_
  rw [Bool.not_eq_true',decide_eq_false_iff_not,mo]
  exact ⟨fun z y=>z ⟨hf,y⟩,fun z y=>z y.2⟩
 have mem:∀ x,x ∈ cutC fss ess r ↔ (x ∈ fss/\¬ 0 < (mn x r).1) \/ ∃ one,(one ∈ fss/\(mn one r).1 < 0)/\∃ o,((o ∈ fss/\0 < (mn o r).1)/\nearR fss (touR ess) one o=true)/\crR one o r=x:=fun x=>by
  unfold cutC
  rw [List.mem_append,mk,List.mem_flatMap]
  refine or_congr_right ?_
  constructor
  ·rintro ⟨one,h1,h2⟩
   obtain ⟨o,h3,rfl⟩:=List.mem_map.mp h2
   obtain ⟨h4,h5⟩:=List.mem_filter.mp h3
   exact ⟨one,(mi one).mp h1,o,⟨(mo o).mp h4,h5⟩,rfl⟩
  ·rintro ⟨one,h1,o,⟨h2,h3⟩,rfl⟩
   exact ⟨one,(mi one).mpr h1,List.mem_map.mpr ⟨o,List.mem_filter.mpr ⟨(mo o).mpr h2,h3⟩,rfl⟩⟩
 have ne:∀ {a b:List Rat},(mn a r).1 < 0->0 < (mn b r).1->a ≠ b:=fun h1 h2 z=>by rw [z] at h1; omega
 have crow:∀ {one o:List Rat},one ∈ fss->(mn one r).1 < 0->o ∈ fss->0 < (mn o r).1->Lows (crR one o r)/\(crR one o r).length=n/\∀ k,k < n->qr (crR one o r) k=crs n (c ess.length) (qr one) (qr o) k:=fun {one o} h1 h2 h3 h4=>by
  obtain ⟨a1,a2,a3⟩:=crR_row (C.low _ h1) (C.low _ h3) lr (C.len _ h1) (C.len _ h3) hr h2 h4
  refine ⟨a1,a2,fun k hk=>?_⟩
  rw [a3 k hk]
  unfold crs
  rw [hc,hc]
 have mq:∀ {f:List Rat},f ∈ fss->qr f ∈ fss.map qr:=fun h=>List.mem_map.mpr ⟨_,h,rfl⟩
 have le:(ess ++ [r]).length=ess.length + 1:=by simp
 refine ⟨?_,fun x hx=>?_,fun x hx=>?_,?_,fun e he=>?_,fun k hk x=>?_⟩
 ·unfold cutC
  refine List.nodup_append.mpr ⟨C.nd.sublist List.filter_sublist,?_,?_⟩
  ·rw [List.nodup_iff_pairwise_ne,List.pairwise_flatMap]
   constructor
   ·intro one h1
    rw [List.pairwise_map]
    obtain ⟨f1,n1⟩:=(mi one).mp h1
    have nd2:((outR fss r).filter fun o=>nearR fss (touR ess) one o).Nodup:=(C.nd.sublist List.filter_sublist).sublist List.filter_sublist
    refine (List.nodup_iff_pairwise_ne.mp nd2).imp_of_mem fun {a b} ha hb hne e=>?_
    obtain ⟨ha1,ha2⟩:=List.mem_filter.mp ha
    obtain ⟨fa,pa⟩:=(mo a).mp ha1
    obtain ⟨fb,pb⟩:=(mo b).mp (List.mem_filter.mp hb).1
    have:=C.cors.apart (mq f1) (mq fa) (mq f1) (mq fb) ((neg _ f1).mp n1) ((pos _ fa).mp pa) ((neg _ f1).mp n1) ((pos _ fb).mp pb) ((C.near f1 fa (ne n1 pa)).mp ha2) fun i hi=>by
     rw [← (crow f1 n1 fa pa).2.2 i hi,← (crow f1 n1 fb pb).2.2 i hi,e]
    exact hne (qr_eq (C.low a fa) (C.low b fb) (C.len a fa) (C.len b fb) fun i hi=>(this.2 i hi).symm)
   ·have nd2:(inR fss r).Nodup:=C.nd.sublist List.filter_sublist
    refine (List.nodup_iff_pairwise_ne.mp nd2).imp_of_mem fun {a b} ha hb hne x hx y hy e=>?_
    obtain ⟨fa,na⟩:=(mi a).mp ha
    obtain ⟨fb,nb⟩:=(mi b).mp hb
    obtain ⟨o,ho,rfl⟩:=List.mem_map.mp hx
    obtain ⟨o',ho',rfl⟩:=List.mem_map.mp hy
    obtain ⟨o1,o2⟩:=List.mem_filter.mp ho
    obtain ⟨fo,po⟩:=(mo o).mp o1
    obtain ⟨fo',po'⟩:=(mo o').mp (List.mem_filter.mp ho').1
    have:=C.cors.apart (mq fa) (mq fo) (mq fb) (mq fo') ((neg _ fa).mp na) ((pos _ fo).mp po) ((neg _ fb).mp nb) ((pos _ fo').mp po') ((C.near fa fo (ne na po)).mp o2) fun i hi=>by
     rw [← (crow fa na fo po).2.2 i hi,← (crow fb nb fo' po').2.2 i hi,e]
    exact hne (qr_eq (C.low a fa) (C.low b fb) (C.len a fa) (C.len b fb) fun i hi=>(this.1 i hi).symm)
  ·intro x hx y hy e
   obtain ⟨fx,_⟩:=(mk x).mp hx
   obtain ⟨one,h1,h2⟩:=List.mem_flatMap.mp hy
   obtain ⟨o,h3,rfl⟩:=List.mem_map.mp h2
   obtain ⟨f1,n1⟩:=(mi one).mp h1
   obtain ⟨fo,po⟩:=(mo o).mp (List.mem_filter.mp h3).1
   exact C.cors.fresh (mq f1) (mq fo) ((neg _ f1).mp n1) ((pos _ fo).mp po) (mq fx) fun i hi=>by rw [e]; exact (crow f1 n1 fo po).2.2 i hi
 ·rcases (mem x).mp hx with ⟨h,_⟩ | ⟨one,⟨h1,h2⟩,o,⟨⟨h3,h4⟩,_⟩,rfl⟩
  ·exact C.len x h
  ·exact (crow h1 h2 h3 h4).2.1
 ·rcases (mem x).mp hx with ⟨h,_⟩ | ⟨one,⟨h1,h2⟩,o,⟨⟨h3,h4⟩,_⟩,rfl⟩
  ·exact C.low x h
  ·exact (crow h1 h2 h3 h4).1
 ·rw [le]
  refine ⟨fun x hx=>?_,fun x X=>?_⟩
  ·obtain ⟨f,hf,rfl⟩:=List.mem_map.mp hx
   rcases (mem f).mp hf with ⟨h,z⟩ | ⟨one,⟨h1,h2⟩,o,⟨⟨h3,h4⟩,h5⟩,rfl⟩
   ·refine C.cors.kept (mq h) ?_
    have:¬ 0 < dq n (qr f) (c ess.length):=fun y=>z ((pos f h).mpr y)
    grind
   ·exact (C.cors.cross B (mq h1) (mq h3) ((neg _ h1).mp h2) ((pos _ h3).mp h4) ((C.near h1 h3 (ne h2 h4)).mp h5)).congr fun k hk=>((crow h1 h2 h3 h4).2.2 k hk).symm
  ·rcases C.cors.new B X with ⟨v,hv,e,z⟩ | ⟨u,hu,v,hv,lu,lv,nr,e⟩
   ·obtain ⟨f,hf,rfl⟩:=List.mem_map.mp hv
    exact ⟨qr f,List.mem_map.mpr ⟨f,(mem f).mpr (.inl ⟨hf,fun y=>by have:=(pos f hf).mp y; grind⟩),rfl⟩,e⟩
   ·obtain ⟨f,hf,rfl⟩:=List.mem_map.mp hu
    obtain ⟨g,hg,rfl⟩:=List.mem_map.mp hv
    have n1:=(neg f hf).mpr lu
    have p1:=(pos g hg).mpr lv
    refine ⟨qr (crR f g r),List.mem_map.mpr ⟨_,(mem _).mpr (.inr ⟨f,⟨hf,n1⟩,g,⟨⟨hg,p1⟩,(C.near hf hg (ne n1 p1)).mpr nr⟩,rfl⟩),rfl⟩,fun i hi=>?_⟩
    rw [(crow hf n1 hg p1).2.2 i hi]
    exact e i hi
 ·rcases List.mem_append.mp he with he | he
  ·exact C.el e he
  ·rw [List.mem_singleton.mp he]; exact ⟨lr,hr⟩
 ·rw [le] at hk
  by_cases z:k < ess.length
  ·have e1:(ess ++ [r]).getD k []=ess.getD k []:=by rw [List.getD_eq_getElem?_getD,List.getElem?_append_left z,← List.getD_eq_getElem?_getD]
   rw [e1]
   exact C.ed k z x
  ·have e2:k=ess.length:=by omega
   subst e2
   have e1:(ess ++ [r]).getD ess.length []=r:=by rw [List.getD_eq_getElem?_getD,List.getElem?_append_right (Nat.le_refl _)]; simp
   rw [e1,hc]
end
end Sb
namespace Sb
open PySem L2
theorem sQ_at (f:Pt) {k:Nat}:∀ {n:Nat},k < n->sQ n (fun i=>if i=k then f i else 0)=f k
 | 0,h=>absurd h (by omega)
 | n + 1,h=>by
  show sQ n (fun i=>if i=k then f i else 0) + (if n=k then f n else 0)=f k
  by_cases e:n=k
  ·subst e
   rw [if_pos rfl,sQ_zero fun i hi=>if_neg (by omega)]
   grind
  ·rw [if_neg e,sQ_at f (n:=n) (by omega)]
   grind
def uP (n w:Nat):List Rat:=papR n (some fun k=>decide (k=w))
def paps (n:Nat):List (List Rat):=(List.range n).map (uP n)
theorem uP_at {n w k:Nat} (h:k < n):qr (uP n w) k=if k=w then 1 else 0:=by
 unfold uP
 rw [qr_pap h]
 show (if decide (k=w)=true then _ else _)=_
 by_cases e:k=w
 ·rw [if_pos e,if_pos (decide_eq_true e)]
 ·rw [if_neg e,decide_eq_false e,if_neg Bool.false_ne_true]
theorem dq_uP {n w:Nat} (x:Pt) (h:w < n):dq n x (qr (uP n w))=x w:=by
 unfold dq
 rw [← sQ_at x h]
 exact sQ_congr fun k hk=>by
  rw [uP_at hk]
  by_cases e:k=w
  ·rw [if_pos e,if_pos e]; grind
  ·rw [if_neg e,if_neg e]; grind
theorem paps_cor {n:Nat} {c:Nat->Pt} (hcu:∀ k,k < n->∀ x:Pt,dq n x (c k)=-x k):CorR n (paps n) c (paps n):=by
 have lp:(paps n).length=n:=by unfold paps; simp
 have mem:∀ f,f ∈ paps n ↔ ∃ w,w < n/\uP n w=f:=fun f=>by
  unfold paps
  rw [List.mem_map]
  exact ⟨fun ⟨w,h,e⟩=>⟨w,List.mem_range.mp h,e⟩,fun ⟨w,h,e⟩=>⟨w,List.mem_range.mpr h,e⟩⟩
 refine ⟨?_,fun f hf=>?_,fun f hf=>?_,?_,fun f hf=>?_,fun k hk x=>?_⟩
 ·unfold paps
  rw [List.nodup_iff_pairwise_ne,List.pairwise_map]
  refine (List.nodup_iff_pairwise_ne.mp List.nodup_range).imp_of_mem fun {a b} ha hb hne e=>hne ?_
  have h:=uP_at (w:=a) (List.mem_range.mp ha)
  rw [e,uP_at (List.mem_range.mp ha),if_pos rfl] at h
  by_cases z:a=b
  ·exact z
  ·rw [if_neg z] at h; grind
 ·obtain ⟨w,_,rfl⟩:=(mem f).mp hf
  exact papR_len _ _
 ·obtain ⟨w,_,rfl⟩:=(mem f).mp hf
  exact lows_pap _ _
 ·rw [lp]
  refine ⟨fun v hv=>?_,fun x X=>?_⟩
  ·obtain ⟨f,hf,rfl⟩:=List.mem_map.mp hv
   obtain ⟨w,hw,rfl⟩:=(mem f).mp hf
   refine ⟨⟨fun k hk=>?_,?_⟩,fun d s0 al i hi=>?_⟩
   ·rw [hcu k hk,uP_at hk]
    split <;> grind
   ·have:=sQ_at (fun _=>(1:QQ)) hw
    rw [← this]
    exact sQ_congr fun k hk=>uP_at hk
   ·have z:∀ k,k < n->k ≠ w->d k=0:=fun k hk ne=>by
     have:=al k hk (by rw [hcu k hk,uP_at hk,if_neg ne]; grind)
     rw [hcu k hk] at this
     grind
    by_cases e:i=w
    ·subst e
     have h2:sQ n (fun k=>if k=i then d k else 0)=sQ n d:=sQ_congr fun k hk=>by
      by_cases e:k=i
      ·rw [if_pos e]
      ·rw [if_neg e,z k hk e]
     rw [sQ_at d hi,s0] at h2
     exact h2
    ·exact z i hi e
  ·have ex:∃ w,w < n/\x w ≠ 0:=Classical.byContradiction fun q=>by
    have:sQ n x=0:=sQ_zero fun k hk=>Classical.byContradiction fun y=>q ⟨k,hk,y⟩
    have:=X.inn.one
    grind
   obtain ⟨w,hw,nw⟩:=ex
   have z:∀ j,j < n->j ≠ w->x j=0:=fun j hj ne=>Classical.byContradiction fun nj=>by
    have h:=X.st (fun i=>(if i=w then 1 else 0) + (if i=j then -1 else 0)) (by
     have a:=sQ_add (fun i=>if i=w then (1:QQ) else 0) (fun i=>if i=j then (-1:QQ) else 0) n
     rw [a,sQ_at (fun _=>(1:QQ)) hw,sQ_at (fun _=>(-1:QQ)) hj]
     grind) (fun k hk e=>by
     rw [hcu k hk] at e ⊢
     have k1:k ≠ w:=fun y=>nw (by rw [← y]; grind)
     have k2:k ≠ j:=fun y=>nj (by rw [← y]; grind)
     simp only [if_neg k1,if_neg k2]
     grind) w hw
    simp only [if_pos,if_neg (Ne.symm ne)] at h
    grind
   have xw:x w=1:=by
    have:=sQ_at x hw
    rw [← this,← X.inn.one]
    exact sQ_congr fun k hk=>by
     by_cases e:k=w
     ·rw [if_pos e]
     ·rw [if_neg e,z k hk e]
   refine ⟨qr (uP n w),List.mem_map.mpr ⟨_,(mem _).mpr ⟨w,hw,rfl⟩,rfl⟩,fun i hi=>?_⟩
   rw [uP_at hi]
   by_cases e:i=w
   ·rw [if_pos e,e,xw]
   ·rw [if_neg e,z i hi e]
 ·obtain ⟨w,_,rfl⟩:=(mem f).mp hf
  exact ⟨lows_pap _ _,papR_len _ _⟩
 ·rw [lp] at hk
  have e:(paps n).getD k []=uP n k:=by
   unfold paps
   rw [List.getD_eq_getElem?_getD,List.getElem?_map,List.getElem?_range hk]
   rfl
  rw [e,dq_uP x hk,hcu k hk]
  constructor
  ·intro y; grind
  ·intro y; rw [y]; grind
end Sb
namespace Sb
open PySem L2
section
variable {n:Nat} {ess fss:List (List Rat)} {c:Nat->Pt} {f:List Rat}
abbrev edP (ess:List (List Rat)) (k:Nat):Pt:=qr (ess.getD k [])
theorem CorR.stuck (C:CorR n ess c fss) (hf:f ∈ fss):Stuck n ess.length (edP ess) (qr f)/\sQ n (qr f)=1:=by
 have X:=C.cors.vx (qr f) (List.mem_map.mpr ⟨f,hf,rfl⟩)
 refine ⟨fun d s0 al=>X.st d s0 fun k hk z=>?_,X.inn.one⟩
 exact (C.ed k hk d).mpr (al k hk ((C.ed k hk _).mp z))
theorem rep_q {N:Nat} {D:Int} {Ws:List Int} {e:List Rat} (h:RepL N D Ws e) {k:Nat} (hk:k < e.length):∃ W:Int,Bd N W/\qr e k * (D:QQ)=W:=by
 have hw:k < Ws.length:=by rw [h.len]; exact hk
 obtain ⟨e1,b,l⟩:=h.at_ k Ws[k] e[k] (by simp [hw]) (by simp [hk])
 refine ⟨Ws[k],b,?_⟩
 have e2:qr e k=qv e[k]:=by unfold qr; simp [List.getD,hk]
 rw [e2]
 unfold qv
 have b1:=qc_ne l.pos
 have e3:((e[k].1:Int):QQ) * (D:QQ)=((Ws[k]:Int):QQ) * ((e[k].2:Int):QQ):=by rw [← _root_.Rat.intCast_mul,← _root_.Rat.intCast_mul,e1]
 grind
theorem row_of {N:Nat} {S:Int} {C:Nat->Int} (lf:Lows f) (hl:f.length=n) (hS:S ≠ 0) (bS:Bd N S) (bC:∀ k,k < n->Bd N (C k)) (h:∀ k,k < n->qr f k * (S:QQ)=C k):RowN N n f:=by
 have key:∀ (S:Int) (C:Nat->Int),0 < S->Bd N S->(∀ k,k < n->Bd N (C k))->(∀ k,k < n->qr f k * (S:QQ)=C k)->RowN N n f:=fun S C pS bS bC h=>by
  obtain ⟨Ws,p⟩:=RepL.each pS bS (rs:=f) fun r hr=>by
   obtain ⟨k,ek⟩:=List.getElem?_of_mem hr
   have hk:k < f.length:=(List.getElem?_eq_some_iff.mp ek).1
   have e2:qr f k=qv r:=by unfold qr; rw [List.getD_eq_getElem?_getD,ek]; rfl
   have l:=lf r hr
   refine ⟨C k,?_,bC k (by omega),l⟩
   have e:=h k (by omega)
   rw [e2] at e
   unfold qv at e
   have b1:=qc_ne l.pos
   have e3:((r.1:Int):QQ) * (S:QQ)=((C k:Int):QQ) * ((r.2:Int):QQ):=by grind
   rw [← _root_.Rat.intCast_mul,← _root_.Rat.intCast_mul] at e3
   exact _root_.Rat.intCast_inj.mp e3
  exact ⟨hl,S,Ws,p⟩
 by_cases z:0 < S
 ·exact key S C z bS bC h
 ·refine key (-S) (fun k=>-C k) (by omega) bS.neg (fun k hk=>(bC k hk).neg) fun k hk=>?_
  rw [_root_.Rat.intCast_neg,_root_.Rat.intCast_neg,← h k hk]
  grind
theorem i_ne {z:Int} {q:QQ} (h:(z:QQ)=q) (n:q ≠ 0):z ≠ 0:=fun e=>n (by rw [← h,e]; rfl)
theorem CorR.small {N:Nat} (C:CorR n ess c fss) (hn:n=2 \/ n=3) (he:∀ e ∈ ess,RowN N n e) (hf:f ∈ fss):RowN (2 * N + 3) n f:=by
 obtain ⟨st,s1⟩:=C.stuck hf
 have lf:=C.low f hf
 have hl:=C.len f hf
 have eE:∀ k,k < ess.length->RowN N n (ess.getD k []):=fun k hk=>by
  have:ess.getD k []=ess[k]:=by simp [List.getD,hk]
  rw [this]; exact he _ (List.getElem_mem hk)
 rcases hn with rfl | rfl
 ·obtain ⟨k,hk,z,ne⟩:=stuck_two st
  obtain ⟨a0,a1⟩:=two_at s1 z
  obtain ⟨l,D,Ws,R⟩:=eE k hk
  obtain ⟨W0,b0,e0⟩:=rep_q R (k:=0) (by omega)
  obtain ⟨W1,b1,e1⟩:=rep_q R (k:=1) (by omega)
  have hD:=qc_ne R.pos
  have eS:((W1 - W0:Int):QQ)=(edP ess k 1 - edP ess k 0) * (D:QQ):=by rw [_root_.Rat.intCast_sub,← e0,← e1]; grind
  have nS:(edP ess k 1 - edP ess k 0) * (D:QQ) ≠ 0:=fun y=>by
   rcases _root_.Rat.mul_eq_zero.mp y with y | y
   ·exact ne y
   ·exact hD y
  refine row_of (C:=fun i=>if i=0 then W1 else -W0) lf hl (i_ne eS nS) ((Bd.sub b1 b0).mono (by omega)) (fun i hi=>?_) fun i hi=>?_
  ·show Bd _ (if i=0 then W1 else -W0)
   split
   ·exact b1.mono (by omega)
   ·exact b0.neg.mono (by omega)
  ·rw [eS]
   match i,hi with
   | 0,_ =>
    show qr f 0 * _=((W1:Int):QQ)
    rw [← e1]; grind
   | 1,_ =>
    show qr f 1 * _=((-W0:Int):QQ)
    rw [_root_.Rat.intCast_neg,← e0,a1]; grind
 ·obtain ⟨j,hj,k,hk,zj,zk,ne⟩:=stuck_three st
  obtain ⟨a0,a1,a2⟩:=three_at s1 zj zk
  obtain ⟨l,D,Ws,R⟩:=eE j hj
  obtain ⟨l',D',Zs,R'⟩:=eE k (by omega)
  obtain ⟨W0,b0,e0⟩:=rep_q R (k:=0) (by omega)
  obtain ⟨W1,b1,e1⟩:=rep_q R (k:=1) (by omega)
  obtain ⟨W2,b2,e2⟩:=rep_q R (k:=2) (by omega)
  obtain ⟨Z0,d0,g0⟩:=rep_q R' (k:=0) (by omega)
  obtain ⟨Z1,d1,g1⟩:=rep_q R' (k:=1) (by omega)
  obtain ⟨Z2,d2,g2⟩:=rep_q R' (k:=2) (by omega)
  have hD:=qc_ne R.pos
  have hD':=qc_ne R'.pos
  have q0:((W1 * Z2 - W2 * Z1:Int):QQ)=cr0 (edP ess j) (edP ess k) * ((D:QQ) * (D':QQ)):=by
   rw [_root_.Rat.intCast_sub,_root_.Rat.intCast_mul,_root_.Rat.intCast_mul,← e1,← e2,← g1,← g2]; unfold cr0; grind
  have q1:((W2 * Z0 - W0 * Z2:Int):QQ)=cr1 (edP ess j) (edP ess k) * ((D:QQ) * (D':QQ)):=by
   rw [_root_.Rat.intCast_sub,_root_.Rat.intCast_mul,_root_.Rat.intCast_mul,← e0,← e2,← g0,← g2]; unfold cr1; grind
  have q2:((W0 * Z1 - W1 * Z0:Int):QQ)=cr2 (edP ess j) (edP ess k) * ((D:QQ) * (D':QQ)):=by
   rw [_root_.Rat.intCast_sub,_root_.Rat.intCast_mul,_root_.Rat.intCast_mul,← e0,← e1,← g0,← g1]; unfold cr2; grind
  have B0:Bd (2 * N + 1) (W1 * Z2 - W2 * Z1):=(Bd.sub (b1.mul d2) (b2.mul d1)).mono (by omega)
  have B1:Bd (2 * N + 1) (W2 * Z0 - W0 * Z2):=(Bd.sub (b2.mul d0) (b0.mul d2)).mono (by omega)
  have B2:Bd (2 * N + 1) (W0 * Z1 - W1 * Z0):=(Bd.sub (b0.mul d1) (b1.mul d0)).mono (by omega)
  generalize W1 * Z2 - W2 * Z1=C0 at *
  generalize W2 * Z0 - W0 * Z2=C1 at *
  generalize W0 * Z1 - W1 * Z0=C2 at *
  have eS:((C0 + C1 + C2:Int):QQ)=crS (edP ess j) (edP ess k) * ((D:QQ) * (D':QQ)):=by
   rw [_root_.Rat.intCast_add,_root_.Rat.intCast_add,q0,q1,q2]; unfold crS; grind
  have nS:crS (edP ess j) (edP ess k) * ((D:QQ) * (D':QQ)) ≠ 0:=fun y=>by
   rcases _root_.Rat.mul_eq_zero.mp y with y | y
   ·exact ne y
   ·rcases _root_.Rat.mul_eq_zero.mp y with y | y
    ·exact hD y
    ·exact hD' y
  refine row_of (C:=fun i=>if i=0 then C0 else if i=1 then C1 else C2) lf hl (i_ne eS nS) ((Bd.add (Bd.add B0 B1) (B2.mono (by omega))).mono (by omega)) (fun i hi=>?_) fun i hi=>?_
  ·show Bd _ (if i=0 then C0 else if i=1 then C1 else C2)
   split
   ·exact B0.mono (by omega)
   ·split
    ·exact B1.mono (by omega)
    ·exact B2.mono (by omega)
  ·rw [eS]
   match i,hi with
   | 0,_ =>
    show qr f 0 * _=((C0:Int):QQ)
    rw [q0,← a0]; grind
   | 1,_ =>
    show qr f 1 * _=((C1:Int):QQ)
    rw [q1,← a1]; grind
   | 2,_ =>
    show qr f 2 * _=((C2:Int):QQ)
    rw [q2,← a2]; grind
theorem few_of {P:List (Nat × Nat)} (nd:fss.Nodup) (R:List Rat->Nat × Nat->Prop) (hR:∀ f ∈ fss,∃ p ∈ P,R f p) (inj:∀ f ∈ fss,∀ g ∈ fss,∀ p,R f p->R g p->f=g):fss.length<=P.length:=by
 have hR':∀ f:List Rat,∃ p:Nat × Nat,f ∈ fss->p ∈ P/\R f p:=fun f=>by
  by_cases h:f ∈ fss
  ·obtain ⟨p,h1,h2⟩:=hR f h; exact ⟨p,fun _=>⟨h1,h2⟩⟩
  ·exact ⟨(0,0),fun z=>absurd z h⟩
 have hF:=fun f=>Classical.choose_spec (hR' f)
 have nd2:(fss.map fun f=>Classical.choose (hR' f)).Nodup:=by
  rw [List.nodup_iff_pairwise_ne,List.pairwise_map]
  refine (List.nodup_iff_pairwise_ne.mp nd).imp_of_mem fun {a b} ha hb hne e=>hne ?_
  have h1:=(hF a ha).2
  have h2:=(hF b hb).2
  rw [← e] at h2
  exact inj a ha b hb _ h1 h2
 have:=nodup_le nd2 (M:=P) fun x hx=>by
  obtain ⟨f,hf,rfl⟩:=List.mem_map.mp hx
  exact (hF f hf).1
 simpa using this
theorem CorR.few (C:CorR n ess c fss) (hn:n=2 \/ n=3) (hm:ess.length<=10):fss.length<=45:=by
 rcases hn with rfl | rfl
 ·have:=few_of (P:=(List.range ess.length).map fun k=>(k,k)) C.nd (fun f p=>p.1 < ess.length/\dq 2 (qr f) (edP ess p.1)=0/\edP ess p.1 1 - edP ess p.1 0 ≠ 0) (fun f hf=>by
   obtain ⟨k,hk,z,ne⟩:=stuck_two (C.stuck hf).1
   exact ⟨(k,k),List.mem_map.mpr ⟨k,List.mem_range.mpr hk,rfl⟩,hk,z,ne⟩) (fun f hf g hg p ⟨_,z1,ne⟩ ⟨_,z2,_⟩=>by
   obtain ⟨a0,a1⟩:=two_at (C.stuck hf).2 z1
   obtain ⟨b0,b1⟩:=two_at (C.stuck hg).2 z2
   have e0:qr f 0=qr g 0:=by
    have:(qr f 0 - qr g 0) * (edP ess p.1 1 - edP ess p.1 0)=0:=by grind
    have:=(_root_.Rat.mul_eq_zero.mp this).resolve_right ne
    grind
   refine qr_eq (C.low f hf) (C.low g hg) (C.len f hf) (C.len g hg) fun i hi=>?_
   match i,hi with
   | 0,_=>exact e0
   | 1,_=>rw [a1,b1,e0])
  rw [List.length_map,List.length_range] at this
  omega
 ·have:=few_of (P:=(List.range ess.length).flatMap fun j=>(List.range j).map fun k=>(j,k)) C.nd (fun f p=>dq 3 (qr f) (edP ess p.1)=0/\dq 3 (qr f) (edP ess p.2)=0/\crS (edP ess p.1) (edP ess p.2) ≠ 0) (fun f hf=>by
   obtain ⟨j,hj,k,hk,z1,z2,ne⟩:=stuck_three (C.stuck hf).1
   exact ⟨(j,k),List.mem_flatMap.mpr ⟨j,List.mem_range.mpr hj,List.mem_map.mpr ⟨k,List.mem_range.mpr hk,rfl⟩⟩,z1,z2,ne⟩) (fun f hf g hg p ⟨x1,x2,ne⟩ ⟨y1,y2,_⟩=>by
   obtain ⟨a0,a1,a2⟩:=three_at (C.stuck hf).2 x1 x2
   obtain ⟨b0,b1,b2⟩:=three_at (C.stuck hg).2 y1 y2
   have k:∀ {a b:QQ},a * crS (edP ess p.1) (edP ess p.2)=b * crS (edP ess p.1) (edP ess p.2)->a=b:=fun {a b} h=>by
    have:(a - b) * crS (edP ess p.1) (edP ess p.2)=0:=by grind
    have:=(_root_.Rat.mul_eq_zero.mp this).resolve_right ne
    grind
   refine qr_eq (C.low f hf) (C.low g hg) (C.len f hf) (C.len g hg) fun i hi=>?_
   match i,hi with
   | 0,_=>exact k (a0.trans b0.symm)
   | 1,_=>exact k (a1.trans b1.symm)
   | 2,_=>exact k (a2.trans b2.symm))
  have le:∀ m:Nat,m<=10->((List.range m).flatMap fun j=>(List.range j).map fun k=>(j,k)).length<=45:=by decide
  exact Nat.le_trans this (le _ hm)
end
end Sb
namespace Sb
open PySem PySem.Spec PyProof.Rows L2
def bndC (n:Nat) (gs:List (List Rat)) (k:Nat):Pt:=if k < n then fun i=>if i=k then -1 else 0 else qr (gs.getD (k - n) [])
theorem bnd_un {n:Nat} {gs:List (List Rat)} {k:Nat} (hk:k < n) (x:Pt):dq n x (bndC n gs k)=-x k:=by
 unfold bndC dq
 rw [if_pos hk]
 have:=sQ_at (fun i=>-x i) hk
 rw [← this]
 exact sQ_congr fun i _=>by
  by_cases e:i=k
  ·rw [if_pos e,if_pos e]; grind
  ·rw [if_neg e,if_neg e]; grind
theorem bnds_of {n m:Nat} {gs:List (List Rat)} (h:n<=m):Bnds n m (bndC n gs):=⟨h,fun i hi x=>bnd_un hi x⟩
theorem uP_row {n w:Nat}:RowN 1 n (uP n w):=by
 refine row_of (S:=1) (C:=fun k=>if k=w then 1 else 0) (lows_pap _ _) (papR_len _ _) (by decide) (by show (1:Int).natAbs < 2 ^ 1; decide) (fun k _=>?_) fun k hk=>?_
 ·show Bd 1 (if k=w then 1 else 0)
  split
  ·show (1:Int).natAbs < 2 ^ 1; decide
  ·show (0:Int).natAbs < 2 ^ 1; decide
 ·rw [uP_at hk]
  show _=((if k=w then (1:Int) else 0:Int):QQ)
  split
  ·show (1:QQ) * ((1:Int):QQ)=((1:Int):QQ); grind
  ·show (0:QQ) * ((1:Int):QQ)=((0:Int):QQ); grind
theorem RowN.mono {m n c:Nat} {r:List Rat} (h:RowN m c r) (k:m<=n):RowN n c r:=by
 obtain ⟨l,D,Ws,R⟩:=h
 exact ⟨l,D,Ws,R.mono k⟩
theorem CorR.perm {n:Nat} {ess fss gss:List (List Rat)} {c:Nat->Pt} (C:CorR n ess c fss) (p:gss.Perm fss):CorR n ess c gss :=
 ⟨p.nodup_iff.mpr C.nd,fun f hf=>C.len f (p.mem_iff.mp hf),fun f hf=>C.low f (p.mem_iff.mp hf),⟨fun v hv=>C.cors.vx v ((p.map qr).mem_iff.mp hv),fun x X=>by
  obtain ⟨v,hv,e⟩:=C.cors.all x X
  exact ⟨v,(p.map qr).mem_iff.mpr hv,e⟩⟩,C.el,C.ed⟩
section
variable {P:Program} {w:World} {K:PySem.W.Frag} {mg:Str->Option Value} {base:Heap}
theorem ev_one:∀ {n i:Nat},i < n->evI n (fun k=>decide (k=i))=[(i:Int)]
 | 0,_,h=>absurd h (by omega)
 | n + 1,i,h=>by
  have z:∀ m,m<=i->(List.range m).filter (fun k=>decide (k=i))=[]:=fun m hm=>by
   rw [List.filter_eq_nil_iff]
   intro k hk
   have:=List.mem_range.mp hk
   simp; omega
  unfold evI
  rw [List.range_succ,List.filter_append,List.map_append]
  by_cases e:i=n
  ·subst e
   rw [z i (Nat.le_refl _)]
   simp
  ·have:=ev_one (n:=n) (i:=i) (by omega)
   unfold evI at this
   rw [this]
   have e2:¬ n=i:=fun y=>e y.symm
   simp [e2]
inductive spCorners (K:PySem.W.Frag) (T:Addr) (vs:List V) (H:Hp) (Q:VK) (_z3:XK):Prop
 | mk (l:Addr) (n N M:Nat) (os:List Offr) (zz0:vs=[.int (n:Int),.ref l]) (zz1:n=2 \/ n=3) (zz2:OffsAt K H l n os) (zz3:os.length<=100) (zz4:M<=4000) (zz5:∀ o ∈ os,GoodO M o) (zz6:(gainsP os os.length).length<=6) (zz7:∀ g ∈ gainsP os os.length,RowN N n g) (zz8:1<=N) (zz9:N<=190) (zz10:H T=some (.tbl #[]))
  (zz11:∀ (d:Addr) (H':Hp) (rss:List (List Rat)),SameX T H H'->RowsAt K H' d rss->CorR n (paps n ++ gainsP os os.length) (bndC n (gainsP os os.length)) rss->Q (.ref d) H')
theorem scCorners:FnScope ["count","offers","papers","found","edges","row"] ["count","offers"] (defScope sCorners):=⟨rfl,rfl,rfl,by decide +kernel,rfl,by decide +kernel,by decide +kernel⟩
theorem okCorners {Tb:Addr} (D:Def K mg "corners" sCorners ["count","offers"]) (T0:Blt mg) (hPaperOf:Has P w K mg base 3 "paper_of" ["count","event"] (spPaper K)) (hGains:Has P w K mg base 5 "gains" ["offers"] (spGainsP K)) (hCutOff:Has P w K mg base 6 "cut_off" ["found","edges","row"] (spCutOff K) true) (hRising:Has P w K mg base 6 "rising" ["rows"] (spRising K Tb)) :
  Has P w K mg base 7 "corners" ["count","offers"] (spCorners K Tb) true:=by
 refine D.has fun f fd F=>F.ok scCorners (fun vs H Q E h=>?_) (fun cdv A outer s H vs Q E hr h=>?_)
 ·obtain ⟨l,n,N,M,os,rfl,_⟩:=h
  rfl
 ·obtain ⟨l,n,N,M,os,rfl,hn,hO,hz,hM,hG,hg6,hgN,hN1,hN,hT,k⟩:=h
  have sc:=scCorners
  have T:=T0
  have nd1:(["world","count"]:List Str).Nodup:=by decide +kernel
  refine ⟨_,(pss_cons (ps_setC (i:=2) (N:=["world","count"]) (k:=1) (fv:=[0]) sc.nd rfl (Or.inl rfl) rfl (pi_range1 rfl T.range (pa_cons (pv 0) pa_nil))
   (fun _ _ _ _ _=>pg_name (i:=0) nd1 rfl (Or.inl rfl)) (fun _ _ _ _ _=>pts_nil) (fun _ _ _ _ _=>(pe_use hPaperOf (hr.mono (by decide)) rfl (pa_cons (pv 1) (pa_cons (pe_tup (pa_cons (pv 0) pa_nil)) pa_nil)))) weak_name)
   (pss_cons (ps_set (i:=3) sc.nd rfl (Or.inl rfl) (pv 2))
   (pss_cons (ps_set (i:=4) sc.nd rfl (Or.inl rfl) (pv 2))
   (pss_cons (ps_for PassesOwn.never rfl (pi_list (pe_use hGains (hr.mono (by decide)) rfl (pa_cons (pv 1) pa_nil))) (pg_name (i:=5) sc.nd rfl (Or.inl rfl))
    (pss_cons (ps_set (i:=3) sc.nd rfl (Or.inl rfl) (pe_useS hCutOff (hr.mono (by decide)) rfl (pa_cons (pv 3) (pa_cons (pv 4) (pa_cons (pv 5) pa_nil)))))
    (pss_one (ps_set (i:=4) sc.nd rfl (Or.inl rfl) (pe_op op_cat (pv 4) (pe_lst (pa_cons (pv 5) pa_nil)))))))
   (pss_one (ps_ret (pe_use hRising (hr.mono (by decide)) rfl (pa_cons (pv 3) pa_nil)))))))),?_⟩
  have n3:n<=3:=by rcases hn with h | h <;> omega
  have n2:2<=n:=by rcases hn with h | h <;> omega
  refine seq_r (asg_r ?_)
  refine ⟨_,rfl,(n:Int),rfl,(by omega),(by omega),fun d hd=>?_⟩
  have et:(n:Int).toNat=n:=by omega
  rw [et]
  refine ⟨n,fun i ys H'=>Same H H'/\∃ bs:List Addr,ys=bs.map V.ref/\Paired (RowAt K H') bs ((List.range i).map (uP n)),size1000 (by omega),⟨Same.new hd,[],rfl,.nil⟩,?_,?_⟩
  ·rintro i ys H1 hi ⟨S1,bs,rfl,P1⟩ hd1
   refine ⟨hi,?_⟩
   rintro x H3 ⟨rfl,rfl⟩
   refine nameyes ?_
   refine ⟨_,rfl,_,rfl,(by show 1<=sizeLine; decide),fun p hp=>?_⟩
   have S3:Same H3 (upd H3 p (.tup [.int (0 + (i:Int))])):=Same.new hp
   have e0:(0 + (i:Int))=((i:Nat):Int):=by omega
   have t3:SqT K (upd H3 p (.tup [.int (0 + (i:Int))])) p [V.int ((i:Nat):Int)]:=by rw [e0]; exact SqT.of upd_same
   refine ⟨n,.ref p,some fun k=>decide (k=i),rfl,⟨p,rfl,by rw [ev_one hi]; exact t3⟩,by omega,by omega,fun c4 H4 S4 r4=>?_⟩
   have hd4:=S4 _ _ (S3 _ _ hd1)
   have E5:Ext H4 (upd H4 d (.lst (bs.map V.ref ++ [V.ref c4]))):=Ext.upd hd4
   refine ⟨hd4,upd_same2 (S1.trans (S3.trans S4)) hd,bs ++ [c4],by simp,?_⟩
   rw [List.range_succ,List.map_append]
   exact Paired.appP (rows_ext P1 ((Ext.same (S3.trans S4)).trans E5)) (.cons (r4.ext E5) .nil)
  ·rintro ys H1 ⟨S1,bs,rfl,P1⟩ hd1
   refine ⟨Nat.le_refl _,?_⟩
   obtain ⟨ov,oq,op⟩:=hO
   refine name_r ?_
   dsimp only
   refine seq_r (asg_r ⟨_,rfl,name_r ?_⟩)
   dsimp only
   refine seq_r (asg_r ⟨_,rfl,name_r ?_⟩)
   dsimp only
   refine seq_r ⟨_,rfl,l,n,M,os,rfl,⟨ov,S1 _ _ oq,offs_ext op (Ext.same S1)⟩,hz,by omega,hM,hG,fun dg H2 fg S2 hR=>?_⟩
   obtain ⟨as,qg,Pg⟩:=hR
   generalize gainsP os os.length=gs at *
   have lg:=Paired.length Pg
   have lpa:(paps n).length=n:=by unfold paps; simp
   have S12:=S1.trans S2
   have eN:∀ i e',e' ∈ paps n ++ gs.take i->RowN N n e':=fun i e' he=>by
    rcases List.mem_append.mp he with he | he
    ·unfold paps at he
     obtain ⟨w0,_,rfl⟩:=List.mem_map.mp he
     exact uP_row.mono hN1
    ·exact hgN e' (List.mem_of_mem_take he)
   refine ⟨dg,rfl,⟨_,SqL.of qg⟩,?_⟩
   refine for_list (K:=K) (xs:=as.map V.ref) (fun i σ H'=>Same H2 H'/\∃ (lf le:Addr) (af ae:List Addr) (fss:List (List Rat)) (x:Option V),σ=[some (.int (n:Int)),some (.ref l),some (.ref d),some (.ref lf),some (.ref le),x]/\H' lf=some (.lst (af.map V.ref))/\Paired (RowAt K H') af fss/\H' le=some (.lst (ae.map V.ref))/\Paired (RowAt K H') ae (paps n ++ gs.take i)/\CorR n (paps n ++ gs.take i) (bndC n gs) fss)
    ⟨Same.refl _,d,d,bs,bs,paps n,none,rfl,S2 _ _ hd1,rows_ext P1 (Ext.same S2),S2 _ _ hd1,by rw [List.take_zero,List.append_nil]; exact rows_ext P1 (Ext.same S2),by rw [List.take_zero,List.append_nil]; exact paps_cor (c:=bndC n gs) fun k hk x=>bnd_un hk x⟩ (fun i σ H' _ h=>SqL.of (h.1 _ _ qg)) ?_ ?_
   ·rintro i x σ H3 hx ⟨S3,lf,le,af,ae,fss,x0,rfl,qf,Pf,qe,Pe,C⟩
    have hi:i < as.length:=by have:=(List.getElem?_eq_some_iff.mp hx).1; simpa using this
    have ea:as[i]?=some as[i]:=by simp [hi]
    have ez:gs[i]?=some (gs[i]'(by omega)):=by simp
    have hgd:gs.getD i []=gs[i]'(by omega):=by simp [List.getD,show i < gs.length by omega]
    generalize as[i]=a at ea
    generalize (gs[i]'(by omega))=g at ez hgd
    rw [List.getElem?_map,ea] at hx
    cases hx
    have mg':=List.mem_of_getElem? ez
    have ra:=(Paired.getB Pg ea ez).ext (Ext.same S3)
    have le1:(paps n ++ gs.take i).length=n + i:=by rw [List.length_append,lpa,List.length_take]; omega
    have few:=C.few hn (by omega)
    have rg:=hgN g mg'
    have lrg:Lows g:=by obtain ⟨_,D1,W1,R1⟩:=rg; exact fun r hr=>(R1.good r hr).low
    have C':CorR n ((paps n ++ gs.take i) ++ [g]) (bndC n gs) (cutC fss (paps n ++ gs.take i) g):=C.cut (by rw [le1]; exact bnds_of (by omega)) lrg rg.1 fun x=>by
     rw [le1]
     unfold bndC
     rw [if_neg (by omega),Nat.add_sub_cancel_left,hgd]
    refine name_r ?_
    refine seq_r (asg_r ?_)
    refine ⟨_,rfl,_,rfl,_,rfl,lf,le,a,af,ae,fss,paps n ++ gs.take i,g,2 * N + 3,n,rfl,qf,Pf,qe,Pe,ra,by omega,by omega,fun f hf=>C.small hn (eN i) hf,fun f hf=>(eN i f hf).mono (by omega),rg.mono (by omega),C.nd,by omega,by omega,fun d4 H4 S4 hR4=>?_⟩
    obtain ⟨a4,q4,P4⟩:=hR4
    refine name_r ?_
    dsimp only
    refine asg_r ?_
    refine ⟨_,rfl,_,rfl,(by show 1<=sizeLine; decide),fun p hp=>?_⟩
    have S5:=Same.new (o:=.lst [V.ref a]) hp
    have lae:=Paired.length Pe
    refine ⟨le,p,ae.map V.ref,[.ref a],rfl,rfl,S5 _ _ (S4 _ _ qe),upd_same,Nat.le_trans (show _<=1000 by rw [List.length_map]; simp only [List.length_cons,List.length_nil]; omega) (by decide),fun q hq=>?_⟩
    have S6:=Same.new (o:=.lst (ae.map V.ref ++ [V.ref a])) hq
    have S46:=S4.trans (S5.trans S6)
    refine name_r ⟨S3.trans S46,d4,q,a4,ae ++ [a],_,_,rfl,S6 _ _ (S5 _ _ q4),rows_ext P4 (Ext.same (S5.trans S6)),by rw [upd_same,List.map_append]; rfl,?_,?_⟩
    ·rw [take_succ' ez,← List.append_assoc]
     exact Paired.appP (rows_ext Pe (Ext.same S46)) (.cons (ra.ext (Ext.same S46)) .nil)
    ·rw [take_succ' ez,← List.append_assoc]
     exact C'
   ·rintro σ H3 ⟨S3,lf,le,af,ae,fss,x0,rfl,qf,Pf,qe,Pe,C⟩
    rw [List.length_map,lg,List.take_length] at C
    have le1:(paps n ++ gs).length=n + gs.length:=by rw [List.length_append,lpa]
    have few:=C.few hn (by omega)
    have eN':∀ e' ∈ paps n ++ gs,RowN N n e':=fun e' he=>eN gs.length e' (by rw [List.take_length]; exact he)
    refine ⟨_,rfl,lf,af,fss,n,2 * N + 3,rfl,qf,Pf,by omega,C.len,by omega,fun r hr=>?_,by omega,(S12.trans S3) _ _ hT,fun d' H' as' rss' SX q' P' pm _=>?_⟩
    ·obtain ⟨_,D1,W1,R1⟩:=C.small hn eN' hr
     exact R1.good
    ·exact k d' H' rss' ((SameX.of (S12.trans S3)).trans SX) ⟨as',q',P'⟩ (C.perm pm)
end
end Sb
namespace Sb
open PySem PySem.Spec PyProof.Rows L2
section
variable {X:Cx} {K:PySem.W.Frag}
end
section
variable {P:Program} {w:World} {K:PySem.W.Frag} {mg:Str->Option Value} {base:Heap}
inductive spIsRow (K:PySem.W.Frag) (vs:List V) (H:Hp) (Q:VK) (_z3:XK):Prop
 | mk (a:Addr) (c n:Nat) (rs:List Rat) (zz0:vs=[.ref a,.int (c:Int)]) (zz1:RowAt K H a rs) (zz2:rs.length=c) (zz3:(∀ r ∈ rs,Good n r)) (zz4:n<=8000) (zz5:∀ H',Same H H'->Q (.bl true) H')
theorem scIsRow:FnScope ["_law_found","_law_count","_law_one"] ["_law_found","_law_count"] (defScope sIsRow):=⟨rfl,rfl,rfl,by decide +kernel,rfl,by decide +kernel,by decide +kernel⟩
theorem okIsRow (D:Def K mg "_law_is_row" sIsRow ["_law_found","_law_count"]) (T:Blt mg) (hLawIsRatio:Has P w K mg base 3 "_law_is_ratio" ["_law_found"] (spIsRt K)):Has P w K mg base 4 "_law_is_row" ["_law_found","_law_count"] (spIsRow K):=by
 refine D.has fun f fd F=>F.ok scIsRow (fun vs H Q E h=>?_) (fun cdv A outer s H vs Q E hr h=>?_)
 ·obtain ⟨a,c,n,rs,rfl,_⟩:=h
  rfl
 ·obtain ⟨a,c,n,rs,rfl,⟨xs,hxs,hrs⟩,lr,g,hn,k⟩:=h
  have sc:=scIsRow
  refine ⟨_,(pss_cons (ps_if (PW.pt (pw_or (pt_not (pt_val (pe_callB call_isinstT rfl T.isinstance PyProof.Rows.boot_isinstance (pa_cons (pv 0) (pa_cons (pe_ty T.tuple PyProof.Rows.boot_tuple) pa_nil))))) (pw_or1 (pt_cmpR op_ne (pe_callB call_len_seq rfl T.len boot_len (pa_cons (pv 0) pa_nil)) (pv 1) (nomark _)))))
    (pss_one (ps_ret pe_bl))
    pss_nil)
   (pss_cons (ps_for PassesOwn.never rfl (pi_tup (pv 0)) (pg_name (i:=2) sc.nd rfl (Or.inl rfl))
    (pss_one (ps_if (pt_not (pt_val (pe_use hLawIsRatio (hr.mono (by decide)) rfl (pa_cons (pv 2) pa_nil))))
     (pss_one (ps_ret pe_bl))
     pss_nil)))
   (pss_one (ps_ret pe_bl)))),?_⟩
  have lx:=hrs.len
  refine ⟨_,rfl,_,_,_,_,rfl,hxs,kit_same,_,rfl,iteF ?_⟩
  refine ⟨_,rfl,a,_,rfl,.inr hxs,_,rfl,rfl,_,rfl,iteNS (by rw [show xs.length=c by omega]) ?_⟩
  refine ⟨_,rfl,a,rfl,⟨_,hxs⟩,for_tup (K:=K) (a:=a) (xs:=xs) (fun i σ H'=>Same H H'/\∃ (x:Option V),σ=[some (.ref a),some (.int (c:Int)),x]) ⟨Same.refl _,none,rfl⟩ (fun i σ H' _ h=>sameT h.1 hxs) ?_ ?_⟩
  ·rintro i x σ H2 hix ⟨S2,x1,rfl⟩
   obtain ⟨r,er,b,rfl,hb⟩:=(hrs.ext (Ext.same S2)).back hix
   refine ⟨_,rfl,b,r,n,rfl,hb,g r (List.mem_of_getElem? er),hn,fun H3 S3=>⟨_,rfl,iteF ?_⟩⟩
   exact ⟨S2.trans S3,_,rfl⟩
  ·rintro σ H2 ⟨S2,x1,rfl⟩
   exact k _ S2
end
end Sb
namespace Sb
open PySem L2
section
variable {P:Program} {w:World} {K:PySem.W.Frag} {mg:Str->Option Value} {base:Heap}
def fitB (gs:List (List Rat)) (f:List Rat):Bool:=(f.all fun x=>!decide (x.1 < 0)) && (gs.all fun g=>!decide (0 < (mn f g).1)) && decide (sumR f=(1,1))
inductive spFitsN (K:PySem.W.Frag) (vs:List V) (H:Hp) (Q:VK) (_z3:XK):Prop
 | mk (a l:Addr) (c N n:Nat) (us:List Rat) (rss:List (List Rat)) (zz0:vs=[.ref a,.ref l]) (zz1:RowAt K H a us) (zz2:RowsAt K H l rss) (zz3:RowN N c us) (zz4:∀ g ∈ rss,RowN n c g) (zz5:n + N + 10<=4000) (zz6:c<=100) (zz7:∀ (H':Hp),Same H H'->Q (.bl (fitB rss us)) H')
theorem scFitsN:FnScope ["_law_weights_here","_law_rows","_law_some","_law_one","_law_row_here"] ["_law_weights_here","_law_rows"] (defScope sFits):=⟨rfl,rfl,rfl,by decide +kernel,rfl,by decide +kernel,by decide +kernel⟩
set_option maxHeartbeats 800000 in
theorem okFitsN (D:Def K mg "_law_fits" sFits ["_law_weights_here","_law_rows"]) (T:Blt mg) (hLawPlus:Has P w K mg base 3 "_law_plus" ["_law_one","_law_other"] (spTwo K addR)) (hLawMean:Has P w K mg base 4 "_law_mean" ["_law_weights_here","_law_row_here"] (spMeanP K)):Has P w K mg base 5 "_law_fits" ["_law_weights_here","_law_rows"] (spFitsN K):=by
 refine D.has fun f fd F=>F.ok scFitsN (fun vs H Q E h=>?_) (fun cdv A outer s H vs Q E hr h=>?_)
 ·obtain ⟨a,l,c,N,n,us,rss,rfl,_⟩:=h
  rfl
 ·obtain ⟨a,l,c,N,n,us,rss,rfl,hA,⟨ads,hl,hP⟩,⟨lu,D1,Us,rU⟩,hrs,hN,hc,k⟩:=h
  obtain ⟨xs,hxs,hus⟩:=hA
  have hU:=Nat.lt_of_succ_lt (hu_of hr)
  have sc:=scFitsN
  refine ⟨_,(pss_cons (ps_set (i:=2) sc.nd rfl (Or.inl rfl) (pe_tup (pa_cons pe_int (pa_cons pe_int pa_nil))))
   (pss_cons (ps_for PassesOwn.never rfl (pi_tup (pv 0)) (pg_name (i:=3) sc.nd rfl (Or.inl rfl))
    (pss_cons (ps_if (pt_cmpR op_lt (pe_ix ix_p0 (pv 3) pe_int (fun _ _=>rfl)) pe_int (nomark _))
     (pss_one (ps_ret pe_bl))
     pss_nil)
    (pss_one (ps_set (i:=2) sc.nd rfl (Or.inl rfl) (pe_use hLawPlus (hr.mono (by decide)) rfl (pa_cons (pv 2) (pa_cons (pv 3) pa_nil)))))))
   (pss_cons (ps_for PassesOwn.never rfl (pi_list (pv 1)) (pg_name (i:=4) sc.nd rfl (Or.inl rfl))
    (pss_one (ps_if (pt_cmpR op_gt (pe_ix ix_p0 (pe_use hLawMean (hr.mono (by decide)) rfl (pa_cons (pv 0) (pa_cons (pv 4) pa_nil))) pe_int (fun _ _=>rfl)) pe_int (nomark _))
     (pss_one (ps_ret pe_bl))
     pss_nil)))
   (pss_one (ps_ret (pe_cmpR (op_eqI (K:=K) hU) (pv 2) (pe_tup (pa_cons pe_int (pa_cons pe_int pa_nil))) (nomark _))))))),?_⟩
  have lp:=Paired.length hP
  have lx:=hus.len
  refine ⟨(by show 2<=sizeLine; decide),fun p hp=>?_⟩
  have S0:Same H (upd H p (.tup [.int 0,.int 1])):=Same.new hp
  refine ⟨_,rfl,a,rfl,⟨_,sameT S0 hxs⟩,for_tup (K:=K) (a:=a) (xs:=xs) (fun i σ H'=>Same H H'/\(∀ x ∈ us.take i,¬ x.1 < 0)/\∃ (p:Addr) (x:Option V),σ=[some (.ref a),some (.ref l),some (.ref p),x,none]/\SqT K H' p [.int (sumR (us.take i)).1,.int (sumR (us.take i)).2]) ⟨S0,fun x hx=>by simp at hx,p,none,rfl,SqT.of upd_same⟩ (fun i σ H' _ h=>sameT h.1 hxs) ?_ ?_⟩
  ·rintro i x σ H2 hix ⟨S2,nn,p2,x1,rfl,sqp⟩
   obtain ⟨r,er,b,rfl,hb⟩:=(hus.ext (Ext.same S2)).back hix
   have hm:=List.mem_of_getElem? er
   have g:=rU.good r hm
   refine ⟨_,rfl,b,_,_,rfl,rfl,hb,_,_,rfl,rfl,_,rfl,?_⟩
   by_cases e0:r.1 < 0
   ·rw [decide_eq_true e0]
    have fz:fitB rss us=false:=by
     unfold fitB
     have:(us.all fun x=>!decide (x.1 < 0))=false:=by
      rw [List.all_eq_false]
      exact ⟨r,hm,by simp [e0]⟩
     rw [this]
     rfl
    rw [fz] at k
    exact iteT (k _ S2)
   ·rw [decide_eq_false e0]
    refine iteF ?_
    have gs:=(rU.take i).sumGood (k:=10) (by rw [List.length_take]; omega)
    replace gs:Good (N + 10) (sumR (us.take i)):=gs
    refine ⟨_,rfl,_,rfl,p2,b,_,r,N + 10,rfl,sqp,hb,gs,g.mono (by omega),by omega,fun p3 H3 f3 S3 e3=>?_⟩
    refine ⟨S2.trans S3,fun x hx=>?_,p3,_,rfl,?_⟩
    ·rw [take_succ' er] at hx
     rcases List.mem_append.mp hx with hx | hx
     ·exact nn x hx
     ·rw [List.mem_singleton.mp hx]; exact e0
    ·rw [sumR_take er]
     exact SqT.of e3
  ·rintro σ H2 ⟨S2,nn,p2,x1,rfl,sqp⟩
   rw [List.take_of_length_le (by omega)] at sqp nn
   have f1:(us.all fun x=>!decide (x.1 < 0))=true:=by
    rw [List.all_eq_true]
    exact fun x hx=>by simp; have:=nn x hx; omega
   refine ⟨_,rfl,l,rfl,⟨_,SqL.of (S2 _ _ hl)⟩,for_list (K:=K) (a:=l) (xs:=ads.map V.ref) (fun i σ H'=>Same H2 H'/\(∀ g ∈ rss.take i,¬ 0 < (mn us g).1)/\∃ (x:Option V),σ=[some (.ref a),some (.ref l),some (.ref p2),x1,x]) ⟨Same.refl _,fun g hg=>by simp at hg,none,rfl⟩ (fun i σ H' _ h=>SqL.of (h.1 _ _ (S2 _ _ hl))) ?_ ?_⟩
   ·rintro i x σ H3 hix ⟨S3,bel,x3,rfl⟩
    rw [List.getElem?_map] at hix
    cases ea:ads[i]? with
    | none=>rw [ea] at hix; cases hix
    | some ar =>
     rw [ea] at hix
     cases hix
     have hia:i < ads.length:=(List.getElem?_eq_some_iff.mp ea).1
     have hir:i < rss.length:=by omega
     have er:rss[i]?=some rss[i]:=by simp [hir]
     generalize rss[i]=g at er
     have S03:=S2.trans S3
     obtain ⟨zs,hzs,hrz⟩:=(Paired.getB hP ea er).same S03
     have hm:=List.mem_of_getElem? er
     obtain ⟨lr,D2,Zs,rz⟩:=hrs _ hm
     refine ⟨_,rfl,_,rfl,a,ar,xs,zs,us,g,N,n,D1,D2,Us,Zs,rfl,.inr (sameT S03 hxs),hus.ext (Ext.same S03),.inr hzs,hrz,by omega,by omega,rU,rz,by omega,fun cm H4 S4 e4=>?_⟩
     refine ⟨cm,_,_,rfl,rfl,e4,_,_,rfl,rfl,_,rfl,?_⟩
     refine ite2 (fun h=>?_) (fun h=>?_)
     ·have h':0 < (mn us g).1:=of_decide_eq_true h
      have fz:fitB rss us=false:=by
       unfold fitB
       have:(rss.all fun g=>!decide (0 < (mn us g).1))=false:=by
        rw [List.all_eq_false]
        exact ⟨g,hm,by simp [h']⟩
       rw [this,Bool.and_false]
       rfl
      rw [fz] at k
      exact k _ ((S2.trans S3).trans S4)
     ·refine ⟨S3.trans S4,fun y hy=>?_,_,rfl⟩
      rw [take_succ' er] at hy
      rcases List.mem_append.mp hy with hy | hy
      ·exact bel y hy
      ·rw [List.mem_singleton.mp hy]
       exact fun z=>h (decide_eq_true z)
   ·rintro σ H3 ⟨S3,bel,x3,rfl⟩
    rw [List.length_map,lp,List.take_length] at bel
    have f2:(rss.all fun g=>!decide (0 < (mn us g).1))=true:=by
     rw [List.all_eq_true]
     exact fun x hx=>by simp; have:=bel x hx; omega
    refine ⟨_,rfl,(by show 2<=sizeLine; decide),fun p3 hp3=>?_⟩
    have S4:Same H3 (upd H3 p3 (.tup [.int 1,.int 1])):=Same.new hp3
    refine ⟨p2,p3,[_,_],[1,1],rfl,rfl,sameT (S3.trans S4) sqp,SqT.of upd_same,?_⟩
    have e1:decide ([(sumR us).1,(sumR us).2]=[1,1])=fitB rss us:=by
     unfold fitB
     rw [f1,f2,Bool.true_and,Bool.true_and,decide_eq_decide]
     constructor
     ·intro z
      injection z with z1 z2
      injection z2 with z2 _
      exact Prod.ext z1 z2
     ·intro z; rw [z]
    rw [e1]
    exact k _ ((S2.trans S3).trans S4)
end
end Sb
namespace Sb
open PySem L2
section
variable {P:Program} {w:World} {K:PySem.W.Frag} {mg:Str->Option Value} {base:Heap}
inductive spCross (K:PySem.W.Frag) (vs:List V) (H:Hp) (Q:VK) (_z3:XK):Prop
 | mk (a b:Addr) (j k N:Nat) (us rs:List Rat) (zz0:vs=[.ref a,.ref b,.int (j:Int),.int (k:Int)]) (zz1:RowAt K H a us) (zz2:RowAt K H b rs) (zz3:j < us.length) (zz4:k < us.length) (zz5:us.length=rs.length) (zz6:∀ r ∈ us,Good N r) (zz7:∀ r ∈ rs,Good N r) (zz8:N<=1000)
  (zz9:∀ (c:Addr) (H':Hp),Same H H'->SqT K H' c [.int (subR (mulR' (us.getD j (0,1)) (rs.getD k (0,1))) (mulR' (us.getD k (0,1)) (rs.getD j (0,1)))).1,.int (subR (mulR' (us.getD j (0,1)) (rs.getD k (0,1))) (mulR' (us.getD k (0,1)) (rs.getD j (0,1)))).2]->Q (.ref c) H')
theorem scCross:FnScope ["_law_one","_law_other","_law_j","_law_k"] ["_law_one","_law_other","_law_j","_law_k"] (defScope sCross):=⟨rfl,rfl,rfl,by decide +kernel,rfl,by decide +kernel,by decide +kernel⟩
theorem okCross (D:Def K mg "_law_cross" sCross ["_law_one","_law_other","_law_j","_law_k"]) (hLawMinus:Has P w K mg base 3 "_law_minus" ["_law_one","_law_other"] (spTwo K subR)) (hLawTimes:Has P w K mg base 3 "_law_times" ["_law_one","_law_other"] (spTwo K mulR')):Has P w K mg base 4 "_law_cross" ["_law_one","_law_other","_law_j","_law_k"] (spCross K):=by
 refine D.has fun f fd F=>F.ok scCross (fun vs H Q E h=>?_) (fun cdv A outer s H vs Q E hr h=>?_)
 ·obtain ⟨a,b,j,k,N,us,rs,rfl,_⟩:=h
  rfl
 ·obtain ⟨a,b,j,k,N,us,rs,rfl,⟨xa,qa,ra⟩,⟨xb,qb,rb⟩,hj,hk,hl,gu,gr,hN,kk⟩:=h
  have sc:=scCross
  refine ⟨_,(pss_one (ps_ret (pe_use hLawMinus (hr.mono (by decide)) rfl (pa_cons (pe_use hLawTimes (hr.mono (by decide)) rfl (pa_cons (pe_ix ix_tup (pv 0) (pv 2) (fun _ _=>rfl)) (pa_cons (pe_ix ix_tup (pv 1) (pv 3) (fun _ _=>rfl)) pa_nil))) (pa_cons (pe_use hLawTimes (hr.mono (by decide)) rfl (pa_cons (pe_ix ix_tup (pv 0) (pv 3) (fun _ _=>rfl)) (pa_cons (pe_ix ix_tup (pv 1) (pv 2) (fun _ _=>rfl)) pa_nil))) pa_nil))))),?_⟩
  have la:=ra.len
  have lb:=rb.len
  have at_:∀ {i:Nat} {zs:List Rat} {ys:List V} {H1:Hp},Same H H1->Rs K H zs ys->i < zs.length->∃ x,ys[i]?=some (V.ref x)/\SqT K H1 x [.int (zs.getD i (0,1)).1,.int (zs.getD i (0,1)).2]:=fun {i zs ys H1} S h hi=>by
   have er:zs[i]?=some zs[i]:=by simp [hi]
   obtain ⟨x1,ex,c,rfl,sq⟩:=h.at er
   have e:zs.getD i (0,1)=zs[i]:=by simp [List.getD,hi]
   rw [e]
   exact ⟨c,ex,sameT S sq⟩
  have gd:∀ {i:Nat} {zs:List Rat},(∀ r ∈ zs,Good N r)->i < zs.length->Good N (zs.getD i (0,1)):=fun {i zs} h hi=>by
   have e:zs.getD i (0,1)=zs[i]:=by simp [List.getD,hi]
   rw [e]; exact h _ (List.getElem_mem hi)
  obtain ⟨x1,ex1,s1⟩:=at_ (Same.refl H) ra hj
  obtain ⟨x2,ex2,s2⟩:=at_ (Same.refl H) rb (i:=k) (by omega)
  obtain ⟨x3,ex3,s3⟩:=at_ (Same.refl H) ra hk
  obtain ⟨x4,ex4,s4⟩:=at_ (Same.refl H) rb (i:=j) (by omega)
  have g1:=gd gu hj
  have g2:=gd gr (i:=k) (by omega)
  have g3:=gd gu hk
  have g4:=gd gr (i:=j) (by omega)
  refine ⟨_,rfl,_,rfl,a,xa,_,_,rfl,rfl,qa,atI_nat ex1,_,rfl,_,rfl,b,xb,_,_,rfl,rfl,qb,atI_nat ex2,?_⟩
  refine ⟨x1,x2,_,_,N,rfl,s1,s2,g1,g2,by omega,fun c1 H1 f1 S1 q1=>?_⟩
  refine ⟨_,rfl,_,rfl,a,xa,_,_,rfl,rfl,sameT S1 qa,atI_nat ex3,_,rfl,_,rfl,b,xb,_,_,rfl,rfl,sameT S1 qb,atI_nat ex4,?_⟩
  refine ⟨x3,x4,_,_,N,rfl,sameT S1 s3,sameT S1 s4,g3,g4,by omega,fun c2 H2 f2 S2 q2=>?_⟩
  exact ⟨c1,c2,_,_,2 * N,rfl,SqT.of (S2 _ _ q1),SqT.of q2,(mul_good' g1 g2).mono (by omega),(mul_good' g3 g4).mono (by omega),by omega,fun c3 H3 f3 S3 q3=>kk c3 H3 (S1.trans (S2.trans S3)) (SqT.of q3)⟩
end
end Sb
namespace Sb
open PySem L2
theorem nrm_neg {p q:Int} (h:q ≠ 0):nrm (-p) (-q)=nrm p q:=by
 have l1:Low (nrm (-p) (-q)):=low_nrm (by omega)
 have l2:Low (nrm p q):=low_nrm h
 have c1:=n_cross (-p) (-q)
 have c2:=n_cross p q
 refine qv_inj l1 l2 ?_
 have b1:=qc_ne l1.pos
 have b2:=qc_ne l2.pos
 have hq:(q:QQ) ≠ 0:=fun z=>h (_root_.Rat.intCast_inj.mp (show ((q:Int):QQ)=((0:Int):QQ) by rw [z]; rfl))
 have e1:((nT (-p) (-q):Int):QQ) * ((-q:Int):QQ)=((-p:Int):QQ) * ((nB (-p) (-q):Int):QQ):=by rw [← _root_.Rat.intCast_mul,← _root_.Rat.intCast_mul,c1]
 have e2:((nT p q:Int):QQ) * ((q:Int):QQ)=((p:Int):QQ) * ((nB p q:Int):QQ):=by rw [← _root_.Rat.intCast_mul,← _root_.Rat.intCast_mul,c2]
 rw [_root_.Rat.intCast_neg,_root_.Rat.intCast_neg] at e1
 have b1':((nB (-p) (-q):Int):QQ) ≠ 0:=b1
 have b2':((nB p q:Int):QQ) ≠ 0:=b2
 show ((nT (-p) (-q):Int):QQ) / ((nB (-p) (-q):Int):QQ)=((nT p q:Int):QQ) / ((nB p q:Int):QQ)
 grind
section
variable {P:Program} {w:World} {K:PySem.W.Frag} {mg:Str->Option Value} {base:Heap}
theorem scPartedL:FnScope ["_law_one","_law_other","_law_top","_law_bottom"] ["_law_one","_law_other"] (defScope sParted):=⟨rfl,rfl,rfl,by decide +kernel,rfl,by decide +kernel,by decide +kernel⟩
theorem okPartedN (D:Def K mg "_law_parted" sParted ["_law_one","_law_other"]) (hLawLow:Has P w K mg base 2 "_law_low" ["_law_top","_law_bottom"] spLow):Has P w K mg base 3 "_law_parted" ["_law_one","_law_other"] (spPart0 K):=by
 refine D.has fun f fd F=>F.ok scPartedL (fun vs H Q E h=>?_) (fun cdv A outer s H vs Q E hr h=>?_)
 ·obtain ⟨a,b,r,s,n,rfl,_⟩:=h
  rfl
 ·obtain ⟨a,b,r,s,n,rfl,hA,hB,gr,gs,hn,hs,k⟩:=h
  have sc:=scPartedL
  refine ⟨_,(pss_cons (ps_set (i:=2) sc.nd rfl (Or.inl rfl) (pe_op op_mulB (pe_ix ix_p0 (pv 0) pe_int (fun _ _=>rfl)) (pe_ix ix_p1 (pv 1) pe_int (fun _ _=>rfl))))
   (pss_cons (ps_set (i:=3) sc.nd rfl (Or.inl rfl) (pe_op op_mulB (pe_ix ix_p1 (pv 0) pe_int (fun _ _=>rfl)) (pe_ix ix_p0 (pv 1) pe_int (fun _ _=>rfl))))
   (pss_cons (ps_if (pt_cmpR op_lt (pv 3) pe_int (nomark _))
    (pss_one (ps_ret (pe_use hLawLow (hr.mono (by decide)) rfl (pa_cons (pe_un un_neg (pv 2)) (pa_cons (pe_un un_neg (pv 3)) pa_nil)))))
    pss_nil)
   (pss_one (ps_ret (pe_use hLawLow (hr.mono (by decide)) rfl (pa_cons (pv 2) (pa_cons (pv 3) pa_nil)))))))),?_⟩
  have q0:=parR_ne gr.pos hs
  refine ⟨_,rfl,_,_,_,rfl,rfl,hA,_,rfl,_,_,_,rfl,rfl,hB,_,_,rfl,rfl,gr.b1.mulOk gs.b2 (by omega) (by omega),?_⟩
  refine ⟨_,rfl,_,_,_,rfl,rfl,hA,_,rfl,_,_,_,rfl,rfl,hB,_,_,rfl,rfl,gr.b2.mulOk gs.b1 (by omega) (by omega),?_⟩
  refine ⟨_,rfl,_,_,rfl,rfl,_,rfl,?_⟩
  refine ite2 (fun h=>?_) (fun h=>?_)
  ·have h':=of_decide_eq_true h
   refine ⟨_,rfl,_,rfl,_,rfl,_,rfl,_,_,rfl,by omega,by rw [Int.natAbs_neg]; exact log_mul gr.b2 gs.b1 hn,fun c H' f1 S1 e1=>k c H' f1 S1 ?_⟩
   have e:=nrm_neg (p:=r.1 * s.2) q0
   have e2:nT (-(r.1 * s.2)) (-(r.2 * s.1))=(parR r s).1:=congrArg Prod.fst e
   have e3:nB (-(r.1 * s.2)) (-(r.2 * s.1))=(parR r s).2:=congrArg Prod.snd e
   rw [← e2,← e3]
   exact e1
  ·have h':¬ r.2 * s.1 < 0:=fun z=>h (decide_eq_true z)
   exact ⟨_,rfl,_,rfl,_,_,rfl,by omega,log_mul gr.b2 gs.b1 hn,k⟩
def twoR (e:List Rat):Option (List Rat) :=
 if (subR (e.getD 1 (0,1)) (e.getD 0 (0,1))).1=0 then none else some [parR (e.getD 1 (0,1)) (subR (e.getD 1 (0,1)) (e.getD 0 (0,1))),subR (1,1) (parR (e.getD 1 (0,1)) (subR (e.getD 1 (0,1)) (e.getD 0 (0,1))))]
def OptRow (K:PySem.W.Frag) (H:Hp) (o:Option (List Rat)) (v:V):Prop:=match o with
 | none=>v=.non
 | some r=>∃ a,v=.ref a/\RowAt K H a r
theorem rs_two {H:Hp} {e:List Rat} {xs:List V} (h:Rs K H e xs) (l:e.length=2):∃ r0 r1 x0 x1,e=[r0,r1]/\xs=[.ref x0,.ref x1]/\SqT K H x0 [.int r0.1,.int r0.2]/\SqT K H x1 [.int r1.1,.int r1.2]:=by
 cases h with
 | nil=>cases l
 | cons h0 t =>
  cases t with
  | nil=>cases l
  | cons h1 t =>
   cases t with
   | cons _ _=>simp at l
   | nil =>
    obtain ⟨x0,e0,s0⟩:=h0
    obtain ⟨x1,e1,s1⟩:=h1
    exact ⟨_,_,x0,x1,rfl,by rw [e0,e1],s0,s1⟩
inductive spTwoW (K:PySem.W.Frag) (vs:List V) (H:Hp) (Q:VK) (_z3:XK):Prop
 | mk (a:Addr) (e:List Rat) (N:Nat) (zz0:vs=[.ref a]) (zz1:RowAt K H a e) (zz2:e.length=2) (zz3:∀ r ∈ e,Good N r) (zz4:N<=500) (zz5:∀ (v:V) (H':Hp),Same H H'->OptRow K H' (twoR e) v->Q v H')
theorem scTwoW:FnScope ["_law_one","_law_under_all","_law_part"] ["_law_one"] (defScope sTwo):=⟨rfl,rfl,rfl,by decide +kernel,rfl,by decide +kernel,by decide +kernel⟩
theorem okTwoW (D:Def K mg "_law_two" sTwo ["_law_one"]) (hLawMinus:Has P w K mg base 3 "_law_minus" ["_law_one","_law_other"] (spTwo K subR)) (hLawParted:Has P w K mg base 3 "_law_parted" ["_law_one","_law_other"] (spPart0 K)):Has P w K mg base 4 "_law_two" ["_law_one"] (spTwoW K):=by
 refine D.has fun f fd F=>F.ok scTwoW (fun vs H Q E h=>?_) (fun cdv A outer s H vs Q E hr h=>?_)
 ·obtain ⟨a,e,N,rfl,_⟩:=h
  rfl
 ·obtain ⟨a,e,N,rfl,⟨xa,qa,ra⟩,le,ge,hN,k⟩:=h
  obtain ⟨r0,r1,x0,x1,rfl,rfl,s0,s1⟩:=rs_two ra le
  have sc:=scTwoW
  refine ⟨_,(pss_cons (ps_set (i:=1) sc.nd rfl (Or.inl rfl) (pe_use hLawMinus (hr.mono (by decide)) rfl (pa_cons (pe_ix ix_p1 (pv 0) pe_int (fun _ _=>rfl)) (pa_cons (pe_ix ix_p0 (pv 0) pe_int (fun _ _=>rfl)) pa_nil))))
   (pss_cons (ps_if (pt_cmpR op_eq (pe_ix ix_p0 (pv 1) pe_int (fun _ _=>rfl)) pe_int (nomark _))
    (pss_one (ps_ret pe_non))
    pss_nil)
   (pss_cons (ps_set (i:=2) sc.nd rfl (Or.inl rfl) (pe_use hLawParted (hr.mono (by decide)) rfl (pa_cons (pe_ix ix_p1 (pv 0) pe_int (fun _ _=>rfl)) (pa_cons (pv 1) pa_nil))))
   (pss_one (ps_ret (pe_tup (pa_cons (pv 2) (pa_cons (pe_use hLawMinus (hr.mono (by decide)) rfl (pa_cons (pe_tup (pa_cons pe_int (pa_cons pe_int pa_nil))) (pa_cons (pv 2) pa_nil))) pa_nil)))))))),?_⟩
  have g0:=ge r0 (by simp)
  have g1:=ge r1 (by simp)
  have gS:=sub_good' g1 g0
  refine ⟨_,rfl,a,_,_,rfl,rfl,qa,_,rfl,a,_,_,rfl,rfl,qa,?_⟩
  refine ⟨x1,x0,r1,r0,N,rfl,s1,s0,g1,g0,by omega,fun c1 H1 f1 S1 q1=>?_⟩
  have sq1:SqT K H1 c1 [.int (subR r1 r0).1,.int (subR r1 r0).2]:=SqT.of q1
  refine ⟨_,rfl,c1,_,_,rfl,rfl,sq1,rfl,_,rfl,?_⟩
  by_cases z:(subR r1 r0).1=0
  ·refine iteD1 (by rw [z]) ?_
   exact k _ _ S1 (by show OptRow K H1 (if (subR r1 r0).1=0 then none else _) _; rw [if_pos z]; rfl)
  ·refine iteD0 (fun y=>z (V.int.inj y)) ?_
   refine ⟨_,rfl,a,_,_,rfl,rfl,sameT S1 qa,_,rfl,x1,c1,r1,subR r1 r0,2 * N + 1,rfl,sameT S1 s1,sq1,g1.mono (by omega),gS.mono (by omega),by omega,z,fun c2 H2 f2 S2 q2=>?_⟩
   have gP:=par_good g1 gS z
   have one1:Good 1 ((1,1):Rat):=⟨(by show (1:Int).natAbs < 2 ^ 1; decide),(by show (1:Int).natAbs < 2 ^ 1; decide),by decide,by decide⟩
   have sq2:SqT K H2 c2 [.int (parR r1 (subR r1 r0)).1,.int (parR r1 (subR r1 r0)).2]:=SqT.of q2
   refine name_r ?_
   dsimp only
   refine ⟨_,rfl,(by show 2<=sizeLine; decide),fun p hp=>?_⟩
   have S3:=Same.new (o:=.tup [V.int 1,V.int 1]) hp
   refine ⟨_,rfl,p,c2,(1,1),parR r1 (subR r1 r0),3 * N + 2,rfl,SqT.of upd_same,sameT S3 sq2,one1.mono (by omega),gP.mono (by omega),by omega,fun c3 H3 f3 S4 q3=>?_⟩
   refine ⟨(by show 2<=sizeLine; decide),fun p4 hp4=>?_⟩
   have S5:=Same.new (o:=.tup [V.ref c2,V.ref c3]) hp4
   have S25:=S3.trans (S4.trans S5)
   refine k _ _ (S1.trans (S2.trans S25)) ?_
   show OptRow K _ (if (subR r1 r0).1=0 then none else some [parR r1 (subR r1 r0),subR (1,1) (parR r1 (subR r1 r0))]) _
   rw [if_neg z]
   exact ⟨p4,rfl,_,SqT.of upd_same,.cons ⟨c2,rfl,sameT S25 sq2⟩ (.cons ⟨c3,rfl,sameT S5 (SqT.of q3)⟩ .nil)⟩
end
end Sb
namespace Sb
open PySem L2
section
variable {P:Program} {w:World} {K:PySem.W.Frag} {mg:Str->Option Value} {base:Heap}
def crQ (e f:List Rat) (j k:Nat):Rat:=subR (mulR' (e.getD j (0,1)) (f.getD k (0,1))) (mulR' (e.getD k (0,1)) (f.getD j (0,1)))
def crT (e f:List Rat):Rat:=addR (addR (crQ e f 1 2) (crQ e f 2 0)) (crQ e f 0 1)
def threeR (e f:List Rat):Option (List Rat):=if (crT e f).1=0 then none else some ([crQ e f 1 2,crQ e f 2 0,crQ e f 0 1].map fun p=>parR p (crT e f))
inductive spThree (K:PySem.W.Frag) (vs:List V) (H:Hp) (Q:VK) (_z3:XK):Prop
 | mk (a b:Addr) (e f:List Rat) (N:Nat) (zz0:vs=[.ref a,.ref b]) (zz1:RowAt K H a e) (zz2:RowAt K H b f) (zz3:e.length=3) (zz4:f.length=3) (zz5:∀ r ∈ e,Good N r) (zz6:∀ r ∈ f,Good N r) (zz7:N<=200) (zz8:∀ (v:V) (H':Hp),Same H H'->OptRow K H' (threeR e f) v->Q v H')
theorem scThree:FnScope ["_law_one","_law_other","_law_parts","_law_under_all"] ["_law_one","_law_other"] (defScope sThree):=⟨rfl,rfl,rfl,by decide +kernel,rfl,by decide +kernel,by decide +kernel⟩
theorem okThree (D:Def K mg "_law_three" sThree ["_law_one","_law_other"]) (T:Blt mg) (hLawCross:Has P w K mg base 4 "_law_cross" ["_law_one","_law_other","_law_j","_law_k"] (spCross K)) (hLawPlus:Has P w K mg base 3 "_law_plus" ["_law_one","_law_other"] (spTwo K addR)) (hLawParted:Has P w K mg base 3 "_law_parted" ["_law_one","_law_other"] (spPart0 K)):Has P w K mg base 5 "_law_three" ["_law_one","_law_other"] (spThree K):=by
 refine D.has fun f fd F=>F.ok scThree (fun vs H Q E h=>?_) (fun cdv A outer s H vs Q E hr h=>?_)
 ·obtain ⟨a,b,e,f,N,rfl,_⟩:=h
  rfl
 ·obtain ⟨a,b,e,g,N,rfl,ra,rb,le,lf,ge,gf,hN,k⟩:=h
  have sc:=scThree
  have nd1:(["_law_part","_law_under_all"]:List Str).Nodup:=by decide +kernel
  refine ⟨_,(pss_cons (ps_set (i:=2) sc.nd rfl (Or.inl rfl) (pe_lst (pa_cons (pe_use hLawCross (hr.mono (by decide)) rfl (pa_cons (pv 0) (pa_cons (pv 1) (pa_cons pe_int (pa_cons pe_int pa_nil))))) (pa_cons (pe_use hLawCross (hr.mono (by decide)) rfl (pa_cons (pv 0) (pa_cons (pv 1) (pa_cons pe_int (pa_cons pe_int pa_nil))))) (pa_cons (pe_use hLawCross (hr.mono (by decide)) rfl (pa_cons (pv 0) (pa_cons (pv 1) (pa_cons pe_int (pa_cons pe_int pa_nil))))) pa_nil)))))
   (pss_cons (ps_set (i:=3) sc.nd rfl (Or.inr rfl) (pe_use hLawPlus (hr.mono (by decide)) rfl (pa_cons (pe_use hLawPlus (hr.mono (by decide)) rfl (pa_cons (pe_ix ix_list (pv 2) pe_int (fun _ _=>rfl)) (pa_cons (pe_ix ix_list (pv 2) pe_int (fun _ _=>rfl)) pa_nil))) (pa_cons (pe_ix ix_list (pv 2) pe_int (fun _ _=>rfl)) pa_nil))))
   (pss_cons (ps_if (pt_cmpR op_eq (pe_ix ix_p0 (pv 3) pe_int (fun _ _=>rfl)) pe_int (nomark _))
    (pss_one (ps_ret pe_non))
    pss_nil)
   (pss_one (ps_ret (pe_callTy call_tuple_of rfl T.tuple PyProof.Rows.boot_tuple (pa_cons (pe_comp (N:=["_law_part","_law_under_all"]) (k:=1) (fv:=[3]) rfl (pi_list (pv 2))
   (fun _ _ _ _ _=>pg_name (i:=0) nd1 rfl (Or.inl rfl)) (fun _ _ _ _ _=>pts_nil) (fun _ _ _ _ _=>(pe_use hLawParted (hr.mono (by decide)) rfl (pa_cons (pv 0) (pa_cons (pv 1) pa_nil)))) weak_name) pa_nil))))))),?_⟩
  have gd:∀ {i:Nat} {zs:List Rat},(∀ r ∈ zs,Good N r)->i < zs.length->Good N (zs.getD i (0,1)):=fun {i zs} h hi=>by
   have e:zs.getD i (0,1)=zs[i]:=by simp [List.getD,hi]
   rw [e]; exact h _ (List.getElem_mem hi)
  have gc:∀ {i j:Nat},i < 3->j < 3->Good (4 * N + 1) (crQ e g i j):=fun {i j} hi hj=>(sub_good' (mul_good' (gd ge (by omega)) (gd gf (by omega))) (mul_good' (gd ge (by omega)) (gd gf (by omega)))).mono (by omega)
  have g0:=gc (i:=1) (j:=2) (by omega) (by omega)
  have g1:=gc (i:=2) (j:=0) (by omega) (by omega)
  have g2:=gc (i:=0) (j:=1) (by omega) (by omega)
  have gA:=add_good' g0 g1
  have gT:Good (12 * N + 10) (crT e g):=(add_good' gA g2).mono (by omega)
  refine ⟨_,rfl,_,rfl,a,b,1,2,N,e,g,rfl,ra,rb,by omega,by omega,by omega,ge,gf,by omega,fun c0 H0 S0 q0=>?_⟩
  refine ⟨_,rfl,_,rfl,a,b,2,0,N,e,g,rfl,ra.ext (Ext.same S0),rb.ext (Ext.same S0),by omega,by omega,by omega,ge,gf,by omega,fun c1 H1 S1 q1=>?_⟩
  have S01:=S0.trans S1
  refine ⟨_,rfl,_,rfl,a,b,0,1,N,e,g,rfl,ra.ext (Ext.same S01),rb.ext (Ext.same S01),by omega,by omega,by omega,ge,gf,by omega,fun c2 H2 S2 q2=>?_⟩
  refine ⟨(by show 3<=sizeLine; decide),fun l hl=>?_⟩
  have S3:=Same.new (o:=.lst [V.ref c0,V.ref c1,V.ref c2]) hl
  have S03:=S01.trans (S2.trans S3)
  have l3:SqL K (upd H2 l (.lst [V.ref c0,V.ref c1,V.ref c2])) l [V.ref c0,V.ref c1,V.ref c2]:=SqL.of upd_same
  have u0:=sameT (S1.trans (S2.trans S3)) q0
  have u1:=sameT (S2.trans S3) q1
  have u2:=sameT S3 q2
  have hl3:(upd H2 l (.lst [V.ref c0,V.ref c1,V.ref c2])) l=some (.lst [V.ref c0,V.ref c1,V.ref c2]):=upd_same
  generalize upd H2 l (.lst [V.ref c0,V.ref c1,V.ref c2])=H3 at *
  refine name_r ?_
  dsimp only
  refine seq_r (asg_r ?_)
  refine ⟨_,rfl,l,[V.ref c0,V.ref c1,V.ref c2],_,_,rfl,rfl,l3,rfl,_,rfl,l,[V.ref c0,V.ref c1,V.ref c2],_,_,rfl,rfl,l3,rfl,?_⟩
  refine ⟨c0,c1,crQ e g 1 2,crQ e g 2 0,4 * N + 1,rfl,u0,u1,g0,g1,by omega,fun c4 H4 f4 S4 q4=>?_⟩
  refine ⟨_,rfl,l,[V.ref c0,V.ref c1,V.ref c2],_,_,rfl,rfl,sameL S4 l3,rfl,?_⟩
  refine ⟨c4,c2,addR (crQ e g 1 2) (crQ e g 2 0),crQ e g 0 1,8 * N + 3,rfl,SqT.of q4,sameT S4 u2,gA.mono (by omega),g2.mono (by omega),by omega,fun c5 H5 f5 S5 q5=>?_⟩
  have sT:SqT K H5 c5 [.int (crT e g).1,.int (crT e g).2]:=SqT.of q5
  have S35:=S4.trans S5
  refine name_r ?_
  dsimp only
  refine ⟨_,rfl,c5,_,_,rfl,rfl,sT,rfl,_,rfl,?_⟩
  by_cases z:(crT e g).1=0
  ·refine iteD1 (by rw [z]) ?_
   exact k _ _ (S03.trans S35) (by show OptRow K H5 (if (crT e g).1=0 then none else _) _; rw [if_pos z]; rfl)
  ·refine iteD0 (fun y=>z (V.int.inj y)) ?_
   unfold tNext
   dsimp only
   refine ret_r (cb_r (cons_r ?_))
   have hl5:=S35 _ _ hl3
   have R5:Rs K H5 [crQ e g 1 2,crQ e g 2 0,crQ e g 0 1] [V.ref c0,V.ref c1,V.ref c2]:=.cons ⟨c0,rfl,sameT S35 u0⟩ (.cons ⟨c1,rfl,sameT S35 u1⟩ (.cons ⟨c2,rfl,sameT S35 u2⟩ .nil))
   have gP:∀ r ∈ [crQ e g 1 2,crQ e g 2 0,crQ e g 0 1],Good (12 * N + 10) r:=fun r hr=>by
    rcases List.mem_cons.mp hr with rfl | hr
    ·exact g0.mono (by omega)
    ·rcases List.mem_cons.mp hr with rfl | hr
     ·exact g1.mono (by omega)
     ·rw [List.mem_singleton.mp hr]; exact g2.mono (by omega)
   have h3:threeR e g=some ([crQ e g 1 2,crQ e g 2 0,crQ e g 0 1].map fun p=>parR p (crT e g)):=by unfold threeR; rw [if_neg z]
   have ln:[crQ e g 1 2,crQ e g 2 0,crQ e g 0 1].length=3:=rfl
   have lv:[V.ref c0,V.ref c1,V.ref c2].length=3:=rfl
   generalize [crQ e g 1 2,crQ e g 2 0,crQ e g 0 1]=ps at *
   generalize [V.ref c0,V.ref c1,V.ref c2]=xs at *
   refine ⟨_,rfl,l,rfl,⟨_,SqL.of hl5⟩,fun d hd=>?_⟩
   refine ⟨3,fun i ys H6=>Same H5 H6/\Rs K H6 ((ps.take i).map fun p=>parR p (crT e g)) ys,(by decide),⟨Same.new hd,.nil⟩,?_,?_⟩
   ·rintro i ys H6 hi ⟨S6,R6⟩ hd6
    have ex:xs[i]?=some (xs[i]'(by omega)):=by simp
    obtain ⟨r,er,c,ec,sc'⟩:=(Rs.ext R5 (Ext.same S6)).back ex
    refine ⟨⟨_,_,SqL.of (S6 _ _ hl5),ex⟩,?_⟩
    rintro x H7 ⟨rfl,fx⟩
    have ey:=fx _ (SqL.of (S6 _ _ hl5))
    rw [ex,ec] at ey
    cases ey
    refine nameyes ?_
    refine ⟨_,rfl,_,rfl,c,c5,r,crT e g,12 * N + 10,rfl,sc',sameT S6 sT,gP r (List.mem_of_getElem? er),gT,by omega,z,fun c8 H8 f8 S8 q8=>?_⟩
    have hd8:=S8 _ _ hd6
    have E9:Ext H8 (upd H8 d (.lst (ys ++ [V.ref c8]))):=Ext.upd hd8
    refine ⟨hd8,upd_same2 (S6.trans S8) hd,?_⟩
    rw [take_succ' er,List.map_append]
    exact (Rs.ext R6 ((Ext.same S8).trans E9)).snoc ⟨c8,rfl,E9.sq (SqT.of q8)⟩
   ·rintro ys H6 ⟨S6,R6⟩ hd6
    rw [List.take_of_length_le (by omega)] at R6
    refine ⟨⟨_,SqL.of (S6 _ _ hl5),by omega⟩,d,ys,rfl,.inl ⟨SqL.of hd6,fun q hq=>?_⟩⟩
    refine k _ _ (S03.trans (S35.trans (S6.trans (Same.new hq)))) ?_
    rw [h3]
    exact ⟨q,rfl,ys,SqT.of upd_same,R6.ext (Ext.new hq)⟩
end
end Sb
namespace Sb
open PySem L2
section
variable {P:Program} {w:World} {K:PySem.W.Frag} {mg:Str->Option Value} {base:Heap}
def ptsO (n:Nat) (ess:List (List Rat)) (m:Nat):List (Option (List Rat)):=(List.range m).flatMap fun j=>if n=2 then [twoR (ess.getD j [])] else (List.range j).map fun k=>threeR (ess.getD j []) (ess.getD k [])
def ptsR (n:Nat) (ess:List (List Rat)):List (List Rat):=(ptsO n ess ess.length).filterMap id
theorem OptRow.ext {H H':Hp} {o:Option (List Rat)} {v:V} (h:OptRow K H o v) (e:Ext H H'):OptRow K H' o v:=by
 cases o with
 | none=>exact h
 | some r=>obtain ⟨a,e1,h⟩:=h; exact ⟨a,e1,h.ext e⟩
def notN (v:V):Bool:=match v with
 | .non=>false
 | _=>true
theorem opt_filter {H:Hp}:∀ {ys:List V} {os:List (Option (List Rat))},Paired (fun v o=>OptRow K H o v) ys os->∃ bs:List Addr,ys.filter notN=bs.map V.ref/\Paired (RowAt K H) bs (os.filterMap id)
 | _,_,.nil=>⟨[],rfl,.nil⟩
 | y :: ys,o :: os,.cons h t=>by
  obtain ⟨bs,e,p⟩:=opt_filter t
  cases o with
  | none =>
   have h':y=.non:=h
   subst h'
   exact ⟨bs,by rw [List.filter_cons,if_neg (by decide)]; exact e,by simpa using p⟩
  | some r =>
   obtain ⟨a,e1,h2⟩:=h
   subst e1
   exact ⟨a :: bs,by rw [List.filter_cons,if_pos (show notN (V.ref a)=true from rfl),e]; rfl,by simpa using Paired.cons h2 p⟩
theorem ptsO_succ (n:Nat) (ess:List (List Rat)) (m:Nat):ptsO n ess (m + 1)=ptsO n ess m ++ (if n=2 then [twoR (ess.getD m [])] else (List.range m).map fun k=>threeR (ess.getD m []) (ess.getD k [])):=by
 unfold ptsO
 rw [List.range_succ,List.flatMap_append,List.flatMap_cons,List.flatMap_nil,List.append_nil]
inductive spPoints (K:PySem.W.Frag) (vs:List V) (H:Hp) (Q:VK) (_z3:XK):Prop
 | mk (l:Addr) (n N:Nat) (ess:List (List Rat)) (zz0:vs=[.ref l,.int (n:Int)]) (zz1:n=2 \/ n=3) (zz2:RowsAt K H l ess) (zz3:∀ e ∈ ess,e.length=n) (zz4:∀ e ∈ ess,∀ r ∈ e,Good N r) (zz5:N<=200) (zz6:ess.length<=10) (zz7:∀ (d:Addr) (H':Hp),H d=none->Same H H'->RowsAt K H' d (ptsR n ess)->Q (.ref d) H')
theorem scPoints:FnScope ["_law_bounds_here","_law_count","_law_points_here","_law_j","_law_k"] ["_law_bounds_here","_law_count"] (defScope sPoints):=⟨rfl,rfl,rfl,by decide +kernel,rfl,by decide +kernel,by decide +kernel⟩
set_option maxHeartbeats 800000 in
theorem okPoints (D:Def K mg "_law_points" sPoints ["_law_bounds_here","_law_count"]) (T:Blt mg) (hLawTwo:Has P w K mg base 4 "_law_two" ["_law_one"] (spTwoW K)) (hLawThree:Has P w K mg base 5 "_law_three" ["_law_one","_law_other"] (spThree K)):Has P w K mg base 6 "_law_points" ["_law_bounds_here","_law_count"] (spPoints K):=by
 refine D.has fun f fd F=>F.ok scPoints (fun vs H Q E h=>?_) (fun cdv A outer s H vs Q E hr h=>?_)
 ·obtain ⟨l,n,N,ess,rfl,_⟩:=h
  rfl
 ·obtain ⟨l,n,N,ess,rfl,hn,⟨as,hl,hP⟩,hlen,hg,hN,h10,k⟩:=h
  have sc:=scPoints
  have nd1:(["_law_point"]:List Str).Nodup:=by decide +kernel
  refine ⟨_,(pss_cons (ps_set (i:=2) sc.nd rfl (Or.inl rfl) (pe_lst pa_nil))
   (pss_cons (ps_for PassesOwn.never rfl (pi_range1 rfl T.range (pa_cons (pe_callB call_len_seq rfl T.len boot_len (pa_cons (pv 0) pa_nil)) pa_nil)) (pg_name (i:=3) sc.nd rfl (Or.inl rfl))
    (pss_one (ps_if (pt_cmpR op_eq (pv 1) pe_int (nomark _))
     (pss_one (ps_expr (pe_bm PySem.F.plainAttrs_list PySem.F.slot_list_append PySem.F.type_list_append mt_append (pv 2) (pa_cons (pe_use hLawTwo (hr.mono (by decide)) rfl (pa_cons (pe_ix ix_list (pv 0) (pv 3) (fun _ _=>rfl)) pa_nil)) pa_nil))))
     (pss_one (ps_for PassesOwn.never rfl (pi_range1 rfl T.range (pa_cons (pv 3) pa_nil)) (pg_name (i:=4) sc.nd rfl (Or.inl rfl))
      (pss_one (ps_expr (pe_bm PySem.F.plainAttrs_list PySem.F.slot_list_append PySem.F.type_list_append mt_append (pv 2) (pa_cons (pe_use hLawThree (hr.mono (by decide)) rfl (pa_cons (pe_ix ix_list (pv 0) (pv 3) (fun _ _=>rfl)) (pa_cons (pe_ix ix_list (pv 0) (pv 4) (fun _ _=>rfl)) pa_nil))) pa_nil)))))))))
   (pss_one (ps_ret (pe_comp (N:=["_law_point"]) (k:=1) (fv:=[]) rfl (pi_list (pv 2))
   (fun _ _ _ _ _=>pg_name (i:=0) nd1 rfl (Or.inl rfl)) (fun _ _ _ _ _=>pts_one (pt_cmpR op_notN (pv 0) pe_non (nomark _))) (fun _ _ _ _ _=>(pv 0)) weak_name))))),?_⟩
  have lp:=Paired.length hP
  refine seq_r (asg_r ?_)
  refine ⟨(by show 0<=sizeLine; decide),fun d hd=>?_⟩
  have S0:=Same.new (o:=.lst []) hd
  have hd0:(upd H d (.lst [])) d=some (.lst []):=upd_same
  generalize upd H d (.lst [])=H0 at *
  refine name_r ?_
  dsimp only
  have hat:∀ {j:Nat} {H':Hp},j < as.length->Same H H'->∃ a,(as.map V.ref)[j]?=some (V.ref a)/\RowAt K H' a (ess.getD j []):=fun {j H'} hj S=>by
   have ea:as[j]?=some as[j]:=by simp [hj]
   have ez:ess[j]?=some (ess[j]'(by omega)):=by simp
   have hgd:ess.getD j []=ess[j]'(by omega):=by simp [List.getD,show j < ess.length by omega]
   refine ⟨as[j],by rw [List.getElem?_map,ea]; rfl,?_⟩
   rw [hgd]
   exact (Paired.getB hP ea ez).ext (Ext.same S)
  have hmm:∀ {j:Nat},j < as.length->ess.getD j [] ∈ ess:=fun {j} hj=>by
   have hgd:ess.getD j []=ess[j]'(by omega):=by simp [List.getD,show j < ess.length by omega]
   rw [hgd]; exact List.getElem_mem _
  refine seq_r ⟨_,rfl,l,_,rfl,.inl (SqL.of (S0 _ _ hl)),_,rfl,by omega,by rw [List.length_map]; omega,?_⟩
  have et:(((as.map V.ref).length:Nat):Int).toNat=as.length:=by rw [List.length_map]; omega
  rw [et]
  refine for_range (lo:=0) (n:=as.length) (fun i σ H'=>Same H H'/\(∃ ys,H' d=some (.lst ys)/\Paired (fun v o=>OptRow K H' o v) ys (ptsO n ess i)/\ys.length<=i * 20)/\∃ x y,σ=[some (.ref l),some (.int (n:Int)),some (.ref d),x,y]) ⟨S0,⟨[],hd0,.nil,by simp⟩,none,none,rfl⟩ ?_ ?_
  ·rintro i σ H1 hi ⟨S1,⟨ys,q1,P1,l1⟩,x1,y1,rfl⟩
   have e0:(0 + (i:Int))=((i:Nat):Int):=by omega
   rw [e0]
   obtain ⟨a,ea,ra⟩:=hat hi S1
   have me:=hmm hi
   refine name_r ?_
   rcases hn with rfl | rfl
   ·refine ⟨_,rfl,rfl,_,rfl,iteD1 rfl ?_⟩
    refine ⟨_,rfl,.inl ⟨rfl,_,SqL.of q1⟩,?_⟩
    refine ⟨_,rfl,_,rfl,l,_,_,_,rfl,rfl,SqL.of (S1 _ _ hl),atI_nat ea,?_⟩
    refine ⟨a,_,N,rfl,ra,hlen _ me,hg _ me,by omega,fun v H2 S2 o2=>?_⟩
    have q2:=S2 _ _ q1
    have E3:Ext H2 (upd H2 d (.lst (ys ++ [v]))):=Ext.upd q2
    refine ⟨d,ys,v,rfl,rfl,q2,Nat.lt_of_le_of_lt (show ys.length<=1000 by omega) (by decide),upd_same2 (S1.trans S2) hd,⟨ys ++ [v],upd_same,?_,by rw [List.length_append]; simp only [List.length_cons,List.length_nil]; omega⟩,_,_,rfl⟩
    rw [ptsO_succ,if_pos rfl]
    exact Paired.appP (Paired.mapP P1 fun v o h=>h.ext ((Ext.same S2).trans E3)) (.cons (o2.ext E3) .nil)
   ·refine ⟨_,rfl,rfl,_,rfl,iteD0 (fun z=>by injection z with z; omega) ?_⟩
    refine ⟨_,rfl,_,rfl,by omega,by omega,?_⟩
    have et2:((i:Nat):Int).toNat=i:=by omega
    rw [et2]
    refine for_range (lo:=0) (n:=i) (fun j σ H'=>Same H H'/\(∃ ys,H' d=some (.lst ys)/\Paired (fun v o=>OptRow K H' o v) ys (ptsO 3 ess i ++ (List.range j).map fun k=>threeR (ess.getD i []) (ess.getD k []))/\ys.length<=i * 20 + j)/\∃ y,σ=[some (.ref l),some (.int ((3:Nat):Int)),some (.ref d),some (.int (i:Int)),y]) ⟨S1,⟨ys,q1,by simpa using P1,by omega⟩,_,rfl⟩ ?_ ?_
    ·rintro j σ H2 hj ⟨S2,⟨zs,q2,P2,l2⟩,y2,rfl⟩
     have e1:(0 + (j:Int))=((j:Nat):Int):=by omega
     rw [e1]
     obtain ⟨a2,ea2,ra2⟩:=hat (j:=i) hi S2
     obtain ⟨b2,eb2,rb2⟩:=hat (j:=j) (by omega) S2
     have me2:=hmm (j:=j) (by omega)
     refine name_r ?_
     refine ⟨_,rfl,.inl ⟨rfl,_,SqL.of q2⟩,?_⟩
     refine ⟨_,rfl,_,rfl,l,_,_,_,rfl,rfl,SqL.of (S2 _ _ hl),atI_nat ea2,_,rfl,_,rfl,l,_,_,_,rfl,rfl,SqL.of (S2 _ _ hl),atI_nat eb2,?_⟩
     refine ⟨a2,b2,_,_,N,rfl,ra2,rb2,hlen _ me,hlen _ me2,hg _ me,hg _ me2,hN,fun v H3 S3 o3=>?_⟩
     have q3:=S3 _ _ q2
     have E3:Ext H3 (upd H3 d (.lst (zs ++ [v]))):=Ext.upd q3
     refine ⟨d,zs,v,rfl,rfl,q3,Nat.lt_of_le_of_lt (show zs.length<=1000 by omega) (by decide),upd_same2 (S2.trans S3) hd,⟨zs ++ [v],upd_same,?_,by rw [List.length_append]; simp only [List.length_cons,List.length_nil]; omega⟩,_,rfl⟩
     rw [List.range_succ,List.map_append,← List.append_assoc]
     exact Paired.appP (Paired.mapP P2 fun v o h=>h.ext ((Ext.same S3).trans E3)) (.cons (o3.ext E3) .nil)
    ·rintro σ H2 ⟨S2,⟨zs,q2,P2,l2⟩,y2,rfl⟩
     refine ⟨S2,⟨zs,q2,by rw [ptsO_succ,if_neg (by decide)]; exact P2,by omega⟩,_,_,rfl⟩
  ·rintro σ H1 ⟨S1,⟨ys,q1,P1,l1⟩,x1,y1,rfl⟩
   obtain ⟨bs,eb,Pb⟩:=opt_filter P1
   dsimp only
   refine ret_r ?_
   refine comp_filtV (K:=K) (tl:=tVar 2) (k:=1) (fv:=[]) (p:=notN) (fun G g=>⟨_,rfl,g⟩) (SqL.of q1) (by omega) (fun i x H2 G ex S2 hG=>?_) (by simp [comp0]) fun d2 H2 f2 S2 q2=>?_
   ·refine ⟨_,rfl,rfl,_,rfl,?_⟩
    have e:(!decide (x=V.non))=notN x:=by cases x <;> rfl
    rw [e]
    exact hG _ (Same.refl _)
   ·rw [eb] at q2
    rw [lp] at Pb
    exact k d2 H2 (S1.free f2) (S1.trans S2) ⟨bs,q2,rows_ext Pb (Ext.same S2)⟩
end
end Sb
namespace Sb
open PySem PySem.Spec PyProof.Rows L2
theorem call_tuple_ofJ {X:Cx} {K:PySem.W.Frag} (h:X.K=K:=by rfl):CallR X (.type "tuple") (fun xs H Q=>∃ p ys,xs=[V.ref p]/\((SqL K H p ys/\∀ q,H q=none->Q (.ref q) (upd H q (.tup ys))) \/ (SqT K H p ys/\Q (.ref p) H))):=h ▸ call_tuple_of
section
variable {P:Program} {w:World} {K:PySem.W.Frag} {mg:Str->Option Value} {base:Heap}
theorem uP_map (n k:Nat):uP n k=(List.range n).map fun j=>((if j=k then 1 else 0,1):Rat):=by
 refine List.ext_getElem? fun i=>?_
 unfold uP papR cutR
 rw [List.getElem?_mapIdx,List.getElem?_replicate,List.getElem?_map]
 by_cases hi:i < n
 ·rw [if_pos hi,List.getElem?_range hi]
  show some (if decide (i=k)=true then ((1,1):Rat) else (0,1))=some ((if i=k then 1 else 0,1):Rat)
  by_cases e:i=k
  ·rw [decide_eq_true e,if_pos rfl,if_pos e]
  ·rw [decide_eq_false e,if_neg Bool.false_ne_true,if_neg e]
 ·rw [if_neg hi,List.getElem?_eq_none (by simpa using hi)]
  rfl
inductive spBounds (K:PySem.W.Frag) (vs:List V) (H:Hp) (Q:VK) (_z3:XK):Prop
 | mk (l:Addr) (n:Nat) (gs:List (List Rat)) (zz0:vs=[.ref l,.int (n:Int)]) (zz1:n<=100) (zz2:RowsAt K H l gs) (zz3:gs.length<=100) (zz4:∀ (d:Addr) (H':Hp),Same H H'->RowsAt K H' d (paps n ++ gs)->Q (.ref d) H')
theorem scBounds:FnScope ["_law_rows","_law_count","_law_bounds_here"] ["_law_rows","_law_count"] (defScope sBounds):=⟨rfl,rfl,rfl,by decide +kernel,rfl,by decide +kernel,by decide +kernel⟩
theorem okBounds (D:Def K mg "_law_bounds" sBounds ["_law_rows","_law_count"]) (T:Blt mg):Has P w K mg base 1 "_law_bounds" ["_law_rows","_law_count"] (spBounds K):=by
 refine D.has fun f fd F=>F.ok scBounds (fun vs H Q E h=>?_) (fun cdv A outer s H vs Q E hr h=>?_)
 ·obtain ⟨l,n,gs,rfl,_⟩:=h
  rfl
 ·obtain ⟨l,n,gs,rfl,hn,⟨as,hl,hP⟩,hz,k⟩:=h
  have sc:=scBounds
  have nd1:(["_law_k","_law_count"]:List Str).Nodup:=by decide +kernel
  have nd2:(["_law_j","_law_k"]:List Str).Nodup:=by decide +kernel
  refine ⟨_,(pss_cons (ps_setCC (i:=2) (x0:="_law_k") (N:=["_law_k","_law_count"]) (k:=1) (fv:=[1]) sc.nd rfl (Or.inl rfl) rfl (pi_range1 rfl T.range (pa_cons (pv 1) pa_nil))
   (fun _ _ _ _ _=>pg_name (i:=0) nd1 rfl (Or.inr rfl)) (fun _ _ _ _ _=>pts_nil) (fun _ _ _ _ _=>(pe_callTy (call_tuple_ofJ (K:=K)) rfl T.tuple PyProof.Rows.boot_tuple (pa_cons (pe_comp (N:=["_law_j","_law_k"]) (k:=1) (fv:=[0]) rfl (pi_range1 rfl T.range (pa_cons (pv 1) pa_nil))
   (fun _ _ _ _ _=>pg_name (i:=0) nd2 rfl (Or.inl rfl)) (fun _ _ _ _ _=>pts_nil) (fun _ _ _ _ _=>(pe_tup (pa_cons (pe_callTy call_int1 rfl T.int PyProof.Rows.boot_int (pa_cons (pe_cmpR op_eq (pv 0) (pv 1) (nomark _)) pa_nil)) (pa_cons pe_int pa_nil)))) weak_name) pa_nil))) weak_name)
   (pss_one (ps_ret (pe_op op_cat (pv 2) (pv 0))))),?_⟩
  refine seq_r (asg_r ?_)
  refine ⟨_,rfl,(n:Int),rfl,(by omega),(by omega),fun d hd=>?_⟩
  have et:(n:Int).toNat=n:=by omega
  rw [et]
  refine ⟨n,fun i ys H'=>Same H H'/\∃ bs:List Addr,ys=bs.map V.ref/\Paired (RowAt K H') bs ((List.range i).map (uP n)),size1000 (by omega),⟨Same.new hd,[],rfl,.nil⟩,?_,?_⟩
  ·rintro i ys H1 hi ⟨S1,bs,rfl,P1⟩ hd1
   refine ⟨hi,?_⟩
   rintro x H3 ⟨rfl,rfl⟩
   refine nameyes ?_
   refine cb_r (cons_r ?_)
   refine ⟨_,rfl,(n:Int),rfl,(by omega),(by omega),fun d2 hd2=>?_⟩
   rw [et]
   refine ⟨n,fun j ys H'=>Same H3 H'/\Rs K H' ((List.range j).map fun j=>((if j=i then 1 else 0,1):Rat)) ys,size1000 (by omega),⟨Same.new hd2,.nil⟩,?_,?_⟩
   ·rintro j ys H4 hj ⟨S4,R4⟩ hd4
    refine ⟨hj,?_⟩
    rintro x H5 ⟨rfl,rfl⟩
    refine nameyes ?_
    refine ⟨_,rfl,_,rfl,rfl,.inr ⟨_,rfl,(by show 2<=sizeLine; decide),fun p hp=>?_⟩⟩
    have e1:(if decide (V.int (0 + (j:Int))=V.int (0 + (i:Int)))=true then (1:Int) else 0)=if j=i then 1 else 0:=by
     by_cases e:j=i
     ·subst e; rw [decide_eq_true rfl,if_pos rfl,if_pos rfl]
     ·rw [decide_eq_false (fun z=>e (by injection z with z; omega)),if_neg Bool.false_ne_true,if_neg e]
    have S6:=Same.new (o:=.tup [V.int (if decide (V.int (0 + (j:Int))=V.int (0 + (i:Int)))=true then 1 else 0),V.int 1]) hp
    have t6:SqT K (upd H5 p (.tup [V.int (if decide (V.int (0 + (j:Int))=V.int (0 + (i:Int)))=true then 1 else 0),V.int 1])) p [V.int (if j=i then 1 else 0),V.int 1]:=by
     rw [← e1]; exact SqT.of upd_same
    have hd6:=S6 _ _ hd4
    refine ⟨hd6,upd_same2 (S4.trans S6) hd2,?_⟩
    rw [List.range_succ,List.map_append]
    exact (R4.ext ((Ext.same S6).trans (Ext.upd hd6))).snoc ⟨p,rfl,(Ext.upd hd6).sq t6⟩
   ·rintro ys H4 ⟨S4,R4⟩ hd4
    refine ⟨Nat.le_refl _,d2,ys,rfl,.inl ⟨SqL.of hd4,fun q hq=>?_⟩⟩
    rw [← uP_map] at R4
    have hd5:=S4 _ _ hd1
    have S5:=Same.new (o:=.tup ys) hq
    have hd6:=S5 _ _ hd5
    have E6:Ext (upd H4 q (.tup ys)) (upd (upd H4 q (.tup ys)) d (.lst (bs.map V.ref ++ [V.ref q]))):=Ext.upd hd6
    refine ⟨hd6,upd_same2 (S1.trans (S4.trans S5)) hd,bs ++ [q],by simp,?_⟩
    rw [List.range_succ,List.map_append]
    exact Paired.appP (rows_ext P1 ((Ext.same (S4.trans S5)).trans E6)) (.cons ⟨ys,E6.sq (SqT.of upd_same),R4.ext ((Ext.same S5).trans E6)⟩ .nil)
  ·rintro ys H1 ⟨S1,bs,rfl,P1⟩ hd1
   refine ⟨Nat.le_refl _,?_⟩
   refine name_r ?_
   dsimp only
   have l1:=Paired.length P1
   have l2:=Paired.length hP
   rw [List.length_map,List.length_range] at l1
   refine ⟨_,rfl,_,rfl,d,l,bs.map V.ref,as.map V.ref,rfl,rfl,hd1,S1 _ _ hl,Nat.le_trans (show _<=1000 by rw [List.length_map,List.length_map]; omega) (by decide),fun p hp=>?_⟩
   refine k p _ (S1.trans (Same.new hp)) ⟨bs ++ as,by rw [upd_same,List.map_append],?_⟩
   exact Paired.appP (rows_ext P1 (Ext.new hp)) (rows_ext hP ((Ext.same S1).trans (Ext.new hp)))
end
end Sb
namespace Sb
open PySem L2
theorem qr_getD {f:List Rat} (k:Nat):qv (f.getD k (0,1))=qr f k:=rfl
theorem lowS {r s:Rat} (h:Low r) (k:Low s):Low (subR r s):=low_nrm (Int.ne_of_gt (Int.mul_pos h.pos k.pos))
theorem lowA {r s:Rat} (h:Low r) (k:Low s):Low (addR r s):=low_nrm (Int.ne_of_gt (Int.mul_pos h.pos k.pos))
theorem lowM {r s:Rat} (h:Low r) (k:Low s):Low (mulR' r s):=low_nrm (Int.ne_of_gt (Int.mul_pos h.pos k.pos))
theorem top_zero {r:Rat} (h:Low r):r.1=0 ↔ qv r=0:=by
 constructor
 ·intro z; unfold qv; rw [z]; grind
 ·intro z
  have a:=(qv_nn h.pos).mpr (by rw [z]; grind)
  have b:=(qv_np h.pos).mpr (by rw [z]; grind)
  omega
section
variable {e g f:List Rat}
theorem twoR_ok (le:Lows e):(qr e 1 - qr e 0=0->twoR e=none)/\(qr e 1 - qr e 0 ≠ 0->∃ f,twoR e=some f/\Lows f/\f.length=2/\qr f 0 * (qr e 1 - qr e 0)=qr e 1/\qr f 1=1 - qr f 0):=by
 have l0:=lows_at le 0
 have l1:=lows_at le 1
 have ls:=lowS l1 l0
 have q:=qv_sub l1 l0
 rw [qr_getD,qr_getD] at q
 have tz:=top_zero ls
 rw [q] at tz
 unfold twoR
 constructor
 ·intro z; rw [if_pos (tz.mpr z)]
 ·intro z
  have n0:¬ (subR (e.getD 1 (0,1)) (e.getD 0 (0,1))).1=0:=fun y=>z (tz.mp y)
  rw [if_neg n0]
  obtain ⟨lp,qp⟩:=qv_par l1 ls n0
  rw [q,qr_getD] at qp
  have l2:=lowS low11 lp
  have q2:=qv_sub low11 lp
  rw [qv11] at q2
  refine ⟨_,rfl,fun r hr=>?_,rfl,?_,?_⟩
  ·rcases List.mem_cons.mp hr with rfl | hr
   ·exact lp
   ·rw [List.mem_singleton.mp hr]; exact l2
  ·show qv (parR _ _) * _=_
   rw [qp]; grind
  ·exact q2
theorem threeR_ok (le:Lows e) (lg:Lows g):(crS (qr e) (qr g)=0->threeR e g=none)/\(crS (qr e) (qr g) ≠ 0->∃ f,threeR e g=some f/\Lows f/\f.length=3/\qr f 0 * crS (qr e) (qr g)=cr0 (qr e) (qr g)/\qr f 1 * crS (qr e) (qr g)=cr1 (qr e) (qr g)/\qr f 2 * crS (qr e) (qr g)=cr2 (qr e) (qr g)):=by
 have lc:∀ j k,Low (crQ e g j k)/\qv (crQ e g j k)=qr e j * qr g k - qr e k * qr g j:=fun j k=>by
  have a1:=lowM (lows_at le j) (lows_at lg k)
  have a2:=lowM (lows_at le k) (lows_at lg j)
  refine ⟨lowS a1 a2,?_⟩
  show qv (subR _ _)=_
  rw [qv_sub a1 a2,qv_mul (lows_at le j) (lows_at lg k),qv_mul (lows_at le k) (lows_at lg j)]
  rfl
 obtain ⟨x0,y0⟩:=lc 1 2
 obtain ⟨x1,y1⟩:=lc 2 0
 obtain ⟨x2,y2⟩:=lc 0 1
 have lt:Low (crT e g):=lowA (lowA x0 x1) x2
 have qt:qv (crT e g)=crS (qr e) (qr g):=by
  show qv (addR (addR _ _) _)=_
  rw [qv_add (lowA x0 x1) x2,qv_add x0 x1,y0,y1,y2]
  unfold crS cr0 cr1 cr2
  grind
 have tz:=top_zero lt
 rw [qt] at tz
 unfold threeR
 constructor
 ·intro z; rw [if_pos (tz.mpr z)]
 ·intro z
  have n0:¬ (crT e g).1=0:=fun y=>z (tz.mp y)
  rw [if_neg n0]
  have par:∀ {p:Rat},Low p->Low (parR p (crT e g))/\qv (parR p (crT e g)) * crS (qr e) (qr g)=qv p:=fun {p} h=>by
   obtain ⟨lp,qp⟩:=qv_par h lt n0
   rw [qt] at qp
   exact ⟨lp,by rw [qp]; grind⟩
  refine ⟨_,rfl,fun r hr=>?_,rfl,?_,?_,?_⟩
  ·obtain ⟨p,hp,rfl⟩:=List.mem_map.mp hr
   rcases List.mem_cons.mp hp with rfl | hp
   ·exact (par x0).1
   ·rcases List.mem_cons.mp hp with rfl | hp
    ·exact (par x1).1
    ·rw [List.mem_singleton.mp hp]; exact (par x2).1
  ·show qv (parR (crQ e g 1 2) (crT e g)) * _=_
   rw [(par x0).2,y0]; rfl
  ·show qv (parR (crQ e g 2 0) (crT e g)) * _=_
   rw [(par x1).2,y1]; rfl
  ·show qv (parR (crQ e g 0 1) (crT e g)) * _=_
   rw [(par x2).2,y2]; rfl
end
section
variable {n:Nat} {gs fss:List (List Rat)} {f:List Rat}
theorem fit_iff (lf:Lows f) (hl:f.length=n) (hg:∀ g ∈ gs,Lows g/\g.length=n):fitB gs f=true ↔ InP n (n + gs.length) (bndC n gs) (qr f):=by
 unfold fitB
 rw [Bool.and_eq_true,Bool.and_eq_true,List.all_eq_true,List.all_eq_true,decide_eq_true_iff]
 have s1:sumR f=(1,1) ↔ sQ n (qr f)=1:=by
  rw [← hl,← qv_sum lf]
  exact ⟨fun z=>by rw [z]; exact qv11,fun z=>qv_inj (sum_low lf) low11 (by rw [z,qv11])⟩
 have at_:∀ k,k < n->∃ x,x ∈ f/\qr f k=qv x:=fun k hk=>⟨f[k]'(by omega),List.getElem_mem _,by unfold qr; simp [List.getD,show k < f.length by omega]⟩
 have bg:∀ j,dq n (qr f) (bndC n gs (n + j))=dq n (qr f) (qr (gs.getD j [])):=fun j=>by
  unfold bndC
  rw [if_neg (by omega),Nat.add_sub_cancel_left]
 constructor
 ·rintro ⟨⟨h1,h2⟩,h3⟩
  refine ⟨fun k hk=>?_,s1.mp h3⟩
  by_cases z:k < n
  ·rw [bnd_un z]
   obtain ⟨x,hx,e⟩:=at_ k z
   have:=h1 x hx
   have nx:¬ x.1 < 0:=by simpa using this
   have:=(qv_nn (lf x hx).pos).mp (by omega)
   rw [e]; grind
  ·obtain ⟨j,rfl⟩:∃ j,k=n + j:=⟨k - n,by omega⟩
   have hj:j < gs.length:=by omega
   have e:gs.getD j []=gs[j]:=by simp [List.getD,hj]
   rw [bg,e]
   have mg:=List.getElem_mem hj
   have:=h2 _ mg
   have np:¬ 0 < (mn f gs[j]).1:=by simpa using this
   rw [← mn_dq lf (hg _ mg).1 hl (hg _ mg).2]
   exact (qv_np (mn_low lf (hg _ mg).1).pos).mp (by omega)
 ·intro I
  refine ⟨⟨fun x hx=>?_,fun g mg=>?_⟩,s1.mpr I.one⟩
  ·obtain ⟨k,ek⟩:=List.getElem?_of_mem hx
   have hk:k < f.length:=(List.getElem?_eq_some_iff.mp ek).1
   have h:=I.le k (by omega)
   rw [bnd_un (by omega)] at h
   have e:qr f k=qv x:=by unfold qr; rw [List.getD_eq_getElem?_getD,ek]; rfl
   rw [e] at h
   have:=(qv_nn (lf x hx).pos).mpr (by grind)
   simp; omega
  ·obtain ⟨j,ej⟩:=List.getElem?_of_mem mg
   have hj:j < gs.length:=(List.getElem?_eq_some_iff.mp ej).1
   have h:=I.le (n + j) (by omega)
   have e:gs.getD j []=g:=by rw [List.getD_eq_getElem?_getD,ej]; rfl
   rw [bg,e,← mn_dq lf (hg _ mg).1 hl (hg _ mg).2] at h
   have:=(qv_np (mn_low lf (hg _ mg).1).pos).mpr h
   simp; omega
theorem CorR.pts (C:CorR n (paps n ++ gs) (bndC n gs) fss) (hn:n=2 \/ n=3):∀ f,f ∈ fss ↔ f ∈ ptsR n (paps n ++ gs)/\fitB gs f=true:=by
 have le:(paps n ++ gs).length=n + gs.length:=by rw [List.length_append]; unfold paps; simp
 have hg:∀ g ∈ gs,Lows g/\g.length=n:=fun g mg=>C.el g (List.mem_append_right _ mg)
 have eE:∀ k,k < (paps n ++ gs).length->Lows ((paps n ++ gs).getD k [])/\((paps n ++ gs).getD k []).length=n:=fun k hk=>by
  have e:(paps n ++ gs).getD k []=(paps n ++ gs)[k]:=by simp only [List.getD_eq_getElem?_getD,List.getElem?_eq_getElem hk]; rfl
  rw [e]; exact C.el _ (List.getElem_mem hk)
 have cor:∀ f,Lows f->f.length=n->Stuck n (paps n ++ gs).length (edP (paps n ++ gs)) (qr f)->fitB gs f=true->f ∈ fss:=fun f lf hl st ft=>by
  have I:=(fit_iff lf hl hg).mp ft
  rw [← le] at I
  obtain ⟨v,hv,e⟩:=C.cors.all (qr f) ⟨I,fun d s0 al=>st d s0 fun k hk z=>(C.ed k hk d).mp (al k hk ((C.ed k hk _).mpr z))⟩
  obtain ⟨g,mg,rfl⟩:=List.mem_map.mp hv
  rw [← qr_eq (C.low g mg) lf (C.len g mg) hl e]
  exact mg
 have fitf:∀ f ∈ fss,fitB gs f=true:=fun f hf=>by
  have I:=(C.cors.vx (qr f) (List.mem_map.mpr ⟨f,hf,rfl⟩)).inn
  rw [le] at I
  exact (fit_iff (C.low f hf) (C.len f hf) hg).mpr I
 intro f
 unfold ptsR
 rw [List.mem_filterMap]
 rcases hn with rfl | rfl
 ·constructor
  ·intro hf
   refine ⟨?_,fitf f hf⟩
   obtain ⟨st,s1⟩:=C.stuck hf
   obtain ⟨k,hk,z,ne⟩:=stuck_two st
   obtain ⟨a0,a1⟩:=two_at s1 z
   obtain ⟨f',e1,lf',hl',b0,b1⟩:=(twoR_ok (eE k hk).1).2 ne
   refine ⟨some f',List.mem_flatMap.mpr ⟨k,List.mem_range.mpr hk,by rw [if_pos rfl,e1]; exact List.mem_singleton.mpr rfl⟩,?_⟩
   refine congrArg some (qr_eq lf' (C.low f hf) hl' (C.len f hf) fun i hi=>?_)
   have e0:qr f' 0=qr f 0:=by
    have:(qr f' 0 - qr f 0) * (edP (paps 2 ++ gs) k 1 - edP (paps 2 ++ gs) k 0)=0:=by grind
    have:=(_root_.Rat.mul_eq_zero.mp this).resolve_right ne
    grind
   match i,hi with
   | 0,_=>exact e0
   | 1,_=>rw [b1,a1,e0]
  ·rintro ⟨⟨o,ho,eo⟩,ft⟩
   have eo':o=some f:=eo
   subst eo'
   obtain ⟨k,hk,h⟩:=List.mem_flatMap.mp ho
   rw [if_pos rfl,List.mem_singleton] at h
   have hk:=List.mem_range.mp hk
   obtain ⟨t1,t2⟩:=twoR_ok (eE k hk).1
   by_cases z:qr ((paps 2 ++ gs).getD k []) 1 - qr ((paps 2 ++ gs).getD k []) 0=0
   ·rw [t1 z] at h; cases h
   ·obtain ⟨f',e1,lf',hl',b0,b1⟩:=t2 z
    rw [e1] at h
    cases h
    obtain ⟨_,z2⟩:=at_two (x:=qr f) (e:=edP (paps 2 ++ gs) k) z b0 b1
    exact cor f lf' hl' (two_stuck hk z2 z) ft
 ·constructor
  ·intro hf
   refine ⟨?_,fitf f hf⟩
   obtain ⟨st,s1⟩:=C.stuck hf
   obtain ⟨j,hj,k,hk,zj,zk,ne⟩:=stuck_three st
   obtain ⟨a0,a1,a2⟩:=three_at s1 zj zk
   obtain ⟨f',e1,lf',hl',b0,b1,b2⟩:=(threeR_ok (eE j hj).1 (eE k (by omega)).1).2 ne
   refine ⟨some f',List.mem_flatMap.mpr ⟨j,List.mem_range.mpr hj,by rw [if_neg (by decide)]; exact List.mem_map.mpr ⟨k,List.mem_range.mpr hk,e1⟩⟩,?_⟩
   have kk:∀ {a b:QQ},a * crS (edP (paps 3 ++ gs) j) (edP (paps 3 ++ gs) k)=b * crS (edP (paps 3 ++ gs) j) (edP (paps 3 ++ gs) k)->a=b:=fun {a b} h=>by
    have:(a - b) * crS (edP (paps 3 ++ gs) j) (edP (paps 3 ++ gs) k)=0:=by grind
    have:=(_root_.Rat.mul_eq_zero.mp this).resolve_right ne
    grind
   refine congrArg some (qr_eq lf' (C.low f hf) hl' (C.len f hf) fun i hi=>?_)
   match i,hi with
   | 0,_=>exact kk (b0.trans a0.symm)
   | 1,_=>exact kk (b1.trans a1.symm)
   | 2,_=>exact kk (b2.trans a2.symm)
  ·rintro ⟨⟨o,ho,eo⟩,ft⟩
   have eo':o=some f:=eo
   subst eo'
   obtain ⟨j,hj,h⟩:=List.mem_flatMap.mp ho
   rw [if_neg (by decide),List.mem_map] at h
   obtain ⟨k,hk,h⟩:=h
   have hj:=List.mem_range.mp hj
   have hk:=List.mem_range.mp hk
   obtain ⟨t1,t2⟩:=threeR_ok (eE j hj).1 (eE k (by omega)).1
   by_cases z:crS (qr ((paps 3 ++ gs).getD j [])) (qr ((paps 3 ++ gs).getD k []))=0
   ·rw [t1 z] at h; cases h
   ·obtain ⟨f',e1,lf',hl',b0,b1,b2⟩:=t2 z
    rw [e1] at h
    cases h
    obtain ⟨_,z1,z2⟩:=at_three (x:=qr f) (e:=edP (paps 3 ++ gs) j) (f:=edP (paps 3 ++ gs) k) z b0 b1 b2
    exact cor f lf' hl' (three_stuck hj (by omega) z1 z2 z) ft
end
end Sb
namespace Sb
open PySem L2
theorem sx_same {b:Addr} {H H1 H2:Hp} (S:Same H H1) (hb:H b=none) (X:SameX b H1 H2):Same H H2:=fun c o e=>X c o (S c o e) (ne_of_none e hb)
section
variable {P:Program} {w:World} {K:PySem.W.Frag} {mg:Str->Option Value} {base:Heap}
inductive spCBook (K:PySem.W.Frag) (vs:List V) (H:Hp) (Q:VK) (_z3:XK):Prop
 | mk (a:Addr) (n:Nat) (ns:List Int) (zz0:vs=[.ref a,.int (n:Int)]) (zz1:SqL K H a (ns.map V.int)) (zz2:1<=n) (zz3:n<=100) (zz4:∀ (p x l:Addr) (os:List Offr) (H':Hp),Same H H'->SqT K H' p [.ref x,.ref l]->OffsAt K H' l n os->os.length<=3->(∀ o ∈ os,OffRep n o)->Q (.ref p) H')
theorem scCBook:FnScope ["_law_script","_law_count","_law_weights_here","_law_head","_law_many","_law_loose","_law_offers","_law_k"] ["_law_script","_law_count"] (defScope sCornerBook):=⟨rfl,rfl,rfl,by decide +kernel,rfl,by decide +kernel,by decide +kernel⟩
set_option maxHeartbeats 1600000 in
theorem okCBook (D:Def K mg "_law_corner_book" sCornerBook ["_law_script","_law_count"]) (T:Blt mg) (hLawBag:Has P w K mg base 2 "_law_bag" ["_law_script","_law_at"] (spBagA K)) (hLawTake:Has P w K mg base 1 "_law_take" ["_law_bag_here","_law_many"] spTake) (hLawWeights:Has P w K mg base 3 "_law_weights" ["_law_bag_here","_law_count"] (spWeightsR K)) (hLawOffer:Has P w K mg base 6 "_law_offer" ["_law_bag_here","_law_weights_here","_law_loose"] (spOfferL K)):Has P w K mg base 7 "_law_corner_book" ["_law_script","_law_count"] (spCBook K):=by
 refine D.has fun f fd F=>F.ok scCBook (fun vs H Q E h=>?_) (fun cdv A outer s H vs Q E hr h=>?_)
 ·obtain ⟨a,n,ns,rfl,_⟩:=h
  rfl
 ·obtain ⟨a,n,ns,rfl,hS,hn1,hn,k⟩:=h
  have sc:=scCBook
  refine ⟨_,(pss_cons (ps_set (i:=2) sc.nd rfl (Or.inl rfl) (pe_use hLawWeights (hr.mono (by decide)) rfl (pa_cons (pe_use hLawBag (hr.mono (by decide)) rfl (pa_cons (pv 0) (pa_cons pe_int pa_nil))) (pa_cons (pv 1) pa_nil))))
   (pss_cons (ps_set (i:=3) sc.nd rfl (Or.inl rfl) (pe_use hLawBag (hr.mono (by decide)) rfl (pa_cons (pv 0) (pa_cons pe_int pa_nil))))
   (pss_cons (ps_set (i:=4) sc.nd rfl (Or.inl rfl) (pe_ix ix_list (pe_lst (pa_cons pe_int (pa_cons pe_int (pa_cons pe_int (pa_cons pe_int (pa_cons pe_int (pa_cons pe_int (pa_cons pe_int (pa_cons pe_int pa_nil))))))))) (pe_use hLawTake (hr.mono (by decide)) rfl (pa_cons (pv 3) (pa_cons pe_int pa_nil))) (fun _ _=>rfl)))
   (pss_cons (ps_set (i:=5) sc.nd rfl (Or.inl rfl) (pe_ix ix_list (pe_lst (pa_cons pe_int (pa_cons pe_int (pa_cons pe_int pa_nil)))) (pe_use hLawTake (hr.mono (by decide)) rfl (pa_cons (pv 3) (pa_cons pe_int pa_nil))) (fun _ _=>rfl)))
   (pss_cons (ps_set (i:=6) sc.nd rfl (Or.inl rfl) (pe_lst pa_nil))
   (pss_cons (ps_for PassesOwn.never rfl (pi_range1 rfl T.range (pa_cons (pv 4) pa_nil)) (pg_name (i:=7) sc.nd rfl (Or.inl rfl))
    (pss_one (ps_expr (pe_bm PySem.F.plainAttrs_list PySem.F.slot_list_append PySem.F.type_list_append mt_append (pv 6) (pa_cons (pe_use hLawOffer (hr.mono (by decide)) rfl (pa_cons (pe_use hLawBag (hr.mono (by decide)) rfl (pa_cons (pv 0) (pa_cons (pe_op op_add pe_int (pv 7)) pa_nil))) (pa_cons (pv 2) (pa_cons (pv 5) pa_nil)))) pa_nil)))))
   (pss_one (ps_ret (pe_tup (pa_cons (pv 2) (pa_cons (pv 6) pa_nil))))))))))),?_⟩
  refine seq_r (asg_r ?_)
  refine ⟨_,rfl,a,2,ns,rfl,hS,by omega,fun b1 H1 f1 S1 B1=>?_⟩
  refine ⟨_,rfl,b1,n,101,rfl,B1,by omega,hn1,hn,fun wa H2 Ws ws B2 X2 R2 W2=>?_⟩
  have S2:=sx_same S1 f1 X2
  refine name_r ?_
  dsimp only
  refine seq_r (asg_r ?_)
  refine ⟨_,rfl,a,3,ns,rfl,sameL S2 hS,by omega,fun b3 H3 f3 S3 B3=>?_⟩
  refine name_r ?_
  dsimp only
  refine seq_r (asg_r ?_)
  refine ⟨(by show 8<=sizeLine; decide),fun q4 hq4=>?_⟩
  have N4:=Same.new (o:=.lst [V.int 0,V.int 1,V.int 2,V.int 3,V.int 1,V.int 2,V.int 3,V.int 2]) hq4
  have q4':(upd H3 q4 (.lst [V.int 0,V.int 1,V.int 2,V.int 3,V.int 1,V.int 2,V.int 3,V.int 2])) q4=some (.lst [V.int 0,V.int 1,V.int 2,V.int 3,V.int 1,V.int 2,V.int 3,V.int 2]):=upd_same
  have B4:=B3.same N4
  have n43:q4 ≠ b3:=fun z=>by obtain ⟨u,v,e,_⟩:=B3; rw [z,e] at hq4; cases hq4
  generalize upd H3 q4 (.lst [V.int 0,V.int 1,V.int 2,V.int 3,V.int 1,V.int 2,V.int 3,V.int 2])=H4 at *
  have S4:=S2.trans (S3.trans N4)
  have f3':H b3=none:=S2.free f3
  refine ⟨_,rfl,b3,8,101,rfl,B4,by omega,by omega,by decide,fun r H5 r0 r8 B5 X5=>?_⟩
  have S5:=sx_same S4 f3' X5
  have q5:=X5 _ _ q4' n43
  obtain ⟨v5,e5,m5⟩:=at_mem (xs:=[V.int 0,V.int 1,V.int 2,V.int 3,V.int 1,V.int 2,V.int 3,V.int 2]) (k:=r) r0 (by show r < 8; omega)
  obtain ⟨z5,rfl,z50,z53⟩:∃ z:Int,v5=.int z/\0<=z/\z<=3:=by
   simp only [List.mem_cons,List.not_mem_nil,or_false] at m5
   rcases m5 with h | h | h | h | h | h | h | h <;> exact ⟨_,h,by decide,by decide⟩
  refine ⟨q4,_,r,_,rfl,rfl,SqL.of q5,e5,?_⟩
  refine name_r ?_
  dsimp only
  refine seq_r (asg_r ?_)
  refine ⟨(by show 3<=sizeLine; decide),fun q6 hq6=>?_⟩
  have N6:=Same.new (o:=.lst [V.int 0,V.int 0,V.int 2]) hq6
  have q6':(upd H5 q6 (.lst [V.int 0,V.int 0,V.int 2])) q6=some (.lst [V.int 0,V.int 0,V.int 2]):=upd_same
  have B6:=B5.same N6
  have n63:q6 ≠ b3:=fun z=>by obtain ⟨u,v,e,_⟩:=B5; rw [z,e] at hq6; cases hq6
  generalize upd H5 q6 (.lst [V.int 0,V.int 0,V.int 2])=H6 at *
  have S6:=S5.trans N6
  refine ⟨_,rfl,b3,3,102,rfl,B6,by omega,by omega,by decide,fun r7 H7 r70 r73 B7 X7=>?_⟩
  have S7:=sx_same S6 f3' X7
  have q7:=X7 _ _ q6' n63
  obtain ⟨v7,e7,m7⟩:=at_mem (xs:=[V.int 0,V.int 0,V.int 2]) (k:=r7) r70 (by show r7 < 3; omega)
  obtain ⟨z7,rfl,z70,z72⟩:∃ z:Int,v7=.int z/\0<=z/\z<=2:=by
   simp only [List.mem_cons,List.not_mem_nil,or_false] at m7
   rcases m7 with h | h | h <;> exact ⟨_,h,by decide,by decide⟩
  refine ⟨q6,_,r7,_,rfl,rfl,SqL.of q7,e7,?_⟩
  refine name_r ?_
  dsimp only
  refine seq_r (asg_r ?_)
  refine ⟨(by show 0<=sizeLine; decide),fun d hd=>?_⟩
  have N8:=Same.new (o:=.lst []) hd
  have d8:(upd H7 d (.lst [])) d=some (.lst []):=upd_same
  have hdn:H d=none:=S7.free hd
  have rw_:RowAt K (upd H7 d (.lst [])) wa ws:=R2.ext (((Ext.same (S3.trans N4)).trans (Ext.bag X5 B4)).trans (((Ext.same N6).trans (Ext.bag X7 B6)).trans (Ext.new hd)))
  generalize upd H7 d (.lst [])=H8 at *
  refine name_r ?_
  dsimp only
  have S8:=S7.trans N8
  refine seq_r ⟨_,rfl,z5,rfl,by omega,by omega,?_⟩
  refine for_range (lo:=0) (n:=z5.toNat) (fun i σ H'=>Same H H'/\RowAt K H' wa ws/\(∃ (vs:List V) (os:List Offr),H' d=some (.lst vs)/\Paired (fun v o=>OffAt K H' n o v) vs os/\os.length=i/\∀ o ∈ os,OffRep n o)/\∃ x,σ=[some (.ref a),some (.int (n:Int)),some (.ref wa),some (.ref b3),some (.int z5),some (.int z7),some (.ref d),x]) ⟨S8,rw_,⟨[],[],d8,.nil,rfl,fun o ho=>by cases ho⟩,none,rfl⟩ ?_ ?_
  ·rintro i σ H9 hi ⟨S9,R9,⟨vs,os,q9,P9,l9,O9⟩,x9,rfl⟩
   have e0:(0 + (i:Int))=((i:Nat):Int):=by omega
   rw [e0]
   have lv:=Paired.length P9
   refine name_r ?_
   refine ⟨_,rfl,.inl ⟨rfl,_,SqL.of q9⟩,?_⟩
   refine ⟨_,rfl,_,rfl,_,_,rfl,rfl,a,4 + i,ns,by show [V.ref a,V.int (4 + (i:Int))]=_; rw [show (4 + (i:Int))=((4 + i:Nat):Int) by omega],sameL S9 hS,by omega,fun bi H10 f10 S10 B10=>?_⟩
   refine ⟨_,rfl,_,rfl,bi,wa,n,101,z7,Ws,ws,rfl,z70,z72,B10,by omega,R9.ext (Ext.same S10),W2,hn1,hn,fun v H11 o X11 O11 r11=>?_⟩
   have fbi:H bi=none:=S9.free f10
   have nd:d ≠ bi:=ne_of_none q9 f10
   have q11:=X11 _ _ (S10 _ _ q9) nd
   have E11:Ext H9 H11:=(Ext.same S10).trans (Ext.bag X11 B10)
   have E12:Ext H11 (upd H11 d (.lst (vs ++ [v]))):=Ext.upd q11
   refine ⟨d,vs,v,rfl,rfl,q11,Nat.lt_of_le_of_lt (show vs.length<=1000 by omega) (by decide),upd_same2 (sx_same (S9.trans S10) fbi X11) hdn,R9.ext (E11.trans E12),⟨vs ++ [v],os ++ [o],upd_same,Paired.appP (offs_ext P9 (E11.trans E12)) (.cons (O11.ext E12) .nil),by rw [List.length_append,l9]; rfl,fun o' ho=>?_⟩,_,rfl⟩
   rcases List.mem_append.mp ho with ho | ho
   ·exact O9 o' ho
   ·rw [List.mem_singleton.mp ho]; exact r11
  ·rintro σ H9 ⟨S9,R9,⟨vs,os,q9,P9,l9,O9⟩,x9,rfl⟩
   refine ⟨_,rfl,_,rfl,(by show 2<=sizeLine; decide),fun p hp=>?_⟩
   exact k p wa d os _ (S9.trans (Same.new hp)) (SqT.of upd_same) ⟨vs,(Same.new hp) _ _ q9,offs_ext P9 (Ext.new hp)⟩ (by omega) O9
end
end Sb
namespace Sb
open PySem L2
section
variable {e g f:List Rat} {N:Nat}
theorem two_small (lf:Lows f) (hl:f.length=2) (he:RowN N 2 e) (ne:qr e 1 - qr e 0 ≠ 0) (a0:qr f 0 * (qr e 1 - qr e 0)=qr e 1) (a1:qr f 1=1 - qr f 0):RowN (2 * N + 3) 2 f:=by
 obtain ⟨l,D,Ws,R⟩:=he
 obtain ⟨W0,b0,e0⟩:=rep_q R (k:=0) (by omega)
 obtain ⟨W1,b1,e1⟩:=rep_q R (k:=1) (by omega)
 have hD:=qc_ne R.pos
 have eS:((W1 - W0:Int):QQ)=(qr e 1 - qr e 0) * (D:QQ):=by rw [_root_.Rat.intCast_sub,← e0,← e1]; grind
 have nS:(qr e 1 - qr e 0) * (D:QQ) ≠ 0:=fun y=>by
  rcases _root_.Rat.mul_eq_zero.mp y with y | y
  ·exact ne y
  ·exact hD y
 refine row_of (C:=fun i=>if i=0 then W1 else -W0) lf hl (i_ne eS nS) ((Bd.sub b1 b0).mono (by omega)) (fun i hi=>?_) fun i hi=>?_
 ·show Bd _ (if i=0 then W1 else -W0)
  split
  ·exact b1.mono (by omega)
  ·exact b0.neg.mono (by omega)
 ·rw [eS]
  match i,hi with
  | 0,_ =>
   show qr f 0 * _=((W1:Int):QQ)
   rw [← e1]; grind
  | 1,_ =>
   show qr f 1 * _=((-W0:Int):QQ)
   rw [_root_.Rat.intCast_neg,← e0,a1]; grind
theorem three_small (lf:Lows f) (hl:f.length=3) (he:RowN N 3 e) (hg:RowN N 3 g) (ne:crS (qr e) (qr g) ≠ 0) (a0:qr f 0 * crS (qr e) (qr g)=cr0 (qr e) (qr g)) (a1:qr f 1 * crS (qr e) (qr g)=cr1 (qr e) (qr g)) (a2:qr f 2 * crS (qr e) (qr g)=cr2 (qr e) (qr g)):RowN (2 * N + 3) 3 f:=by
 obtain ⟨l,D,Ws,R⟩:=he
 obtain ⟨l',D',Zs,R'⟩:=hg
 obtain ⟨W0,b0,e0⟩:=rep_q R (k:=0) (by omega)
 obtain ⟨W1,b1,e1⟩:=rep_q R (k:=1) (by omega)
 obtain ⟨W2,b2,e2⟩:=rep_q R (k:=2) (by omega)
 obtain ⟨Z0,d0,g0⟩:=rep_q R' (k:=0) (by omega)
 obtain ⟨Z1,d1,g1⟩:=rep_q R' (k:=1) (by omega)
 obtain ⟨Z2,d2,g2⟩:=rep_q R' (k:=2) (by omega)
 have hD:=qc_ne R.pos
 have hD':=qc_ne R'.pos
 have q0:((W1 * Z2 - W2 * Z1:Int):QQ)=cr0 (qr e) (qr g) * ((D:QQ) * (D':QQ)):=by
  rw [_root_.Rat.intCast_sub,_root_.Rat.intCast_mul,_root_.Rat.intCast_mul,← e1,← e2,← g1,← g2]; unfold cr0; grind
 have q1:((W2 * Z0 - W0 * Z2:Int):QQ)=cr1 (qr e) (qr g) * ((D:QQ) * (D':QQ)):=by
  rw [_root_.Rat.intCast_sub,_root_.Rat.intCast_mul,_root_.Rat.intCast_mul,← e0,← e2,← g0,← g2]; unfold cr1; grind
 have q2:((W0 * Z1 - W1 * Z0:Int):QQ)=cr2 (qr e) (qr g) * ((D:QQ) * (D':QQ)):=by
  rw [_root_.Rat.intCast_sub,_root_.Rat.intCast_mul,_root_.Rat.intCast_mul,← e0,← e1,← g0,← g1]; unfold cr2; grind
 have B0:Bd (2 * N + 1) (W1 * Z2 - W2 * Z1):=(Bd.sub (b1.mul d2) (b2.mul d1)).mono (by omega)
 have B1:Bd (2 * N + 1) (W2 * Z0 - W0 * Z2):=(Bd.sub (b2.mul d0) (b0.mul d2)).mono (by omega)
 have B2:Bd (2 * N + 1) (W0 * Z1 - W1 * Z0):=(Bd.sub (b0.mul d1) (b1.mul d0)).mono (by omega)
 generalize W1 * Z2 - W2 * Z1=C0 at *
 generalize W2 * Z0 - W0 * Z2=C1 at *
 generalize W0 * Z1 - W1 * Z0=C2 at *
 have eS:((C0 + C1 + C2:Int):QQ)=crS (qr e) (qr g) * ((D:QQ) * (D':QQ)):=by
  rw [_root_.Rat.intCast_add,_root_.Rat.intCast_add,q0,q1,q2]; unfold crS; grind
 have nS:crS (qr e) (qr g) * ((D:QQ) * (D':QQ)) ≠ 0:=fun y=>by
  rcases _root_.Rat.mul_eq_zero.mp y with y | y
  ·exact ne y
  ·rcases _root_.Rat.mul_eq_zero.mp y with y | y
   ·exact hD y
   ·exact hD' y
 refine row_of (C:=fun i=>if i=0 then C0 else if i=1 then C1 else C2) lf hl (i_ne eS nS) ((Bd.add (Bd.add B0 B1) (B2.mono (by omega))).mono (by omega)) (fun i hi=>?_) fun i hi=>?_
 ·show Bd _ (if i=0 then C0 else if i=1 then C1 else C2)
  split
  ·exact B0.mono (by omega)
  ·split
   ·exact B1.mono (by omega)
   ·exact B2.mono (by omega)
 ·rw [eS]
  match i,hi with
  | 0,_ =>
   show qr f 0 * _=((C0:Int):QQ)
   rw [q0,← a0]; grind
  | 1,_ =>
   show qr f 1 * _=((C1:Int):QQ)
   rw [q1,← a1]; grind
  | 2,_ =>
   show qr f 2 * _=((C2:Int):QQ)
   rw [q2,← a2]; grind
theorem RowN.lows {N n:Nat} {r:List Rat} (h:RowN N n r):Lows r:=by
 obtain ⟨_,D,Ws,R⟩:=h
 exact fun x hx=>(R.good x hx).low
theorem pts_small {n:Nat} {ess:List (List Rat)} (hn:n=2 \/ n=3) (he:∀ e ∈ ess,RowN N n e) (hf:f ∈ ptsR n ess):RowN (2 * N + 3) n f:=by
 have eE:∀ k,k < ess.length->RowN N n (ess.getD k []):=fun k hk=>by
  have:ess.getD k []=ess[k]:=by simp [List.getD,hk]
  rw [this]; exact he _ (List.getElem_mem hk)
 unfold ptsR at hf
 rw [List.mem_filterMap] at hf
 obtain ⟨o,ho,eo⟩:=hf
 have eo':o=some f:=eo
 subst eo'
 rcases hn with rfl | rfl
 ·obtain ⟨k,hk,h⟩:=List.mem_flatMap.mp ho
  rw [if_pos rfl,List.mem_singleton] at h
  have hk:=List.mem_range.mp hk
  obtain ⟨t1,t2⟩:=twoR_ok (eE k hk).lows
  by_cases z:qr (ess.getD k []) 1 - qr (ess.getD k []) 0=0
  ·rw [t1 z] at h; cases h
  ·obtain ⟨f',e1,lf',hl',b0,b1⟩:=t2 z
   rw [e1] at h
   cases h
   exact two_small lf' hl' (eE k hk) z b0 b1
 ·obtain ⟨j,hj,h⟩:=List.mem_flatMap.mp ho
  rw [if_neg (by decide),List.mem_map] at h
  obtain ⟨k,hk,h⟩:=h
  have hj:=List.mem_range.mp hj
  have hk:=List.mem_range.mp hk
  obtain ⟨t1,t2⟩:=threeR_ok (eE j hj).lows (eE k (by omega)).lows
  by_cases z:crS (qr (ess.getD j [])) (qr (ess.getD k []))=0
  ·rw [t1 z] at h; cases h
  ·obtain ⟨f',e1,lf',hl',b0,b1,b2⟩:=t2 z
   rw [e1] at h
   cases h
   exact three_small lf' hl' (eE j hj) (eE k (by omega)) z b0 b1 b2
theorem gains_rowN {n:Nat} {os:List Offr} (O:∀ o ∈ os,OffRep n o):∀ g ∈ gainsP os os.length,RowN 91 n g:=by
 rw [gainsP_all]
 intro g hg
 obtain ⟨o,ho,hg⟩:=List.mem_flatMap.mp hg
 unfold gainsO at hg
 obtain ⟨b,hb,rfl⟩:=List.mem_map.mp hg
 have hp:∃ r,priceO o b=some r:=by
  unfold wordsO at hb
  rcases List.mem_append.mp hb with hb | hb
  ·by_cases z:o.ask.isSome=true
   ·rw [if_pos z] at hb
    rw [List.mem_singleton.mp hb]
    exact Option.isSome_iff_exists.mp z
   ·rw [if_neg z] at hb; cases hb
  ·by_cases z:o.bid.isSome=true
   ·rw [if_pos z] at hb
    rw [List.mem_singleton.mp hb]
    exact Option.isSome_iff_exists.mp z
   ·rw [if_neg z] at hb; cases hb
 obtain ⟨r,hr⟩:=hp
 exact (O o ho).gain hr
theorem gains_few {os:List Offr}:(gainsP os os.length).length<=2 * os.length:=by
 rw [gainsP_all]
 induction os with
 | nil=>simp
 | cons o os ih =>
  rw [List.flatMap_cons,List.length_append,List.length_cons]
  have:(gainsO o).length<=2:=by
   unfold gainsO wordsO
   rw [List.length_map,List.length_append]
   have a:((if o.ask.isSome=true then [true] else []):List Bool).length<=1:=by split <;> simp
   have b:((if o.bid.isSome=true then [false] else []):List Bool).length<=1:=by split <;> simp
   omega
  omega
end
end Sb
namespace Sb
open PySem PySem.Spec PyProof.Rows L2
section
variable {P:Program} {w:World} {K:PySem.W.Frag} {mg:Str->Option Value} {base:Heap}
inductive spLaw (K:PySem.W.Frag) (Tb:Addr) (vs:List V) (H:Hp) (Q:VK) (_z3:XK):Prop
 | mk (a:Addr) (ns:List Int) (zz0:vs=[.ref a]) (zz1:SqL K H a (ns.map V.int)) (zz2:H Tb=some (.tbl #[])) (zz3:∀ H',Q (.bl true) H')
theorem ptsO_len {n:Nat} {ess:List (List Rat)}:∀ {m:Nat},m<=10->(ptsO n ess m).length<=200:=fun {m} hm=>by
 have:∀ k,k<=10->(ptsO n ess k).length<=k * 20:=fun k=>by
  induction k with
  | zero=>intro _; simp [ptsO]
  | succ k ih =>
   intro h
   rw [ptsO_succ,List.length_append]
   have:=ih (by omega)
   split
   ·simp only [List.length_cons,List.length_nil]; omega
   ·rw [List.length_map,List.length_range]; omega
 have:=this m hm
 omega
theorem scLaw:FnScope ["_law_script","_law_count","_law_weights_here","_law_offers","_law_rows","_law_due","_law_point","_law_found","_law_corner"] ["_law_script"] (defScope sLaw):=⟨rfl,rfl,rfl,by decide +kernel,rfl,by decide +kernel,by decide +kernel⟩
set_option maxHeartbeats 3200000 in
theorem okLaw {f Tb:Addr} {fd:FuncData} (F:Fun K "law" "law" sLaw f fd) (T:Blt mg) (hLawCell:Has P w K mg base 1 "_law_cell" ["_law_script","_law_k"] (spCell K)) (hLawCornerBook:Has P w K mg base 7 "_law_corner_book" ["_law_script","_law_count"] (spCBook K)) (hLawGains:Has P w K mg base 4 "_law_gains" ["_law_offers"] (spGainsP K)) (hLawPoints:Has P w K mg base 6 "_law_points" ["_law_bounds_here","_law_count"] (spPoints K)) (hLawBounds:Has P w K mg base 1 "_law_bounds" ["_law_rows","_law_count"] (spBounds K)) (hLawFits:Has P w K mg base 5 "_law_fits" ["_law_weights_here","_law_rows"] (spFitsN K)) (hCorners:Has P w K mg base 7 "corners" ["count","offers"] (spCorners K Tb) true) (hLawIsRow:Has P w K mg base 4 "_law_is_row" ["_law_found","_law_count"] (spIsRow K)) :
  FnOk P w K mg base CX0 8 f fd ["_law_script"] (spLaw K Tb) true:=by
 refine F.ok scLaw (fun vs H Q E h=>?_) (fun cdv A outer s H vs Q E hr h=>?_)
 ·obtain ⟨a,ns,rfl,_⟩:=h
  rfl
 ·obtain ⟨a,ns,rfl,hS,hT,k⟩:=h
  have sc:=scLaw
  refine ⟨_,(pss_cons (ps_set (i:=1) sc.nd rfl (Or.inl rfl) (pe_ix ix_list (pe_lst (pa_cons pe_int (pa_cons pe_int (pa_cons pe_int pa_nil)))) (pe_op op_mod (pe_use hLawCell (hr.mono (by decide)) rfl (pa_cons (pv 0) (pa_cons pe_int pa_nil))) pe_int) (fun _ _=>rfl)))
 (pss_cons (ps_asg (pe_use hLawCornerBook (hr.mono (by decide)) rfl (pa_cons (pv 0) (pa_cons (pv 1) pa_nil))) (pg_tup (n:=2) rfl (pgs_cons (pg_name (i:=2) sc.nd rfl (Or.inl rfl)) (pgs_cons (pg_name (i:=3) sc.nd rfl (Or.inl rfl)) pgs_nil))))
 (pss_cons (ps_set (i:=4) sc.nd rfl (Or.inl rfl) (pe_use hLawGains (hr.mono (by decide)) rfl (pa_cons (pv 3) pa_nil)))
 (pss_cons (ps_set (i:=5) sc.nd rfl (Or.inl rfl) (pe_lst pa_nil))
 (pss_cons (ps_for PassesOwn.never rfl (pi_list (pe_use hLawPoints (hr.mono (by decide)) rfl (pa_cons (pe_use hLawBounds (hr.mono (by decide)) rfl (pa_cons (pv 4) (pa_cons (pv 1) pa_nil))) (pa_cons (pv 1) pa_nil)))) (pg_name (i:=6) sc.nd rfl (Or.inl rfl))
  (pss_one (ps_if (PW.pt (pw_and (pt_cmpR (op_notInR (K:=K) (by exact hr.units)) (pv 6) (pv 5) rfl) (pw_and1 (pt_val (pe_use hLawFits (hr.mono (by decide)) rfl (pa_cons (pv 6) (pa_cons (pv 4) pa_nil)))))))
   (pss_one (ps_expr (pe_bm PySem.F.plainAttrs_list PySem.F.slot_list_append PySem.F.type_list_append mt_append (pv 5) (pa_cons (pv 6) pa_nil))))
   pss_nil)))
 (pss_cons (ps_set (i:=7) sc.nd rfl (Or.inl rfl) (pe_useS hCorners (hr.mono (by decide)) rfl (pa_cons (pv 1) (pa_cons (pe_callTy call_list_of rfl T.list PyProof.Rows.boot_list (pa_cons (pv 3) pa_nil)) pa_nil))))
 (pss_cons (ps_if (PW.pt (pw_or (pt_not (pt_val (pe_callB call_isinst rfl T.isinstance PyProof.Rows.boot_isinstance (pa_cons (pv 7) (pa_cons (pe_ty T.list PyProof.Rows.boot_list) pa_nil))))) (pw_or1 (pt_cmpR op_ne (pe_callB call_len_seq rfl T.len boot_len (pa_cons (pv 7) pa_nil)) (pe_callB call_len_seq rfl T.len boot_len (pa_cons (pv 5) pa_nil)) (nomark _)))))
  (pss_one (ps_ret pe_bl))
  pss_nil)
 (pss_cons (ps_for PassesOwn.never rfl (pi_list (pv 7)) (pg_name (i:=8) sc.nd rfl (Or.inl rfl))
  (pss_one (ps_if (PW.pt (pw_or (pt_not (pt_val (pe_use hLawIsRow (hr.mono (by decide)) rfl (pa_cons (pv 8) (pa_cons (pv 1) pa_nil))))) (pw_or1 (pt_cmpR (op_notInR (K:=K) (by exact hr.units)) (pv 8) (pv 5) rfl))))
   (pss_one (ps_ret pe_bl))
   pss_nil)))
 (pss_one (ps_ret pe_bl)))))))))),?_⟩
  refine seq_r (asg_r ?_)
  refine ⟨(by show 3<=sizeLine; decide),fun q1 hq1=>?_⟩
  have N1:=Same.new (o:=.lst [V.int 2,V.int 3,V.int 3]) hq1
  have q1':(upd H q1 (.lst [V.int 2,V.int 3,V.int 3])) q1=some (.lst [V.int 2,V.int 3,V.int 3]):=upd_same
  generalize upd H q1 (.lst [V.int 2,V.int 3,V.int 3])=H1 at *
  refine ⟨_,rfl,a,0,ns,rfl,sameL N1 hS,by omega,by omega,fun z=>?_⟩
  refine ⟨_,_,rfl,rfl,by decide,?_⟩
  obtain ⟨v1,e1,m1⟩:=at_mem (xs:=[V.int 2,V.int 3,V.int 3]) (k:=z % 3) (by omega) (by show z % 3 < 3; omega)
  obtain ⟨n,rfl,hn⟩:∃ n:Nat,v1=.int (n:Int)/\(n=2 \/ n=3):=by
   simp only [List.mem_cons,List.not_mem_nil,or_false] at m1
   rcases m1 with h | h | h
   ·exact ⟨2,h,.inl rfl⟩
   ·exact ⟨3,h,.inr rfl⟩
   ·exact ⟨3,h,.inr rfl⟩
  have n3:n<=3:=by rcases hn with h | h <;> omega
  have n2:2<=n:=by rcases hn with h | h <;> omega
  refine ⟨q1,_,_,_,rfl,rfl,SqL.of q1',e1,?_⟩
  refine name_r ?_
  dsimp only
  refine seq_r (asg_r ?_)
  refine ⟨_,rfl,_,rfl,a,n,ns,rfl,sameL N1 hS,by omega,by omega,fun p xw lo os H2 S2 sp O2 l2 R2=>?_⟩
  refine ⟨_,_,rfl,sp,rfl,_,_,rfl,_,_,rfl,rfl,?_⟩
  dsimp only
  refine seq_r (asg_r ?_)
  refine ⟨_,rfl,lo,n,90,os,rfl,O2,by omega,by omega,by omega,fun o ho=>(R2 o ho).good,fun dg H3 fg S3 RG=>?_⟩
  have gN:=gains_rowN R2
  have g6:(gainsP os os.length).length<=6:=Nat.le_trans gains_few (by omega)
  refine name_r ?_
  dsimp only
  refine seq_r (asg_r ?_)
  refine ⟨(by show 0<=sizeLine; decide),fun dd hdd=>?_⟩
  have N4:=Same.new (o:=.lst []) hdd
  have d4:(upd H3 dd (.lst [])) dd=some (.lst []):=upd_same
  obtain ⟨ga,gq,gP⟩:=RG
  obtain ⟨ov,oq,oP⟩:=O2
  generalize hgs:gainsP os os.length=gs at *
  generalize upd H3 dd (.lst [])=H4 at *
  refine name_r ?_
  dsimp only
  have lpa:(paps n).length=n:=by unfold paps; simp
  have eN:∀ e' ∈ paps n ++ gs,RowN 91 n e':=fun e' he=>by
   rcases List.mem_append.mp he with he | he
   ·unfold paps at he
    obtain ⟨w0,_,rfl⟩:=List.mem_map.mp he
    exact uP_row.mono (by omega)
   ·exact gN e' he
  refine seq_r ⟨_,rfl,_,rfl,dg,n,gs,rfl,by omega,⟨ga,N4 _ _ gq,rows_ext gP (Ext.same N4)⟩,by omega,fun db H5 S5 RB=>?_⟩
  refine ⟨_,rfl,db,n,91,paps n ++ gs,rfl,hn,RB,fun e' he=>(eN e' he).1,fun e' he=>?_,by omega,by rw [List.length_append,lpa]; omega,fun dp H6 fdp S6 RP=>?_⟩
  ·obtain ⟨_,D1,W1,R1⟩:=eN e' he
   exact R1.good
  obtain ⟨pa,pq,pP⟩:=RP
  have npd:dp ≠ dd:=fun y=>by rw [y,S5 _ _ d4] at fdp; cases fdp
  have lpp:=Paired.length pP
  have S46:=S5.trans S6
  have dd6:=S46 _ _ d4
  have S36:=N4.trans S46
  have pl:pa.length<=200:=by
   rw [lpp]
   exact Nat.le_trans (List.length_filterMap_le _ _) (ptsO_len (by rw [List.length_append,lpa]; omega))
  refine ⟨dp,rfl,⟨_,SqL.of pq⟩,?_⟩
  refine for_list (K:=K) (xs:=pa.map V.ref) (fun i σ H'=>SameX dd H6 H'/\(∃ (cs:List Addr) (dss:List (List Rat)),H' dd=some (.lst (cs.map V.ref))/\Paired (RowAt K H') cs dss/\dss.Nodup/\(∀ f,f ∈ dss ↔ f ∈ (ptsR n (paps n ++ gs)).take i/\fitB gs f=true)/\cs.length<=i)/\∃ x,σ=[some (.ref a),some (.int (n:Int)),some (.ref xw),some (.ref lo),some (.ref dg),some (.ref dd),x,none,none])
   ⟨SameX.refl _ _,⟨[],[],dd6,.nil,List.nodup_nil,fun f=>by simp,by simp⟩,none,rfl⟩ (fun i σ H' _ h=>SqL.of (h.1 _ _ pq npd)) ?_ ?_
  ·rintro i x σ H7 hx ⟨S7,⟨cs,dss,q7,P7,nd7,m7,l7⟩,x7,rfl⟩
   have hi:i < pa.length:=by have:=(List.getElem?_eq_some_iff.mp hx).1; simpa using this
   have ea:pa[i]?=some pa[i]:=by simp [hi]
   have ez:(ptsR n (paps n ++ gs))[i]?=some ((ptsR n (paps n ++ gs))[i]'(by omega)):=by simp
   generalize pa[i]=ap at ea
   generalize ((ptsR n (paps n ++ gs))[i]'(by omega))=fp at ez
   rw [List.getElem?_map,ea] at hx
   cases hx
   have E67:Ext H6 H7:=Ext.x S7 dd6
   have rp:=(Paired.getB pP ea ez).ext E67
   have mp:=List.mem_of_getElem? ez
   have gdd:dg ≠ dd:=ne_of_none gq hdd
   have gq7:H7 dg=some (.lst (ga.map V.ref)):=S7 _ _ (S36 _ _ gq) gdd
   have gP7:=rows_ext gP ((Ext.same S36).trans E67)
   refine name_r ?_
   have stay:∀ {H8:Hp},Same H7 H8->(fp ∈ dss \/ fitB gs fp=false)->SameX dd H6 H8/\(∃ (cs:List Addr) (dss:List (List Rat)),H8 dd=some (.lst (cs.map V.ref))/\Paired (RowAt K H8) cs dss/\dss.Nodup/\(∀ f,f ∈ dss ↔ f ∈ (ptsR n (paps n ++ gs)).take (i + 1)/\fitB gs f=true)/\cs.length<=i + 1):=fun {H8} S8 hor=>by
    refine ⟨S7.trans (SameX.of S8),cs,dss,S8 _ _ q7,rows_ext P7 (Ext.same S8),nd7,fun f=>?_,by omega⟩
    rw [take_succ' ez,List.mem_append,List.mem_singleton,m7 f]
    constructor
    ·rintro ⟨h1,h2⟩; exact ⟨.inl h1,h2⟩
    ·rintro ⟨h1 | h1,h2⟩
     ·exact ⟨h1,h2⟩
     ·subst h1
      rcases hor with h | h
      ·exact (m7 f).mp h
      ·rw [h] at h2; cases h2
   refine ⟨_,rfl,_,rfl,ap,dd,fp,cs,dss,rfl,rfl,rp,SqL.of q7,P7,_,rfl,?_⟩
   by_cases e:fp ∈ dss
   ·obtain ⟨b1,b2⟩:=stay (Same.refl H7) (.inl e)
    simp only [if_true,decide_eq_true e,Bool.not_true]
    exact iteF ⟨b1,b2,_,rfl⟩
   ·simp only [if_true,decide_eq_false e,Bool.not_false]
    refine ⟨_,rfl,_,rfl,ap,dg,n,185,91,fp,gs,rfl,rp,⟨ga,gq7,gP7⟩,pts_small hn eN mp,gN,by omega,by omega,fun H8 S8=>⟨_,rfl,?_⟩⟩
    by_cases ft:fitB gs fp=true
    ·rw [ft]
     have q8:=S8 _ _ q7
     have E9:Ext H8 (upd H8 dd (.lst (cs.map V.ref ++ [V.ref ap]))):=Ext.upd q8
     refine iteT ⟨_,rfl,.inl ⟨rfl,_,SqL.of q8⟩,_,rfl,dd,cs.map V.ref,.ref ap,rfl,rfl,q8,Nat.lt_of_le_of_lt (show (cs.map V.ref).length<=1000 by rw [List.length_map]; omega) (by decide),?_⟩
     refine ⟨(S7.trans (SameX.of S8)).trans (SameX.upd dd H8 _),⟨cs ++ [ap],dss ++ [fp],by rw [upd_same,List.map_append]; rfl,Paired.appP (rows_ext P7 ((Ext.same S8).trans E9)) (.cons (rp.ext ((Ext.same S8).trans E9)) .nil),?_,fun f=>?_,by rw [List.length_append]; simp only [List.length_cons,List.length_nil]; omega⟩,_,rfl⟩
     ·rw [List.nodup_append]
      exact ⟨nd7,by simp,fun x hx y hy z=>by rw [List.mem_singleton.mp hy] at z; exact e (z ▸ hx)⟩
     ·rw [take_succ' ez,List.mem_append,List.mem_append,List.mem_singleton,m7 f]
      constructor
      ·rintro (⟨h1,h2⟩ | h)
       ·exact ⟨.inl h1,h2⟩
       ·exact ⟨.inr h,by rw [h]; exact ft⟩
      ·rintro ⟨h1 | h1,h2⟩
       ·exact .inl ⟨h1,h2⟩
       ·exact .inr h1
    ·have ft':fitB gs fp=false:=by simpa using ft
     rw [ft']
     obtain ⟨b1,b2⟩:=stay S8 (.inr ft')
     exact iteF ⟨b1,b2,_,rfl⟩
  ·rintro σ H7 ⟨S7,⟨cs,dss,q7,P7,nd7,m7,l7⟩,x7,rfl⟩
   rw [List.length_map,lpp,List.take_length] at m7
   have E67:Ext H6 H7:=Ext.x S7 dd6
   have odd:lo ≠ dd:=ne_of_none (S3 _ _ oq) hdd
   have oq7:H7 lo=some (.lst ov):=S7 _ _ (S36 _ _ (S3 _ _ oq)) odd
   have oP7:=offs_ext oP (((Ext.same S3).trans (Ext.same S36)).trans E67)
   have tdd:Tb ≠ dd:=ne_of_none (S3 _ _ (S2 _ _ (N1 _ _ hT))) hdd
   have hT7:H7 Tb=some (.tbl #[]):=S7 _ _ (S36 _ _ (S3 _ _ (S2 _ _ (N1 _ _ hT)))) tdd
   dsimp only
   refine seq_r (asg_r ?_)
   refine ⟨_,rfl,_,rfl,lo,ov,rfl,?_⟩
   refine ⟨.inl (SqL.of oq7),fun lo2 hlo2=>?_⟩
   have N8:=Same.new (o:=.lst ov) hlo2
   refine ⟨lo2,n,91,90,os,rfl,hn,⟨ov,upd_same,offs_ext oP7 (Ext.new hlo2)⟩,by omega,by omega,fun o ho=>(R2 o ho).good,by rw [hgs]; exact g6,by rw [hgs]; exact gN,by omega,by omega,N8 _ _ hT7,fun df H9 rss SX RF C=>?_⟩
   rw [hgs] at C
   have mem:=C.pts hn
   have same:∀ f,f ∈ rss ↔ f ∈ dss:=fun f=>by rw [mem f,m7 f]
   have leq:rss.length=dss.length:=Nat.le_antisymm (nodup_le C.nd fun f h=>(same f).mp h) (nodup_le nd7 fun f h=>(same f).mpr h)
   obtain ⟨fa,fq,fP⟩:=RF
   have lf:=Paired.length fP
   have lc:=Paired.length P7
   have ndT:dd ≠ Tb:=tdd.symm
   have q9:H9 dd=some (.lst (cs.map V.ref)):=SX _ _ (N8 _ _ q7) ndT
   have E89:Ext (upd H7 lo2 (.lst ov)) H9:=by
    have nT:∀ b u,(upd H7 lo2 (.lst ov)) b=some u->(∀ q,u ≠ .tbl q)->b ≠ Tb:=fun b u e n z=>by rw [z,N8 _ _ hT7] at e; cases e; exact n _ rfl
    exact ⟨fun b xs e=>SX b _ e (nT b _ e fun q z=>nomatch z),fun b o u e=>SX b _ e (nT b _ e fun q z=>nomatch z)⟩
   have P9:=rows_ext P7 ((Ext.same N8).trans E89)
   refine name_r ?_
   dsimp only
   refine seq_r ?_
   have fin:∀ {H':Hp} {σ:L2.St},tRet (tC (V.bl true)) { nx:=fun _ H'=>Q .non H',rt:=Q } σ H':=fun {H' σ}=>k H'
   refine ⟨_,rfl,_,_,_,_,rfl,?ty,kit_same,_,rfl,?_⟩
   case ty=>exact TyOf.lst fq
   refine ⟨_,rfl,df,_,rfl,.inl (SqL.of fq),_,rfl,dd,_,rfl,.inl (SqL.of q9),rfl,_,rfl,?_⟩
   refine iteNS (by rw [List.length_map,List.length_map,lf,lc,leq]) ?_
   unfold tNext
   dsimp only
   refine seq_r ⟨_,rfl,df,rfl,⟨_,SqL.of fq⟩,?_⟩
   refine for_list (K:=K) (xs:=fa.map V.ref) (fun i σ H'=>Same H9 H'/\∃ x y,σ=[some (.ref a),some (.int (n:Int)),some (.ref xw),some (.ref lo),some (.ref dg),some (.ref dd),x,some (.ref df),y]) ⟨Same.refl _,_,_,rfl⟩ (fun i σ H' _ h=>SqL.of (h.1 _ _ fq)) ?_ ?_
   ·rintro i x σ H10 hx ⟨S10,x10,y10,rfl⟩
    have hi:i < fa.length:=by have:=(List.getElem?_eq_some_iff.mp hx).1; simpa using this
    have ea:fa[i]?=some fa[i]:=by simp [hi]
    have ez:rss[i]?=some (rss[i]'(by omega)):=by simp
    generalize fa[i]=ac at ea
    generalize (rss[i]'(by omega))=fr at ez
    rw [List.getElem?_map,ea] at hx
    cases hx
    have mr:=List.mem_of_getElem? ez
    have rr:=(Paired.getB fP ea ez).ext (Ext.same S10)
    obtain ⟨lr,D1,W1,R1⟩:=C.small hn eN mr
    refine name_r ?_
    refine ⟨_,rfl,_,rfl,ac,n,185,fr,rfl,rr,lr,R1.good,by omega,fun H11 S11=>⟨_,rfl,?_⟩⟩
    refine ⟨_,rfl,_,rfl,ac,dd,fr,cs,dss,rfl,rfl,rr.ext (Ext.same S11),SqL.of (S11 _ _ (S10 _ _ q9)),rows_ext P9 (Ext.same (S10.trans S11)),_,rfl,?_⟩
    have me:=(same fr).mp mr
    simp only [if_true,decide_eq_true me,Bool.not_true]
    exact iteF ⟨S10.trans S11,_,_,rfl⟩
   ·rintro σ H10 ⟨S10,x10,y10,rfl⟩
    exact k H10
end
end Sb
namespace Sb
open PySem PySem.Spec PyProof.Rows L2
theorem def_mkC {K:PySem.W.Frag} {h:Heap} {mg:Str->Option Value} {x:Str} {st:Stmt} {ps:List Str} {f cc:Addr} {oc:Value} {od an:Option Addr} {sl:Array (Option Value)} {kV dc pm ct:Value} (X:K.In h) (G:h.Ns mainGlobals mg)
  (a:PySem.W.nsIn K mainGlobals x=some (some (.ref f))) (l:K.lookup f=some ⟨oc,od,.func (PySem.W.fnOf x x (defArgs st) (defBody st) (defScope st) .none kV dc pm an (.ref cc) ct),sl⟩) (c:PySem.W.codeIn K (.ref cc) x=true) (k:PySem.W.keepIn K (.ref f)=true)
  (b:∀ (kV doc pm:Value) (an:Option Addr) (cdv ct:Value) (us:List Value),us.length=ps.length->bindArgs (PySem.W.fnOf x x (defArgs st) (defBody st) (defScope st) .none kV doc pm an cdv ct) ⟨us,[]⟩=pure (ps.zip us)):DefC K mg x st ps cc :=
 ⟨f,_,fun_mk l c k,PySem.W.mg_of X G a,(fun_mk l c k).binds b,rfl⟩
theorem law_mkT {P:Program} {w:World} {K:PySem.W.Frag} {h:Heap} {mg:Str->Option Value} {x:Str} {st:Stmt} {fa f:Addr} {oc:Value} {od an:Option Addr} {sl:Array (Option Value)} {kV dc pm cd ct:Value} {n:Nat} {sp:Sp} {sr:Bool} (X:K.In h) (G:h.Ns mainGlobals mg) (hfa:mg "law"=some (.ref fa))
  (a:PySem.W.nsIn K mainGlobals "law"=some (some (.ref f))) (l:K.lookup f=some ⟨oc,od,.func (PySem.W.fnOf "law" "law" (defArgs st) (defBody st) (defScope st) .none kV dc pm an cd ct),sl⟩) (c:PySem.W.codeIn K cd "law"=true) (k:PySem.W.keepIn K (.ref f)=true)
  (b:∀ (s:Shared) (v:Value),BindsTo s (PySem.W.fnOf "law" "law" (defArgs st) (defBody st) (defScope st) .none kV dc pm an cd ct) ⟨[v],[]⟩ [(x,v)])
  (ok:∀ (fd:FuncData) (base:Heap),K.In base->BltIn mg base->Fun K "law" "law" st fa fd->FnOk P w K mg base CX0 n fa fd [x] sp sr) :
  ∃ fd:FuncData,(∀ (s:Shared) (v:Value),BindsTo s fd ⟨[v],[]⟩ [(x,v)])/\∀ base:Heap,K.In base->base.Ns mainGlobals mg->BltIn mg base->FnOk P w K mg base CX0 n fa fd [x] sp sr:=by
 have e:=hfa.symm.trans (PySem.W.mg_of X G a)
 cases e
 exact ⟨_,b,fun base kb _ hB=>ok _ base kb hB (fun_mk l c k)⟩
end Sb
theorem Sb.len0 {us:List PySem.Value} (h:us.length=0):us=[]:=List.eq_nil_of_length_eq_zero h
theorem Sb.len1 {us:List PySem.Value} (h:us.length=1):∃ a0,us=[a0]:=by
 cases us with
 | nil=>cases h
 | cons a0 t =>
  obtain rfl:=Sb.len0 (Nat.succ.inj h)
  exact ⟨a0,rfl⟩
theorem Sb.len2 {us:List PySem.Value} (h:us.length=2):∃ a0 a1,us=[a0,a1]:=by
 cases us with
 | nil=>cases h
 | cons a0 t =>
  obtain ⟨a1,rfl⟩:=Sb.len1 (Nat.succ.inj h)
  exact ⟨a0,a1,rfl⟩
theorem Sb.len3 {us:List PySem.Value} (h:us.length=3):∃ a0 a1 a2,us=[a0,a1,a2]:=by
 cases us with
 | nil=>cases h
 | cons a0 t =>
  obtain ⟨a1,a2,rfl⟩:=Sb.len2 (Nat.succ.inj h)
  exact ⟨a0,a1,a2,rfl⟩
theorem Sb.len4 {us:List PySem.Value} (h:us.length=4):∃ a0 a1 a2 a3,us=[a0,a1,a2,a3]:=by
 cases us with
 | nil=>cases h
 | cons a0 t =>
  obtain ⟨a1,a2,a3,rfl⟩:=Sb.len3 (Nat.succ.inj h)
  exact ⟨a0,a1,a2,a3,rfl⟩
theorem Sb.len5 {us:List PySem.Value} (h:us.length=5):∃ a0 a1 a2 a3 a4,us=[a0,a1,a2,a3,a4]:=by
 cases us with
 | nil=>cases h
 | cons a0 t =>
  obtain ⟨a1,a2,a3,a4,rfl⟩:=Sb.len4 (Nat.succ.inj h)
  exact ⟨a0,a1,a2,a3,a4,rfl⟩
theorem Sb.len6 {us:List PySem.Value} (h:us.length=6):∃ a0 a1 a2 a3 a4 a5,us=[a0,a1,a2,a3,a4,a5]:=by
 cases us with
 | nil=>cases h
 | cons a0 t =>
  obtain ⟨a1,a2,a3,a4,a5,rfl⟩:=Sb.len5 (Nat.succ.inj h)
  exact ⟨a0,a1,a2,a3,a4,a5,rfl⟩
namespace PySem.W.Fast
theorem tw11973309636217551567:True:=⟨⟩
theorem te3123398363373258554:True:=⟨⟩
theorem tw3123398363373258554:True:=⟨⟩
theorem tw11675510110076413475:True:=⟨⟩
theorem tw13622788733369489254:True:=⟨⟩
theorem tw17481236246234240799:True:=⟨⟩
theorem tw1464845330734718949:True:=⟨⟩
theorem tw7001122326087482498:True:=⟨⟩
theorem tw15218289320760889779:True:=⟨⟩
theorem tw6522219441635198231:True:=⟨⟩
theorem tw5755018872527686941:True:=⟨⟩
theorem tw5336786834423655519:True:=⟨⟩
theorem tw9632282323048107599:True:=⟨⟩
theorem tw746472675664736574:True:=⟨⟩
theorem tw4359337481133658766:True:=⟨⟩
theorem tw2443425360692923633:True:=⟨⟩
theorem tw17105042463359067994:True:=⟨⟩
theorem tw7778513000949167268:True:=⟨⟩
theorem tw10628048649934098387:True:=⟨⟩
theorem tw4549047631783633083:True:=⟨⟩
theorem tw6930638033874823221:True:=⟨⟩
theorem tw753942499668886078:True:=⟨⟩
theorem tw9734075109454330077:True:=⟨⟩
theorem tw9300554483414564810:True:=⟨⟩
theorem tw14941981360484699432:True:=⟨⟩
theorem tw10003312222000073104:True:=⟨⟩
theorem tw16830213804386138840:True:=⟨⟩
theorem tw7277863244277278714:True:=⟨⟩
theorem tw13050072981279631375:True:=⟨⟩
theorem tw13654829616485767548:True:=⟨⟩
theorem tw17682713456231035034:True:=⟨⟩
theorem tw8595940160470876043:True:=⟨⟩
theorem tw11131435371307586550:True:=⟨⟩
theorem tw9929788738031056396:True:=⟨⟩
theorem tw11725839141209131857:True:=⟨⟩
theorem tw3458378840531825359:True:=⟨⟩
theorem tw17681245839392982921:True:=⟨⟩
theorem tw8817300931189158943:True:=⟨⟩
theorem tw14899601349130720264:True:=⟨⟩
theorem tw2458722516237378168:True:=⟨⟩
theorem tw16086472958584119449:True:=⟨⟩
theorem tw15560911504549208112:True:=⟨⟩
theorem tw16930937260633943170:True:=⟨⟩
theorem tw12203018895881214754:True:=⟨⟩
theorem tw1339763588719163090:True:=⟨⟩
theorem tw3729025606556462272:True:=⟨⟩
theorem tw8509147247406164067:True:=⟨⟩
theorem tw10836426122500965054:True:=⟨⟩
theorem tw8829295272491180327:True:=⟨⟩
theorem tw7047714632552279529:True:=⟨⟩
theorem tw12446235092904256928:True:=⟨⟩
theorem tw14158164408074550794:True:=⟨⟩
theorem tw8073019988144764149:True:=⟨⟩
theorem tw678532468299591383:True:=⟨⟩
theorem tw4947410326914837155:True:=⟨⟩
theorem tw1573443463318747469:True:=⟨⟩
theorem tw15026457422209418985:True:=⟨⟩
theorem tw10015966575017934916:True:=⟨⟩
theorem tw1363839457482219312:True:=⟨⟩
theorem tw6969419740311358590:True:=⟨⟩
theorem tw9777460919879613702:True:=⟨⟩
theorem tw4588303627686237313:True:=⟨⟩
theorem tw12051578173843391165:True:=⟨⟩
theorem tw12101753038460552232:True:=⟨⟩
theorem tw11203027442640153358:True:=⟨⟩
theorem tw18372804724178811801:True:=⟨⟩
theorem tw17807912163012476716:True:=⟨⟩
theorem tw6946545739765550831:True:=⟨⟩
theorem tw14679385077317564153:True:=⟨⟩
theorem tw9909819280570255559:True:=⟨⟩
theorem tw14618266523881033120:True:=⟨⟩
theorem tw4788296909922703711:True:=⟨⟩
theorem tw10985669928444321785:True:=⟨⟩
theorem tw2802194451434114752:True:=⟨⟩
theorem tw15502491061900228707:True:=⟨⟩
theorem tw9653249716891065755:True:=⟨⟩
theorem tw17886203360937840879:True:=⟨⟩
theorem tw11527226734402335798:True:=⟨⟩
theorem tw13920796819519172098:True:=⟨⟩
theorem tw1689706000210405709:True:=⟨⟩
theorem tw16260260244213555458:True:=⟨⟩
theorem tw5368114297947271814:True:=⟨⟩
theorem tw8176332808093428445:True:=⟨⟩
theorem tw8804319013880715882:True:=⟨⟩
theorem tw5237843060087276623:True:=⟨⟩
theorem tw8519313061626602692:True:=⟨⟩
theorem tw6064908441151526558:True:=⟨⟩
theorem tw11711547700966176232:True:=⟨⟩
theorem tw18435837438171021280:True:=⟨⟩
theorem tw6099840522220006497:True:=⟨⟩
theorem tw15222575260267559383:True:=⟨⟩
theorem tw14563479624962062011:True:=⟨⟩
theorem tw9452027026822073774:True:=⟨⟩
theorem tw2473759457792380414:True:=⟨⟩
theorem tw11503120187483797640:True:=⟨⟩
theorem tw15541904687181102345:True:=⟨⟩
theorem tw14756786188944686748:True:=⟨⟩
theorem tw13795937851421100549:True:=⟨⟩
theorem tw9208396820299698669:True:=⟨⟩
theorem tw14087289274406169430:True:=⟨⟩
theorem tw2830101099928220799:True:=⟨⟩
theorem tw15429648693574489952:True:=⟨⟩
theorem tw13466525510651023550:True:=⟨⟩
theorem tw5643274675700385740:True:=⟨⟩
theorem tw13314272048840988363:True:=⟨⟩
theorem tw547352455971161903:True:=⟨⟩
theorem tw17236174990087535933:True:=⟨⟩
theorem tw15284509427395983314:True:=⟨⟩
theorem tw16858906779820915823:True:=⟨⟩
theorem tw1337398746997016326:True:=⟨⟩
theorem tw5793190936611452064:True:=⟨⟩
theorem tw13876691267489505783:True:=⟨⟩
theorem tw16944275977419741479:True:=⟨⟩
theorem tw610766379979367342:True:=⟨⟩
theorem tw2542815458102206986:True:=⟨⟩
theorem tw14683777455822217956:True:=⟨⟩
theorem tw8408620795520363567:True:=⟨⟩
theorem tw8087362808405951815:True:=⟨⟩
theorem tw12607368741010103882:True:=⟨⟩
theorem tw12238834858007826479:True:=⟨⟩
theorem tw14531687165162288164:True:=⟨⟩
theorem tw18043053044223058093:True:=⟨⟩
theorem tw4820639472522744916:True:=⟨⟩
theorem tw10095109179719548484:True:=⟨⟩
theorem tw3810618767961209040:True:=⟨⟩
theorem tw2324286493497026055:True:=⟨⟩
theorem tw17251453036735809422:True:=⟨⟩
theorem tw16552672822902500579:True:=⟨⟩
theorem tw1596446123045252581:True:=⟨⟩
theorem tw12990035067313579584:True:=⟨⟩
theorem tw2455712186745764444:True:=⟨⟩
theorem tw3492024824449472467:True:=⟨⟩
theorem tw11960614537264781329:True:=⟨⟩
theorem tw8882769362236314122:True:=⟨⟩
theorem tw5105551564314660043:True:=⟨⟩
theorem tw3620376236997358244:True:=⟨⟩
theorem tw3420384838132645913:True:=⟨⟩
theorem tw13041431348033576377:True:=⟨⟩
theorem tw14681864866210040003:True:=⟨⟩
theorem tw16504342811635413687:True:=⟨⟩
theorem tw14531023044458199054:True:=⟨⟩
theorem tw17498336722386325372:True:=⟨⟩
theorem tw8990742055758191982:True:=⟨⟩
theorem tw14928619607539056437:True:=⟨⟩
theorem tw12626407370483682409:True:=⟨⟩
theorem tw5049222951130809354:True:=⟨⟩
theorem tw2714246712565152467:True:=⟨⟩
theorem tw10105989700426778495:True:=⟨⟩
theorem tw8198162845874260921:True:=⟨⟩
theorem tw17286788641642846658:True:=⟨⟩
theorem tw18120385026403499546:True:=⟨⟩
theorem tw1442673491833947683:True:=⟨⟩
theorem tw14327622082640466621:True:=⟨⟩
theorem tw13420247140794407734:True:=⟨⟩
theorem tw1166876209172675815:True:=⟨⟩
theorem tw14616018775325272728:True:=⟨⟩
theorem tw3947271996073683182:True:=⟨⟩
theorem tw11900226452894104314:True:=⟨⟩
theorem tw13109254728792875694:True:=⟨⟩
theorem tw7981069713096117870:True:=⟨⟩
theorem tw6211405019454001741:True:=⟨⟩
theorem tw9709659078418957924:True:=⟨⟩
theorem tw13189879247138644744:True:=⟨⟩
theorem tw13480517901580697734:True:=⟨⟩
theorem tw5112662138585439270:True:=⟨⟩
theorem tw792971309257882639:True:=⟨⟩
theorem tw17637046101375621919:True:=⟨⟩
theorem tw10363648720276314062:True:=⟨⟩
theorem tw12922627719414898712:True:=⟨⟩
theorem tw6675730726438577087:True:=⟨⟩
theorem tw179511588708975272:True:=⟨⟩
theorem tw8386163245775993553:True:=⟨⟩
theorem tw4699369507487439858:True:=⟨⟩
theorem tw12318942796296308133:True:=⟨⟩
theorem tw10180595848966307858:True:=⟨⟩
theorem tw11459823460679002829:True:=⟨⟩
theorem tw12669088666991491517:True:=⟨⟩
theorem tw16579200909098413503:True:=⟨⟩
theorem tw9782571134978178569:True:=⟨⟩
theorem tw700091139022003982:True:=⟨⟩
theorem tw13427520411407545861:True:=⟨⟩
theorem tw8307249917813109342:True:=⟨⟩
theorem tw12154012786836827603:True:=⟨⟩
theorem tw9031531186892886044:True:=⟨⟩
theorem tw8131542158057452228:True:=⟨⟩
theorem tw3816460499296237315:True:=⟨⟩
theorem tw15154246092819004625:True:=⟨⟩
theorem tw2936539107724763887:True:=⟨⟩
theorem tw7001631509577096932:True:=⟨⟩
theorem tw3469203462387409756:True:=⟨⟩
theorem tw6493748997958344344:True:=⟨⟩
theorem tw10943813691519130146:True:=⟨⟩
theorem tw2112083371958931143:True:=⟨⟩
theorem tw15827124647842384164:True:=⟨⟩
theorem tw9390098631317634141:True:=⟨⟩
theorem tw12602796982573668721:True:=⟨⟩
theorem tw434267764764612975:True:=⟨⟩
theorem tw10441212357498083430:True:=⟨⟩
theorem tw6978223795516952326:True:=⟨⟩
theorem tw11477410681961039449:True:=⟨⟩
theorem tw8433172068156142201:True:=⟨⟩
theorem tw1457078662090151855:True:=⟨⟩
theorem tw17675085886711595615:True:=⟨⟩
theorem tw4526554771167421557:True:=⟨⟩
theorem tw2416701262119129310:True:=⟨⟩
theorem tw8076528034852537177:True:=⟨⟩
theorem tw13653821418923429150:True:=⟨⟩
theorem tw9950741194270379966:True:=⟨⟩
theorem tw7142254459927343214:True:=⟨⟩
theorem tw6663390837233838180:True:=⟨⟩
theorem tw4802323241779443997:True:=⟨⟩
theorem tw4818048976380205430:True:=⟨⟩
theorem tw1041394321690110738:True:=⟨⟩
theorem tw8622911726808563065:True:=⟨⟩
theorem tw15313097167191096605:True:=⟨⟩
theorem tw6765135537433398536:True:=⟨⟩
theorem tw8101574143981185651:True:=⟨⟩
theorem tw17654676956232859437:True:=⟨⟩
theorem tw5442201090746526819:True:=⟨⟩
theorem tw3746273478184952487:True:=⟨⟩
theorem tw14409628966015719766:True:=⟨⟩
theorem tw3314249778799973929:True:=⟨⟩
theorem tw7434616103987946727:True:=⟨⟩
theorem tw1890232153419519718:True:=⟨⟩
theorem tw11816746524712980918:True:=⟨⟩
theorem tw17043003595463634770:True:=⟨⟩
theorem tw1214832190997302470:True:=⟨⟩
theorem tw8357849148515258083:True:=⟨⟩
theorem tw15315225458577566321:True:=⟨⟩
theorem tw9914213558947179215:True:=⟨⟩
theorem tw964937009041953251:True:=⟨⟩
theorem tw14301709273763587721:True:=⟨⟩
theorem tw10333298427497355303:True:=⟨⟩
theorem tw10509583024415415930:True:=⟨⟩
theorem tw16113032513833585379:True:=⟨⟩
theorem tw11465402224055647335:True:=⟨⟩
theorem tw12364144066358197880:True:=⟨⟩
theorem tw545829301874136887:True:=⟨⟩
theorem tw10526298394067345749:True:=⟨⟩
theorem tw5391284828283519108:True:=⟨⟩
theorem tw5956858238019737206:True:=⟨⟩
theorem tw9114846755664662007:True:=⟨⟩
theorem tw11572972115470944008:True:=⟨⟩
theorem tw6359556484247635598:True:=⟨⟩
theorem tw10495401166263222586:True:=⟨⟩
theorem tw8435424326459945712:True:=⟨⟩
theorem tw9875979059027875706:True:=⟨⟩
theorem tw17814403176766129356:True:=⟨⟩
theorem tw934140764196123892:True:=⟨⟩
theorem tw16716287263113981903:True:=⟨⟩
theorem tw16176868726797906504:True:=⟨⟩
theorem tw12706484941734833407:True:=⟨⟩
theorem tw13137736171044360332:True:=⟨⟩
theorem tw1820836931002727084:True:=⟨⟩
theorem tw6278296951542816000:True:=⟨⟩
theorem tw13580756801113359034:True:=⟨⟩
theorem tw15810563487370071170:True:=⟨⟩
theorem tw4554215395850842985:True:=⟨⟩
theorem tw15512603318006713206:True:=⟨⟩
theorem tw8299297861205601134:True:=⟨⟩
theorem tw12082465645036326424:True:=⟨⟩
theorem tw17491997148559706612:True:=⟨⟩
theorem tw8123538560464189807:True:=⟨⟩
theorem tw18119178004270760618:True:=⟨⟩
theorem tw16933241121021921729:True:=⟨⟩
theorem tw7128788343312731821:True:=⟨⟩
theorem tw17500443171077780373:True:=⟨⟩
theorem tw237715134881451572:True:=⟨⟩
theorem tw12504653398740013432:True:=⟨⟩
theorem tw11600202283579983426:True:=⟨⟩
theorem tw9471649728195214437:True:=⟨⟩
theorem tw6109505065130728382:True:=⟨⟩
theorem tw9573146470696967347:True:=⟨⟩
theorem tw483356573473131954:True:=⟨⟩
theorem tw5187030470800651701:True:=⟨⟩
theorem tw6550669194634372562:True:=⟨⟩
theorem tw1987586335655031596:True:=⟨⟩
theorem tw15650842006024165358:True:=⟨⟩
theorem tw3933749572391767729:True:=⟨⟩
theorem tw10128760379757811584:True:=⟨⟩
theorem tw7654423880145772934:True:=⟨⟩
theorem tw8141473110669028141:True:=⟨⟩
theorem tw8329720395996651651:True:=⟨⟩
theorem tw17438899130291621400:True:=⟨⟩
theorem tw18323506699164325338:True:=⟨⟩
theorem tw4293958260836333290:True:=⟨⟩
theorem tw2169993243006342883:True:=⟨⟩
theorem tw7621977837989184792:True:=⟨⟩
theorem tw2028107336767446236:True:=⟨⟩
theorem tw13054733779806269408:True:=⟨⟩
theorem tw7327440955071104076:True:=⟨⟩
theorem tw12774788699977710159:True:=⟨⟩
theorem tw1280530460928075478:True:=⟨⟩
theorem tw1497478423351386470:True:=⟨⟩
theorem tw16774298555196975746:True:=⟨⟩
theorem tw12764925549296643075:True:=⟨⟩
theorem tw13813250092104336233:True:=⟨⟩
theorem tw6579567445150513270:True:=⟨⟩
theorem tw10354696769349303708:True:=⟨⟩
theorem tw4633636504738917061:True:=⟨⟩
theorem tw13976721771664094652:True:=⟨⟩
theorem tw5196381046078145207:True:=⟨⟩
theorem tw7459132065973230249:True:=⟨⟩
theorem tw705438723192193335:True:=⟨⟩
theorem tw15492456791077608630:True:=⟨⟩
theorem tw11519030887780876194:True:=⟨⟩
theorem tw14095322855454203158:True:=⟨⟩
theorem tw448583074149929690:True:=⟨⟩
theorem tw9534695024649436867:True:=⟨⟩
theorem tw766057138116857379:True:=⟨⟩
theorem tw15402278997836987997:True:=⟨⟩
theorem tw584488050413822906:True:=⟨⟩
theorem tw2217297477390169160:True:=⟨⟩
theorem tw3665586984868564800:True:=⟨⟩
theorem tw14362211395785751465:True:=⟨⟩
theorem tw9810942792079833617:True:=⟨⟩
theorem tw4114200362953954439:True:=⟨⟩
theorem tw5340267662466495700:True:=⟨⟩
theorem tw12762050732362325627:True:=⟨⟩
theorem tw16817799694028368058:True:=⟨⟩
theorem tw3019275470456560420:True:=⟨⟩
theorem tw9108046164049141252:True:=⟨⟩
theorem tw4298119702550178388:True:=⟨⟩
theorem tw17193148096681811453:True:=⟨⟩
theorem tw14571073584756773909:True:=⟨⟩
theorem tw17976298011510222459:True:=⟨⟩
theorem tw15383239416663064838:True:=⟨⟩
theorem tw5719650614516504477:True:=⟨⟩
theorem tw7255552097977227971:True:=⟨⟩
theorem tw17913642266946503966:True:=⟨⟩
theorem tw7239542919294101052:True:=⟨⟩
theorem tw15574566130798321232:True:=⟨⟩
theorem tw1231382602369056262:True:=⟨⟩
theorem tw5878160255587343242:True:=⟨⟩
theorem tw12356498331608277590:True:=⟨⟩
theorem tw5111107997191299191:True:=⟨⟩
theorem tw1428812192843384610:True:=⟨⟩
theorem tw10299498358100125:True:=⟨⟩
theorem tw14323641211126340615:True:=⟨⟩
theorem tw5613519223999795966:True:=⟨⟩
theorem tw10388882921981000529:True:=⟨⟩
theorem tw7165574554263180585:True:=⟨⟩
theorem tw17631186966252966669:True:=⟨⟩
theorem tw1437832641621206587:True:=⟨⟩
theorem tw3099313565937053005:True:=⟨⟩
theorem tw13828754451949463529:True:=⟨⟩
theorem tw16895951970456956058:True:=⟨⟩
theorem tw9698225344552145299:True:=⟨⟩
theorem tw3723145673867860015:True:=⟨⟩
theorem tw4241727677949123041:True:=⟨⟩
theorem tw6397856483160899208:True:=⟨⟩
theorem tw10206711572713912212:True:=⟨⟩
theorem tw5650609852563702950:True:=⟨⟩
theorem tw11640453036220404962:True:=⟨⟩
theorem tw853811430238213361:True:=⟨⟩
theorem tw3033896183135075471:True:=⟨⟩
theorem tw16081104324427449778:True:=⟨⟩
theorem tw11767344273835554888:True:=⟨⟩
theorem tw10855526606876783143:True:=⟨⟩
end PySem.W.Fast
open PySem PySem.W PyProof.Rows
set_option maxRecDepth 100000 in
set_option maxHeartbeats 0 in
theorem PySem.Challenge.cw_surebook_k43_none_between_holds : PySem.Challenge.rw_surebook_k43_none_between.Holds := by
 w_on; o_law; k_head; (case hw=>w_witness2)
 k_fill
 refine Sb.walk_ofT (l:=PySem.Challenge.rw_surebook_k43_none_between) (n:=63) (k:=8) (x:="_law_script") (T:=203) (CX:=fun _=>L2.CX0) (sp:=fun w=>Sb.spLaw _ 203) (sr:=true) rfl (by decide) rfl ⟨fun _=>rfl,by decide,by decide⟩ (fun w h Y=>⟨PySem.W.km_in_of Y,PySem.W.km_tabs_of Y 203 (List.mem_cons_self ..)⟩) (fun w=>?TK) (fun w=>?CC) ?F (fun w H a ns hl hO hS=>⟨a,ns,rfl,hS,hO.1,fun _=>rfl⟩) (fun _ _ _ _ _ z=>z)
 case TK=>kernel_rfl
 case CC=>exact ⟨207,by kernel_rfl⟩
 case F =>
  intro w mg fa h KX G hmg
  have n_len:mg "len"=none:=by
   refine' PySem.W.mg_none_of KX G ?z
   (case z=>k_is)
  have n_abs:mg "abs"=none:=by
   refine' PySem.W.mg_none_of KX G ?z
   (case z=>k_is)
  have n_isinstance:mg "isinstance"=none:=by
   refine' PySem.W.mg_none_of KX G ?z
   (case z=>k_is)
  have n_int:mg "int"=none:=by
   refine' PySem.W.mg_none_of KX G ?z
   (case z=>k_is)
  have n_bool:mg "bool"=none:=by
   refine' PySem.W.mg_none_of KX G ?z
   (case z=>k_is)
  have n_tuple:mg "tuple"=none:=by
   refine' PySem.W.mg_none_of KX G ?z
   (case z=>k_is)
  have n_range:mg "range"=none:=by
   refine' PySem.W.mg_none_of KX G ?z
   (case z=>k_is)
  have n_zip:mg "zip"=none:=by
   refine' PySem.W.mg_none_of KX G ?z
   (case z=>k_is)
  have n_enumerate:mg "enumerate"=none:=by
   refine' PySem.W.mg_none_of KX G ?z
   (case z=>k_is)
  have n_any:mg "any"=none:=by
   refine' PySem.W.mg_none_of KX G ?z
   (case z=>k_is)
  have n_sum:mg "sum"=none:=by
   refine' PySem.W.mg_none_of KX G ?z
   (case z=>k_is)
  have n_list:mg "list"=none:=by
   refine' PySem.W.mg_none_of KX G ?z
   (case z=>k_is)
  have n_min:mg "min"=none:=by
   refine' PySem.W.mg_none_of KX G ?z
   (case z=>k_is)
  have T:Sb.Blt mg:=⟨n_len,n_abs,n_isinstance,n_int,n_bool,n_tuple,n_range,n_zip,n_enumerate,n_any,n_sum,n_list,n_min⟩
  have d_is_whole:Sb.Def (L2.KOf KX) mg "is_whole" Sb.sIsWhole ["value"]:=by
   dsimp only [L2.KOf]
   refine' Sb.def_mk KX G ?a ?l ?c ?k (fun _ _ _ _ _ _ us hl=>by obtain ⟨a0,rfl⟩:=Sb.len1 hl; rfl)
   (case a=>k_is); (case l=>k_is); (case c=>k_is); (case k=>k_is)
  have d_common_divisor:Sb.Def (L2.KOf KX) mg "common_divisor" Sb.sCommonDivisor ["one","other"]:=by
   dsimp only [L2.KOf]
   refine' Sb.def_mk KX G ?a ?l ?c ?k (fun _ _ _ _ _ _ us hl=>by obtain ⟨a0,a1,rfl⟩:=Sb.len2 hl; rfl)
   (case a=>k_is); (case l=>k_is); (case c=>k_is); (case k=>k_is)
  have d_lowest:Sb.Def (L2.KOf KX) mg "lowest" Sb.sLowest ["top","bottom"]:=by
   dsimp only [L2.KOf]
   refine' Sb.def_mk KX G ?a ?l ?c ?k (fun _ _ _ _ _ _ us hl=>by obtain ⟨a0,a1,rfl⟩:=Sb.len2 hl; rfl)
   (case a=>k_is); (case l=>k_is); (case c=>k_is); (case k=>k_is)
  have d_ratio:Sb.Def (L2.KOf KX) mg "ratio" Sb.sRatioP ["top","bottom"]:=by
   dsimp only [L2.KOf]
   refine' Sb.def_mk KX G ?a ?l ?c ?k (fun _ _ _ _ _ _ us hl=>by obtain ⟨a0,a1,rfl⟩:=Sb.len2 hl; rfl)
   (case a=>k_is); (case l=>k_is); (case c=>k_is); (case k=>k_is)
  have d_plus:Sb.Def (L2.KOf KX) mg "plus" Sb.sPlus ["one","other"]:=by
   dsimp only [L2.KOf]
   refine' Sb.def_mk KX G ?a ?l ?c ?k (fun _ _ _ _ _ _ us hl=>by obtain ⟨a0,a1,rfl⟩:=Sb.len2 hl; rfl)
   (case a=>k_is); (case l=>k_is); (case c=>k_is); (case k=>k_is)
  have d_minus:Sb.Def (L2.KOf KX) mg "minus" Sb.sMinus ["one","other"]:=by
   dsimp only [L2.KOf]
   refine' Sb.def_mk KX G ?a ?l ?c ?k (fun _ _ _ _ _ _ us hl=>by obtain ⟨a0,a1,rfl⟩:=Sb.len2 hl; rfl)
   (case a=>k_is); (case l=>k_is); (case c=>k_is); (case k=>k_is)
  have d_times:Sb.Def (L2.KOf KX) mg "times" Sb.sTimes ["one","other"]:=by
   dsimp only [L2.KOf]
   refine' Sb.def_mk KX G ?a ?l ?c ?k (fun _ _ _ _ _ _ us hl=>by obtain ⟨a0,a1,rfl⟩:=Sb.len2 hl; rfl)
   (case a=>k_is); (case l=>k_is); (case c=>k_is); (case k=>k_is)
  have d_parted:Sb.Def (L2.KOf KX) mg "parted" Sb.sPartedP ["one","other"]:=by
   dsimp only [L2.KOf]
   refine' Sb.def_mk KX G ?a ?l ?c ?k (fun _ _ _ _ _ _ us hl=>by obtain ⟨a0,a1,rfl⟩:=Sb.len2 hl; rfl)
   (case a=>k_is); (case l=>k_is); (case c=>k_is); (case k=>k_is)
  have d_under:Sb.Def (L2.KOf KX) mg "under" Sb.sUnder ["one","other"]:=by
   dsimp only [L2.KOf]
   refine' Sb.def_mk KX G ?a ?l ?c ?k (fun _ _ _ _ _ _ us hl=>by obtain ⟨a0,a1,rfl⟩:=Sb.len2 hl; rfl)
   (case a=>k_is); (case l=>k_is); (case c=>k_is); (case k=>k_is)
  have d_common_bottom:Sb.Def (L2.KOf KX) mg "common_bottom" Sb.sCommonBottom ["several"]:=by
   dsimp only [L2.KOf]
   refine' Sb.def_mk KX G ?a ?l ?c ?k (fun _ _ _ _ _ _ us hl=>by obtain ⟨a0,rfl⟩:=Sb.len1 hl; rfl)
   (case a=>k_is); (case l=>k_is); (case c=>k_is); (case k=>k_is)
  have d_whole_by:Sb.Def (L2.KOf KX) mg "whole_by" Sb.sWholeBy ["several","bottom"]:=by
   dsimp only [L2.KOf]
   refine' Sb.def_mk KX G ?a ?l ?c ?k (fun _ _ _ _ _ _ us hl=>by obtain ⟨a0,a1,rfl⟩:=Sb.len2 hl; rfl)
   (case a=>k_is); (case l=>k_is); (case c=>k_is); (case k=>k_is)
  have d_added:Sb.Def (L2.KOf KX) mg "added" Sb.sAdded ["one","other"]:=by
   dsimp only [L2.KOf]
   refine' Sb.def_mk KX G ?a ?l ?c ?k (fun _ _ _ _ _ _ us hl=>by obtain ⟨a0,a1,rfl⟩:=Sb.len2 hl; rfl)
   (case a=>k_is); (case l=>k_is); (case c=>k_is); (case k=>k_is)
  have d_multiplied:Sb.Def (L2.KOf KX) mg "multiplied" Sb.sMultiplied ["row","by"]:=by
   dsimp only [L2.KOf]
   refine' Sb.def_mk KX G ?a ?l ?c ?k (fun _ _ _ _ _ _ us hl=>by obtain ⟨a0,a1,rfl⟩:=Sb.len2 hl; rfl)
   (case a=>k_is); (case l=>k_is); (case c=>k_is); (case k=>k_is)
  have d_mean:Sb.Def (L2.KOf KX) mg "mean" Sb.sMean ["weights","row"]:=by
   dsimp only [L2.KOf]
   refine' Sb.def_mk KX G ?a ?l ?c ?k (fun _ _ _ _ _ _ us hl=>by obtain ⟨a0,a1,rfl⟩:=Sb.len2 hl; rfl)
   (case a=>k_is); (case l=>k_is); (case c=>k_is); (case k=>k_is)
  have d_is_in:Sb.Def (L2.KOf KX) mg "is_in" Sb.sIsIn ["world","event"]:=by
   dsimp only [L2.KOf]
   refine' Sb.def_mk KX G ?a ?l ?c ?k (fun _ _ _ _ _ _ us hl=>by obtain ⟨a0,a1,rfl⟩:=Sb.len2 hl; rfl)
   (case a=>k_is); (case l=>k_is); (case c=>k_is); (case k=>k_is)
  have d_cut:Sb.Def (L2.KOf KX) mg "cut" Sb.sCut ["row","event"]:=by
   dsimp only [L2.KOf]
   refine' Sb.def_mk KX G ?a ?l ?c ?k (fun _ _ _ _ _ _ us hl=>by obtain ⟨a0,a1,rfl⟩:=Sb.len2 hl; rfl)
   (case a=>k_is); (case l=>k_is); (case c=>k_is); (case k=>k_is)
  have d_paper_of:Sb.Def (L2.KOf KX) mg "paper_of" Sb.sPaperOf ["count","event"]:=by
   dsimp only [L2.KOf]
   refine' Sb.def_mk KX G ?a ?l ?c ?k (fun _ _ _ _ _ _ us hl=>by obtain ⟨a0,a1,rfl⟩:=Sb.len2 hl; rfl)
   (case a=>k_is); (case l=>k_is); (case c=>k_is); (case k=>k_is)
  have d_gain:Sb.Def (L2.KOf KX) mg "gain" Sb.sGain ["offer","word"]:=by
   dsimp only [L2.KOf]
   refine' Sb.def_mk KX G ?a ?l ?c ?k (fun _ _ _ _ _ _ us hl=>by obtain ⟨a0,a1,rfl⟩:=Sb.len2 hl; rfl)
   (case a=>k_is); (case l=>k_is); (case c=>k_is); (case k=>k_is)
  have d_words_of:Sb.Def (L2.KOf KX) mg "words_of" Sb.sWordsOf ["offer"]:=by
   dsimp only [L2.KOf]
   refine' Sb.def_mk KX G ?a ?l ?c ?k (fun _ _ _ _ _ _ us hl=>by obtain ⟨a0,rfl⟩:=Sb.len1 hl; rfl)
   (case a=>k_is); (case l=>k_is); (case c=>k_is); (case k=>k_is)
  have d_sides:Sb.Def (L2.KOf KX) mg "sides" Sb.sSides ["offers"]:=by
   dsimp only [L2.KOf]
   refine' Sb.def_mk KX G ?a ?l ?c ?k (fun _ _ _ _ _ _ us hl=>by obtain ⟨a0,rfl⟩:=Sb.len1 hl; rfl)
   (case a=>k_is); (case l=>k_is); (case c=>k_is); (case k=>k_is)
  have d_gains:Sb.Def (L2.KOf KX) mg "gains" Sb.sGains ["offers"]:=by
   dsimp only [L2.KOf]
   refine' Sb.def_mk KX G ?a ?l ?c ?k (fun _ _ _ _ _ _ us hl=>by obtain ⟨a0,rfl⟩:=Sb.len1 hl; rfl)
   (case a=>k_is); (case l=>k_is); (case c=>k_is); (case k=>k_is)
  have d_touched:Sb.Def (L2.KOf KX) mg "touched" Sb.sTouched ["edges","corner"]:=by
   dsimp only [L2.KOf]
   refine' Sb.def_mk KX G ?a ?l ?c ?k (fun _ _ _ _ _ _ us hl=>by obtain ⟨a0,a1,rfl⟩:=Sb.len2 hl; rfl)
   (case a=>k_is); (case l=>k_is); (case c=>k_is); (case k=>k_is)
  have d_are_neighbours:Sb.Def (L2.KOf KX) mg "are_neighbours" Sb.sAreNeighbours ["touching","one","other"]:=by
   dsimp only [L2.KOf]
   refine' Sb.def_mk KX G ?a ?l ?c ?k (fun _ _ _ _ _ _ us hl=>by obtain ⟨a0,a1,a2,rfl⟩:=Sb.len3 hl; rfl)
   (case a=>k_is); (case l=>k_is); (case c=>k_is); (case k=>k_is)
  have d_crossing:Sb.Def (L2.KOf KX) mg "crossing" Sb.sCrossing ["one","other","row"]:=by
   dsimp only [L2.KOf]
   refine' Sb.def_mk KX G ?a ?l ?c ?k (fun _ _ _ _ _ _ us hl=>by obtain ⟨a0,a1,a2,rfl⟩:=Sb.len3 hl; rfl)
   (case a=>k_is); (case l=>k_is); (case c=>k_is); (case k=>k_is)
  have d_cut_off:Sb.Def (L2.KOf KX) mg "cut_off" Sb.sCutOff ["found","edges","row"]:=by
   dsimp only [L2.KOf]
   refine' Sb.def_mk KX G ?a ?l ?c ?k (fun _ _ _ _ _ _ us hl=>by obtain ⟨a0,a1,a2,rfl⟩:=Sb.len3 hl; rfl)
   (case a=>k_is); (case l=>k_is); (case c=>k_is); (case k=>k_is)
  have d_is_ahead:Sb.Def (L2.KOf KX) mg "is_ahead" Sb.sIsAhead ["one","other"]:=by
   dsimp only [L2.KOf]
   refine' Sb.def_mk KX G ?a ?l ?c ?k (fun _ _ _ _ _ _ us hl=>by obtain ⟨a0,a1,rfl⟩:=Sb.len2 hl; rfl)
   (case a=>k_is); (case l=>k_is); (case c=>k_is); (case k=>k_is)
  have d_corners:Sb.Def (L2.KOf KX) mg "corners" Sb.sCorners ["count","offers"]:=by
   dsimp only [L2.KOf]
   refine' Sb.def_mk KX G ?a ?l ?c ?k (fun _ _ _ _ _ _ us hl=>by obtain ⟨a0,a1,rfl⟩:=Sb.len2 hl; rfl)
   (case a=>k_is); (case l=>k_is); (case c=>k_is); (case k=>k_is)
  have d__law_cell:Sb.Def (L2.KOf KX) mg "_law_cell" Sb.sCell ["_law_script","_law_k"]:=by
   dsimp only [L2.KOf]
   refine' Sb.def_mk KX G ?a ?l ?c ?k (fun _ _ _ _ _ _ us hl=>by obtain ⟨a0,a1,rfl⟩:=Sb.len2 hl; rfl)
   (case a=>k_is); (case l=>k_is); (case c=>k_is); (case k=>k_is)
  have d__law_whole:Sb.Def (L2.KOf KX) mg "_law_whole" Sb.sWhole ["_law_found"]:=by
   dsimp only [L2.KOf]
   refine' Sb.def_mk KX G ?a ?l ?c ?k (fun _ _ _ _ _ _ us hl=>by obtain ⟨a0,rfl⟩:=Sb.len1 hl; rfl)
   (case a=>k_is); (case l=>k_is); (case c=>k_is); (case k=>k_is)
  have d__law_bag:Sb.Def (L2.KOf KX) mg "_law_bag" Sb.sBag ["_law_script","_law_at"]:=by
   dsimp only [L2.KOf]
   refine' Sb.def_mk KX G ?a ?l ?c ?k (fun _ _ _ _ _ _ us hl=>by obtain ⟨a0,a1,rfl⟩:=Sb.len2 hl; rfl)
   (case a=>k_is); (case l=>k_is); (case c=>k_is); (case k=>k_is)
  have d__law_take:Sb.Def (L2.KOf KX) mg "_law_take" Sb.sTake ["_law_bag_here","_law_many"]:=by
   dsimp only [L2.KOf]
   refine' Sb.def_mk KX G ?a ?l ?c ?k (fun _ _ _ _ _ _ us hl=>by obtain ⟨a0,a1,rfl⟩:=Sb.len2 hl; rfl)
   (case a=>k_is); (case l=>k_is); (case c=>k_is); (case k=>k_is)
  have d__law_low:Sb.Def (L2.KOf KX) mg "_law_low" Sb.sLow ["_law_top","_law_bottom"]:=by
   dsimp only [L2.KOf]
   refine' Sb.def_mk KX G ?a ?l ?c ?k (fun _ _ _ _ _ _ us hl=>by obtain ⟨a0,a1,rfl⟩:=Sb.len2 hl; rfl)
   (case a=>k_is); (case l=>k_is); (case c=>k_is); (case k=>k_is)
  have d__law_plus:Sb.Def (L2.KOf KX) mg "_law_plus" Sb.sLPlus ["_law_one","_law_other"]:=by
   dsimp only [L2.KOf]
   refine' Sb.def_mk KX G ?a ?l ?c ?k (fun _ _ _ _ _ _ us hl=>by obtain ⟨a0,a1,rfl⟩:=Sb.len2 hl; rfl)
   (case a=>k_is); (case l=>k_is); (case c=>k_is); (case k=>k_is)
  have d__law_minus:Sb.Def (L2.KOf KX) mg "_law_minus" Sb.sLMinus ["_law_one","_law_other"]:=by
   dsimp only [L2.KOf]
   refine' Sb.def_mk KX G ?a ?l ?c ?k (fun _ _ _ _ _ _ us hl=>by obtain ⟨a0,a1,rfl⟩:=Sb.len2 hl; rfl)
   (case a=>k_is); (case l=>k_is); (case c=>k_is); (case k=>k_is)
  have d__law_times:Sb.Def (L2.KOf KX) mg "_law_times" Sb.sLTimes ["_law_one","_law_other"]:=by
   dsimp only [L2.KOf]
   refine' Sb.def_mk KX G ?a ?l ?c ?k (fun _ _ _ _ _ _ us hl=>by obtain ⟨a0,a1,rfl⟩:=Sb.len2 hl; rfl)
   (case a=>k_is); (case l=>k_is); (case c=>k_is); (case k=>k_is)
  have d__law_is_ratio:Sb.Def (L2.KOf KX) mg "_law_is_ratio" Sb.sIsRatio ["_law_found"]:=by
   dsimp only [L2.KOf]
   refine' Sb.def_mk KX G ?a ?l ?c ?k (fun _ _ _ _ _ _ us hl=>by obtain ⟨a0,rfl⟩:=Sb.len1 hl; rfl)
   (case a=>k_is); (case l=>k_is); (case c=>k_is); (case k=>k_is)
  have d__law_is_row:Sb.Def (L2.KOf KX) mg "_law_is_row" Sb.sIsRow ["_law_found","_law_count"]:=by
   dsimp only [L2.KOf]
   refine' Sb.def_mk KX G ?a ?l ?c ?k (fun _ _ _ _ _ _ us hl=>by obtain ⟨a0,a1,rfl⟩:=Sb.len2 hl; rfl)
   (case a=>k_is); (case l=>k_is); (case c=>k_is); (case k=>k_is)
  have d__law_parted:Sb.Def (L2.KOf KX) mg "_law_parted" Sb.sParted ["_law_one","_law_other"]:=by
   dsimp only [L2.KOf]
   refine' Sb.def_mk KX G ?a ?l ?c ?k (fun _ _ _ _ _ _ us hl=>by obtain ⟨a0,a1,rfl⟩:=Sb.len2 hl; rfl)
   (case a=>k_is); (case l=>k_is); (case c=>k_is); (case k=>k_is)
  have d__law_mean:Sb.Def (L2.KOf KX) mg "_law_mean" Sb.sLMean ["_law_weights_here","_law_row_here"]:=by
   dsimp only [L2.KOf]
   refine' Sb.def_mk KX G ?a ?l ?c ?k (fun _ _ _ _ _ _ us hl=>by obtain ⟨a0,a1,rfl⟩:=Sb.len2 hl; rfl)
   (case a=>k_is); (case l=>k_is); (case c=>k_is); (case k=>k_is)
  have d__law_cut:Sb.Def (L2.KOf KX) mg "_law_cut" Sb.sLCut ["_law_row_here","_law_event_here"]:=by
   dsimp only [L2.KOf]
   refine' Sb.def_mk KX G ?a ?l ?c ?k (fun _ _ _ _ _ _ us hl=>by obtain ⟨a0,a1,rfl⟩:=Sb.len2 hl; rfl)
   (case a=>k_is); (case l=>k_is); (case c=>k_is); (case k=>k_is)
  have d__law_gains:Sb.Def (L2.KOf KX) mg "_law_gains" Sb.sLGains ["_law_offers"]:=by
   dsimp only [L2.KOf]
   refine' Sb.def_mk KX G ?a ?l ?c ?k (fun _ _ _ _ _ _ us hl=>by obtain ⟨a0,rfl⟩:=Sb.len1 hl; rfl)
   (case a=>k_is); (case l=>k_is); (case c=>k_is); (case k=>k_is)
  have d__law_fits:Sb.Def (L2.KOf KX) mg "_law_fits" Sb.sFits ["_law_weights_here","_law_rows"]:=by
   dsimp only [L2.KOf]
   refine' Sb.def_mk KX G ?a ?l ?c ?k (fun _ _ _ _ _ _ us hl=>by obtain ⟨a0,a1,rfl⟩:=Sb.len2 hl; rfl)
   (case a=>k_is); (case l=>k_is); (case c=>k_is); (case k=>k_is)
  have d__law_small:Sb.Def (L2.KOf KX) mg "_law_small" Sb.sSmall ["_law_bag_here"]:=by
   dsimp only [L2.KOf]
   refine' Sb.def_mk KX G ?a ?l ?c ?k (fun _ _ _ _ _ _ us hl=>by obtain ⟨a0,rfl⟩:=Sb.len1 hl; rfl)
   (case a=>k_is); (case l=>k_is); (case c=>k_is); (case k=>k_is)
  have d__law_row:Sb.Def (L2.KOf KX) mg "_law_row" Sb.sRow ["_law_bag_here","_law_count"]:=by
   dsimp only [L2.KOf]
   refine' Sb.def_mk KX G ?a ?l ?c ?k (fun _ _ _ _ _ _ us hl=>by obtain ⟨a0,a1,rfl⟩:=Sb.len2 hl; rfl)
   (case a=>k_is); (case l=>k_is); (case c=>k_is); (case k=>k_is)
  have d__law_weights:Sb.Def (L2.KOf KX) mg "_law_weights" Sb.sWeights ["_law_bag_here","_law_count"]:=by
   dsimp only [L2.KOf]
   refine' Sb.def_mk KX G ?a ?l ?c ?k (fun _ _ _ _ _ _ us hl=>by obtain ⟨a0,a1,rfl⟩:=Sb.len2 hl; rfl)
   (case a=>k_is); (case l=>k_is); (case c=>k_is); (case k=>k_is)
  have d__law_event:Sb.Def (L2.KOf KX) mg "_law_event" Sb.sEvent ["_law_bag_here","_law_count"]:=by
   dsimp only [L2.KOf]
   refine' Sb.def_mk KX G ?a ?l ?c ?k (fun _ _ _ _ _ _ us hl=>by obtain ⟨a0,a1,rfl⟩:=Sb.len2 hl; rfl)
   (case a=>k_is); (case l=>k_is); (case c=>k_is); (case k=>k_is)
  have d__law_mid:Sb.Def (L2.KOf KX) mg "_law_mid" Sb.sMid ["_law_weights_here","_law_row_here","_law_event_here"]:=by
   dsimp only [L2.KOf]
   refine' Sb.def_mk KX G ?a ?l ?c ?k (fun _ _ _ _ _ _ us hl=>by obtain ⟨a0,a1,a2,rfl⟩:=Sb.len3 hl; rfl)
   (case a=>k_is); (case l=>k_is); (case c=>k_is); (case k=>k_is)
  have d__law_offer:Sb.Def (L2.KOf KX) mg "_law_offer" Sb.sOffer ["_law_bag_here","_law_weights_here","_law_loose"]:=by
   dsimp only [L2.KOf]
   refine' Sb.def_mk KX G ?a ?l ?c ?k (fun _ _ _ _ _ _ us hl=>by obtain ⟨a0,a1,a2,rfl⟩:=Sb.len3 hl; rfl)
   (case a=>k_is); (case l=>k_is); (case c=>k_is); (case k=>k_is)
  have d__law_corner_book:Sb.Def (L2.KOf KX) mg "_law_corner_book" Sb.sCornerBook ["_law_script","_law_count"]:=by
   dsimp only [L2.KOf]
   refine' Sb.def_mk KX G ?a ?l ?c ?k (fun _ _ _ _ _ _ us hl=>by obtain ⟨a0,a1,rfl⟩:=Sb.len2 hl; rfl)
   (case a=>k_is); (case l=>k_is); (case c=>k_is); (case k=>k_is)
  have d__law_bounds:Sb.Def (L2.KOf KX) mg "_law_bounds" Sb.sBounds ["_law_rows","_law_count"]:=by
   dsimp only [L2.KOf]
   refine' Sb.def_mk KX G ?a ?l ?c ?k (fun _ _ _ _ _ _ us hl=>by obtain ⟨a0,a1,rfl⟩:=Sb.len2 hl; rfl)
   (case a=>k_is); (case l=>k_is); (case c=>k_is); (case k=>k_is)
  have d__law_two:Sb.Def (L2.KOf KX) mg "_law_two" Sb.sTwo ["_law_one"]:=by
   dsimp only [L2.KOf]
   refine' Sb.def_mk KX G ?a ?l ?c ?k (fun _ _ _ _ _ _ us hl=>by obtain ⟨a0,rfl⟩:=Sb.len1 hl; rfl)
   (case a=>k_is); (case l=>k_is); (case c=>k_is); (case k=>k_is)
  have d__law_cross:Sb.Def (L2.KOf KX) mg "_law_cross" Sb.sCross ["_law_one","_law_other","_law_j","_law_k"]:=by
   dsimp only [L2.KOf]
   refine' Sb.def_mk KX G ?a ?l ?c ?k (fun _ _ _ _ _ _ us hl=>by obtain ⟨a0,a1,a2,a3,rfl⟩:=Sb.len4 hl; rfl)
   (case a=>k_is); (case l=>k_is); (case c=>k_is); (case k=>k_is)
  have d__law_three:Sb.Def (L2.KOf KX) mg "_law_three" Sb.sThree ["_law_one","_law_other"]:=by
   dsimp only [L2.KOf]
   refine' Sb.def_mk KX G ?a ?l ?c ?k (fun _ _ _ _ _ _ us hl=>by obtain ⟨a0,a1,rfl⟩:=Sb.len2 hl; rfl)
   (case a=>k_is); (case l=>k_is); (case c=>k_is); (case k=>k_is)
  have d__law_points:Sb.Def (L2.KOf KX) mg "_law_points" Sb.sPoints ["_law_bounds_here","_law_count"]:=by
   dsimp only [L2.KOf]
   refine' Sb.def_mk KX G ?a ?l ?c ?k (fun _ _ _ _ _ _ us hl=>by obtain ⟨a0,a1,rfl⟩:=Sb.len2 hl; rfl)
   (case a=>k_is); (case l=>k_is); (case c=>k_is); (case k=>k_is)
  have g_NOUGHT:Sb.Con (L2.KOf KX) mg "NOUGHT" (0,1):=by
   dsimp only [L2.KOf]
   refine' Sb.con_mk KX G ?a ?l
   (case a=>k_is); (case l=>k_is)
  have g_ONE:Sb.Con (L2.KOf KX) mg "ONE" (1,1):=by
   dsimp only [L2.KOf]
   refine' Sb.con_mk KX G ?a ?l
   (case a=>k_is); (case l=>k_is)
  have g_ROW:Sb.ConI mg "ROW" 0:=by
   refine' Sb.conI_mk KX G ?a
   (case a=>k_is)
  have g_ASK:Sb.ConI mg "ASK" 1:=by
   refine' Sb.conI_mk KX G ?a
   (case a=>k_is)
  have g_BID:Sb.ConI mg "BID" 2:=by
   refine' Sb.conI_mk KX G ?a
   (case a=>k_is)
  have g_EVENT:Sb.ConI mg "EVENT" 3:=by
   refine' Sb.conI_mk KX G ?a
   (case a=>k_is)
  have n_sorted:mg "sorted"=none:=by
   refine' PySem.W.mg_none_of KX G ?z
   (case z=>k_is)
  have n_all:mg "all"=none:=by
   refine' PySem.W.mg_none_of KX G ?z
   (case z=>k_is)
  have n_dict:mg "dict"=none:=by
   refine' PySem.W.mg_none_of KX G ?z
   (case z=>k_is)
  have y_rising:∃ cc,Sb.DefC (L2.KOf KX) mg "rising" Sb.sRising ["rows"] cc/\PySem.W.codeHdIn (L2.KOf KX) cc 203=true:=by
   dsimp only [L2.KOf]
   refine' ⟨_,Sb.def_mkC KX G ?a ?l ?c ?k (fun _ _ _ _ _ _ us hl=>by obtain ⟨a0,rfl⟩:=Sb.len1 hl; rfl),?t⟩
   (case a=>k_is); (case l=>k_is); (case c=>k_is); (case k=>k_is)
   (case t=>kernel_rfl)
  obtain ⟨cc,dc_rising,hcc⟩:=y_rising
  refine' Sb.law_mkT (st:=Sb.sLaw) KX G hmg ?a ?l ?c ?k ?b ?ok
  (case a=>k_is); (case l=>k_is); (case c=>k_is); (case k=>k_is)
  (case b=>exact fun s v=>.of_eq rfl)
  case ok =>
   intro fd base kb hB F
   have c__law_cell:=Sb.okCell (P:=PySem.Challenge.rw_surebook_k43_none_between.prog) (w:=w) (base:=base) d__law_cell T
   have c__law_low:=Sb.okLow (P:=PySem.Challenge.rw_surebook_k43_none_between.prog) (w:=w) (base:=base) d__law_low T
   have c__law_bag:=Sb.okBagA (P:=PySem.Challenge.rw_surebook_k43_none_between.prog) (w:=w) (base:=base) d__law_bag c__law_cell
   have c__law_take:=Sb.okTake (P:=PySem.Challenge.rw_surebook_k43_none_between.prog) (w:=w) (base:=base) d__law_take
   have c_common_divisor:=Sb.okGcd (P:=PySem.Challenge.rw_surebook_k43_none_between.prog) (w:=w) (base:=base) d_common_divisor T
   have c_lowest:=Sb.okLowest (P:=PySem.Challenge.rw_surebook_k43_none_between.prog) (w:=w) (base:=base) d_lowest c_common_divisor
   have c__law_plus:=Sb.okLPlus (P:=PySem.Challenge.rw_surebook_k43_none_between.prog) (w:=w) (base:=base) d__law_plus c__law_low
   have c__law_minus:=Sb.okLMinus (P:=PySem.Challenge.rw_surebook_k43_none_between.prog) (w:=w) (base:=base) d__law_minus c__law_low
   have c__law_times:=Sb.okLTimes (P:=PySem.Challenge.rw_surebook_k43_none_between.prog) (w:=w) (base:=base) d__law_times c__law_low
   have c__law_whole:=Sb.okWhole (P:=PySem.Challenge.rw_surebook_k43_none_between.prog) (w:=w) (base:=base) d__law_whole T
   have c__law_is_ratio:=Sb.okIsRt (P:=PySem.Challenge.rw_surebook_k43_none_between.prog) (w:=w) (base:=base) d__law_is_ratio T c__law_whole c__law_low
   have c__law_parted:=Sb.okParted (P:=PySem.Challenge.rw_surebook_k43_none_between.prog) (w:=w) (base:=base) d__law_parted c__law_low
   have c_is_whole:=Sb.okIsWhole (P:=PySem.Challenge.rw_surebook_k43_none_between.prog) (w:=w) (base:=base) d_is_whole T
   have c_ratio:=Sb.okRatio0 (P:=PySem.Challenge.rw_surebook_k43_none_between.prog) (w:=w) (base:=base) d_ratio c_is_whole c_lowest
   have c__law_small:=Sb.okSmall6 (P:=PySem.Challenge.rw_surebook_k43_none_between.prog) (w:=w) (base:=base) d__law_small c__law_take c__law_low
   have c__law_row:=Sb.okRow6 (P:=PySem.Challenge.rw_surebook_k43_none_between.prog) (w:=w) (base:=base) d__law_row T c__law_small
   have c__law_weights:=Sb.okWeightsR (P:=PySem.Challenge.rw_surebook_k43_none_between.prog) (w:=w) (base:=base) d__law_weights T c__law_take c__law_low
   have c_is_in:=Sb.okIsIn (P:=PySem.Challenge.rw_surebook_k43_none_between.prog) (w:=w) (base:=base) d_is_in
   have c_cut:=Sb.okCut (P:=PySem.Challenge.rw_surebook_k43_none_between.prog) (w:=w) (base:=base) d_cut T c_is_in g_NOUGHT
   have c__law_cut:=Sb.okLCut (P:=PySem.Challenge.rw_surebook_k43_none_between.prog) (w:=w) (base:=base) d__law_cut T
   have c_paper_of:=Sb.okPaper (P:=PySem.Challenge.rw_surebook_k43_none_between.prog) (w:=w) (base:=base) d_paper_of c_cut g_ONE
   have c_common_bottom:=Sb.okCommon (P:=PySem.Challenge.rw_surebook_k43_none_between.prog) (w:=w) (base:=base) d_common_bottom c_common_divisor
   have c_whole_by:=Sb.okWholeBy (P:=PySem.Challenge.rw_surebook_k43_none_between.prog) (w:=w) (base:=base) d_whole_by
   have c__law_mean:=Sb.okLMeanP (P:=PySem.Challenge.rw_surebook_k43_none_between.prog) (w:=w) (base:=base) d__law_mean T c__law_plus c__law_times
   have c__law_event:=Sb.okEvent (P:=PySem.Challenge.rw_surebook_k43_none_between.prog) (w:=w) (base:=base) d__law_event T c__law_take
   have c_minus:=Sb.okMinus (P:=PySem.Challenge.rw_surebook_k43_none_between.prog) (w:=w) (base:=base) d_minus c_lowest
   have c_gain:=Sb.okGain (P:=PySem.Challenge.rw_surebook_k43_none_between.prog) (w:=w) (base:=base) d_gain T c_minus c_cut g_ROW g_ASK g_BID g_EVENT
   have c_words_of:=Sb.okWords (P:=PySem.Challenge.rw_surebook_k43_none_between.prog) (w:=w) (base:=base) d_words_of g_ASK g_BID
   have c_sides:=Sb.okSides (P:=PySem.Challenge.rw_surebook_k43_none_between.prog) (w:=w) (base:=base) d_sides T c_words_of
   have c_gains:=Sb.okGainsP (P:=PySem.Challenge.rw_surebook_k43_none_between.prog) (w:=w) (base:=base) d_gains c_sides c_gain
   have c__law_mid:=Sb.okMid (P:=PySem.Challenge.rw_surebook_k43_none_between.prog) (w:=w) (base:=base) d__law_mid T c__law_mean c__law_cut c__law_parted
   have c__law_offer:=Sb.okOfferL (P:=PySem.Challenge.rw_surebook_k43_none_between.prog) (w:=w) (base:=base) d__law_offer T c__law_take c__law_event c__law_row c__law_mid c__law_low c__law_plus c__law_minus
   have c__law_gains:=Sb.okGainsOf (P:=PySem.Challenge.rw_surebook_k43_none_between.prog) (w:=w) (base:=base) d__law_gains c__law_minus c__law_cut
   have c_under:=Sb.okUnder (P:=PySem.Challenge.rw_surebook_k43_none_between.prog) (w:=w) (base:=base) d_under
   have c_is_ahead:=Sb.okAhead (P:=PySem.Challenge.rw_surebook_k43_none_between.prog) (w:=w) (base:=base) d_is_ahead T c_under
   have c_rising:=Sb.okRising (P:=PySem.Challenge.rw_surebook_k43_none_between.prog) (w:=w) (base:=base) dc_rising T n_sorted kb hcc hB c_is_ahead
   have c_mean:=Sb.okMeanW (P:=PySem.Challenge.rw_surebook_k43_none_between.prog) (w:=w) (base:=base) d_mean T c_common_bottom c_whole_by c_ratio
   have c_touched:=Sb.okTouched (P:=PySem.Challenge.rw_surebook_k43_none_between.prog) (w:=w) (base:=base) d_touched T c_mean g_NOUGHT
   have c_plus:=Sb.okPlus (P:=PySem.Challenge.rw_surebook_k43_none_between.prog) (w:=w) (base:=base) d_plus c_lowest
   have c_times:=Sb.okTimes (P:=PySem.Challenge.rw_surebook_k43_none_between.prog) (w:=w) (base:=base) d_times c_lowest
   have c_added:=Sb.okAdded (P:=PySem.Challenge.rw_surebook_k43_none_between.prog) (w:=w) (base:=base) d_added T c_plus
   have c_multiplied:=Sb.okMultiplied (P:=PySem.Challenge.rw_surebook_k43_none_between.prog) (w:=w) (base:=base) d_multiplied T c_times
   have c_parted:=Sb.okPart0 (P:=PySem.Challenge.rw_surebook_k43_none_between.prog) (w:=w) (base:=base) d_parted c_lowest
   have c_crossing:=Sb.okCrossing (P:=PySem.Challenge.rw_surebook_k43_none_between.prog) (w:=w) (base:=base) d_crossing c_mean c_minus c_parted c_added c_multiplied g_ONE
   have c_are_neighbours:=Sb.okNear (P:=PySem.Challenge.rw_surebook_k43_none_between.prog) (w:=w) (base:=base) d_are_neighbours T n_all
   have c_cut_off:=Sb.okCutOff (P:=PySem.Challenge.rw_surebook_k43_none_between.prog) (w:=w) (base:=base) d_cut_off n_dict c_touched c_under c_mean c_are_neighbours c_crossing g_NOUGHT
   have c_corners:=Sb.okCorners (P:=PySem.Challenge.rw_surebook_k43_none_between.prog) (w:=w) (base:=base) d_corners T c_paper_of c_gains c_cut_off c_rising
   have c__law_is_row:=Sb.okIsRow (P:=PySem.Challenge.rw_surebook_k43_none_between.prog) (w:=w) (base:=base) d__law_is_row T c__law_is_ratio
   have c__law_fits:=Sb.okFitsN (P:=PySem.Challenge.rw_surebook_k43_none_between.prog) (w:=w) (base:=base) d__law_fits T c__law_plus c__law_mean
   have c__law_cross:=Sb.okCross (P:=PySem.Challenge.rw_surebook_k43_none_between.prog) (w:=w) (base:=base) d__law_cross c__law_minus c__law_times
   have c__law_parted:=Sb.okPartedN (P:=PySem.Challenge.rw_surebook_k43_none_between.prog) (w:=w) (base:=base) d__law_parted c__law_low
   have c__law_two:=Sb.okTwoW (P:=PySem.Challenge.rw_surebook_k43_none_between.prog) (w:=w) (base:=base) d__law_two c__law_minus c__law_parted
   have c__law_three:=Sb.okThree (P:=PySem.Challenge.rw_surebook_k43_none_between.prog) (w:=w) (base:=base) d__law_three T c__law_cross c__law_plus c__law_parted
   have c__law_points:=Sb.okPoints (P:=PySem.Challenge.rw_surebook_k43_none_between.prog) (w:=w) (base:=base) d__law_points T c__law_two c__law_three
   have c__law_bounds:=Sb.okBounds (P:=PySem.Challenge.rw_surebook_k43_none_between.prog) (w:=w) (base:=base) d__law_bounds T
   have c__law_corner_book:=Sb.okCBook (P:=PySem.Challenge.rw_surebook_k43_none_between.prog) (w:=w) (base:=base) d__law_corner_book T c__law_bag c__law_take c__law_weights c__law_offer
   exact Sb.okLaw F T c__law_cell c__law_corner_book c__law_gains c__law_points c__law_bounds c__law_fits c_corners c__law_is_row
#print axioms PySem.Challenge.cw_surebook_k43_none_between_holds
