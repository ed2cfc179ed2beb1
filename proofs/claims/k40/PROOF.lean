import PyProof.Rows.All
import Wide.All
import OpenK.AllK
import Wide.FinOn
import Lean
import PyProof.EqAt
import PyProof.EqKinds
import PyProof.TupleCall
import PySem.Challenge.RW_surebook_k40_whole_joined
set_option Elab.async false
set_option linter.all false
set_option maxRecDepth 100000
theorem Sb.sz0:0<=PySem.sizeLine:=by decide
theorem Sb.sz1:1<=PySem.sizeLine:=by decide
theorem Sb.sz2:2<=PySem.sizeLine:=by decide
theorem Sb.sz3:3<=PySem.sizeLine:=by decide
theorem Sb.sz4:4<=PySem.sizeLine:=by decide
theorem Sb.sz8:8<=PySem.sizeLine:=by decide
namespace Sb
open PySem PySem.Spec PyProof.Rows
def NoCtx (o:Obj):Prop:=∃ vs,o.data=.fields vs/\vs[2]?=some .none
def Qt (A:Around)(h:Heap):Prop:=A.handled=none \/ ∃ a o,A.handled=some (.ref a)/\h.get? a=some o/\NoCtx o
def QtP (A:Around)(pn:List (Addr × Obj)):Prop:=A.handled=none \/ ∃ p∈pn,A.handled=some (.ref p.1)/\NoCtx p.2
theorem QtP.at {A:Around}{pn:List (Addr × Obj)}{h:Heap}(q:QtP A pn)(k:∀ p∈pn,h.get? p.1=some p.2):Qt A h :=
 q.imp id fun ⟨p,hp,e,n⟩=>⟨p.1,p.2,e,k p hp,n⟩
theorem Qt.keeps {A:Around}{h h':Heap}(q:Qt A h)(k:∀ b o,h.get? b=some o->NoCtx o->h'.get? b=some o):Qt A h':=q.imp id fun ⟨a,o,e,g,n⟩=>⟨a,o,e,k a o g n,n⟩
theorem Qt.but {A:Around}{h:Heap}{a:Addr}{o:Obj}{f:Obj->Obj}(q:Qt A h)(ha:h.get? a=some o)(n:¬ NoCtx o):Qt A (h.update a f) :=
 q.imp id fun ⟨b,u,e,g,m⟩=>⟨b,u,e,(Heap.SameBut.update ..).extBut b u (fun z=>n (by rw[z,ha] at g;cases g;exact m)) g,m⟩
theorem Qd:entryFor table "proto.unchain"=some Builtin.«proto.unchain»:=entryFor_of_tree (by kernel_rfl)
section
variable {prog:Program}{w:World}{A:Around}{E:Value->Shared->Prop}{s:Shared}
theorem Lm {α:Type}{e:Addr}{oe:Obj}{vs:Array Value}{Q:α->Shared->Prop}(hq:Qt A s.heap)(he:s.heap.get? e=some oe)(hd:oe.data=.fields vs)(hz:2<vs.size)(hn:∀ a,A.handled=some (.ref a)->a≠e)
  (h:∀ h':Heap,Heap.SameBut e s.heap h'->(∃ o',h'.get? e=some o'/\o'.cls=oe.cls)->E (.ref e) { s with heap:=h' }):wpAny (model prog w) A (raiseNew (.ref e):Sem α) Q E s:=by
 unfold raiseNew
 refine wpAny_bind (wpAny_handled ?_)
 rcases hq with hh | ⟨a,o,hh,ha,xs,hx,h2⟩
 ·rw[hh]
  first
   | exact wpAny_throw (h s.heap (Heap.SameBut.refl ..) ⟨_,he,rfl⟩)
   | exact wpAny_bind (wpAny_pure (wpAny_throw (h s.heap (Heap.SameBut.refl ..) ⟨_,he,rfl⟩)))
 ·have ne:=hn a hh
  rw[hh]
  dsimp only
  have nb:(Value.ref a != Value.ref e)=true:=by simpa using ne
  rw[if_pos nb]
  refine wpAny_bind (wpAny_holding (wpAny_runValue (codeAny_builtin Qd ?_)))
  show wpAny _ _ (field (.ref a) 2 >>= _) _ _ s
  refine wpAny_bind (wpAny_field ha hx (x:=.none) h2 ?_)
  refine wpAny_pure ?_
  simp only [updateField]
  refine wpAny_bind (wpAny_bind (wpAny_load he ?_))
  rw[hd]
  show wpAny _ _ (if 2<vs.size then _ else _) _ _ _
  rw[if_pos hz]
  refine wpAny_update he ?_
  refine wpAny_throw (h _ (Heap.SameBut.update ..) ⟨_,Heap.get?_update_self _ he ?_,?_⟩)
  ·exact Obj.isFreed_of_fields (Obj.data_mapFields hd _)
  ·exact Obj.cls_mapFields ..
theorem Sw {α:Type}{Q:α->Shared->Prop}(hq:Qt A s.heap)
  (h:∀ (h':Heap) (e:Addr),(∀ b o,s.heap.get? b=some o->h'.get? b=some o)->(∃ o,h'.get? e=some o/\o.cls=.type "StopIteration")->E (.ref e) { s with heap:=h' }) :
  wpAny (model prog w) A (newExc (.type "StopIteration") [] >>= fun e=>(raiseNew e:Sem α)) Q E s:=by
 refine wpAny_bind ?_
 simp only [newExc,newTuple]
 refine wpAny_bind (wpAny_newObj_type ?_ (by size_fits))
 refine wpAny_bind (m:=firstArgMember _ _) (wpAny_of_eq (a:=Value.none) (by first | rfl | (simp only [firstArgMember];rfl)) ?_)
 refine wpAny_newObj_type ?_ (by size_fits)
 have sz:∀ (o:Obj),(s.heap.push o).objs.size=s.heap.objs.size+1:=fun o=>Heap.size_push ..
 refine Lm (hq.keeps fun b o hb _=>Heap.get?_push_of_some _ (Heap.get?_push_of_some _ hb)) (Heap.get?_push_size _ rfl) rfl (by simp[ownMembersOf]) (fun a ha z=>?_) fun h' sb ho=>?_
 ·rcases hq with q | ⟨b,o,q,hb,_⟩
  ·rw[q] at ha;cases ha
  ·rw[q] at ha
   cases ha
   have:=Heap.lt_size hb
   rw[z,sz] at this
   exact Nat.lt_irrefl _ (Nat.lt_of_succ_lt this)
 ·refine h h' _ (fun b o hb=>?_) ho
  refine sb.extBut b o (fun z=>?_) (Heap.get?_push_of_some _ (Heap.get?_push_of_some _ hb))
  have:=Heap.lt_size hb
  rw[z,sz] at this
  exact Nat.lt_irrefl _ (Nat.lt_of_succ_lt this)
theorem Rx {it l:Addr}{i:Nat}{items}{Q:Option Value->Shared->Prop}(hq:Qt A s.heap)
  (hit:s.heap.IsListIter it l i) (hl:s.heap.IsList l items) (hx:items[i]?=none)
  (hQ:∀ h',Heap.ExtBut it s.heap h'->Q none { s with heap:=h' }):wpAny (model prog w) A (pyNext (.ref it)) Q E s:=by
 obtain⟨o,ho,hc,hd⟩:=id hit
 obtain⟨ol,hol,_,nl,hdl⟩:=hl
 unfold pyNext
 refine wpAny_bind (wpAny_attempt (wpAny_callSpecial?_slot (name:=Str.ofString "__next__") hit.typeIs slot_listiter_next
  (wpAny_call_entry slot_listiter_next hit.typeIs entry_listiter_next ?_ (args_listiter_next _))))
 show wpAny _ _ (field (.ref it) 0 >>= _) _ _ s
 refine wpAny_bind (wpAny_field ho hd (x:=.ref l) rfl ?_)
 show wpAny _ _ (if (Value.ref l == Value.none)=true then _ else _) _ _ s
 rw[if_neg (show ¬ ((Value.ref l == Value.none)=true) from Bool.false_ne_true)]
 show wpAny _ _ (field (.ref it) 1 >>= _) _ _ s
 refine wpAny_bind (wpAny_field ho hd (x:=.int i 0) rfl ?_)
 show wpAny _ _ (seqItems? (.ref l) >>= _) _ _ s
 refine wpAny_bind (wpAny_seqItems hol hdl ?_)
 simp only [Int.toNat_natCast,hx]
 refine wpAny_bind (wpAny_rule (wpAny_bind (wpAny_setField ho hd (by simp) ?_)))
 refine Sw (hq:=(hq.but ho fun n=>?_)) fun h' e k he=>?_
 ·obtain⟨vs,e1,e2⟩:=n
  rw[hd] at e1
  cases e1
  simp at e2
 obtain⟨oe,h1,h2⟩:=he
 refine wpAny_bind (wpAny_isInstance (T:="StopIteration") (b:=true) ⟨_,h1,h2⟩ isSubtype_stop ?_)
 exact wpAny_pure (hQ _ fun b o hb e=>k b o ((Heap.SameBut.update ..).extBut b o hb e))
theorem Tq {it t:Addr}{i:Nat}{items}{Q:Option Value->Shared->Prop}(hq:Qt A s.heap)
  (hit:s.heap.IsTupleIter it t i) (ht:s.heap.IsTuple t items) (hx:items[i]?=none)
  (hQ:∀ h',Heap.ExtBut it s.heap h'->Q none { s with heap:=h' }):wpAny (model prog w) A (pyNext (.ref it)) Q E s:=by
 obtain⟨o,ho,hc,hd⟩:=id hit
 obtain⟨ol,hol,_,nl,hdl⟩:=ht
 unfold pyNext
 refine wpAny_bind (wpAny_attempt (wpAny_callSpecial?_slot (name:=Str.ofString "__next__") hit.typeIs F.slot_tuple_iterator_next
  (wpAny_call_entry F.slot_tuple_iterator_next hit.typeIs F.entry_tuple_iterator_next ?_ (F.args_tuple_iterator_next_1 _))))
 show wpAny _ _ (field (.ref it) 0 >>= _) _ _ s
 refine wpAny_bind (wpAny_field ho hd (x:=.ref t) rfl ?_)
 show wpAny _ _ (if (Value.ref t == Value.none)=true then _ else _) _ _ s
 rw[if_neg (show ¬ ((Value.ref t == Value.none)=true) from Bool.false_ne_true)]
 show wpAny _ _ (field (.ref it) 1 >>= _) _ _ s
 refine wpAny_bind (wpAny_field ho hd (x:=.int i 0) rfl ?_)
 show wpAny _ _ (seqItems? (.ref t) >>= _) _ _ s
 refine wpAny_bind (wpAny_seqItems hol hdl ?_)
 simp only [Int.toNat_natCast,hx]
 refine wpAny_bind (wpAny_rule (wpAny_bind (wpAny_setField ho hd (by simp) ?_)))
 refine Sw (hq:=(hq.but ho fun n=>?_)) fun h' e k he=>?_
 ·obtain⟨vs,e1,e2⟩:=n
  rw[hd] at e1
  cases e1
  simp at e2
 obtain⟨oe,h1,h2⟩:=he
 refine wpAny_bind (wpAny_isInstance (T:="StopIteration") (b:=true) ⟨_,h1,h2⟩ isSubtype_stop ?_)
 exact wpAny_pure (hQ _ fun b o hb e=>k b o ((Heap.SameBut.update ..).extBut b o hb e))
theorem Tu {it:Addr}{x left step:Int}{Q:Option Value->Shared->Prop}(hq:Qt A s.heap)(hit:IsRangeIter s.heap it x left step)(hleft:left<=0)
  (hQ:∀ h',Heap.ExtBut it s.heap h'->Q none { s with heap:=h' }):wpAny (model prog w) A (pyNext (.ref it)) Q E s:=by
 have hT:s.TypeIs (.ref it) "range_iterator":=⟨_,hit,rfl⟩
 unfold pyNext
 refine wpAny_bind (wpAny_attempt (wpAny_callSpecial?_slot (name:=Str.ofString "__next__") hT F.slot_range_iterator_next
  (wpAny_call_entry F.slot_range_iterator_next hT F.entry_range_iterator_next ?_ (F.args_range_iterator_next_1 _))))
 show wpAny _ _ (field (.ref it) 0 >>= _) _ _ s
 refine wpAny_bind (wpAny_field hit rfl (x:=rawInt x) rfl ?_)
 show wpAny _ _ (field (.ref it) 1 >>= _) _ _ s
 refine wpAny_bind (wpAny_field hit rfl (x:=rawInt left) rfl ?_)
 show wpAny _ _ (field (.ref it) 2 >>= _) _ _ s
 refine wpAny_bind (wpAny_field hit rfl (x:=rawInt step) rfl ?_)
 show wpAny _ _ (if left<=0 then _ else _) _ _ s
 rw[if_pos hleft]
 refine wpAny_bind (wpAny_rule ?_)
 refine wpAny_bind ?_
 refine Sw (hq:=hq) fun h' e k he=>?_
 obtain⟨oe,h1,h2⟩:=he
 refine wpAny_bind (wpAny_isInstance (T:="StopIteration") (b:=true) ⟨_,h1,h2⟩ isSubtype_stop ?_)
 exact wpAny_pure (hQ _ fun b o hb e=>k b o e)
theorem Qb {t:Addr}{items:Array Value}{Q:List Value->Shared->Prop}(hq:Qt A s.heap)(ht:IsTup s.heap t items)
  (hQ:∀ h',Heap.ExtBut s.heap.objs.size s.heap h'->Q items.toList { s with heap:=h' }):wpAny (model prog w) A (unpackItems (.ref t) items.size none) Q E s:=by
 have hlt:t≠s.heap.objs.size:=by obtain⟨o,ho,_⟩:=ht;exact Nat.ne_of_lt (Heap.lt_size ho)
 unfold unpackItems
 refine wpAny_bind ?_
 ·unfold notIterableAtAll
  refine wpAny_bind (wpAny_specialOf ht.typeIs slot_tuple_iter.lookup ?_)
  refine wpAny_pure ?_
  simp only [Bool.false_eq_true,if_false]
  refine wpAny_bind (wpAny_holding (iter_tuple ht ?_))
  refine wpAny_bind (wpAny_holding (draw_tuple hlt items.size 0 _ _ ⟨_,Heap.get?_push_size _ rfl,rfl,rfl⟩ (ht.push _) (by omega) fun h₁ hit₁ hs₁=>?_))
  have hall:List.take items.size (List.drop 0 items.toList)=items.toList:=by
   rw[List.drop_zero];exact List.take_of_length_le (by simp)
  rw[hall]
  rw[if_neg (by simp)]
  have ht₁:IsTup h₁ t items:=(ht.push _).extBut hs₁.extBut hlt
  have kp:∀ b o,s.heap.get? b=some o->h₁.get? b=some o:=fun b o e=>hs₁.extBut b o (fun z=>by have:=Heap.lt_size e;rw[z] at this;exact Nat.lt_irrefl _ this) (Heap.get?_push_of_some _ e)
  refine wpAny_bind (wpAny_holding (Tq (hq.keeps fun b o e _=>kp b o e) hit₁ ht₁ (by simp) fun h₂ he₂=>?_))
  simp only [Option.isSome_none,Bool.false_eq_true,if_false]
  refine wpAny_pure (hQ h₂ fun b o hb e=>he₂ b o hb (kp b o e))
theorem Qa {env:Env}{elts:List Expr}{x1}{pos:Pos}{t:Addr}{items:Array Value}{Q:Unit->Shared->Prop}(hq:Qt A s.heap)(ht:IsTup s.heap t items)
  (hn:(assignEach elts env).length=items.size) (hstar:(assignEach elts env).findIdx? (·.1)=none)
  (h:∀ h',Heap.ExtBut s.heap.objs.size s.heap h'->wpAny (model prog w) A (assignInOrder ((assignEach elts env).map (·.2)) items.toList) Q E { s with heap:=h' }) :
  wpAny (model prog w) A (assign (.Tuple elts x1 pos) env (.ref t)) Q E s:=by
 rw[assign_Tuple]
 refine wpAny_bind (wpAny_standAt ?_)
 unfold unpack
 rw[hn,hstar]
 exact wpAny_bind (wpAny_holding (Qb hq ht h))
end
theorem Walks.listQ {prog:Program}{w:World}{A:Around}{qs:List (Addr × Obj)}(hq:QtP A qs)(I ax:Addr)(hne:ax≠I)(hqs:∀ p∈qs,p.1≠I)(items:Array Value) :
  Walks prog w A I (I::ax::qs.map Prod.fst) [I] items.size (fun i v=>items[i]?=some v) (fun i h=>h.IsListIter I ax i/\h.IsList ax items/\∀ p∈qs,h.get? p.1=some p.2) where
 sub:=fun b hb=>by simp at hb;simp[hb]
 frame:=fun _ _ _ st hk=>⟨st.1.at fun o e=>hk I (by simp) o e,st.2.1.at fun o e=>hk ax (by simp) o e,fun p hp=>hk p.1 (by simp;exact .inr (.inr ⟨p.2,hp⟩)) p.2 (st.2.2 p hp)⟩
 item:=fun i s Q E hi st hQ=>by
  refine wpAny_pyNext_list_item st.1 st.2.1 (x:=items[i]) (by simp[hi]) fun h' hit' hs'=>?_
  exact hQ _ h' s.toks (by simp[hi]) ⟨hit',st.2.1.extBut hs'.extBut hne,fun p hp=>hs'.extBut p.1 p.2 (hqs p hp) (st.2.2 p hp)⟩ fun b o hb e=>hs'.extBut b o (fun h=>hb (by simp[h])) e
 done:=fun s Q E st hQ=>Rx (hq.at st.2.2) st.1 st.2.1 (by simp) fun h' he'=>hQ h' s.toks fun b o hb e=>he' b o (fun h=>hb (by simp[h])) e
 self:=fun _ _ _ _ st hQ=>wpAny_pyIter_listiter st.1 hQ
theorem R9 {prog:Program}{w:World}{A:Around}{I:Addr}{a c:Int}{n:Nat}(i:Nat)(s:Shared)(Q:Option Value->Shared->Prop)(E:Value->Shared->Prop)(hi:i<n)(st:IsRangeIter s.heap I (a+(i:Nat)*c) ((n:Int) - (i:Nat)) c)
  (hQ:∀ v h' tk,(∃ t,v=Value.int (a+i*c) t)->IsRangeIter h' I (a+((i+1:Nat):Int)*c) ((n:Int) - ((i+1:Nat):Int)) c->(∀ b o,b ∉ [I]->s.heap.get? b=some o->h'.get? b=some o)->Q (some v) { s with heap:=h',toks:=tk }) :
  wpAny (model prog w) A (pyNext (.ref I)) Q E s:=by
 refine wpAny_pyNext_range_item st (by omega) fun h' hit' hs'=>?_
 refine hQ _ h' _ ⟨_,rfl⟩ ?_ fun b o hb e=>hs'.extBut b o (fun h=>hb (by simp[h])) e
 have e1:a+((i+1:Nat):Int)*c=a+(i:Int)*c+c:=by push_cast;rw[Int.add_mul,Int.one_mul,Int.add_assoc]
 have e2:(n:Int) - ((i+1:Nat):Int)=(n:Int) - (i:Int) - 1:=by push_cast;omega
 rw[e1,e2];exact hit'
def QtE (A:Around)(h:Heap)(H:Addr->Option α)(fs:List Addr):Prop:=A.handled=none \/ ∃ a o,A.handled=some (.ref a)/\h.get? a=some o/\NoCtx o/\H a=none/\a ∉ fs/\∀ v,o.data≠.cell v
def qpin (A:Around)(h:Heap):List (Addr × Obj):=match A.handled with
 | some (.ref a)=>match h.get? a with
  | some o=>[(a,o)]
  | none=>[]
 | _=>[]
theorem QtE.pin {A:Around}{h:Heap}{H:Addr->Option α}{fs:List Addr}(q:QtE A h H fs):QtP A (qpin A h):=by
 rcases q with q | ⟨a,o,e,g,n,_⟩
 ·exact .inl q
 ·refine .inr ⟨(a,o),?_,e,n⟩
  unfold qpin
  rw[e]
  dsimp only
  rw[g]
  simp
theorem QtE.mem {A:Around}{h:Heap}{H:Addr->Option α}{fs:List Addr}(q:QtE A h H fs)(p:Addr × Obj)(hp:p∈qpin A h):h.get? p.1=some p.2/\H p.1=none/\p.1 ∉ fs/\∀ v,p.2.data≠.cell v:=by
 rcases q with q | ⟨a,o,e,g,n,h1,h2,h3⟩
 ·unfold qpin at hp
  rw[q] at hp
  cases hp
 ·unfold qpin at hp
  rw[e] at hp
  dsimp only at hp
  rw[g] at hp
  obtain rfl:p=(a,o):=by simpa using hp
  exact⟨g,h1,h2,h3⟩
section
variable {prog:Program}{w:World}{A:Around}{E:Value->Shared->Prop}{s:Shared}
theorem Uk {it l:Addr}{i:Nat}{items}{Q:Value->Shared->Prop}(hq:Qt A s.heap)
  (hit:s.heap.IsListIter it l i) (hl:s.heap.IsList l items) (hx:items[i]?=none)
  (hE:∀ h' e,Heap.ExtBut it s.heap h'->(∃ o,h'.get? e=some o/\o.cls=.type "StopIteration")->E (.ref e) { s with heap:=h' }) :
  wpAny (model prog w) A (Builtin.SmallTypes.nextOf (.ref it)) Q E s:=by
 obtain⟨o,ho,hc,hd⟩:=id hit
 obtain⟨ol,hol,_,nl,hdl⟩:=hl
 unfold Builtin.SmallTypes.nextOf
 refine wpAny_bind (wpAny_callSpecial?_slot (name:=Str.ofString "__next__") hit.typeIs slot_listiter_next
  (wpAny_call_entry slot_listiter_next hit.typeIs entry_listiter_next ?_ (args_listiter_next _)))
 show wpAny _ _ (field (.ref it) 0 >>= _) _ _ s
 refine wpAny_bind (wpAny_field ho hd (x:=.ref l) rfl ?_)
 show wpAny _ _ (if (Value.ref l == Value.none)=true then _ else _) _ _ s
 rw[if_neg (show ¬ ((Value.ref l == Value.none)=true) from Bool.false_ne_true)]
 show wpAny _ _ (field (.ref it) 1 >>= _) _ _ s
 refine wpAny_bind (wpAny_field ho hd (x:=.int i 0) rfl ?_)
 show wpAny _ _ (seqItems? (.ref l) >>= _) _ _ s
 refine wpAny_bind (wpAny_seqItems hol hdl ?_)
 simp only [Int.toNat_natCast,hx]
 refine wpAny_bind (wpAny_rule (wpAny_bind (wpAny_setField ho hd (by simp) ?_)))
 refine Sw (hq:=(hq.but ho fun n=>?_)) fun h' e k he=>?_
 ·obtain⟨vs,e1,e2⟩:=n
  rw[hd] at e1
  cases e1
  simp at e2
 exact hE _ _ (fun b o hb e=>k b o ((Heap.SameBut.update ..).extBut b o hb e)) he
end
theorem Draws.listQ {prog:Program}{w:World}{A:Around}{qs:List (Addr × Obj)}(hq:QtP A qs)(it l:Addr)(hne:l≠it)(hqs:∀ p∈qs,p.1≠it)(items:Array Value) :
  Draws prog w A it (it::l::qs.map Prod.fst) items.size (fun i v=>items[i]?=some v) (fun i h=>h.IsListIter it l i/\h.IsList l items/\∀ p∈qs,h.get? p.1=some p.2) where
 live:=fun _ _ st=>let ⟨o,ho,_⟩:=st.1;⟨o,ho⟩
 frame:=fun _ _ _ st hk=>⟨st.1.at fun o e=>hk it (by simp) o e,st.2.1.at fun o e=>hk l (by simp) o e,fun p hp=>hk p.1 (by simp;exact .inr (.inr ⟨p.2,hp⟩)) p.2 (st.2.2 p hp)⟩
 item:=fun i s Q E hi st hQ=>by
  refine wpAny_nextOf_list_item st.1 st.2.1 (x:=items[i]) (by simp[hi]) fun h' hit' hs'=>?_
  exact hQ _ h' s.toks (by simp[hi]) ⟨hit',st.2.1.extBut hs'.extBut hne,fun p hp=>hs'.extBut p.1 p.2 (hqs p hp) (st.2.2 p hp)⟩ hs'
 done:=fun s Q E st hE=>Uk (hq.at st.2.2) st.1 st.2.1 (by simp) hE
section
variable {prog:Program}{w:World}{A:Around}{E:Value->Shared->Prop}{s:Shared}{l:Addr}{xs:Array (Int × Tok)}{qs:List (Addr × Obj)}
theorem B6 {Q:Value->Shared->Prop}(hp:∀ p∈qs,s.heap.get? p.1=some p.2)(hl:s.heap.IsList l (intItems xs))
  (h:∀ s₂:Shared,s₂={ s with heap:=s.heap.push { cls:=.type "list_iterator",data:=.fields #[.ref l,.int 0 0] } } →
   (s₂.heap.IsListIter s.heap.objs.size l 0/\s₂.heap.IsList l (intItems xs)/\∀ p∈qs,s₂.heap.get? p.1=some p.2)->(∀ b∈s.heap.objs.size::l::qs.map Prod.fst,b<s₂.heap.objs.size)->l≠s.heap.objs.size->(∀ p∈qs,p.1≠s.heap.objs.size)->Q (.ref s.heap.objs.size) s₂) :
  wpAny (model prog w) A (pyIter (.ref l)) Q E s:=by
 refine iter_intList hl fun s₂ e st hb hne=>h s₂ e ⟨st.1,st.2,fun p q=>?_⟩ (fun b m=>?_) hne fun p q=>Nat.ne_of_lt (Heap.lt_size (hp p q))
 ·rw[e]
  exact Heap.get?_push_of_some _ (hp p q)
 ·rcases List.mem_cons.mp m with m | m
  ·exact hb b (by simp[m])
  ·rcases List.mem_cons.mp m with m | m
   ·exact hb b (by simp[m])
   ·obtain⟨p,q,rfl⟩:=List.mem_map.mp m
    rw[e]
    show _<(s.heap.push _).objs.size
    rw[Heap.size_push]
    exact Nat.lt_succ_of_lt (Heap.lt_size (hp p q))
theorem Z3n {Q:Value->Shared->Prop}(hq:QtP A qs)(hp:∀ p∈qs,s.heap.get? p.1=some p.2)(hl:s.heap.IsList l (intItems xs))(hne:0<xs.size)
  (h:∀ v h' tk,(intItems xs)[argBest (fun i j=>decide (numAt xs i<numAt xs j)) (xs.size - 1)]?=some v->(∀ b o,s.heap.get? b=some o->h'.get? b=some o)->Q v { s with heap:=h',toks:=tk }) :
  wpAny (model prog w) A (call (.builtin "min") [.ref l]) Q E s:=by
 refine call_min_walk (B6 hp hl fun s₂ e st hfp hlI hqI=>?_)
 subst e
 refine⟨_,_,_,_,_,_,_,rfl,Walks.listQ (A:=A.in1) hq _ l hlI hqI (intItems xs),st,hfp,by simpa [intItems] using hne,CmpOf.ints_lt (numAt xs) (fun _ _=>intItems_at),fun v h' tk hP hk=>?_⟩
 exact h v h' tk (by simpa [intItems] using hP) (old_kept hk)
theorem Z37 {Q:Value->Shared->Prop}(hq:QtP A qs)(hp:∀ p∈qs,s.heap.get? p.1=some p.2)(hl:s.heap.IsList l (intItems xs))
  (h:∀ h' tk t',(∀ b o,s.heap.get? b=some o->h'.get? b=some o)->Q (.int (preSum (numAt xs) xs.size) t') { s with heap:=h',toks:=tk }) :
  wpAny (model prog w) A (call (.builtin "sum") [.ref l]) Q E s:=by
 refine call_sum_walkG (B6 hp hl fun s₂ e st hfp hlI hqI=>?_)
 subst e
 refine⟨_,_,_,_,_,_,numAt xs,rfl,Walks.listQ (A:=A.in1) hq _ l hlI hqI (intItems xs),st,hfp,(fun _ _=>intItems_at),fun h' tk t' hk=>?_⟩
 have:=h h' tk t' (old_kept hk)
 simpa [intItems] using this
end
theorem Walks.rangeQ {prog:Program}{w:World}{A:Around}{qs:List (Addr × Obj)}(hq:QtP A qs)(I:Addr)(hqs:∀ p∈qs,p.1≠I)(a c:Int)(n:Nat) :
  Walks prog w A I (I::qs.map Prod.fst) [I] n (fun i v=>∃ t,v=.int (a+i*c) t) (fun i h=>IsRangeIter h I (a+(i:Nat)*c) ((n:Int) - (i:Nat)) c/\∀ p∈qs,h.get? p.1=some p.2) where
 sub:=fun b hb=>by simp at hb;simp[hb]
 frame:=fun _ _ _ st hk=>⟨hk I (by simp) _ st.1,fun p hp=>hk p.1 (by simp;exact .inr ⟨p.2,hp⟩) p.2 (st.2 p hp)⟩
 item:=fun i s Q E hi st hQ=>by
  refine R9 i s _ _ hi st.1 fun v h' tk hv st' hk=>hQ v h' tk hv ⟨st',fun p hp=>hk p.1 p.2 (by simp[hqs p hp]) (st.2 p hp)⟩ fun b o hb e=>hk b o hb e
 done:=fun s Q E st hQ=>Tu (hq.at st.2) st.1 (by omega) fun h' he'=>hQ h' s.toks fun b o hb e=>he' b o (fun h=>hb (by simp[h])) e
 self:=fun _ _ _ _ st hQ=>wpAny_pyIter_rangeiter st.1 hQ
section
variable {prog:Program}{w:World}{A:Around}{s:Shared}
theorem Q4 {R:Result->Shared->Prop}{r:Addr}{a b c:Int}{t u v:Tok}{n:Nat}{qs:List (Addr × Obj)}(hq:QtP A qs)(hp:∀ p∈qs,s.heap.get? p.1=some p.2)(hr:IsRange s.heap r a b c t u v)(hsmall:Builtin.Range.small a b c=true)
  (hn:Builtin.Range.rangeSize a b c=n) (hlen:n<=2 ^ 24) (S:Addr) (res:Value) (c₀:Nat) (hS:s.heap.get? S=some { cls:=.type "list",data:=.seq #[] c₀ }) (hSq:∀ p∈qs,p.1≠S)
  (hR:∀ h' tk acc' c',(∀ b o,b≠S->s.heap.get? b=some o->h'.get? b=some o)->h'.get? S=some { cls:=.type "list",dict:=none,data:=.seq acc' c',slots:=#[] } →
   ItemsOf (fun i v=>∃ t,v=.int (a+i*c) t) acc' n->R (.ok (.ret res)) { s with heap:=h',toks:=tk }) :
  wpAny (model prog w) A.in1 (Builtin.List.listExtendWith (.ref S) (.ref r) res)
   (fun fin s'=>match fin with | .done f=>R (.ok f) s' | .again c'=>c'.quiet=true/\codeAny (model prog w) A c' R s') (fun e s'=>R (.error e) s') s:=by
 have hSr:S≠r:=fun e=>by rw[e,hr] at hS;simp at hS
 have hSlt:S<s.heap.objs.size:=Heap.lt_size hS
 have hSI:S≠s.heap.objs.size:=Nat.ne_of_lt hSlt
 have hSf:S ∉ s.heap.objs.size::qs.map Prod.fst:=fun hm=>(List.mem_cons.mp hm).elim hSI fun hm=>by
  obtain⟨p,q,e⟩:=List.mem_map.mp hm
  exact hSq p q e
 have W:=(Walks.rangeQ (prog:=prog) (w:=w) (A:=A.in1) hq s.heap.objs.size (fun p q=>Nat.ne_of_lt (Heap.lt_size (hp p q))) a c n).toS
 have key:∀ (h:Heap) (c₁ tk:Nat),IsRangeIter h s.heap.objs.size (a+((0:Nat):Int)*c) ((n:Int) - ((0:Nat):Int)) c->(∀ b o,b≠S->s.heap.get? b=some o->h.get? b=some o) →
   h.get? S=some { cls:=.type "list",data:=.seq #[] c₁ }->codeAny (model prog w) A (.builtin "list.extend.loop" ⟨[.ref S,.ref s.heap.objs.size,res],[]⟩) R { s with heap:=h,toks:=tk }:=by
  intro h c₁ tk hit hk hS₁
  refine codeAny_extend_loopS W (by rw[sizeLine_eq];omega) S hSf res n 0 _ #[] c₁ rfl (Nat.zero_le _) ⟨hit,fun p q=>hk p.1 p.2 (hSq p q) (hp p q)⟩ hS₁ (ItemsOf.nil _) fun s' acc' c' hm hS' hacc=>?_
  rw[Moved.eq_with hm]
  refine hR s'.heap s'.toks acc' c' (fun b o hb e=>hm.heap b o (fun hmem=>?_) (hk b o hb e)) hS' hacc
  rcases List.mem_cons.mp hmem with e' | hmem
  ·exact hb e'
  ·exact absurd (Heap.lt_size e) (by rw[List.mem_singleton.mp hmem];exact Nat.lt_irrefl _)
 unfold Builtin.List.listExtendWith
 refine wpAny_bind (wpAny_typeOf (T:="range") ⟨_,hr,rfl⟩ ?_)
 have h1:Builtin.List.listSameRef (.ref S) (.ref r)=false:=by simp[Builtin.List.listSameRef,hSr]
 have h2:(Value.type "range" == Value.type "list")=false:=by decide
 have h3:(Value.type "range" == Value.type "tuple")=false:=by decide
 simp only [h1,h2,h3,Bool.or_false,Bool.false_eq_true,if_false]
 refine wpAny_bind (wpAny_pyIter_range hr hsmall ?_)
 refine wpAny_bind (wpAny_holding (wpAny_hint_range (n:=n) (Heap.get?_push_of_some _ hr) hn hlen ?_))
 have hit₁:IsRangeIter (s.heap.push { cls:=.type "range_iterator",data:=.fields #[rawInt a,rawInt (Builtin.Range.rangeSize a b c),rawInt c] }) s.heap.objs.size (a+((0:Nat):Int)*c) ((n:Int) - ((0:Nat):Int)) c:=by
  show IsRangeIter _ _ _ _ _;rw[hn];simpa using Heap.get?_push_size _ rfl
 have hS₁:=Heap.get?_push_of_some { cls:=.type "range_iterator",data:=.fields #[rawInt a,rawInt (Builtin.Range.rangeSize a b c),rawInt c] } hS
 refine wpAny_ite_split (fun _=>?_) (fun _=>wpAny_pure ⟨plainId_quiet F.plain_extend_loop _,key _ c₀ _ hit₁ (fun b o _ e=>Heap.get?_push_of_some _ e) hS₁⟩)
 refine wpAny_bind (wpAny_rule ?_)
 refine wpAny_bind ?_
 show wpAny _ _ (updateSeq S (·.push .none) >>= fun _=>updateSeq S (·.pop)) _ _ _
 refine wpAny_bind (wpAny_updateSeq hS₁ rfl ?_)
 have hS₂:=Heap.get?_update_self (Obj.mapSeq (·.push Value.none)) hS₁ rfl
 refine wpAny_updateSeq (hz:=by seq_fits) hS₂ rfl ?_
 have hS₃:=Heap.get?_update_self (Obj.mapSeq (·.pop)) hS₂ rfl
 refine wpAny_pure ⟨plainId_quiet F.plain_extend_loop _,key _ _ _ ?_ (fun b o hb e=>?_) hS₃⟩
 ·exact (Heap.get?_update_other _ _ hSI).trans ((Heap.get?_update_other _ _ hSI).trans hit₁)
 ·exact (Heap.get?_update_other _ _ (Ne.symm hb)).trans ((Heap.get?_update_other _ _ (Ne.symm hb)).trans (Heap.get?_push_of_some _ e))
theorem Up {R:Result->Shared->Prop}{r:Addr}{a b c:Int}{t u v:Tok}{n:Nat}{qs:List (Addr × Obj)}(hq:QtP A qs)(hp:∀ p∈qs,s.heap.get? p.1=some p.2)(hr:IsRange s.heap r a b c t u v)(hsmall:Builtin.Range.small a b c=true)
  (hn:Builtin.Range.rangeSize a b c=n) (hlen:n<=2 ^ 24) (S:Addr) (hS:s.heap.get? S=some { cls:=.type "list",data:=.seq #[] }) (hSq:∀ p∈qs,p.1≠S)
  (hR:∀ h' tk acc' c',(∀ b o,b≠S->s.heap.get? b=some o->h'.get? b=some o)->h'.get? S=some { cls:=.type "list",dict:=none,data:=.seq acc' c',slots:=#[] } →
   ItemsOf (fun i v=>∃ t,v=.int (a+i*c) t) acc' n->R (.ok (.ret .none)) { s with heap:=h',toks:=tk }) :
  wpAny (model prog w) A.in1 (Builtin.«list.__init__» ⟨[.ref S,.ref r],[]⟩)
   (fun fin s'=>match fin with | .done f=>R (.ok f) s' | .again c'=>c'.quiet=true/\codeAny (model prog w) A c' R s') (fun e s'=>R (.error e) s') s:=by
 have hSr:S≠r:=fun e=>by rw[e,hr] at hS;simp at hS
 show wpAny _ _ (do let old ← Builtin.List.listItems (.ref S);Builtin.List.listUpdate (.ref S) (fun _=>#[]);letGo old.toList.reverse;Builtin.List.listExtendWith (.ref S) (.ref r) .none) _ _ s
 refine wpAny_bind ?_
 unfold Builtin.List.listItems
 refine wpAny_bind (wpAny_seqItems hS rfl (wpAny_pure ?_))
 show wpAny _ _ (updateSeq S (fun _=>#[]) >>= fun _=>letGo (#[]:Array Value).toList.reverse >>= fun _=>Builtin.List.listExtendWith (.ref S) (.ref r) .none) _ _ s
 refine wpAny_bind (wpAny_updateSeq hS rfl ?_)
 have hS₂:=Heap.get?_update_self (Obj.mapSeq (fun _=>(#[]:Array Value))) hS rfl
 have oth:∀ b o,b≠S->s.heap.get? b=some o->(s.heap.update S (Obj.mapSeq (fun _=>(#[]:Array Value)))).get? b=some o :=
  fun b o hb e=>(Heap.get?_update_other _ _ (Ne.symm hb)).trans e
 refine wpAny_bind (wpAny_letGo ?_)
 refine Q4 hq (fun p q=>oth p.1 p.2 (hSq p q) (hp p q)) (oth r _ (Ne.symm hSr) hr) hsmall hn hlen S .none _ hS₂ hSq fun h' tk acc' c' hk hS' hacc=>?_
 exact hR h' tk acc' c' (fun b o hb e=>hk b o hb (oth b o hb e)) hS' hacc
end
section
variable {prog:Program}{w:World}{A:Around}{E:Value->Shared->Prop}{s:Shared}
theorem Pt {Q:Value->Shared->Prop}{r:Addr}{a b c:Int}{t u v:Tok}{n:Nat}{qs:List (Addr × Obj)}(hq:QtP A qs)(hp:∀ p∈qs,s.heap.get? p.1=some p.2)(hr:IsRange s.heap r a b c t u v)(hsmall:Builtin.Range.small a b c=true)
  (hn:Builtin.Range.rangeSize a b c=n) (hlen:n<=2 ^ 24)
  (hQ:∀ h' tk acc' c',(∀ b o,s.heap.get? b=some o->h'.get? b=some o) →
   h'.get? s.heap.objs.size=some { cls:=.type "list",dict:=none,data:=.seq acc' c',slots:=#[] }->ItemsOf (fun i v=>∃ t,v=.int (a+i*c) t) acc' n->Q (.ref s.heap.objs.size) { s with heap:=h',toks:=tk }) :
  wpAny (model prog w) A (call (.type "list") [.ref r]) Q E s:=by
 refine callType_codes (Q₁:=fun obj s₁=>obj=.ref s.heap.objs.size/\s₁={ s with heap:=s.heap.push { cls:=.type "list",data:=.seq #[] } }) F.called_list (F.typeCall_list_1 _) F.entry_list_init
  (code_list_new _ ⟨rfl,rfl⟩) fun obj s₁ h₁=>?_
 obtain⟨rfl,rfl⟩:=h₁
 have hS:(s.heap.push { cls:=.type "list",data:=.seq #[] }).get? s.heap.objs.size=some { cls:=.type "list",data:=.seq #[] }:=Heap.get?_push_size _ rfl
 refine⟨⟨_,hS,rfl⟩,F.args_list_init_2 _ _,Up (A:=A.in1) hq (fun p q=>Heap.get?_push_of_some _ (hp p q)) (Heap.get?_push_of_some _ hr) hsmall hn hlen _ hS (fun p q=>Nat.ne_of_lt (Heap.lt_size (hp p q))) fun h' tk acc' c' hk hS' hacc=>?_⟩
 exact⟨rfl,hQ h' tk acc' c' (fun b o e=>hk b o (Nat.ne_of_lt (Heap.lt_size e)) (Heap.get?_push_of_some _ e)) hS' hacc⟩
end
end Sb
namespace L2
open PySem PySem.Spec PyProof.Rows
abbrev Key:=Sum Int Str
def keyIs:Key->Value->Bool
 | .inl k,v=>Value.isInt k v
 | .inr x,v=>Value.isStrOf x v
def keyH (w:World):Key->Int
 | .inl k=>hashInt k
 | .inr x=>hashStr w x
theorem Yq:∀ {k:Key} {v:Value},keyIs k v=true->(∃ i t,k=Sum.inl i/\v=Value.int i t) \/ (∃ x t,k=Sum.inr x/\v=Value.str x t)
 | .inl i,v,h=>by
  obtain⟨t,e⟩:=Value.isInt_shape (k:=i) (v:=v) h
  exact .inl ⟨i,t,rfl,e⟩
 | .inr x,v,h=>by
  obtain⟨t,e⟩:=Value.isStrOf_shape (x:=x) (v:=v) h
  exact .inr ⟨x,t,rfl,e⟩
theorem Z2w (a b:Int):decide ((Sum.inl a:Key)=Sum.inl b)=(a == b):=by
 by_cases e:a=b
 ·subst e;simp
 ·have h:¬ (Sum.inl a:Key)=Sum.inl b:=fun q=>e (Sum.inl.inj q)
  rw[decide_eq_false h]
  exact (beq_eq_false_iff_ne.mpr e).symm
theorem Z2t (a b:Str):decide ((Sum.inr a:Key)=Sum.inr b)=decide (a=b):=by
 by_cases e:a=b
 ·subst e;simp
 ·have h:¬ (Sum.inr a:Key)=Sum.inr b:=fun q=>e (Sum.inr.inj q)
  rw[decide_eq_false h,decide_eq_false e]
theorem Z2v (a:Int)(b:Str):decide ((Sum.inl a:Key)=Sum.inr b)=false:=decide_eq_false (fun q=>nomatch q)
theorem Z2u (a:Str)(b:Int):decide ((Sum.inr a:Key)=Sum.inl b)=false:=decide_eq_false (fun q=>nomatch q)
def mixKind (prog:Program)(w:World):PySem.KeyKind prog w Key where
 is:=keyIs
 hash:=keyH w
 inj:=fun v a b ha hb=>by
  rcases Yq ha with ⟨i,t,rfl,rfl⟩ | ⟨x,t,rfl,rfl⟩
  ·rcases Yq hb with ⟨j,u,rfl,e⟩ | ⟨y,u,rfl,e⟩
   ·injection e with e1 _;rw[e1]
   ·exact nomatch e
  ·rcases Yq hb with ⟨j,u,rfl,e⟩ | ⟨y,u,rfl,e⟩
   ·exact nomatch e
   ·injection e with e1 _;rw[e1]
 byValue:=fun k v h=>by
  rcases Yq h with ⟨i,t,rfl,rfl⟩ | ⟨x,t,rfl,rfl⟩ <;> rfl
 pyHash:=fun hv h=>by
  rcases Yq hv with ⟨i,t,rfl,rfl⟩ | ⟨x,t,rfl,rfl⟩
  ·exact wpAny_pyHash_int h
  ·exact wpAny_pyHash_str h
 eqBool:=fun hu hv h=>by
  rcases Yq hu with ⟨i,t,rfl,rfl⟩ | ⟨x,t,rfl,rfl⟩
  ·rcases Yq hv with ⟨j,u,rfl,rfl⟩ | ⟨y,u,rfl,rfl⟩
   ·rw[Z2w] at h;exact wpAny_eqBool_int h
   ·rw[Z2v] at h;exact SeqAt.EqAt.int_str i t y u _ _ _ _ h
  ·rcases Yq hv with ⟨j,u,rfl,rfl⟩ | ⟨y,u,rfl,rfl⟩
   ·rw[Z2u] at h;exact SeqAt.EqAt.str_int x t j u _ _ _ _ h
   ·rw[Z2t] at h;exact wpAny_eqBool_str h
 «strs»:=fun k x t v h=>by
  rcases Yq h with ⟨i,u,rfl,e⟩ | ⟨y,u,rfl,e⟩
  ·exact nomatch e
  ·injection e with e1 _
   subst e1
   cases v <;> rfl
end L2
namespace L2
open PySem PySem.Spec PyProof.Rows
inductive V where
 | non | bl (b:Bool) | int (i:Int) | str (x:Str) | byt (b:Array UInt8) | flt (b:UInt64) | ref (a:Addr) | ty (n:String)
 deriving DecidableEq
def RelV:V->Value->Prop
 | .non,u=>u=Value.none
 | .bl b,u=>u=Value.bool b
 | .int i,u=>∃ t,u=Value.int i t
 | .str x,u=>∃ t,u=Value.str x t
 | .byt b,u=>∃ t,u=Value.bytes b t
 | .flt b,u=>∃ t,u=Value.float b t
 | .ref a,u=>u=Value.ref a
 | .ty n,u=>u=Value.type n
abbrev Vals:List V->List Value->Prop:=Paired RelV
theorem Vals.length {xs:List V}{us:List Value}(r:Vals xs us):xs.length=us.length:=Paired.length r
theorem Vals.get:∀ {xs:List V} {us:List Value} {i:Nat} {x:V},Vals xs us->xs[i]?=some x->∃ u,us[i]?=some u/\RelV x u
 | _,_,_,_,.nil,e=>by simp at e
 | _,_,0,_,.cons r _,e=>by simp at e;subst e;exact⟨_,rfl,r⟩
 | _,_,i+1,x,.cons _ t,e=>by
  obtain⟨u,h1,h2⟩:=Vals.get (i:=i) (x:=x) t (by simpa using e)
  exact⟨u,by simpa using h1,h2⟩
theorem Vals.set {x:V}{u:Value}(r:RelV x u):∀ {xs:List V} {us:List Value} (i:Nat),Vals xs us->Vals (xs.set i x) (us.set i u)
 | _,_,_,.nil=>.nil
 | _,_,0,.cons _ t=>.cons r t
 | _,_,i+1,.cons q t=>.cons q (Vals.set r i t)
theorem Vals.append:∀ {xs ys:List V} {us ws:List Value},Vals xs us->Vals ys ws->Vals (xs++ys) (us++ws)
 | _,_,_,_,.nil,s=>s
 | _,_,_,_,.cons r t,s=>.cons r (Vals.append t s)
theorem Vals.take:∀ {xs:List V} {us:List Value} (n:Nat),Vals xs us->Vals (xs.take n) (us.take n)
 | _,_,0,_=>.nil
 | _,_,_+1,.nil=>.nil
 | _,_,n+1,.cons r t=>.cons r (Vals.take n t)
theorem Vals.drop:∀ {xs:List V} {us:List Value} (n:Nat),Vals xs us->Vals (xs.drop n) (us.drop n)
 | _,_,0,r=>r
 | _,_,_+1,.nil=>.nil
 | _,_,n+1,.cons _ t=>Vals.drop n t
def RelO:Option V->Option Value->Prop
 | some v,some u=>RelV v u
 | none,none=>True
 | _,_=>False
def KV {κ:Type}:List (κ × V)->List (κ × Value)->Prop:=Paired fun (p:κ × V) (q:κ × Value)=>p.1=q.1/\RelV p.2 q.2
def kV:Key->V
 | .inl i=>.int i
 | .inr x=>.str x
inductive HO where
 | lst (xs:List V)
 | tup (xs:List V)
 | dK (kvs:List (Key × V)) | dT (kvs:List (List Key × V))
 | set (S:Int->Bool) (n:Nat)
 | ins (C dx:Addr) (fs:List (Str × V))
 | own (x:Addr)
 | xd (fs:List (Str × V))
 | met (f x:Addr)
 | rng (lo hi:Int)
 | frz (o:Obj) (u:HO)
 | tbl (ps:Array Value)
 | ext (φ:Heap->Prop)
abbrev Hp:=Addr->Option HO
def upd (H:Hp)(a:Addr)(o:HO):Hp:=fun b=>if b=a then some o else H b
theorem Zb {H:Hp}{a:Addr}{o:HO}:upd H a o a=some o:=by unfold upd;rw[if_pos rfl]
theorem Zf {H:Hp}{a b:Addr}{o:HO}(h:b≠a):upd H a o b=H b:=by unfold upd;rw[if_neg h]
theorem Z1v {H:Hp}{a b:Addr}{o u:HO}(h:H a=some o)(h':H b=some u)(d:o≠u):a≠b:=by
 intro e;subst e;rw[h] at h';exact d (Option.some.inj h')
theorem Zd {H:Hp}{a b:Addr}{o:HO}(h:H a=some o)(h':H b=none):a≠b:=by
 intro e;subst e;rw[h] at h';cases h'
section
variable (P:Program)(w:World)
def ObjOk (H:Hp)(h:Heap)(a:Addr):HO->Prop
 | .lst xs=>xs.length<=sizeLine/\∃ (its:List Value) (n:Nat),Vals xs its/\h.get? a=some { cls:=.type "list",data:=.seq its.toArray n }
 | .tup xs=>xs.length<=sizeLine/\∃ its:List Value,Vals xs its/\IsTup h a its.toArray
 | .dK kvs=>kvs.length<=sizeLine/\(a == sysModules)=false/\∃ vs,KV kvs vs/\h.DictOf (mixKind P w) a vs
 | .dT kvs=>kvs.length<=sizeLine/\(a == sysModules)=false/\∃ xs:List (List Key × Addr × Value),
   Paired (fun (p:List Key × V) (q:List Key × Addr × Value)=>p.1=q.1/\H q.2.1=some (.tup (p.1.map kV))/\RelV p.2 q.2.2) kvs xs ∧
   ∃ o es ep,h.get? a=some o/\o.ExactDict/\o.data=.dict es ep/\es.toList=xs.map (entryOfKey (tupleKind (mixKind P w)))/\(xs.map (·.1)).Nodup
 | .set S n=>h.SetOf (intKind P w) a S n
 | .ins C dx fs=>H dx=some (.own a)/\fs.length<=1000/\dx≠a/\h.get? a=some (W.instObj C dx) ∧
   ∃ mA,h.Ns1 dx mA/\(∀ f,RelO (fs.lookup f) (mA f))/\PySem.Within mA (fs.map (·.1))
 | .own _=>∃ o,h.get? a=some o
 | .xd fs=>∃ mA,h.Ns1 a mA/\∀ f,RelO (fs.lookup f) (mA f)
 | .rng lo hi=>∃ t u v,h.get? a=some { cls:=.type "range",data:=.fields #[.int lo t,.int hi u,.int 1 v] }
 | .frz o u=>h.get? a=some o/\ObjOk H h a u
 | .tbl ps=>h.get? a=some { cls:=.none,data:=.fields ps }
 | .met f x=>h.get? a=some (W.methodObj (.ref f) (.ref x))
 | .ext φ=>φ h/\(∃ o,h.get? a=some o)/\∀ h1 h2:Heap,φ h1->(∀ o,h1.get? a=some o->h2.get? a=some o)->φ h2
def HOk (H:Hp)(h:Heap):Prop:=∀ a o,H a=some o->ObjOk P w H h a o
end
section
variable {P:Program}{w:World}{H H':Hp}{h h':Heap}{a:Addr}{o:HO}
theorem ObjOk.lt (x:ObjOk P w H h a o):a<h.objs.size:=by
 cases o with
 | lst xs=>obtain⟨_,_,_,_,e⟩:=x;exact Heap.lt_size e
 | tup xs=>obtain⟨_,_,_,p⟩:=x;exact p.lt
 | dK kvs=>obtain⟨_,_,_,_,o,_,_,e,_⟩:=x;exact Heap.lt_size e
 | dT kvs=>obtain⟨_,_,_,_,o,_,_,e,_⟩:=x;exact Heap.lt_size e
 | set S n=>obtain⟨o,_,_,_,e,_⟩:=x;exact Heap.lt_size e
 | ins C dx fs=>obtain⟨_,_,_,e,_⟩:=x;exact Heap.lt_size e
 | own y=>obtain⟨_,e⟩:=x;exact Heap.lt_size e
 | xd fs=>obtain⟨_,⟨_,_,_,e,_⟩,_⟩:=x;exact Heap.lt_size e
 | rng lo hi=>obtain⟨_,_,_,e⟩:=x;exact Heap.lt_size e
 | frz ob u=>obtain⟨e,_⟩:=x;exact Heap.lt_size e
 | tbl ps=>exact Heap.lt_size (show h.get? a=some _ from x)
 | met f y=>exact Heap.lt_size (show h.get? a=some _ from x)
 | ext φ=>obtain⟨_,⟨_,e⟩,_⟩:=x;exact Heap.lt_size e
theorem Paired.mapP {α β:Type}{F G:α->β->Prop}:∀ {l₁:List α} {l₂:List β},Paired F l₁ l₂->(∀ a b,F a b->G a b)->Paired G l₁ l₂
 | _,_,.nil,_=>.nil
 | _,_,.cons r t,f=>.cons (f _ _ r) (Paired.mapP t f)
theorem ObjOk.stay (x:ObjOk P w H h a o)(k:∀ b u,(b=a \/ H b=some (.own a))->h.get? b=some u->h'.get? b=some u)
  (ho:∀ b,H b=some (.own a)->H' b=some (.own a)) (ht:∀ b xs,H b=some (.tup xs)->H' b=some (.tup xs)):ObjOk P w H' h' a o:=by
 induction o with
 | lst xs=>obtain⟨z,its,n,r,e⟩:=x;exact⟨z,its,n,r,k _ _ (.inl rfl) e⟩
 | tup xs=>obtain⟨z,its,r,ob,e,c⟩:=x;exact⟨z,its,r,ob,k _ _ (.inl rfl) e,c⟩
 | dK kvs=>obtain⟨z,y,vs,r,ob,es,ep,e,c⟩:=x;exact⟨z,y,vs,r,ob,es,ep,k _ _ (.inl rfl) e,c⟩
 | dT kvs =>
  obtain⟨z,y,xs,r,ob,es,ep,e,c⟩:=x
  exact⟨z,y,xs,Paired.mapP r fun p q z=>⟨z.1,ht _ _ z.2.1,z.2.2⟩,ob,es,ep,k _ _ (.inl rfl) e,c⟩
 | set S n=>obtain⟨ob,es,ep,t,e,c⟩:=x;exact⟨ob,es,ep,t,k _ _ (.inl rfl) e,c⟩
 | ins C dx fs =>
  obtain⟨d,z,ne,e,mA,⟨od,es,ep,e2,c⟩,r⟩:=x
  exact⟨ho _ d,z,ne,k _ _ (.inl rfl) e,mA,⟨od,es,ep,k _ _ (.inr d) e2,c⟩,r⟩
 | own y=>obtain⟨ob,e⟩:=x;exact⟨ob,k _ _ (.inl rfl) e⟩
 | xd fs=>obtain⟨mA,⟨od,es,ep,e,c⟩,r⟩:=x;exact⟨mA,⟨od,es,ep,k _ _ (.inl rfl) e,c⟩,r⟩
 | rng lo hi=>obtain⟨t,u,v,e⟩:=x;exact⟨t,u,v,k _ _ (.inl rfl) e⟩
 | frz ob u ih=>obtain⟨e,q⟩:=x;exact⟨k _ _ (.inl rfl) e,ih q⟩
 | tbl ps =>
  have e:h.get? a=some { cls:=.none,data:=.fields ps }:=x
  show h'.get? a=some { cls:=.none,data:=.fields ps }
  exact k a _ (.inl rfl) e
 | met f y =>
  have e:h.get? a=some (W.methodObj (.ref f) (.ref y)):=x
  show h'.get? a=some (W.methodObj (.ref f) (.ref y))
  exact k a _ (.inl rfl) e
 | ext φ=>obtain⟨p,⟨o,e⟩,st⟩:=x;exact⟨st _ _ p fun o q=>k _ _ (.inl rfl) q,⟨o,k _ _ (.inl rfl) e⟩,st⟩
theorem HOk.lt (x:HOk P w H h)(e:H a=some o):a<h.objs.size:=(x a o e).lt
theorem HOk.fresh (x:HOk P w H h)(e:h.objs.size<=a):H a=none:=by
 cases q:H a with
 | none=>rfl
 | some u=>exact absurd (Nat.lt_of_lt_of_le (x.lt q) e) (Nat.lt_irrefl _)
theorem HOk.kept (x:HOk P w H h)(k:∀ b u,h.get? b=some u->h'.get? b=some u):HOk P w H h':=fun a o e =>
 (x a o e).stay (fun b u _ q=>k b u q) (fun _ q=>q) fun _ _ q=>q
theorem HOk.laid (x:HOk P w H h)(k:∀ b u,h.get? b=some u->h'.get? b=some u)(hp:h.objs.size<=a)(new:ObjOk P w (upd H a o) h' a o):HOk P w (upd H a o) h':=fun b u e=>by
 have hn:=x.fresh hp
 by_cases hb:b=a
 ·subst hb;rw[Zb] at e;cases e;exact new
 ·rw[Zf hb] at e
  exact (x b u e).stay (fun c v _ q=>k c v q) (fun c q=>by rw[Zf (Zd q hn)];exact q) fun c xs q=>by rw[Zf (Zd q hn)];exact q
end
def Rd (H:Hp)(a:Addr)(u:HO):Prop:=H a=some u \/ ∃ o,H a=some (.frz o u)
theorem Rd.ok {P:Program}{w:World}{H:Hp}{h:Heap}{a:Addr}{u:HO}(r:Rd H a u)(x:HOk P w H h):ObjOk P w H h a u:=by
 rcases r with r | ⟨o,r⟩
 ·exact x a u r
 ·obtain⟨_,q⟩:=x a _ r
  exact q
def Mut:Option HO->Prop
 | some (.lst _)=>True
 | some (.dK _)=>True
 | some (.dT _)=>True
 | some (.set _ _)=>True
 | some (.ins _ _ _)=>True
 | some (.ext _)=>True
 | _=>False
section
variable {P:Program}{w:World}{H:Hp}{h h':Heap}{x e:Addr}{o':HO}
theorem HOk.write (ok:HOk P w H h)(mu:Mut (H x))(he:e=x \/ H e=some (.own x))(k:∀ b u,b≠e->h.get? b=some u->h'.get? b=some u)(heo:∃ u,h'.get? e=some u)
  (new:ObjOk P w (upd H x o') h' x o'):HOk P w (upd H x o') h':=fun b u q=>by
 have nown:∀ c y,H c=some (.own y)->c≠x:=fun c y r z=>by subst z;rw[r] at mu;exact mu
 have ntup:∀ c xs,H c=some (.tup xs)->c≠x:=fun c xs r z=>by subst z;rw[r] at mu;exact mu
 by_cases hb:b=x
 ·subst hb;rw[Zb] at q;cases q;exact new
 ·rw[Zf hb] at q
  by_cases hbe:b=e
  ·have q':H b=some (.own x):=by
    rcases he with z | z
    ·exact absurd (hbe.trans z) hb
    ·rw[hbe];exact z
   rw[q] at q';cases q'
   obtain⟨v,hv⟩:=heo
   exact⟨v,by rw[hbe];exact hv⟩
  ·refine (ok b u q).stay (fun c v hc r=>k c v ?_ r) (fun c r=>by rw[Zf (nown c b r)];exact r) fun c xs r=>by rw[Zf (ntup c xs r)];exact r
   rcases hc with rfl | hc
   ·exact hbe
   ·rintro rfl
    rcases he with z | z
    ·exact nown c b hc z
    ·rw[hc] at z;cases z;exact hb rfl
end
structure Un (fs ex:List Addr)(H H':Hp)(h h':Heap):Prop where
 keep:∀ b o,h.get? b=some o->H b=none->b ∉ fs->b ∉ ex->h'.get? b=some o
 slot:∀ b o,h.get? b=some o->H b=none->b∈fs->b ∉ ex->∃ sl,h'.get? b=some { o with slots:=sl }
 free:∀ b o,h.get? b=some o->H b=none->b ∉ ex->H' b=none
 there:∀ b o,h.get? b=some o->b ∉ ex->∃ o',h'.get? b=some o'
 tups:∀ b xs,H b=some (.tup xs)->H' b=some (.tup xs)
 frzs:∀ b o u,H b=some (.frz o u)->H' b=some (.frz o u)
 tbls:∀ b ps,H b=some (.tbl ps)->∃ more,H' b=some (.tbl (ps++more))
section
variable {fs fs' ex ex':List Addr}{H H1 H2:Hp}{h h1 h2 h':Heap}{a x e:Addr}{o:HO}
theorem Un.any (u:Un fs ex H H1 h h1){b:Addr}{ob:Obj}(q:h.get? b=some ob)(n:H b=none)(hx:b ∉ ex):∃ sl,h1.get? b=some { ob with slots:=sl }:=by
 by_cases hb:b∈fs
 ·exact u.slot b ob q n hb hx
 ·exact⟨ob.slots,u.keep b ob q n hb hx⟩
theorem Un.kept (k:∀ b u,h.get? b=some u->h'.get? b=some u):Un fs ex H H h h' :=
 ⟨fun b ob q _ _ _=>k b ob q,fun b ob q _ _ _=>⟨ob.slots,k b ob q⟩,fun _ _ _ n _=>n,fun b ob q _=>⟨ob,k b ob q⟩,fun _ _ q=>q,fun _ _ _ q=>q,fun _ ps q=>⟨#[],by rw[q];simp⟩⟩
theorem Un.refl:Un fs ex H H h h:=Un.kept fun _ _ q=>q
theorem Un.laid (k:∀ b u,h.get? b=some u->h'.get? b=some u)(hp:h.objs.size<=a)(hn:H a=none):Un fs ex H (upd H a o) h h' where
 keep:=fun b u q _ _ _=>k b u q
 slot:=fun b u q _ _ _=>⟨u.slots,k b u q⟩
 free:=fun b u q n _=>by rw[Zf (Nat.ne_of_lt (Nat.lt_of_lt_of_le (Heap.lt_size q) hp))];exact n
 there:=fun b u q _=>⟨u,k b u q⟩
 tups:=fun b xs q=>by rw[Zf (Zd q hn)];exact q
 frzs:=fun b u xs q=>by rw[Zf (Zd q hn)];exact q
 tbls:=fun b ps q=>⟨#[],by rw[Zf (Zd q hn),q];simp⟩
theorem Un.write (mu:Mut (H x))(he:e=x \/ H e=some (.own x))(k:∀ b u,b≠e->h.get? b=some u->h'.get? b=some u)(heo:∃ u,h'.get? e=some u):Un fs ex H (upd H x o) h h':=by
 have hx:∀ b,H b=none->b≠x:=fun b n z=>by subst z;rw[n] at mu;exact mu
 have hb:∀ b,H b=none->b≠e:=fun b n z=>by
  subst z
  rcases he with r | r
  ·exact hx b n r
  ·rw[n] at r;cases r
 have hm:∀ b u,H b=some u->¬ Mut (some u)->b≠x:=fun b u q nm z=>by subst z;rw[q] at mu;exact nm mu
 refine⟨fun b u q n _ _=>k b u (hb b n) q,fun b u q n _ _=>⟨u.slots,k b u (hb b n) q⟩,fun b u q n _=>by rw[Zf (hx b n)];exact n,fun b u q _=>?_,
  fun b xs q=>by rw[Zf (hm b _ q fun z=>z)];exact q,fun b u xs q=>by rw[Zf (hm b _ q fun z=>z)];exact q,fun b ps q=>⟨#[],by rw[Zf (hm b _ q fun z=>z),q];simp⟩⟩
 by_cases hbe:b=e
 ·subst hbe;exact heo
 ·exact⟨u,k b u hbe q⟩
end
def trk (h:Heap)(H:Hp):List Addr:=(List.range h.objs.size).filter fun a=>(H a).isSome
def hidT (h:Heap)(H:Hp):Heap:=W.hideAll h (trk h H)
theorem F6 (h:Heap)(H:Hp):(hidT h H).objs.size=h.objs.size:=W.hideAll_size _ _
theorem Ba {h:Heap}{H:Hp}{b:Addr}{o:Obj}(e:h.get? b=some o)(n:H b=none):(hidT h H).get? b=some o :=
 W.hideAll_get _ e fun hm=>by
  have q:(H b).isSome=true:=(List.mem_filter.mp hm).2
  rw[n] at q;simp at q
theorem Z13 {h:Heap}{H:Hp}{b:Addr}{o:Obj}(e:(hidT h H).get? b=some o):h.get? b=some o/\H b=none:=by
 have e':h.get? b=some o:=W.of_hideAll (trk h H) e
 refine⟨e',?_⟩
 cases q:H b with
 | none=>rfl
 | some x =>
  have hm:b∈trk h H:=List.mem_filter.mpr ⟨List.mem_range.mpr (Heap.lt_size e'),by simp[q]⟩
  have z:(hidT h H).get? b=none:=W.hideAll_none (trk h H) hm
  rw[z] at e;cases e
def allNews (g h:Heap)(L:Addr):List (Addr × Obj):=(List.range h.objs.size).filterMap fun a=>if a=L \/ (g.get? a).isSome=true then none else (h.get? a).map fun o=>(a,o)
def rest (g h:Heap)(L d:Addr):List (Addr × Obj):=(allNews g h L).filter fun p=>decide (p.1≠d)
end L2
namespace L2
open PySem PySem.Spec PyProof.Rows
structure Mod (K:W.Frag)(mg:Str->Option Value)(base:Heap):Prop where
 kin:K.In base
 glob:base.Ns mainGlobals mg
 blt:∃ mb,base.Ns builtinsNs mb/\∀ x:Str,x≠"__name__"->mb x=bootBuiltins x
 nolimit:base.NoLimit
structure Cx where
 prog:Program
 w:World
 K:W.Frag
 mg:Str->Option Value
 base:Heap
 A:Around
 N:List Str
 s₀:Shared
 H₀:Hp
 env:Env
 outer:List Env
 stack:List Env
 ex:List Addr
 fn:Str->Bool
 calm:Bool
 pn:List (Addr × Obj)
 xe:Value->Shared->Prop
def frs (l:List Env):List Addr:=l.filterMap (·.frame)
abbrev Cx.fs (X:Cx):List Addr:=frs X.outer
def Vis (sc:Scope)(x:Str):Prop:=sc.names.lookup x=some .local \/ sc.names.lookup x=some .cell \/ sc.names.lookup x=some .free
def Loc (sc:Scope)(x:Str):Prop:=sc.names.lookup x=some .local \/ sc.names.lookup x=some .cell
def Look (env:Env)(h:Heap)(m:Str->Option Value)(x:Str)(u:Value):Prop :=
 (env.kindOf x=some .local/\m x=some u) \/ ((env.kindOf x=some .cell \/ env.kindOf x=some .free)/\∃ c,env.cells.lookup x=some c/\h.IsCell c (some u))
structure Cx.Ok (X:Cx):Prop where
 mod:Mod X.K X.mg X.base
 kind:X.env.scope.kind=.function
 glob:X.env.globals=mainGlobals
 blt:X.env.builtins=builtinsNs
 above:X.s₀.heap.objs.size<=X.env.locals
 inj:∀ x y c,X.env.cells.lookup x=some c->X.env.cells.lookup y=some c->x=y
 has:∀ x,(X.env.kindOf x=some .cell \/ X.env.kindOf x=some .free)->∃ c,X.env.cells.lookup x=some c
 cab:∀ x c,X.fn x=true->X.env.cells.lookup x=some c->X.s₀.heap.objs.size<=c
 hd:X.calm=true->Sb.QtP X.A X.pn
 frames:X.A.frames=some X.stack
 stk:X.stack=X.outer \/ (X.stack=X.env::X.outer/\X.env.frame=some X.env.locals)
 exf:∀ b∈X.ex,b≠X.env.locals/\∀ x c,X.env.cells.lookup x=some c->c≠b
 bs:∀ b o,X.base.get? b=some o->X.s₀.heap.get? b=some o/\X.H₀ b=none
 bsz:X.base.objs.size<=X.s₀.heap.objs.size
 noex:∀ b o,X.base.get? b=some o->b ∉ X.ex
 exfs:∀ b∈X.ex,b ∉ X.fs
 funs:X.s₀.heap.FunFrames X.base X.outer
 frf:∀ b∈X.fs,X.H₀ b=none
structure Inv (X:Cx)(pins:List (Addr × Obj))(σ:List (Option V))(H:Hp)(s:Shared):Prop where
 ok:X.Ok
 os:s.os=X.s₀.os
 bare:AllBare s.gens
 base:Un X.fs X.ex X.H₀ H X.s₀.heap s.heap
 loc:∃ m,s.heap.Ns X.env.locals m/\∀ (i:Nat) (x:Str) (v:V),X.N[i]?=some x->σ[i]?=some (some v)->Vis X.env.scope x->∃ u,RelV v u/\Look X.env s.heap m x u
 cell:∀ x c,X.env.cells.lookup x=some c->∃ v,s.heap.IsCell c v
 free:H X.env.locals=none
 freeC:∀ x c,X.env.cells.lookup x=some c->H c=none
 pin:∀ p∈X.pn++pins,s.heap.get? p.1=some p.2/\H p.1=none/\p.1≠X.env.locals/\p.1 ∉ X.fs/\∀ v,p.2.data≠.cell v
 hok:HOk X.prog X.w H s.heap
 len:σ.length=X.N.length
theorem Inv.qt {X:Cx}{pins:List (Addr × Obj)}{σ:List (Option V)}{H:Hp}{s:Shared}(I:Inv X pins σ H s)(hc:X.calm=true):Sb.Qt X.A s.heap:=(I.ok.hd hc).at fun p hp=>(I.pin p (List.mem_append_left _ hp)).1
section
variable {X:Cx}{pins:List (Addr × Obj)}{σ:List (Option V)}{H H':Hp}{s:Shared}{h':Heap}
theorem Cx.Ok.nofr (ok:X.Ok){b:Addr}{o:Obj}(e:X.base.get? b=some o):b ∉ X.fs:=fun hb=>by
 have:=(ok.funs.mem hb).1
 rw[e] at this;cases this
theorem Inv.bs (I:Inv X pins σ H s):∀ b o,X.base.get? b=some o->s.heap.get? b=some o/\H b=none:=fun b o e =>
 ⟨I.base.keep b o (I.ok.bs b o e).1 (I.ok.bs b o e).2 (I.ok.nofr e) (I.ok.noex b o e),I.base.free b o (I.ok.bs b o e).1 (I.ok.bs b o e).2 (I.ok.noex b o e)⟩
theorem Inv.bk (I:Inv X pins σ H s):∀ b o,X.base.get? b=some o->s.heap.get? b=some o:=fun b o e=>(I.bs b o e).1
theorem Inv.mod (I:Inv X pins σ H s):Mod X.K X.mg X.base:=I.ok.mod
theorem Inv.kIn (I:Inv X pins σ H s):X.K.In s.heap:=I.ok.mod.kin.keeps I.bk
theorem Inv.lt (I:Inv X pins σ H s):X.env.locals<s.heap.objs.size:=let ⟨_,hn,_⟩:=I.loc;hn.lt
theorem Inv.sz (I:Inv X pins σ H s):X.s₀.heap.objs.size<=s.heap.objs.size:=Nat.le_trans I.ok.above (Nat.le_of_lt I.lt)
theorem Inv.nofs (I:Inv X pins σ H s){a:Addr}(h:s.heap.objs.size<=a):a ∉ X.fs:=fun hb=>by
 obtain⟨_,o,ho,_⟩:=I.ok.funs.mem hb
 exact absurd (Nat.lt_of_lt_of_le (Heap.lt_size ho) (Nat.le_trans I.sz h)) (Nat.lt_irrefl _)
theorem Inv.cne (I:Inv X pins σ H s):∀ x c,X.env.cells.lookup x=some c->c≠X.env.locals:=fun x c e z=>by
 obtain⟨v,o,ho,hd⟩:=I.cell x c e
 obtain⟨m,⟨o',es,ep,ho',hd',_⟩,_⟩:=I.loc
 rw[z,ho'] at ho;cases ho;rw[hd'] at hd;cases hd
theorem Inv.funs (I:Inv X pins σ H s):s.heap.FunFrames X.base X.outer:=by
 have all:∀ (l:List Env),(∀ b∈frs l,b∈X.fs)->X.s₀.heap.FunFrames X.base l->s.heap.FunFrames X.base l:=by
  intro l
  induction l with
  | nil=>intro _ _;trivial
  | cons env r ih =>
   intro hs hl
   obtain⟨hk,⟨L,o,hf,hn,ho,hd⟩,hr⟩:=hl
   have hL:L∈X.fs:=hs L (by unfold frs;rw[List.filterMap_cons,hf];exact List.mem_cons_self)
   obtain⟨sl,e⟩:=I.base.slot L o ho (I.ok.frf L hL) hL fun z=>I.ok.exfs L z hL
   exact⟨hk,⟨L,_,hf,hn,e,hd⟩,ih (fun b hb=>hs b (by unfold frs;rw[List.filterMap_cons,hf];exact List.mem_cons_of_mem _ hb)) hr⟩
 exact all X.outer (fun _ hb=>hb) I.ok.funs
theorem Inv.stack (I:Inv X pins σ H s):s.heap.FunFrames X.base X.stack:=by
 rcases I.ok.stk with e | ⟨e,hf⟩
 ·rw[e];exact I.funs
 ·rw[e]
  obtain⟨m,hn,_⟩:=I.loc
  refine .cons (by rw[I.ok.kind];decide) hf hn ?_ I.funs
  exact Heap.get?_none_of_le (Nat.le_trans I.ok.bsz I.ok.above)
theorem Inv.stkSub (I:Inv X pins σ H s):∀ b∈frs X.stack,b∈X.env.locals::X.fs:=fun b hb=>by
 rcases I.ok.stk with e | ⟨e,hf⟩
 ·rw[e] at hb;exact List.mem_cons_of_mem _ hb
 ·rw[e] at hb
  unfold frs at hb
  rw[List.filterMap_cons,hf] at hb
  exact hb
theorem Inv.stkFree (I:Inv X pins σ H s):∀ b∈frs X.stack,H b=none:=fun b hb=>by
 rcases List.mem_cons.mp (I.stkSub b hb) with e | hb
 ·rw[e];exact I.free
 ·obtain⟨_,o,ho,_⟩:=I.ok.funs.mem hb
  exact I.base.free b o ho (I.ok.frf b hb) fun z=>I.ok.exfs b z hb
theorem Inv.step {g':Array GenState}{t':Nat}{d':Drawn}{ch:List Addr}(I:Inv X pins σ H s)
  (hch:∀ b∈ch,(b∈X.ex \/ X.s₀.heap.objs.size<=b)/\b≠X.env.locals/\(∀ x c,X.env.cells.lookup x=some c->c≠b)/\∀ p∈X.pn++pins,p.1≠b)
  (keep:∀ b o,b≠X.env.locals->b ∉ X.fs->b ∉ ch->s.heap.get? b=some o->H b=none->h'.get? b=some o)
  (slot:∀ b o,b≠X.env.locals->b∈X.fs->b ∉ ch->s.heap.get? b=some o->H b=none->∃ sl,h'.get? b=some { o with slots:=sl }) (free:∀ b o,b ∉ ch->s.heap.get? b=some o->H b=none->H' b=none)
  (there:∀ b o,b ∉ ch->s.heap.get? b=some o->∃ o',h'.get? b=some o')
  (tups:∀ b xs,H b=some (.tup xs)->H' b=some (.tup xs)) (frzs:∀ b o u,H b=some (.frz o u)->H' b=some (.frz o u)) (tbls:∀ b ps,H b=some (.tbl ps)->∃ more,H' b=some (.tbl (ps++more)))
  (ns:∀ m,s.heap.Ns X.env.locals m->h'.Ns X.env.locals m) (hok:HOk X.prog X.w H' h') (hg:AllBare g') :
  Inv X pins σ H' { s with heap:=h',gens:=g',drawn:=d',toks:=t' }:=by
 have neL:∀ b o,X.s₀.heap.get? b=some o->b≠X.env.locals:=fun b o e=>Nat.ne_of_lt (Nat.lt_of_lt_of_le (Heap.lt_size e) I.ok.above)
 have neC:∀ b o,X.s₀.heap.get? b=some o->b ∉ X.ex->b ∉ ch:=fun b o e hx hb=>by
  rcases (hch b hb).1 with z | z
  ·exact hx z
  ·exact absurd (Nat.lt_of_lt_of_le (Heap.lt_size e) z) (Nat.lt_irrefl _)
 have cellK:∀ x c,X.env.cells.lookup x=some c->∀ v,s.heap.IsCell c v->h'.IsCell c v:=fun x c e v ⟨o,ho,hd⟩=>by
  have nch:c ∉ ch:=fun z=>(hch c z).2.2.1 x c e rfl
  by_cases hc:c∈X.fs
  ·obtain⟨sl,q⟩:=slot c o (I.cne x c e) hc nch ho (I.freeC x c e)
   exact⟨_,q,hd⟩
  ·exact⟨o,keep c o (I.cne x c e) hc nch ho (I.freeC x c e),hd⟩
 refine⟨I.ok,I.os,hg,⟨fun b o e n hb hx=>?_,fun b o e n hb hx=>?_,fun b o e n hx=>?_,fun b o e hx=>?_,fun b xs e=>tups b xs (I.base.tups b xs e),fun b o xs e=>frzs b o xs (I.base.frzs b o xs e),fun b ps e=>?_⟩,?_,fun x c e=>?_,?_,fun x c e=>?_,fun p hp=>?_,hok,I.len⟩
 ·exact keep b o (neL b o e) hb (neC b o e hx) (I.base.keep b o e n hb hx) (I.base.free b o e n hx)
 ·obtain⟨sl,e1⟩:=I.base.slot b o e n hb hx
  obtain⟨sl',e2⟩:=slot b _ (neL b o e) hb (neC b o e hx) e1 (I.base.free b o e n hx)
  exact⟨sl',e2⟩
 ·obtain⟨o',e1⟩:=I.base.there b o e hx
  exact free b o' (neC b o e hx) e1 (I.base.free b o e n hx)
 ·obtain⟨o',e1⟩:=I.base.there b o e hx
  exact there b o' (neC b o e hx) e1
 ·obtain⟨m1,e1⟩:=I.base.tbls b ps e
  obtain⟨m2,e2⟩:=tbls b _ e1
  exact⟨m1++m2,by rw[e2,Array.append_assoc]⟩
 ·obtain⟨m,hn,hl⟩:=I.loc
  refine⟨m,ns m hn,fun i x v e1 e2 e3=>?_⟩
  obtain⟨u,r,l⟩:=hl i x v e1 e2 e3
  refine⟨u,r,?_⟩
  rcases l with l | ⟨k,c,e,z⟩
  ·exact .inl l
  ·exact .inr ⟨k,c,e,cellK x c e _ z⟩
 ·obtain⟨v,z⟩:=I.cell x c e
  exact⟨v,cellK x c e v z⟩
 ·obtain⟨m,⟨o,_,_,ho,_⟩,_⟩:=I.loc
  exact free _ o (fun z=>(hch _ z).2.1 rfl) ho I.free
 ·obtain⟨v,o,ho,hd⟩:=I.cell x c e
  exact free c o (fun z=>(hch c z).2.2.1 x c e rfl) ho (I.freeC x c e)
 ·obtain⟨e,n,ne,nf,d⟩:=I.pin p hp
  have nch:p.1 ∉ ch:=fun z=>(hch p.1 z).2.2.2 p hp rfl
  exact⟨keep p.1 p.2 ne nf nch e n,free p.1 p.2 nch e n,ne,nf,d⟩
theorem Inv.un {t':Nat}(I:Inv X pins σ H s)(u:Un X.fs [] H H' s.heap h')(hok:HOk X.prog X.w H' h'):Inv X pins σ H' { s with heap:=h',toks:=t' }:=by
 obtain⟨m,⟨o,es,ep,ho,r⟩,_⟩:=id I.loc
 obtain⟨sl,hL⟩:=u.any ho I.free (by simp)
 exact I.step (g':=s.gens) (d':=s.drawn) (ch:=[]) (fun _ z=>nomatch z) (fun b o _ hb _ e n=>u.keep b o e n hb (by simp)) (fun b o _ hb _ e n=>u.slot b o e n hb (by simp)) (fun b o _ e n=>u.free b o e n (by simp)) (fun b o _ e=>u.there b o e (by simp)) u.tups u.frzs u.tbls (fun m' hm=>by
  obtain⟨o',es',ep',ho',r'⟩:=hm
  rw[ho] at ho';cases ho'
  exact⟨_,es',ep',hL,r'⟩) hok I.bare
theorem Inv.call {g':Array GenState}{t':Nat}{d':Drawn}{ch:List Addr}(I:Inv X pins σ H s)(u:Un (frs X.stack) ch H H' s.heap h')(hok:HOk X.prog X.w H' h')(hg:AllBare g')
  (hch:∀ b∈ch,(b∈X.ex \/ X.s₀.heap.objs.size<=b)/\b≠X.env.locals/\(∀ x c,X.env.cells.lookup x=some c->c≠b)/\∀ p∈X.pn++pins,p.1≠b) :
  Inv X pins σ H' { s with heap:=h',gens:=g',drawn:=d',toks:=t' }:=by
 obtain⟨m,⟨o,es,ep,ho,r⟩,_⟩:=id I.loc
 obtain⟨sl,hL⟩:=u.any ho I.free fun z=>(hch _ z).2.1 rfl
 exact I.step (ch:=ch) hch (fun b o hL hb hc e n=>u.keep b o e n (fun z=>(List.mem_cons.mp (I.stkSub b z)).elim hL hb) hc) (fun b o _ _ hc e n=>u.any e n hc) (fun b o hc e n=>u.free b o e n hc) (fun b o hc e=>u.there b o e hc) u.tups u.frzs u.tbls (fun m' hm=>by
  obtain⟨o',es',ep',ho',r'⟩:=hm
  rw[ho] at ho';cases ho'
  exact⟨_,es',ep',hL,r'⟩) hok hg
theorem Inv.turned {t':Nat}{it:Addr}(I:Inv X pins σ H s)(k:∀ b o,b≠it->s.heap.get? b=some o->h'.get? b=some o)(hn:H it=none)(hL:it≠X.env.locals)
  (h1:it∈X.ex \/ X.s₀.heap.objs.size<=it) (h2:∀ x c,X.env.cells.lookup x=some c->c≠it) (h3:∀ p∈X.pn++pins,p.1≠it):Inv X pins σ H { s with heap:=h',toks:=t' }:=by
 have nit:∀ b u,H b=some u->b≠it:=fun b u e z=>by rw[z,hn] at e;cases e
 refine I.step (g':=s.gens) (d':=s.drawn) (ch:=[it]) (fun b hb=>?_) (fun b o _ _ hc e _=>k b o (fun z=>hc (by simp[z])) e) (fun b o _ _ hc e _=>⟨o.slots,k b o (fun z=>hc (by simp[z])) e⟩) (fun _ _ _ _ n=>n)
  (fun b o hc e=>⟨o,k b o (fun z=>hc (by simp[z])) e⟩) (fun _ _ e=>e) (fun _ _ _ e=>e) (fun b ps e=>⟨#[],by rw[e];simp⟩) (fun m hm=>?_) (fun b u e=>?_) I.bare
 ·have e:b=it:=by simpa using hb
  subst e
  exact⟨h1,hL,h2,h3⟩
 ·obtain⟨o,es,ep,ho,r⟩:=hm
  exact⟨o,es,ep,k _ o (Ne.symm hL) ho,r⟩
 ·refine (I.hok b u e).stay (fun c v hc q=>k c v ?_ q) (fun _ q=>q) fun _ _ q=>q
  rcases hc with z | z
  ·rw[z];exact nit b u e
  ·exact nit c _ z
theorem Inv.tok (I:Inv X pins σ H s)(t:Nat):Inv X pins σ H { s with toks:=t }:=I.un (h':=s.heap) (t':=t) Un.refl I.hok
theorem Inv.kept {t':Nat}(I:Inv X pins σ H s)(k:∀ b u,s.heap.get? b=some u->h'.get? b=some u):Inv X pins σ H { s with heap:=h',toks:=t' }:=I.un (Un.kept k) (I.hok.kept k)
theorem Inv.laid {a:Addr}{o:HO}{t':Nat}(I:Inv X pins σ H s)(k:∀ b u,s.heap.get? b=some u->h'.get? b=some u)(hp:s.heap.objs.size<=a)(new:ObjOk X.prog X.w (upd H a o) h' a o) :
  Inv X pins σ (upd H a o) { s with heap:=h',toks:=t' }:=I.un (Un.laid k hp (I.hok.fresh hp)) (I.hok.laid k hp new)
theorem Inv.write {x e:Addr}{o:HO}{t':Nat}(I:Inv X pins σ H s)(mu:Mut (H x))(he:e=x \/ H e=some (.own x))(k:∀ b u,b≠e->s.heap.get? b=some u->h'.get? b=some u)(heo:∃ u,h'.get? e=some u)
  (new:ObjOk X.prog X.w (upd H x o) h' x o):Inv X pins σ (upd H x o) { s with heap:=h',toks:=t' }:=I.un (Un.write mu he k heo) (I.hok.write mu he k heo new)
theorem Inv.weak {σ':List (Option V)}(I:Inv X pins σ H s)(hl:σ'.length=σ.length)(w:∀ (i:Nat) v,σ'[i]?=some (some v)->σ[i]?=some (some v)):Inv X pins σ' H s :=
 ⟨I.ok,I.os,I.bare,I.base,let ⟨m,hn,hl'⟩:=I.loc;⟨m,hn,fun i x v e1 e2 e3=>hl' i x v e1 (w i v e2) e3⟩,I.cell,I.free,I.freeC,I.pin,I.hok,hl.trans I.len⟩
theorem Inv.pins_of {pins':List (Addr × Obj)}(I:Inv X pins σ H s)(h:∀ p∈pins',s.heap.get? p.1=some p.2/\H p.1=none/\p.1≠X.env.locals/\p.1 ∉ X.fs/\∀ v,p.2.data≠.cell v):Inv X pins' σ H s :=
 ⟨I.ok,I.os,I.bare,I.base,I.loc,I.cell,I.free,I.freeC,fun p hp=>(List.mem_append.mp hp).elim (fun z=>I.pin p (List.mem_append_left _ z)) (h p),I.hok,I.len⟩
theorem Mf {N:List Str}(hN:N.Nodup){i j:Nat}{x:Str}(a:N[i]?=some x)(b:N[j]?=some x):i=j:=by
 obtain⟨h1,e1⟩:=List.getElem?_eq_some_iff.mp a
 obtain⟨h2,e2⟩:=List.getElem?_eq_some_iff.mp b
 exact (List.getElem_inj hN).mp (e1.trans e2.symm)
theorem Qi {M:Model}{A:Around}{E:Value->Shared->Prop}{i:Nat}{x:Str}{v:V}{u:Value}{Q:Unit->Shared->Prop}(I:Inv X pins σ H s)(hN:X.N.Nodup)(hi:X.N[i]?=some x)(hx:Loc X.env.scope x)(r:RelV v u)
  (h:∀ s',Inv X pins (σ.set i (some v)) H s'->(∃ a,Heap.SameBut a s.heap s'.heap/\(a=X.env.locals \/ X.env.cells.lookup x=some a))->Q () s') (hf:X.fn x=true \/ X.env.scope.names.lookup x=some .local:=by first | exact .inl rfl | exact .inr rfl | assumption):wpAny M A (storeName X.env x u) Q E s:=by
 obtain⟨m,hn,hl⟩:=id I.loc
 have hcls:(X.env.scope.kind == .class || (X.env.scope.kind == .module && X.env.locals != X.env.globals))=false:=by rw[I.ok.kind];rfl
 have hiσ:i<σ.length:=by rw[I.len];exact (List.getElem?_eq_some_iff.mp hi).1
 have cne:=I.cne
 have tracked:∀ {a:Addr} {h':Heap},(∃ o,s.heap.get? a=some o/\H a=none)->Heap.SameBut a s.heap h'->HOk X.prog X.w H h':=fun {a h'} ha hs b ob e=>by
  obtain⟨_,_,hfree⟩:=ha
  refine (I.hok b ob e).stay (fun c w' hc q=>(hs.2 c ?_).trans q) (fun _ q=>q) fun _ _ q=>q
  rintro rfl
  rcases hc with rfl | hc
  ·rw[hfree] at e;cases e
  ·rw[hfree] at hc;cases hc
 rcases hx with hk | hk
 ·refine wpAny_storeName_local hk hn (fun h' hn' hs=>?_) hcls
  obtain⟨oL,_,_,hoL,_⟩:=id hn
  refine h _ ⟨I.ok,I.os,I.bare,⟨fun b o e n hb hx=>?_,fun b o e n hb hx=>?_,I.base.free,fun b o e hx=>?_,I.base.tups,I.base.frzs,I.base.tbls⟩,⟨_,hn',fun j y v' e1 e2 e3=>?_⟩,fun y c e=>?_,I.free,I.freeC,fun p hp=>?_,tracked ⟨oL,hoL,I.free⟩ hs,by simpa using I.len⟩ ⟨_,hs,.inl rfl⟩
  ·exact (hs.2 b (Nat.ne_of_lt (Nat.lt_of_lt_of_le (Heap.lt_size e) I.ok.above))).trans (I.base.keep b o e n hb hx)
  ·obtain⟨sl,e1⟩:=I.base.slot b o e n hb hx
   exact⟨sl,(hs.2 b (Nat.ne_of_lt (Nat.lt_of_lt_of_le (Heap.lt_size e) I.ok.above))).trans e1⟩
  ·obtain⟨o',e1⟩:=I.base.there b o e hx
   exact⟨o',(hs.2 b (Nat.ne_of_lt (Nat.lt_of_lt_of_le (Heap.lt_size e) I.ok.above))).trans e1⟩
  ·by_cases hj:j=i
   ·subst hj
    rw[hi] at e1;cases e1
    rw[List.getElem?_set_self hiσ] at e2
    cases e2
    exact⟨u,r,.inl ⟨hk,by simp⟩⟩
   ·rw[List.getElem?_set_ne (Ne.symm hj)] at e2
    obtain⟨u',r',q⟩:=hl j y v' e1 e2 e3
    refine⟨u',r',?_⟩
    rcases q with ⟨k,e⟩ | ⟨k,c,e,z⟩
    ·refine .inl ⟨k,?_⟩
     have:y≠x:=fun e=>hj (Mf hN e1 (e ▸ hi))
     simp[this,e]
    ·exact .inr ⟨k,c,e,z.sameBut hs (cne y c e)⟩
  ·obtain⟨w',z⟩:=I.cell y c e
   exact⟨w',z.sameBut hs (cne y c e)⟩
  ·obtain⟨e,n,ne,nf,d⟩:=I.pin p hp
   exact⟨(hs.2 p.1 ne).trans e,n,ne,nf,d⟩
 ·have hfn:X.fn x=true:=by
   rcases hf with z | z
   ·exact z
   ·rw[z] at hk;cases hk
  obtain⟨c,hc⟩:=I.ok.has x (.inl hk)
  obtain⟨w',z⟩:=I.cell x c hc
  refine wpAny_storeName_cell I.ok.kind hk hc z (fun h' hc' hs=>?_)
  obtain⟨oc,hoc,hocd⟩:=id z
  refine h { s with heap:=h' } ⟨I.ok,I.os,I.bare,⟨fun b o e n hb hx=>?_,fun b o e n hb hx=>?_,I.base.free,fun b o e hx=>?_,I.base.tups,I.base.frzs,I.base.tbls⟩,⟨m,hn.sameBut hs (Ne.symm (cne x c hc)),fun j y v' e1 e2 e3=>?_⟩,fun y c' e=>?_,I.free,I.freeC,fun p hp=>?_,tracked ⟨oc,hoc,I.freeC x c hc⟩ hs,by simpa using I.len⟩ ⟨c,hs,.inr hc⟩
  ·exact (hs.2 b (Nat.ne_of_lt (Nat.lt_of_lt_of_le (Heap.lt_size e) (I.ok.cab x c hfn hc)))).trans (I.base.keep b o e n hb hx)
  ·obtain⟨sl,e1⟩:=I.base.slot b o e n hb hx
   exact⟨sl,(hs.2 b (Nat.ne_of_lt (Nat.lt_of_lt_of_le (Heap.lt_size e) (I.ok.cab x c hfn hc)))).trans e1⟩
  ·obtain⟨o',e1⟩:=I.base.there b o e hx
   exact⟨o',(hs.2 b (Nat.ne_of_lt (Nat.lt_of_lt_of_le (Heap.lt_size e) (I.ok.cab x c hfn hc)))).trans e1⟩
  ·by_cases hj:j=i
   ·subst hj
    rw[hi] at e1;cases e1
    rw[List.getElem?_set_self hiσ] at e2
    cases e2
    exact⟨u,r,.inr ⟨.inl hk,c,hc,hc'⟩⟩
   ·rw[List.getElem?_set_ne (Ne.symm hj)] at e2
    obtain⟨u',r',q⟩:=hl j y v' e1 e2 e3
    refine⟨u',r',?_⟩
    rcases q with q | ⟨k,c',e,z'⟩
    ·exact .inl q
    ·refine .inr ⟨k,c',e,z'.sameBut hs ?_⟩
     rintro rfl
     exact hj (Mf hN e1 (I.ok.inj _ _ _ e hc ▸ hi))
  ·by_cases hcc:c'=c
   ·subst hcc;exact⟨_,hc'⟩
   ·obtain⟨w2,z2⟩:=I.cell y c' e
    exact⟨w2,z2.sameBut hs hcc⟩
  ·obtain⟨e,n,ne,nf,d⟩:=I.pin p hp
   refine⟨(hs.2 p.1 ?_).trans e,n,ne,nf,d⟩
   intro q
   rw[q,hoc] at e
   have q':oc=p.2:=Option.some.inj e
   exact d w' (by rw[← q'];exact hocd)
theorem Ni {M:Model}{A:Around}{E:Value->Shared->Prop}{i:Nat}{x:Str}{v:V}{u:Value}{Q:Unit->Shared->Prop}(I:Inv X pins σ H s)(hN:X.N.Nodup)(hi:X.N[i]?=some x)(hx:Loc X.env.scope x)(r:RelV v u)
  (h:∀ s',Inv X pins (σ.set i (some v)) H s'->Q () s') (hf:X.fn x=true \/ X.env.scope.names.lookup x=some .local:=by first | exact .inl rfl | exact .inr rfl | assumption):wpAny M A (storeName X.env x u) Q E s :=
 Qi I hN hi hx r (fun s' I' _=>h s' I') hf
theorem Inv.call' {s':Shared}{ch:List Addr}(I:Inv X pins σ H s)(ho:s'.os=s.os)(u:Un (frs X.stack) ch H H' s.heap s'.heap)(hok:HOk X.prog X.w H' s'.heap)(hg:AllBare s'.gens)
  (hch:∀ b∈ch,(b∈X.ex \/ X.s₀.heap.objs.size<=b)/\b≠X.env.locals/\(∀ x c,X.env.cells.lookup x=some c->c≠b)/\∀ p∈X.pn++pins,p.1≠b):Inv X pins σ H' s':=by
 obtain⟨h',g',d',t',o'⟩:=s'
 have e:o'=s.os:=ho
 subst e
 exact I.call (g':=g') (t':=t') (d':=d') u hok hg hch
end
abbrev XK:=Value->Option Addr->Hp->Prop
abbrev St:=List (Option V)
abbrev VK:=V->Hp->Prop
abbrev TE:=St->Hp->VK->Prop
abbrev TT:=St->Hp->(Bool->Hp->Prop)->Prop
abbrev TA:=St->Hp->(List V->Hp->Prop)->Prop
structure Ends where
 nx:St->Hp->Prop
 rt:VK
 bk:St->Hp->Prop:=fun _ _=>False
 ct:St->Hp->Prop:=fun _ _=>False
abbrev TS:=Ends->St->Hp->Prop
def EP (X:Cx)(pins:List (Addr × Obj))(σ:St)(Q:VK)(u:Value)(s':Shared):Prop:=∃ v H',Inv X pins σ H' s'/\RelV v u/\Q v H'
def TP (X:Cx)(pins:List (Addr × Obj))(σ:St)(Q:Bool->Hp->Prop)(b:Bool)(s':Shared):Prop:=∃ H',Inv X pins σ H' s'/\Q b H'
def AP (X:Cx)(pins:List (Addr × Obj))(σ:St)(Q:List V->Hp->Prop)(us:List Value)(s':Shared):Prop:=∃ vs H',Inv X pins σ H' s'/\Vals vs us/\Q vs H'
def SP (X:Cx)(pins:List (Addr × Obj))(D:Ends)(f:Flow)(s':Shared):Prop :=
 match f with
 | .next=>∃ σ' H',Inv X pins σ' H' s'/\D.nx σ' H'
 | .brk=>∃ σ' H',Inv X pins σ' H' s'/\D.bk σ' H'
 | .cont=>∃ σ' H',Inv X pins σ' H' s'/\D.ct σ' H'
 | .ret u=>∃ v σ' H',Inv X pins σ' H' s'/\RelV v u/\D.rt v H'
def PE (X:Cx)(e:Expr)(t:TE):Prop :=
 ∀ (pins:List (Addr × Obj)) (s:Shared) (σ:St) (H:Hp) (Q:VK),Inv X pins σ H s->t σ H Q->wpAny (model X.prog X.w) X.A (eval e X.env) (EP X pins σ Q) X.xe s
def PT (X:Cx)(e:Expr)(t:TT):Prop :=
 ∀ (pins:List (Addr × Obj)) (s:Shared) (σ:St) (H:Hp) (Q:Bool->Hp->Prop),Inv X pins σ H s->t σ H Q->wpAny (model X.prog X.w) X.A (isTrue e X.env (eval e X.env)) (TP X pins σ Q) X.xe s
def PW (X:Cx)(e:Expr)(t:TT):Prop :=
 ∀ (whole:Sem Value) (pins:List (Addr × Obj)) (s:Shared) (σ:St) (H:Hp) (Q:Bool->Hp->Prop),Inv X pins σ H s->t σ H Q->wpAny (model X.prog X.w) X.A (isTrue e X.env whole) (TP X pins σ Q) X.xe s
theorem PW.pt {X:Cx}{e:Expr}{t:TT}(h:PW X e t):PT X e t:=h _
def PA (X:Cx)(es:List Expr)(t:TA):Prop :=
 ∀ (pos:Pos) (pins:List (Addr × Obj)) (s:Shared) (σ:St) (H:Hp) (Q:List V->Hp->Prop),Inv X pins σ H s->t σ H Q->wpAny (model X.prog X.w) X.A (spliced (backTo pos (starEach es X.env))) (AP X pins σ Q) X.xe s
def PS (X:Cx)(st:Stmt)(t:TS):Prop :=
 ∀ (pins:List (Addr × Obj)) (s:Shared) (σ:St) (H:Hp) (D:Ends),Inv X pins σ H s->t D σ H->wpAny (model X.prog X.w) X.A (exec st X.env) (SP X pins D) X.xe s
def PSs (X:Cx)(st:List Stmt)(t:TS):Prop :=
 ∀ (pins:List (Addr × Obj)) (s:Shared) (σ:St) (H:Hp) (D:Ends),Inv X pins σ H s->t D σ H->wpAny (model X.prog X.w) X.A (execs st X.env) (SP X pins D) X.xe s
theorem thn {α:Type}{t:Sem α}{Q Q':α->Shared->Prop}{M:Model}{A:Around}{E:Value->Shared->Prop}{s:Shared}(h:wpAny M A t Q E s)(hQ:∀ a s,Q a s->Q' a s):wpAny M A t Q' E s:=wpAny_mono h hQ fun _ _ x=>x
end L2
namespace L2
open PySem PySem.Spec PyProof.Rows
section
variable {X:Cx}
def tVar (i:Nat):TE:=fun σ H Q=>∃ v,σ[i]?=some (some v)/\Q v H
def tC (v:V):TE:=fun _ H Q=>Q v H
theorem Z2c {i:Nat}{x:Str}{pos:Pos}(hN:X.N[i]?=some x)(hv:Vis X.env.scope x)(hd:(x == ("__debug__":Str))=false:=by decide)(hcd:(x == ("__classdict__":Str))=false:=by decide):PE X (.Name x pos) (tVar i):=by
 intro pins s σ H Q I h
 obtain⟨v,e,h⟩:=h
 obtain⟨m,hn,hl⟩:=I.loc
 obtain⟨u,r,l⟩:=hl i x v hN e hv
 have fin:EP X pins σ Q u s:=⟨v,H,I,r,h⟩
 rcases l with ⟨hk,hm⟩ | ⟨hk,c,hc,hcell⟩
 ·exact wpAny_Name (wpAny_loadName_local I.ok.kind hk hn hm fin) hd
 ·rcases hk with hk | hk
  ·exact wpAny_Name (wpAny_loadName_cell I.ok.kind hk hc hcell fin) hd
  ·exact wpAny_Name (wpAny_loadName_free I.ok.kind hk hc hcell fin hcd) hd
theorem Za {i j pos}:PE X (.Constant (.int i) j pos) (tC (.int i)):=fun _ _ _ H _ I h=>wpAny_Constant_int ⟨.int i,H,I.tok _,⟨_,rfl⟩,h⟩
theorem U1 {b j pos}:PE X (.Constant (.bool b) j pos) (tC (.bl b)):=fun _ _ _ H _ I h=>Constant_bool ⟨.bl b,H,I,rfl,h⟩
theorem Yr {j pos}:PE X (.Constant .none j pos) (tC .non):=fun _ _ _ H _ I h=>Constant_none ⟨.non,H,I,rfl,h⟩
theorem Xo {x j pos}:PE X (.Constant (.str x) j pos) (tC (.str x)):=fun _ _ _ H _ I h=>Calls.Constant_str ⟨.str x,H,I.tok _,⟨_,rfl⟩,h⟩
def Gl (X:Cx)(x:Str):Prop:=X.env.kindOf x=some .globalImplicit
theorem Pu {E:Value->Shared->Prop}{pins:List (Addr × Obj)}{s:Shared}{σ:St}{H:Hp}{x:Str}{u:Value}{pos:Pos}{Q:Value->Shared->Prop}(I:Inv X pins σ H s)(hg:Gl X x)(hm:X.mg x=some u)(h:Q u s)
  (hd:(x == ("__debug__":Str))=false:=by decide):wpAny (model X.prog X.w) X.A (eval (.Name x pos) X.env) Q E s :=
 Calls.Name_function_global I.ok.kind hg (Calls.loadGlobal_global (by rw[I.ok.glob];exact I.mod.glob.keeps I.bk) hm h) hd
theorem We {E:Value->Shared->Prop}{pins:List (Addr × Obj)}{s:Shared}{σ:St}{H:Hp}{x:Str}{u:Value}{pos:Pos}{Q:Value->Shared->Prop}(I:Inv X pins σ H s)(hg:Gl X x)(hm:X.mg x=none)(hv:bootBuiltins x=some u)(h:Q u s)
  (hn:x≠"__name__":=by decide) (hd:(x == ("__debug__":Str))=false:=by decide):wpAny (model X.prog X.w) X.A (eval (.Name x pos) X.env) Q E s:=by
 obtain⟨mb,h1,h2⟩:=I.mod.blt
 exact Calls.Name_function_global I.ok.kind hg (Calls.loadGlobal_builtin (by rw[I.ok.glob];exact I.mod.glob.keeps I.bk) hm (by rw[I.ok.blt];exact h1.keeps I.bk) ((h2 x hn).trans hv) h) hd
theorem Xi {x:Str}{v:V}{u:Value}{pos:Pos}(hg:Gl X x)(hm:X.mg x=some u)(r:RelV v u)(hd:(x == ("__debug__":Str))=false:=by decide):PE X (.Name x pos) (tC v) :=
 fun _ _ _ H _ I h=>Pu I hg hm ⟨v,H,I,r,h⟩ hd
theorem Z0c {x:Str}{v:V}{u:Value}{pos:Pos}(hg:Gl X x)(hm:X.mg x=none)(hv:bootBuiltins x=some u)(r:RelV v u)(hn:x≠"__name__":=by decide)(hd:(x == ("__debug__":Str))=false:=by decide):PE X (.Name x pos) (tC v) :=
 fun _ _ _ H _ I h=>We I hg hm hv ⟨v,H,I,r,h⟩ hn hd
variable {a b:Expr}{ta tb:TE}{pos:Pos}
def tB (t:TE):TT:=fun σ H Q=>t σ H fun x H1=>∃ c,x=.bl c/\Q c H1
theorem Xm {e:Expr}{t:TE}(h:PE X e t)(he:∀ whole,isTrue e X.env whole=(do let v ← whole;standAt e.pos;holding [v] (truthy v)):=by intro _;rfl):PT X e (tB t):=by
 intro pins s σ H Q I hw
 refine isTrue_plain (thn (h pins s σ H _ I hw) fun v s1 ⟨x,H1,I1,r1,q1⟩=>?_) (he _)
 obtain⟨d,rfl,q⟩:=q1
 cases r1
 exact wpAny_truthy_bool ⟨H1,I1,q⟩
variable {tA tB':TT}{rest:List Expr}
def tAnd (t u:TT):TT:=fun σ H Q=>t σ H fun c H1=>if c=true then u σ H1 Q else Q false H1
def tOr (t u:TT):TT:=fun σ H Q=>t σ H fun c H1=>if c=true then Q true H1 else u σ H1 Q
def tNot (t:TT):TT:=fun σ H Q=>t σ H fun c H1=>Q (!c) H1
theorem J8 (ha:PT X a tA):PW X (.BoolOp .And [a] pos) tA:=by
 intro wh pins s σ H Q I h
 refine isTrue_and (thn (ha pins s σ H Q I h) fun c s1 e=>?_)
 cases c with
 | true=>exact isTrue_and_nil e
 | false=>exact e
theorem Vb (ha:PT X a tA):PW X (.BoolOp .Or [a] pos) tA:=by
 intro wh pins s σ H Q I h
 refine isTrue_or (thn (ha pins s σ H Q I h) fun c s1 e=>?_)
 cases c with
 | false=>exact isTrue_or_nil e
 | true=>exact e
theorem Dm (ha:PT X a tA)(hb:PW X (.BoolOp .And (b::rest) pos) tB'):PW X (.BoolOp .And (a::b::rest) pos) (tAnd tA tB'):=by
 intro wh pins s σ H Q I h
 refine isTrue_and (thn (ha pins s σ H _ I h) fun c s1 ⟨H1,I1,q1⟩=>?_)
 cases c with
 | true=>exact hb wh pins s1 σ H1 Q I1 q1
 | false=>exact⟨H1,I1,q1⟩
theorem Vl (ha:PT X a tA)(hb:PW X (.BoolOp .Or (b::rest) pos) tB'):PW X (.BoolOp .Or (a::b::rest) pos) (tOr tA tB'):=by
 intro wh pins s σ H Q I h
 refine isTrue_or (thn (ha pins s σ H _ I h) fun c s1 ⟨H1,I1,q1⟩=>?_)
 cases c with
 | true=>exact⟨H1,I1,q1⟩
 | false=>exact hb wh pins s1 σ H1 Q I1 q1
theorem Wv (ha:PT X a tA):PT X (.UnaryOp .Not a pos) (tNot tA):=by
 intro pins s σ H Q I h
 exact isTrue_not (ha pins s σ H (fun c H1=>Q (!c) H1) I h)
def tAndV (ta tb:TE):TE:=fun σ H Q=>ta σ H fun x H1=>∃ c,x=.bl c/\if c=true then tb σ H1 Q else Q (.bl false) H1
def tOrV (ta tb:TE):TE:=fun σ H Q=>ta σ H fun x H1=>∃ c,x=.bl c/\if c=true then Q (.bl true) H1 else tb σ H1 Q
def tNotV (ta:TE):TE:=fun σ H Q=>ta σ H fun x H1=>∃ c,x=.bl c/\Q (.bl (!c)) H1
theorem Pl {op}{t:TE}(h:PE X a t):PE X (.BoolOp op [a] pos) t:=fun pins s σ H Q I hw=>BoolOp_one (h pins s σ H Q I hw)
theorem Lv (ha:PE X a ta)(hb:PE X (.BoolOp .And (b::rest) pos) tb):PE X (.BoolOp .And (a::b::rest) pos) (tAndV ta tb):=by
 intro pins s σ H Q I h
 refine BoolOp_and (thn (ha pins s σ H _ I h) fun v s1 ⟨x,H1,I1,r1,q1⟩=>?_)
 obtain⟨c,rfl,q1⟩:=q1
 cases r1
 refine wpAny_truthy_bool ?_
 cases c with
 | true=>exact hb pins s1 σ H1 Q I1 q1
 | false=>exact⟨.bl false,H1,I1,rfl,q1⟩
theorem Z3b (ha:PE X a ta)(hb:PE X (.BoolOp .Or (b::rest) pos) tb):PE X (.BoolOp .Or (a::b::rest) pos) (tOrV ta tb):=by
 intro pins s σ H Q I h
 refine BoolOp_or (thn (ha pins s σ H _ I h) fun v s1 ⟨x,H1,I1,r1,q1⟩=>?_)
 obtain⟨c,rfl,q1⟩:=q1
 cases r1
 refine wpAny_truthy_bool ?_
 cases c with
 | false=>exact hb pins s1 σ H1 Q I1 q1
 | true=>exact⟨.bl true,H1,I1,rfl,q1⟩
theorem Dt (ha:PE X a ta):PE X (.UnaryOp .Not a pos) (tNotV ta):=by
 intro pins s σ H Q I h
 refine UnaryOp_ (thn (ha pins s σ H _ I h) fun v s1 ⟨x,H1,I1,r1,q1⟩=>?_)
 obtain⟨c,rfl,q1⟩:=q1
 cases r1
 exact not_of (wpAny_truthy_bool ⟨.bl (!c),H1,I1,rfl,q1⟩)
def tIf (t:TT)(ta tb:TE):TE:=fun σ H Q=>t σ H fun c H1=>if c=true then ta σ H1 Q else tb σ H1 Q
theorem Vm {c:Expr}(hc:PT X c tA)(ha:PE X a ta)(hb:PE X b tb):PE X (.IfExp c a b pos) (tIf tA ta tb):=by
 intro pins s σ H Q I h
 refine wpAny_IfExp (thn (hc pins s σ H _ I h) fun d s1 ⟨H1,I1,q1⟩=>?_)
 cases d with
 | true=>exact ha pins s1 σ H1 Q I1 q1
 | false=>exact hb pins s1 σ H1 Q I1 q1
end
end L2
namespace L2
open PySem PySem.Spec PyProof.Rows
def SqL (K:W.Frag)(H:Hp)(a:Addr)(xs:List V):Prop :=
 Rd H a (.lst xs) ∨
  ∃ (o:Obj) (its:Array Value) (n:Nat),K.lookup a=some o/\o.cls=.type "list"/\o.dict=none/\o.data=.seq its n/\its.size<=sizeLine/\Vals xs its.toList
def SqT (K:W.Frag)(H:Hp)(a:Addr)(xs:List V):Prop :=
 Rd H a (.tup xs) ∨
  ∃ (o:Obj) (its:Array Value) (n:Nat),K.lookup a=some o/\o.cls=.type "tuple"/\o.data=.seq its n/\its.size<=sizeLine/\Vals xs its.toList
def absV:Value->Option V
 | .none=>some .non
 | .bool b=>some (.bl b)
 | .int i _=>some (.int i)
 | .str x _=>some (.str x)
 | .bytes b _=>some (.byt b)
 | .float b _=>some (.flt b)
 | .ref a=>some (.ref a)
 | .type n=>some (.ty n)
 | _=>none
theorem RelV.abs {x:V}{u:Value}(r:RelV x u):absV u=some x:=by
 cases x with
 | non=>cases r;rfl
 | bl _=>cases r;rfl
 | int _=>obtain⟨t,rfl⟩:=r;rfl
 | str _=>obtain⟨t,rfl⟩:=r;rfl
 | byt _=>obtain⟨t,rfl⟩:=r;rfl
 | flt _=>obtain⟨t,rfl⟩:=r;rfl
 | ref _=>cases r;rfl
 | ty _=>cases r;rfl
theorem RelV.inj {x y:V}{u:Value}(r:RelV x u)(q:RelV y u):x=y:=Option.some.inj (r.abs.symm.trans q.abs)
theorem Vals.inj:∀ {xs ys:List V} {us:List Value},Vals xs us->Vals ys us->xs=ys
 | _,_,_,.nil,.nil=>rfl
 | _,_,_,.cons r t,.cons r' t'=>by rw[r.inj r',Vals.inj t t']
section
variable {X:Cx}{pins:List (Addr × Obj)}{σ:St}{H:Hp}{s:Shared}{a:Addr}{xs ys:List V}
theorem SqL.of {K:W.Frag}(h:H a=some (.lst xs)):SqL K H a xs:=.inl (.inl h)
theorem SqT.of {K:W.Frag}(h:H a=some (.tup xs)):SqT K H a xs:=.inl (.inl h)
theorem Inv.list (I:Inv X pins σ H s)(h:SqL X.K H a xs):∃ its:List Value,Vals xs its/\PlainL s.heap a its.toArray/\xs.length<=sizeLine:=by
 rcases h with h | ⟨o,its,n,hk,hc,hd,hs,hz,r⟩
 ·obtain⟨z,its,n,r,e⟩:=h.ok I.hok
  exact⟨its,r,⟨_,n,e,rfl,rfl,rfl⟩,z⟩
 ·refine⟨its.toList,r,⟨o,n,I.kIn a o hk,hc,hd,by simpa using hs⟩,?_⟩
  have e:=r.length
  simp only [Array.length_toList] at e
  omega
theorem Inv.tuple (I:Inv X pins σ H s)(h:SqT X.K H a xs):∃ its:List Value,Vals xs its/\IsTup s.heap a its.toArray/\xs.length<=sizeLine:=by
 rcases h with h | ⟨o,its,n,hk,hc,hs,hz,r⟩
 ·obtain⟨z,its,r,p⟩:=h.ok I.hok
  exact⟨its,r,p,z⟩
 ·refine⟨its.toList,r,⟨o,I.kIn a o hk,hc,n,by simpa using hs⟩,?_⟩
  have e:=r.length
  simp only [Array.length_toList] at e
  omega
theorem Inv.list_inj (I:Inv X pins σ H s)(h:SqL X.K H a xs)(h':SqL X.K H a ys):xs=ys:=by
 obtain⟨its,r,⟨o,n,e,_,_,d⟩,_⟩:=I.list h
 obtain⟨its',r',⟨o',n',e',_,_,d'⟩,_⟩:=I.list h'
 rw[e] at e';cases e'
 rw[d] at d'
 injection d' with d1 _
 have:its=its':=by simpa using congrArg Array.toList d1
 subst this
 exact r.inj r'
theorem Inv.tuple_inj (I:Inv X pins σ H s)(h:SqT X.K H a xs)(h':SqT X.K H a ys):xs=ys:=by
 obtain⟨its,r,⟨o,e,_,n,d⟩,_⟩:=I.tuple h
 obtain⟨its',r',⟨o',e',_,n',d'⟩,_⟩:=I.tuple h'
 rw[e] at e';cases e'
 rw[d] at d'
 injection d' with d1 _
 have:its=its':=by simpa using congrArg Array.toList d1
 subst this
 exact r.inj r'
end
abbrev Cx.wish (X:Cx)(E:Value->Shared->Prop):Cx:={ X with xe:=E }
abbrev Cx.nox (X:Cx):Cx:=X.wish fun _ _=>False
theorem Cx.Ok.wish {X:Cx}(ok:X.Ok)(E:Value->Shared->Prop):(X.wish E).Ok :=
 ⟨ok.mod,ok.kind,ok.glob,ok.blt,ok.above,ok.inj,ok.has,ok.cab,ok.hd,ok.frames,ok.stk,ok.exf,ok.bs,ok.bsz,ok.noex,ok.exfs,ok.funs,ok.frf⟩
theorem Cx.Ok.unwish {X:Cx}{E:Value->Shared->Prop}(ok:(X.wish E).Ok):X.Ok :=
 ⟨ok.mod,ok.kind,ok.glob,ok.blt,ok.above,ok.inj,ok.has,ok.cab,ok.hd,ok.frames,ok.stk,ok.exf,ok.bs,ok.bsz,ok.noex,ok.exfs,ok.funs,ok.frf⟩
section
variable {X:Cx}{pins:List (Addr × Obj)}{σ:St}{H:Hp}{s:Shared}{E:Value->Shared->Prop}
theorem Inv.wish (I:Inv X pins σ H s)(E:Value->Shared->Prop):Inv (X.wish E) pins σ H s:=⟨I.ok.wish E,I.os,I.bare,I.base,I.loc,I.cell,I.free,I.freeC,I.pin,I.hok,I.len⟩
theorem Inv.unwish (I:Inv (X.wish E) pins σ H s):Inv X pins σ H s:=⟨I.ok.unwish,I.os,I.bare,I.base,I.loc,I.cell,I.free,I.freeC,I.pin,I.hok,I.len⟩
theorem SP.unwish {D:Ends}{f:Flow}{s':Shared}(h:SP (X.wish E) pins D f s'):SP X pins D f s':=by
 cases f with
 | next=>obtain⟨σ',H',I,q⟩:=h;exact⟨σ',H',I.unwish,q⟩
 | brk=>obtain⟨σ',H',I,q⟩:=h;exact⟨σ',H',I.unwish,q⟩
 | cont=>obtain⟨σ',H',I,q⟩:=h;exact⟨σ',H',I.unwish,q⟩
 | ret u=>obtain⟨v,σ',H',I,r,q⟩:=h;exact⟨v,σ',H',I.unwish,r,q⟩
theorem PSs.nox {st:List Stmt}{t:TS}(h:PSs X.nox st t):PSs X st t:=fun pins s σ H D I hw =>
 wpAny_mono (h pins s σ H D (I.wish _) hw) (fun _ _ q=>q.unwish) fun _ _ z=>False.elim z
end
section
variable {X:Cx}{st:Stmt}{rest:List Stmt}{t u:TS}{e:Expr}{te:TE}{pos:Pos}
def tNext:TS:=fun D σ H=>D.nx σ H
def tSeq (t u:TS):TS:=fun D σ H=>t { D with nx:=u D } σ H
theorem Zu:PSs X [] tNext:=fun _ _ σ H _ I h=>wpAny_execs_nil ⟨σ,H,I,h⟩
theorem Z9 (h1:PS X st t)(h2:PSs X rest u):PSs X (st::rest) (tSeq t u):=by
 intro pins s σ H D I h
 refine wpAny_execs_cons (thn (h1 pins s σ H { D with nx:=u D } I h) fun f s1 q=>?_)
 cases f with
 | next =>
  obtain⟨σ',H',I',q⟩:=q
  exact h2 pins s1 σ' H' D I' q
 | ret v=>exact q
 | brk=>exact q
 | cont=>exact q
theorem Zc (h1:PS X st t):PSs X [st] t:=by
 intro pins s σ H D I h
 refine wpAny_execs_cons (thn (h1 pins s σ H D I h) fun f s1 q=>?_)
 cases f with
 | next=>exact wpAny_execs_nil q
 | ret v=>exact q
 | brk=>exact q
 | cont=>exact q
theorem Inv.quiet {pins:List (Addr × Obj)}{σ:St}{H:Hp}{s:Shared}(I:Inv X pins σ H s):interactive X.env=false:=by simp[interactive,I.ok.kind]
def tDrop (te:TE):TS:=fun D σ H=>te σ H fun _ H1=>D.nx σ H1
theorem Xh (he:PE X e te)(hs:swapsWith e none pos.line X.env=pure false:=by rfl):PS X (.Expr e pos) (tDrop te):=by
 intro pins s σ H D I h
 exact wpAny_Expr_any (thn (he pins s σ H _ I h) fun v s1 ⟨x,H1,I1,r1,q1⟩=>⟨σ,H1,I1,q1⟩) I.quiet hs
def tRet (te:TE):TS:=fun D σ H=>te σ H D.rt
theorem Zj (he:PE X e te):PS X (.Return (some e) pos) (tRet te):=by
 intro pins s σ H D I h
 exact wpAny_Return_some (thn (he pins s σ H _ I h) fun v s1 ⟨x,H1,I1,r1,q1⟩=>⟨x,σ,H1,I1,r1,q1⟩)
def tIfS (c:TT)(t u:TS):TS:=fun D σ H=>c σ H fun b H1=>if b=true then t D σ H1 else u D σ H1
theorem Yd {c:Expr}{a b:List Stmt}{tc:TT}(hc:PT X c tc)(ha:PSs X a t)(hb:PSs X b u):PS X (.If c a b pos) (tIfS tc t u):=by
 intro pins s σ H D I h
 refine wpAny_If (thn (hc pins s σ H _ I h) fun d s1 ⟨H1,I1,q1⟩=>?_)
 cases d with
 | true=>exact ha pins s1 σ H1 D I1 q1
 | false=>exact hb pins s1 σ H1 D I1 q1
def tNever:TS:=fun _ _ _=>False
theorem Rb:PS X st tNever:=fun _ _ _ _ _ _ h=>h.elim
end
abbrev TG:=V->St->Hp->(St->Hp->Prop)->Prop
abbrev TGs:=List V->St->Hp->(St->Hp->Prop)->Prop
def PG (X:Cx)(target:Expr)(t:TG):Prop :=
 ∀ (pins:List (Addr × Obj)) (s:Shared) (σ:St) (H:Hp) (v:V) (u:Value) (Q:St->Hp->Prop),Inv X pins σ H s->RelV v u->t v σ H Q →
  wpAny (model X.prog X.w) X.A (assign target X.env u) (fun _ s'=>∃ σ' H',Inv X pins σ' H' s'/\Q σ' H') X.xe s
def PGs (X:Cx)(ts:List Expr)(t:TGs):Prop :=
 ∀ (pins:List (Addr × Obj)) (s:Shared) (σ:St) (H:Hp) (vs:List V) (us:List Value) (Q:St->Hp->Prop),Inv X pins σ H s->Vals vs us->t vs σ H Q →
  wpAny (model X.prog X.w) X.A (assignInOrder ((assignEach ts X.env).map (·.2)) us) (fun _ s'=>∃ σ' H',Inv X pins σ' H' s'/\Q σ' H') X.xe s
abbrev TSet:=V->V->V->Hp->(Hp->Prop)->Prop
def PSet (X:Cx)(t:TSet):Prop :=
 ∀ (pins:List (Addr × Obj)) (s:Shared) (σ:St) (H:Hp) (o i v:V) (ov iv u:Value) (Q:Hp->Prop),Inv X pins σ H s->RelV o ov->RelV i iv->RelV v u->t o i v H Q →
  wpAny (model X.prog X.w) X.A (setItem ov iv u) (fun _ s'=>∃ H',Inv X pins σ H' s'/\Q H') X.xe s
section
variable {X:Cx}{pos:Pos}
def gName (i:Nat):TG:=fun v σ H Q=>Q (σ.set i (some v)) H
theorem Zk {i:Nat}{x:Str}(hN:X.N.Nodup)(hi:X.N[i]?=some x)(hx:Loc X.env.scope x)(hf:X.fn x=true \/ X.env.scope.names.lookup x=some .local:=by first | exact .inl rfl | exact .inr rfl | assumption):PG X (.Name x pos) (gName i):=by
 intro pins s σ H v u Q I r h
 exact wpAny_assign_Name (Ni I hN hi hx r (fun s' I'=>⟨_,H,I',h⟩) hf)
def gNil:TGs:=fun vs σ H Q=>vs=[]/\Q σ H
def gCons (t:TG)(u:TGs):TGs:=fun vs σ H Q=>∃ v r,vs=v::r/\t v σ H fun σ' H'=>u r σ' H' Q
theorem Xt:PGs X [] gNil:=by
 intro pins s σ H vs us Q I r h
 obtain⟨e,h⟩:=h
 subst e
 cases r
 exact assignInOrder_nil ⟨σ,H,I,h⟩
theorem Yb {e:Expr}{es:List Expr}{t:TG}{u:TGs}(h1:PG X e t)(h2:PGs X es u)
  (hs:(assignEach (e::es) X.env).map (·.2)=assign e X.env::(assignEach es X.env).map (·.2):=by rfl):PGs X (e::es) (gCons t u):=by
 intro pins s σ H vs us Q I r h
 obtain⟨v,vr,e1,h⟩:=h
 subst e1
 cases r with
 | cons r rr =>
  rw[hs]
  refine assignInOrder_cons (thn (h1 pins s σ H _ _ _ I r h) fun _ s1 ⟨σ1,H1,I1,q1⟩=>?_)
  exact h2 pins s1 σ1 H1 _ _ Q I1 rr q1
def gTup (K:W.Frag)(n:Nat)(t:TGs):TG:=fun v σ H Q=>∃ a xs,v=.ref a/\SqT K H a xs/\xs.length=n/\t xs σ H Q
theorem Ww {es:List Expr}{k:Nat}{t:TGs}{n:Nat}(hc:X.calm=true)(h:PGs X es t)
  (hn:(assignEach es X.env).length=n:=by rfl) (hst:(assignEach es X.env).findIdx? (·.1)=none:=by rfl):PG X (.Tuple es k pos) (gTup X.K n t):=by
 intro pins s σ H v u Q I r hw
 obtain⟨a,xs,e1,hq,hl,hw⟩:=hw
 subst e1
 cases r
 obtain⟨its,rv,ht,hz⟩:=I.tuple hq
 refine Sb.Qa (I.qt hc) ht (by simp[hn,← hl,rv.length]) hst fun h' hx=>?_
 have I1:Inv X pins σ H { s with heap:=h' }:=I.kept (t':=s.toks) fun b o e=>hx b o (Nat.ne_of_lt (Heap.lt_size e)) e
 exact h pins _ σ H xs _ Q I1 (by simpa using rv) hw
def gSub (to ti:TE)(t:TSet):TG:=fun v σ H Q=>to σ H fun o H1=>ti σ H1 fun i H2=>t o i v H2 fun H3=>Q σ H3
theorem Rh {o i:Expr}{to ti:TE}{t:TSet}(ho:PE X o to)(hi:PE X i ti)(hs:PSet X t)
  (ha:∀ v,assign (.Subscript o i pos) X.env v=(do
   let ov ← holding [v] (eval o X.env)
   let iv ← holding [v,ov] (eval i X.env)
   standAt pos
   holding [v,ov,iv] (setItem ov iv v)
   release [v,ov,iv] []):=by intro _;rfl):PG X (.Subscript o i pos) (gSub to ti t):=by
 intro pins s σ H v u Q I r h
 rw[ha]
 refine wpAny_bind (wpAny_holding (thn (ho pins s σ H _ I h) fun ov s1 ⟨x,H1,I1,r1,q1⟩=>?_))
 refine wpAny_bind (wpAny_holding (thn (hi pins s1 σ H1 _ I1 q1) fun iv s2 ⟨y,H2,I2,r2,q2⟩=>?_))
 refine wpAny_bind (wpAny_standAt (wpAny_bind (wpAny_holding (thn (hs pins s2 σ H2 x y v ov iv u _ I2 r1 r2 r q2) fun _ s3 ⟨H3,I3,q3⟩=>?_))))
 exact wpAny_release ⟨σ,H3,I3,q3⟩
def tAsg (te:TE)(g:TG):TS:=fun D σ H=>te σ H fun x H1=>g x σ H1 D.nx
theorem Ta {tg e:Expr}{te:TE}{g:TG}(he:PE X e te)(hg:PG X tg g)(hs:swapsWithSole [tg] e pos.line X.env=pure false:=by rfl)(hw:swappedStores [tg] e X.env=pure none:=by rfl)
  (h1:(assignEach [tg] X.env).map (·.2)=[assign tg X.env]:=by rfl):PS X (.Assign [tg] e pos) (tAsg te g):=by
 intro pins s σ H D I h
 refine wpAny_Assign_stores (thn (he pins s σ H _ I h) fun v s1 ⟨x,H1,I1,r1,q1⟩=>?_) hs hw
 rw[h1]
 exact thn (hg pins s1 σ H1 x v _ I1 r1 q1) fun _ s2 q=>q
theorem Zi {i:Nat}{x:Str}{e:Expr}{te:TE}{pos':Pos}(hN:X.N.Nodup)(hi:X.N[i]?=some x)(hx:Loc X.env.scope x)(he:PE X e te)(hs:swapsWith e (some (.Name x pos')) pos.line X.env=pure false:=by rfl)(hf:X.fn x=true \/ X.env.scope.names.lookup x=some .local:=by first | exact .inl rfl | exact .inr rfl | assumption) :
  PS X (.Assign [.Name x pos'] e pos) (tAsg te (gName i)):=by
 intro pins s σ H D I h
 refine wpAny_Assign_Name (thn (he pins s σ H _ I h) fun v s1 ⟨y,H1,I1,r1,q1⟩=>?_) hs
 exact Ni I1 hN hi hx r1 (fun s2 I2=>⟨_,H1,I2,q1⟩) hf
end
section
variable {X:Cx}{pos:Pos}
def tWhile (c:TT)(tb:TS):TS:=fun D σ H=>∃ W:Nat->St->Hp->Prop,(∃ m,W m σ H)/\∀ m σ H,W m σ H →
 c σ H fun b H1=>if b=true then ∃ N:St->Hp->Prop,(∀ σ' H',N σ' H'->∃ m',m'<m/\W m' σ' H')/\tb { D with nx:=N,ct:=N,bk:=D.nx } σ H1 else D.nx σ H1
theorem Ra {c:Expr}{body:List Stmt}{tc:TT}{tb:TS}(hp:PassesOwn (model X.prog X.w) X.A X.env X.xe)(hc:PT X c tc)(hb:PSs X body tb):PS X (.While c body [] pos) (tWhile tc tb):=by
 intro pins s σ H D I h
 obtain⟨W,⟨m0,w0⟩,turn⟩:=h
 refine wpAny_While (codeAny_whileLoop (fun n s'=>∃ σ' H',Inv X pins σ' H' s'/\W n σ' H') ?_ m0 ⟨σ,H,I,w0⟩)
 rintro n s1 ⟨σ1,H1,I1,w1⟩
 refine wpAny_passesOwn hp (thn (hc pins s1 σ1 H1 _ I1 (turn n σ1 H1 w1)) fun b s2 ⟨H2,I2,q2⟩=>?_)
 cases b with
 | true =>
  obtain⟨N,hN,q2⟩:=q2
  rw[if_pos rfl]
  refine wpAny_passesOwn hp (thn (hb pins s2 σ1 H2 _ I2 q2) fun f s3 q3=>?_)
  cases f with
  | next =>
   obtain⟨σ3,H3,I3,n3⟩:=q3
   obtain⟨m',hm,w3⟩:=hN σ3 H3 n3
   exact⟨m',hm,σ3,H3,I3,w3⟩
  | cont =>
   obtain⟨σ3,H3,I3,n3⟩:=q3
   obtain⟨m',hm,w3⟩:=hN σ3 H3 n3
   exact⟨m',hm,σ3,H3,I3,w3⟩
  | brk=>exact q3
  | ret v=>exact q3
 | false =>
  rw[if_neg Bool.false_ne_true]
  exact wpAny_execs_nil ⟨σ1,H2,I2,q2⟩
end
structure It where
 go:Nat->Hp->Prop
 yld:Nat->Hp->V->Hp->Prop
 stop:Nat->Hp->Prop
def FpOk (X:Cx)(pins:List (Addr × Obj))(H:Hp)(b:Addr):Prop :=
 H b=none/\b≠X.env.locals/\b ∉ X.fs/\(b∈X.ex \/ X.s₀.heap.objs.size<=b)/\(∀ x c,X.env.cells.lookup x=some c->c≠b)/\∀ p∈X.pn++pins,p.1≠b
theorem Inv.fpOk {X:Cx}{pins:List (Addr × Obj)}{σ:St}{H H':Hp}{s:Shared}{b:Addr}(I:Inv X pins σ H s)(hb:s.heap.objs.size<=b)(hn:H' b=none):FpOk X pins H' b:=by
 refine⟨hn,Nat.ne_of_gt (Nat.lt_of_lt_of_le I.lt hb),I.nofs hb,.inr (Nat.le_trans I.sz hb),fun x c e z=>?_,fun p hp z=>?_⟩
 ·obtain⟨v,q⟩:=I.cell x c e
  exact absurd (Nat.lt_of_lt_of_le q.lt (by rw[z];exact hb)) (Nat.lt_irrefl _)
 ·exact absurd (Nat.lt_of_lt_of_le (Heap.lt_size (I.pin p hp).1) (by rw[z];exact hb)) (Nat.lt_irrefl _)
structure Turn (P:Program)(w:World)(K:W.Frag)(tg:Expr)(J:It)(fp:List Addr)(it:Addr)(tn:Nat->Heap->Prop):Prop where
 mem:it∈fp
 obj:∀ i h,tn i h->∀ b∈fp,∃ o,h.get? b=some o/\∀ v,o.data≠.cell v
 keep:∀ i h h',tn i h->(∀ b∈fp,∀ o,h.get? b=some o->h'.get? b=some o)->tn i h'
 item:∀ (X:Cx),X.prog=P->X.w=w->X.K=K->X.calm=true->∀ (i:Nat) (pins:List (Addr × Obj)) (s:Shared) (σ:St) (H:Hp) (E:Value->Shared->Prop),Inv X pins σ H s->(∀ b∈fp,FpOk X pins H b)->tn i s.heap->J.go i H →
  wpAny (model P w) X.A (pyNext (.ref it)) (fun r s1=>∃ u,r=some u ∧
   wpAny (model P w) X.A (letOwnedTupleGo tg (.ref it) u) (fun _ s2=>∃ x H',Inv X pins σ H' s2/\RelV x u/\J.yld i H x H'/\tn (i+1) s2.heap/\∀ b∈fp,H' b=none) E s1) E s
 done:∀ (X:Cx),X.prog=P->X.w=w->X.K=K->X.calm=true->∀ (i:Nat) (pins:List (Addr × Obj)) (s:Shared) (σ:St) (H:Hp) (E:Value->Shared->Prop),Inv X pins σ H s->(∀ b∈fp,FpOk X pins H b)->tn i s.heap->J.stop i H →
  wpAny (model P w) X.A (pyNext (.ref it)) (fun r s1=>r=none/\Inv X pins σ H s1) E s
 self:∀ (A:Around) (i:Nat) (s:Shared) (Q:Value->Shared->Prop) (E:Value->Shared->Prop),tn i s.heap->Q (.ref it) s->wpAny (model P w) A (pyIter (.ref it)) Q E s
abbrev TI:=St->Hp->(It->Hp->Prop)->Prop
def PIE (X:Cx)(pins:List (Addr × Obj))(σ:St)(tg:Expr)(R:It->Hp->Prop)(itv:Value)(s2:Shared):Prop :=
 ∃ (it:Addr) (fp:List Addr) (tn:Nat->Heap->Prop) (J:It) (H':Hp),itv=.ref it/\Inv X pins σ H' s2/\Turn X.prog X.w X.K tg J fp it tn/\tn 0 s2.heap/\(∀ b∈fp,FpOk X pins H' b)/\R J H'
def PI (X:Cx)(tg iter:Expr)(wi:TI):Prop :=
 ∀ (pins:List (Addr × Obj)) (s:Shared) (σ:St) (H:Hp) (R:It->Hp->Prop),Inv X pins σ H s->wi σ H R →
  wpAny (model X.prog X.w) X.A (eval iter X.env) (fun v s1=>wpAny (model X.prog X.w) X.A (pyIter v) (PIE X pins σ tg R) X.xe s1) X.xe s
theorem Bb {M:Model}{A:Around}{E:Value->Shared->Prop}{s:Shared}{tg:Expr}{it:Addr}{u:Value}{o:Obj}{n:String}{vs:Array Value}{Q:Unit->Shared->Prop}(ho:s.heap.get? it=some o)(hc:o.cls=.type n)(hd:o.data=.fields vs)
  (hn:["enumerate","zip","dict_itemiterator","dict_reverseitemiterator","odict_iterator","itertools.zip_longest","itertools.pairwise"].contains n=false) (hQ:Q () s):wpAny M A (letOwnedTupleGo tg (.ref it) u) Q E s:=by
 unfold letOwnedTupleGo
 cases tg <;> first
  | exact wpAny_pure hQ
  | (cases u <;> first
    | exact wpAny_pure hQ
    | (refine wpAny_bind (wpAny_load ho ?_)
       rw[hc,hd]
       show wpAny M A (if (["enumerate","zip","dict_itemiterator","dict_reverseitemiterator","odict_iterator","itertools.zip_longest","itertools.pairwise"].contains n && vs[0]? == some (rawInt _))=true then _ else _) Q E s
       rw[if_neg (by intro h;rw[hn,Bool.false_and] at h;cases h)]
       exact wpAny_pure hQ))
def Itl (K:W.Frag)(a:Addr):It :=
 ⟨fun i H=>∃ xs x,SqL K H a xs/\xs[i]?=some x,fun i H x H'=>H'=H/\∀ xs,SqL K H a xs->xs[i]?=some x,fun i H=>∃ xs,SqL K H a xs/\xs.length<=i⟩
def Itt (K:W.Frag)(a:Addr):It :=
 ⟨fun i H=>∃ xs x,SqT K H a xs/\xs[i]?=some x,fun i H x H'=>H'=H/\∀ xs,SqT K H a xs->xs[i]?=some x,fun i H=>∃ xs,SqT K H a xs/\xs.length<=i⟩
def Itr (lo:Int)(n:Nat):It:=⟨fun i _=>i<n,fun i H x H'=>H'=H/\x=.int (lo+i),fun i _=>n<=i⟩
theorem Uy {P:Program}{w:World}{K:W.Frag}{tg:Expr}(a it:Addr):Turn P w K tg (Itl K a) [it] it (fun i h=>h.IsListIter it a i) where
 mem:=by simp
 obj:=fun i h st b hb=>by
  have e:b=it:=by simpa using hb
  subst e
  obtain⟨o,e,c,d⟩:=st
  exact⟨o,e,fun v z=>by rw[d] at z;cases z⟩
 keep:=fun i h h' st k=>st.at fun o e=>k it (by simp) o e
 item:=by
  intro X hP hw hK hc i pins s σ H E I hf st hg
  subst hP hw hK
  obtain⟨xs,x,hq,hx⟩:=hg
  obtain⟨its,rv,p,hz⟩:=I.list hq
  obtain⟨u,hu,ru⟩:=rv.get hx
  obtain⟨f0,f1,f2,f3,f4,f5⟩:=hf it (by simp)
  refine wpAny_pyNext_list_item st p.isList (x:=u) (by simpa using hu) fun h' st' sb=>?_
  have I1:Inv X pins σ H { s with heap:=h' }:=I.turned (t':=s.toks) (fun b o hb e=>(sb.2 b hb).trans e) f0 f1 f3 f4 f5
  obtain⟨o,e,c,d⟩:=id st'
  exact⟨u,rfl,Bb (s:={ s with heap:=h' }) e c d (by decide) ⟨x,H,I1,ru,⟨rfl,fun ys hy=>by rw[I.list_inj hy hq];exact hx⟩,st',fun b hb=>(hf b hb).1⟩⟩
 done:=by
  intro X hP hw hK hc i pins s σ H E I hf st hg
  subst hP hw hK
  obtain⟨xs,hq,hx⟩:=hg
  obtain⟨its,rv,p,hz⟩:=I.list hq
  obtain⟨f0,f1,f2,f3,f4,f5⟩:=hf it (by simp)
  have hl:=rv.length
  exact Sb.Rx (I.qt hc) st p.isList (by simp;omega) fun h' eb=>⟨rfl,I.turned (t':=s.toks) (fun b o hb e=>eb b o hb e) f0 f1 f3 f4 f5⟩
 self:=fun _ _ _ _ _ st h=>wpAny_pyIter_listiter st h
theorem U4 {P:Program}{w:World}{K:W.Frag}{tg:Expr}(a it:Addr):Turn P w K tg (Itt K a) [it] it (fun i h=>h.IsTupleIter it a i) where
 mem:=by simp
 obj:=fun i h st b hb=>by
  have e:b=it:=by simpa using hb
  subst e
  obtain⟨o,e,c,d⟩:=st
  exact⟨o,e,fun v z=>by rw[d] at z;cases z⟩
 keep:=fun i h h' st k=>st.at fun o e=>k it (by simp) o e
 item:=by
  intro X hP hw hK hc i pins s σ H E I hf st hg
  subst hP hw hK
  obtain⟨xs,x,hq,hx⟩:=hg
  obtain⟨its,rv,p,hz⟩:=I.tuple hq
  obtain⟨u,hu,ru⟩:=rv.get hx
  obtain⟨f0,f1,f2,f3,f4,f5⟩:=hf it (by simp)
  refine wpAny_pyNext_tuple_item st (show s.heap.IsTuple a its.toArray from p) (x:=u) (by simpa using hu) fun h' st' sb=>?_
  have I1:Inv X pins σ H { s with heap:=h' }:=I.turned (t':=s.toks) (fun b o hb e=>(sb.2 b hb).trans e) f0 f1 f3 f4 f5
  obtain⟨o,e,c,d⟩:=id st'
  exact⟨u,rfl,Bb (s:={ s with heap:=h' }) e c d (by decide) ⟨x,H,I1,ru,⟨rfl,fun ys hy=>by rw[I.tuple_inj hy hq];exact hx⟩,st',fun b hb=>(hf b hb).1⟩⟩
 done:=by
  intro X hP hw hK hc i pins s σ H E I hf st hg
  subst hP hw hK
  obtain⟨xs,hq,hx⟩:=hg
  obtain⟨its,rv,p,hz⟩:=I.tuple hq
  obtain⟨f0,f1,f2,f3,f4,f5⟩:=hf it (by simp)
  have hl:=rv.length
  exact Sb.Tq (I.qt hc) st (show s.heap.IsTuple a its.toArray from p) (by simp;omega) fun h' eb=>⟨rfl,I.turned (t':=s.toks) (fun b o hb e=>eb b o hb e) f0 f1 f3 f4 f5⟩
 self:=fun _ _ _ _ _ st h=>wpAny_pyIter_tupleiter st h
theorem L9 {P:Program}{w:World}{K:W.Frag}{tg:Expr}(it:Addr)(lo:Int)(n:Nat):Turn P w K tg (Itr lo n) [it] it (fun i h=>IsRangeIter h it (lo+(i:Nat)*1) ((n:Int) - (i:Nat)) 1) where
 mem:=by simp
 obj:=fun i h st b hb=>by
  have e:b=it:=by simpa using hb
  subst e
  exact⟨_,st,fun v z=>by
   have z':Data.fields _=Data.cell v:=z
   cases z'⟩
 keep:=fun i h h' st k=>k it (by simp) _ st
 item:=by
  intro X hP hw hK hc i pins s σ H E I hf st hg
  subst hP hw hK
  obtain⟨f0,f1,f2,f3,f4,f5⟩:=hf it (by simp)
  refine Sb.R9 i s _ _ hg st fun v h' tk hv st' kk=>?_
  obtain⟨t,rfl⟩:=hv
  have I1:Inv X pins σ H { s with heap:=h',toks:=tk }:=I.turned (fun b o hb e=>kk b o (by simpa using hb) e) f0 f1 f3 f4 f5
  refine⟨_,rfl,Bb (s:={ s with heap:=h',toks:=tk }) (n:="range_iterator") st' rfl rfl (by decide) ⟨.int (lo+i),H,I1,⟨t,?_⟩,⟨rfl,rfl⟩,st',fun b hb=>(hf b hb).1⟩⟩
  rw[Int.mul_one]
 done:=by
  intro X hP hw hK hc i pins s σ H E I hf st hg
  subst hP hw hK
  obtain⟨f0,f1,f2,f3,f4,f5⟩:=hf it (by simp)
  exact Sb.Tu (I.qt hc) st (by have:n<=i:=hg;omega) fun h' eb=>⟨rfl,I.turned (t':=s.toks) (fun b o hb e=>eb b o hb e) f0 f1 f3 f4 f5⟩
 self:=fun _ _ _ _ _ st h=>wpAny_pyIter_rangeiter st h
end L2
namespace L2
open PySem PySem.Spec PyProof.Rows
section
variable {X:Cx}{tg:Expr}
def iList (K:W.Frag)(tl:TE):TI:=fun σ H R=>tl σ H fun x H1=>∃ a,x=.ref a/\(∃ xs,SqL K H1 a xs)/\R (Itl K a) H1
def iTup (K:W.Frag)(tl:TE):TI:=fun σ H R=>tl σ H fun x H1=>∃ a,x=.ref a/\(∃ xs,SqT K H1 a xs)/\R (Itt K a) H1
theorem Xs {l:Expr}{tl:TE}(hl:PE X l tl):PI X tg l (iList X.K tl):=by
 intro pins s σ H R I h
 refine thn (hl pins s σ H _ I h) fun v s1 ⟨x,H1,I1,r1,q1⟩=>?_
 obtain⟨a,e,⟨xs,hq⟩,q⟩:=q1
 subst e
 cases r1
 obtain⟨its,rv,p,hz⟩:=I1.list hq
 refine wpAny_pyIter_list p.isList ?_
 refine⟨s1.heap.objs.size,[s1.heap.objs.size],_,_,H1,rfl,I1.kept (t':=s1.toks) fun b o e=>Heap.get?_push_of_some _ e,Uy a _,⟨_,Heap.get?_push_size _ rfl,rfl,rfl⟩,fun b hb=>?_,q⟩
 have e:b=s1.heap.objs.size:=by simpa using hb
 subst e
 exact I1.fpOk (Nat.le_refl _) (I1.hok.fresh (Nat.le_refl _))
theorem Vc {l:Expr}{tl:TE}(hl:PE X l tl):PI X tg l (iTup X.K tl):=by
 intro pins s σ H R I h
 refine thn (hl pins s σ H _ I h) fun v s1 ⟨x,H1,I1,r1,q1⟩=>?_
 obtain⟨a,e,⟨xs,hq⟩,q⟩:=q1
 subst e
 cases r1
 obtain⟨its,rv,p,hz⟩:=I1.tuple hq
 refine wpAny_pyIter_tuple (show s1.heap.IsTuple a its.toArray from p) ?_
 refine⟨s1.heap.objs.size,[s1.heap.objs.size],_,_,H1,rfl,I1.kept (t':=s1.toks) fun b o e=>Heap.get?_push_of_some _ e,U4 a _,⟨_,Heap.get?_push_size _ rfl,rfl,rfl⟩,fun b hb=>?_,q⟩
 have e:b=s1.heap.objs.size:=by simpa using hb
 subst e
 exact I1.fpOk (Nat.le_refl _) (I1.hok.fresh (Nat.le_refl _))
theorem Dh {pins:List (Addr × Obj)}{σ:St}{H:Hp}{s:Shared}{R:It->Hp->Prop}{E:Value->Shared->Prop}{lo hi:Int}{t u v:Tok}{tk:Nat}(I:Inv X pins σ H s)(h1:-(2 ^ 62)<=lo)(h2:lo<2 ^ 62)(h3:-(2 ^ 62)<=hi)(h4:hi<2 ^ 62)
  (q:R (Itr lo (hi - lo).toNat) H):wpAny (model X.prog X.w) X.A (pyIter (.ref s.heap.objs.size)) (PIE X pins σ tg R) E { s with heap:=s.heap.push { cls:=.type "range",data:=.fields #[.int lo t,.int hi u,.int 1 v] },toks:=tk }:=by
 refine wpAny_pyIter_range (IsRange.new ..) (small_one h1 h2 h3 h4) ?_
 have I1:Inv X pins σ H { s with heap:=s.heap.push { cls:=.type "range",data:=.fields #[.int lo t,.int hi u,.int 1 v] },toks:=tk }:=I.kept fun b o e=>Heap.get?_push_of_some _ e
 refine⟨(s.heap.push { cls:=.type "range",data:=.fields #[.int lo t,.int hi u,.int 1 v] }).objs.size,[(s.heap.push { cls:=.type "range",data:=.fields #[.int lo t,.int hi u,.int 1 v] }).objs.size],_,_,H,rfl,
  I1.kept (t':=tk) fun b o e=>Heap.get?_push_of_some _ e,L9 _ lo (hi - lo).toNat,?_,fun b hb=>?_,q⟩
 ·have e1:lo+((0:Nat):Int)*1=lo:=by simp
  have e2:(((hi - lo).toNat:Nat):Int) - ((0:Nat):Int)=Builtin.Range.rangeSize lo hi 1:=by rw[rangeSize_one];split <;> omega
  show IsRangeIter _ _ (lo+((0:Nat):Int)*1) ((((hi - lo).toNat:Nat):Int) - ((0:Nat):Int)) 1
  rw[e1,e2]
  exact Heap.get?_push_size _ rfl
 ·have e:b=(s.heap.push { cls:=.type "range",data:=.fields #[.int lo t,.int hi u,.int 1 v] }).objs.size:=by simpa using hb
  subst e
  exact I1.fpOk (Nat.le_refl _) (I1.hok.fresh (Nat.le_refl _))
def iRng1 (ta:TA):TI:=fun σ H R=>ta σ H fun vs H1=>∃ j:Int,vs=[.int j]/\-(2 ^ 62)<=j/\j<2 ^ 62/\R (Itr 0 j.toNat) H1
theorem Yj {a:Expr}{ta:TA}{p pos:Pos}(hg:Gl X "range")(hm:X.mg "range"=none)(ha:PA X [a] ta)(hs:starEach [a] X.env=[(false,eval a X.env)]:=by rfl):PI X tg (.Call (.Name "range" p) [a] [] pos) (iRng1 ta):=by
 intro pins s σ H R I h
 refine Call_ (We I hg hm boot_range (PyProof.Rows.callWith_type1 (thn (ha pos pins s σ H _ I h) fun us s1 ⟨vs,H1,I1,r1,q1⟩=>?_) hs rfl))
 obtain⟨j,e,q1,q2,q⟩:=q1
 subst e
 cases r1 with
 | cons r rr =>
  cases rr
  obtain⟨t,rfl⟩:=r
  exact call_range_1 (Dh I1 (by omega) (by omega) q1 q2 (by simpa using q))
def tFor (wi:TI)(g:TG)(tb:TS):TS:=fun D σ H=>wi σ H fun J H1=>∃ W:Nat->Nat->St->Hp->Prop,(∃ m,W 0 m σ H1)/\∀ i m σ H,W i m σ H →
 (J.stop i H/\D.nx σ H) \/ (J.go i H/\∃ N:St->Hp->Prop,(∀ σ' H',N σ' H'->∃ m',m'<m/\W (i+1) m' σ' H')/\∀ x H',J.yld i H x H'->g x σ H' fun σ2 H2=>tb { D with nx:=N,ct:=N,bk:=D.nx } σ2 H2)
def pinsAt (fp:List Addr)(h:Heap):List (Addr × Obj):=fp.filterMap fun b=>(h.get? b).map fun o=>(b,o)
theorem Xq {fp:List Addr}{h:Heap}{b:Addr}{o:Obj}(hb:b∈fp)(e:h.get? b=some o):(b,o)∈pinsAt fp h:=List.mem_filterMap.mpr ⟨b,hb,by rw[e];rfl⟩
theorem Gm {fp:List Addr}{h:Heap}{p:Addr × Obj}(hp:p∈pinsAt fp h):p.1∈fp/\h.get? p.1=some p.2:=by
 obtain⟨b,hb,e⟩:=List.mem_filterMap.mp hp
 cases q:h.get? b with
 | none=>rw[q] at e;cases e
 | some o =>
  rw[q] at e
  have e':(b,o)=p:=Option.some.inj e
  subst e'
  exact⟨hb,q⟩
theorem Inv.pinned {pins:List (Addr × Obj)}{σ:St}{H:Hp}{s:Shared}{fp:List Addr}(I:Inv X pins σ H s)(hf:∀ b∈fp,FpOk X pins H b)(ho:∀ b∈fp,∃ o,s.heap.get? b=some o/\∀ v,o.data≠.cell v):Inv X (pins++pinsAt fp s.heap) σ H s :=
 I.pins_of fun p hp=>(List.mem_append.mp hp).elim (fun z=>I.pin p (List.mem_append_right _ z)) fun z=>by
  obtain⟨hb,e⟩:=Gm z
  obtain⟨f0,f1,f2,_⟩:=hf p.1 hb
  obtain⟨o,e',d⟩:=ho p.1 hb
  rw[e] at e';cases e'
  exact⟨e,f0,f1,f2,d⟩
theorem Inv.unpinned {pins pl:List (Addr × Obj)}{σ:St}{H:Hp}{s:Shared}(I:Inv X (pins++pl) σ H s):Inv X pins σ H s:=I.pins_of fun p hp=>I.pin p (List.mem_append_right _ (List.mem_append_left _ hp))
theorem Xn {iter:Expr}{body:List Stmt}{wi:TI}{g:TG}{tb:TS}{pos:Pos}(hp:PassesOwn (model X.prog X.w) X.A X.env X.xe)(hc:X.calm=true)(hi:PI X tg iter wi)(hg:PG X tg g)(hb:PSs X body tb)
  (hs:∀ x,foldedSetIterable iter X.env x=pure x:=by intro _;rfl):PS X (.For tg iter body [] pos) (tFor wi g tb):=by
 intro pins s σ H D I h
 refine wpAny_For (thn (hi pins s σ H _ I h) fun v s1 h1=>thn h1 fun itv s2 h2=>?_) hs
 obtain⟨it,fp,tn,J,H2,e,I2,T,st2,f2,W,⟨m0,w0⟩,turn⟩:=h2
 subst e
 have stat:∀ {H':Hp},(∀ b∈fp,H' b=none)->∀ b∈fp,FpOk X pins H' b:=fun hn b hb=>⟨hn b hb,(f2 b hb).2⟩
 refine codeAny_forLoop_any (fun n s'=>∃ i σ' H',Inv X pins σ' H' s'/\tn i s'.heap/\(∀ b∈fp,H' b=none)/\W i n σ' H') ?_ m0 ⟨0,σ,H2,I2,st2,fun b hb=>(f2 b hb).1,w0⟩
 rintro n s3 ⟨i,σ3,H3,I3,st3,fr3,w3⟩
 rcases turn i n σ3 H3 w3 with ⟨stop,qn⟩ | ⟨go,N,hN,step⟩
 ·refine wpAny_passesOwn hp (thn (T.done X rfl rfl rfl hc i pins s3 σ3 H3 X.xe I3 (stat fr3) st3 stop) fun r s4 ⟨hr,I4⟩=>?_)
  subst hr
  exact wpAny_execs_nil ⟨σ3,H3,I4,qn⟩
 ·refine wpAny_passesOwn hp (thn (T.item X rfl rfl rfl hc i pins s3 σ3 H3 X.xe I3 (stat fr3) st3 go) fun r s4 ⟨u,hr,h4⟩=>?_)
  subst hr
  refine wpAny_passesOwn hp (thn h4 fun _ s5 ⟨x,H5,I5,r5,y5,st5,fr5⟩=>?_)
  have I5':=I5.pinned (stat fr5) (T.obj _ _ st5)
  refine wpAny_passesOwn hp (thn (hg _ s5 σ3 H5 x u _ I5' r5 (step x H5 y5)) fun _ s6 ⟨σ6,H6,I6,q6⟩=>?_)
  refine wpAny_passesOwn hp (thn (hb _ s6 σ6 H6 _ I6 q6) fun f s7 q7=>?_)
  have again:∀ {σ7:St} {H7:Hp},Inv X (pins++pinsAt fp s5.heap) σ7 H7 s7->N σ7 H7->∃ m,m<n/\∃ i σ' H',Inv X pins σ' H' s7/\tn i s7.heap/\(∀ b∈fp,H' b=none)/\W i m σ' H':=fun {σ7 H7} I7 n7=>by
   obtain⟨m',hm,w7⟩:=hN σ7 H7 n7
   refine⟨m',hm,i+1,σ7,H7,I7.unpinned,T.keep _ _ _ st5 fun b hb o e=>(I7.pin (b,o) (List.mem_append_right _ (List.mem_append_right _ (Xq hb e)))).1,fun b hb=>?_,w7⟩
   obtain⟨o,e,d⟩:=T.obj _ _ st5 b hb
   exact (I7.pin (b,o) (List.mem_append_right _ (List.mem_append_right _ (Xq hb e)))).2.1
  cases f with
  | next=>obtain⟨σ7,H7,I7,n7⟩:=q7;exact again I7 n7
  | cont=>obtain⟨σ7,H7,I7,n7⟩:=q7;exact again I7 n7
  | brk=>obtain⟨σ7,H7,I7,q7⟩:=q7;exact⟨σ7,H7,I7.unpinned,q7⟩
  | ret v=>obtain⟨x7,σ7,H7,I7,r7,q7⟩:=q7;exact⟨x7,σ7,H7,I7.unpinned,r7,q7⟩
end
theorem Uu {K:W.Frag}{a:Addr}{xs:List V}{g:TG}{tb:TS}{D:Ends}{σ:St}{H:Hp}(Pv:Nat->St->Hp->Prop)(h0:Pv 0 σ H)(hl:∀ i σ H,i<=xs.length->Pv i σ H->SqL K H a xs)
  (hs:∀ i x σ H,xs[i]?=some x->Pv i σ H->g x σ H fun σ2 H2=>tb { D with nx:=Pv (i+1),ct:=Pv (i+1),bk:=D.nx } σ2 H2) (hd:∀ σ H,Pv xs.length σ H->D.nx σ H) :
  ∃ W:Nat->Nat->St->Hp->Prop,(∃ m,W 0 m σ H)/\∀ i m σ H,W i m σ H →
   ((Itl K a).stop i H/\D.nx σ H) \/ ((Itl K a).go i H/\∃ N:St->Hp->Prop,(∀ σ' H',N σ' H'->∃ m',m'<m/\W (i+1) m' σ' H')/\∀ x H',(Itl K a).yld i H x H'->g x σ H' fun σ2 H2=>tb { D with nx:=N,ct:=N,bk:=D.nx } σ2 H2):=by
 refine⟨fun i m σ H=>m=xs.length - i/\i<=xs.length/\Pv i σ H,⟨xs.length,by simp,Nat.zero_le _,h0⟩,?_⟩
 rintro i m σ H ⟨rfl,hi,p⟩
 have q:=hl i σ H hi p
 by_cases hlt:i<xs.length
 ·refine .inr ⟨⟨xs,xs[i],q,by simp[hlt]⟩,Pv (i+1),fun σ' H' p'=>⟨xs.length - (i+1),by omega,rfl,hlt,p'⟩,fun x H' y=>?_⟩
  obtain⟨e,y⟩:=y
  subst e
  exact hs i x σ _ (y xs q) p
 ·have e:i=xs.length:=by omega
  subst e
  exact .inl ⟨⟨xs,q,Nat.le_refl _⟩,hd σ H p⟩
theorem N0 {K:W.Frag}{a:Addr}{xs:List V}{g:TG}{tb:TS}{D:Ends}{σ:St}{H:Hp}(Pv:Nat->St->Hp->Prop)(h0:Pv 0 σ H)(hl:∀ i σ H,i<=xs.length->Pv i σ H->SqT K H a xs)
  (hs:∀ i x σ H,xs[i]?=some x->Pv i σ H->g x σ H fun σ2 H2=>tb { D with nx:=Pv (i+1),ct:=Pv (i+1),bk:=D.nx } σ2 H2) (hd:∀ σ H,Pv xs.length σ H->D.nx σ H) :
  ∃ W:Nat->Nat->St->Hp->Prop,(∃ m,W 0 m σ H)/\∀ i m σ H,W i m σ H →
   ((Itt K a).stop i H/\D.nx σ H) \/ ((Itt K a).go i H/\∃ N:St->Hp->Prop,(∀ σ' H',N σ' H'->∃ m',m'<m/\W (i+1) m' σ' H')/\∀ x H',(Itt K a).yld i H x H'->g x σ H' fun σ2 H2=>tb { D with nx:=N,ct:=N,bk:=D.nx } σ2 H2):=by
 refine⟨fun i m σ H=>m=xs.length - i/\i<=xs.length/\Pv i σ H,⟨xs.length,by simp,Nat.zero_le _,h0⟩,?_⟩
 rintro i m σ H ⟨rfl,hi,p⟩
 have q:=hl i σ H hi p
 by_cases hlt:i<xs.length
 ·refine .inr ⟨⟨xs,xs[i],q,by simp[hlt]⟩,Pv (i+1),fun σ' H' p'=>⟨xs.length - (i+1),by omega,rfl,hlt,p'⟩,fun x H' y=>?_⟩
  obtain⟨e,y⟩:=y
  subst e
  exact hs i x σ _ (y xs q) p
 ·have e:i=xs.length:=by omega
  subst e
  exact .inl ⟨⟨xs,q,Nat.le_refl _⟩,hd σ H p⟩
theorem Vx {lo:Int}{n:Nat}{g:TG}{tb:TS}{D:Ends}{σ:St}{H:Hp}(Pv:Nat->St->Hp->Prop)(h0:Pv 0 σ H)
  (hs:∀ i σ H,i<n->Pv i σ H->g (.int (lo+i)) σ H fun σ2 H2=>tb { D with nx:=Pv (i+1),ct:=Pv (i+1),bk:=D.nx } σ2 H2) (hd:∀ σ H,Pv n σ H->D.nx σ H) :
  ∃ W:Nat->Nat->St->Hp->Prop,(∃ m,W 0 m σ H)/\∀ i m σ H,W i m σ H →
   ((Itr lo n).stop i H/\D.nx σ H) \/ ((Itr lo n).go i H/\∃ N:St->Hp->Prop,(∀ σ' H',N σ' H'->∃ m',m'<m/\W (i+1) m' σ' H')/\∀ x H',(Itr lo n).yld i H x H'->g x σ H' fun σ2 H2=>tb { D with nx:=N,ct:=N,bk:=D.nx } σ2 H2):=by
 refine⟨fun i m σ H=>m=n - i/\i<=n/\Pv i σ H,⟨n,by simp,Nat.zero_le _,h0⟩,?_⟩
 rintro i m σ H ⟨rfl,hi,p⟩
 by_cases hlt:i<n
 ·refine .inr ⟨hlt,Pv (i+1),fun σ' H' p'=>⟨n - (i+1),by omega,rfl,hlt,p'⟩,fun x H' y=>?_⟩
  obtain⟨e,y⟩:=y
  subst e y
  exact hs i σ _ hlt p
 ·have e:i=n:=by omega
  subst e
  exact .inl ⟨Nat.le_refl _,hd σ H p⟩
theorem Nh {c:TT}{tb:TS}{D:Ends}{σ:St}{H:Hp}(Pv:St->Hp->Prop)(μ:St->Hp->Nat)(h0:Pv σ H)
  (hs:∀ σ H,Pv σ H->c σ H fun b H1=>if b=true then tb { D with nx:=fun σ' H'=>Pv σ' H'/\μ σ' H'<μ σ H,ct:=fun σ' H'=>Pv σ' H'/\μ σ' H'<μ σ H,bk:=D.nx } σ H1 else D.nx σ H1)
  (mono:∀ σ H Q Q',(∀ b H1,Q b H1->Q' b H1)->c σ H Q->c σ H Q'):tWhile c tb D σ H:=by
 refine⟨fun m σ H=>m=μ σ H/\Pv σ H,⟨_,rfl,h0⟩,?_⟩
 rintro m σ H ⟨rfl,p⟩
 refine mono σ H _ _ (fun b H1 q=>?_) (hs σ H p)
 cases b with
 | true=>exact⟨_,fun σ' H' ⟨p',l⟩=>⟨_,l,rfl,p'⟩,q⟩
 | false=>exact q
end L2
namespace L2
open PySem PySem.Spec PyProof.Rows
abbrev R2:=V->V->Hp->VK->Prop
def OpR (X:Cx)(f:Value->Value->Sem Value)(r:R2):Prop :=
 ∀ (pins:List (Addr × Obj)) (s:Shared) (σ:St) (H:Hp) (x y:V) (v u:Value) (Q:VK),Inv X pins σ H s->RelV x v->RelV y u->r x y H Q →
  wpAny (model X.prog X.w) X.A (f v u) (EP X pins σ Q) X.xe s
def UnR (X:Cx)(f:Value->Sem Value)(r:V->Hp->VK->Prop):Prop :=
 ∀ (pins:List (Addr × Obj)) (s:Shared) (σ:St) (H:Hp) (x:V) (v:Value) (Q:VK),Inv X pins σ H s->RelV x v->r x H Q →
  wpAny (model X.prog X.w) X.A (f v) (EP X pins σ Q) X.xe s
def CallR (X:Cx)(f:Value)(r:List V->Hp->VK->Prop):Prop :=
 ∀ (pins:List (Addr × Obj)) (s:Shared) (σ:St) (H:Hp) (xs:List V) (us:List Value) (Q:VK),Inv X pins σ H s->Vals xs us->r xs H Q →
  wpAny (model X.prog X.w) X.A (call f us) (EP X pins σ Q) X.xe s
def TruR (X:Cx)(r:V->Hp->(Bool->Hp->Prop)->Prop):Prop :=
 ∀ (pins:List (Addr × Obj)) (s:Shared) (σ:St) (H:Hp) (x:V) (v:Value) (Q:Bool->Hp->Prop),Inv X pins σ H s->RelV x v->r x H Q →
  wpAny (model X.prog X.w) X.A (truthy v) (TP X pins σ Q) X.xe s
def tOp (r:R2)(ta tb:TE):TE:=fun σ H Q=>ta σ H fun x H1=>tb σ H1 fun y H2=>r x y H2 Q
def tUn (r:V->Hp->VK->Prop)(ta:TE):TE:=fun σ H Q=>ta σ H fun x H1=>r x H1 Q
def rI (C:Int->Int->Prop)(g:Int->Int->V):R2:=fun x y H Q=>∃ i j,x=.int i/\y=.int j/\C i j/\Q (g i j) H
def rI0 (g:Int->Int->V):R2:=fun x y H Q=>∃ i j,x=.int i/\y=.int j/\Q (g i j) H
def rU (g:Int->V):V->Hp->VK->Prop:=fun x H Q=>∃ i,x=.int i/\Q (g i) H
section
variable {X:Cx}{a b c:Expr}{ta tb tc:TE}{pos:Pos}
theorem Z34 (ha:PE X a ta)(hb:PE X b tb){pins:List (Addr × Obj)}{s:Shared}{σ:St}{H:Hp}{R:V->V->Hp->Prop}(I:Inv X pins σ H s)
  (h:ta σ H fun x H1=>tb σ H1 fun y H2=>R x y H2) {Q:Value->Shared->Prop} {f:Value->Value->Sem Value}
  (hf:∀ v u s2 x y H2,Inv X pins σ H2 s2->RelV x v->RelV y u->R x y H2->wpAny (model X.prog X.w) X.A (f v u) Q X.xe s2) :
  wpAny (model X.prog X.w) X.A (eval a X.env) (fun v s₁=>wpAny (model X.prog X.w) X.A (eval b X.env) (fun u s₂=>wpAny (model X.prog X.w) X.A (f v u) Q X.xe s₂) X.xe s₁) X.xe s:=by
 refine thn (ha pins s σ H _ I h) fun v s1 ⟨x,H1,I1,r1,q1⟩=>?_
 refine thn (hb pins s1 σ H1 _ I1 q1) fun u s2 ⟨y,H2,I2,r2,q2⟩=>?_
 exact hf v u s2 x y H2 I2 r1 r2 q2
theorem Zl {op:Operator}{r:R2}(ho:OpR X (binaryOp op) r)(ha:PE X a ta)(hb:PE X b tb):PE X (.BinOp a op b pos) (tOp r ta tb):=by
 intro pins s σ H Q I h
 exact wpAny_BinOp (Z34 ha hb I h fun v u s2 x y H2 I2 rx ry q=>ho pins s2 σ H2 x y v u Q I2 rx ry q)
theorem U0 {op:UnaryOp}{r:V->Hp->VK->Prop}(ho:UnR X (unaryOp op) r)(ha:PE X a ta):PE X (.UnaryOp op a pos) (tUn r ta):=by
 intro pins s σ H Q I h
 exact UnaryOp_ (thn (ha pins s σ H _ I h) fun v s1 ⟨x,H1,I1,r1,q1⟩=>ho pins s1 σ H1 x v Q I1 r1 q1)
theorem opI {f:Value->Value->Sem Value}{C:Int->Int->Prop}{g:Int->Int->Int}
  (rule:∀ (i j:Int) (t u:Tok) (s:Shared) (Q:Value->Shared->Prop) (E:Value->Shared->Prop),C i j->Q (.int (g i j) s.toks) { s with toks:=s.toks+1 }->wpAny (model X.prog X.w) X.A (f (.int i t) (.int j u)) Q E s) :
  OpR X f (rI C fun i j=>.int (g i j)):=by
 intro pins s σ H x y v u Q I rx ry h
 obtain⟨i,j,rfl,rfl,hc,q⟩:=h
 obtain⟨t,rfl⟩:=rx
 obtain⟨t',rfl⟩:=ry
 exact rule i j t t' s _ _ hc ⟨.int (g i j),H,I.tok _,⟨_,rfl⟩,q⟩
theorem Z3d {f:Value->Value->Sem Value}{g:Int->Int->Int}
  (rule:∀ (i j:Int) (t u:Tok) (s:Shared) (Q:Value->Shared->Prop) (E:Value->Shared->Prop),Q (.int (g i j) s.toks) { s with toks:=s.toks+1 }->wpAny (model X.prog X.w) X.A (f (.int i t) (.int j u)) Q E s) :
  OpR X f (rI0 fun i j=>.int (g i j)):=by
 intro pins s σ H x y v u Q I rx ry h
 obtain⟨i,j,rfl,rfl,q⟩:=h
 obtain⟨t,rfl⟩:=rx
 obtain⟨t',rfl⟩:=ry
 exact rule i j t t' s _ _ ⟨.int (g i j),H,I.tok _,⟨_,rfl⟩,q⟩
theorem Z2e {f:Value->Value->Sem Value}{g:Int->Int->Bool}
  (rule:∀ (i j:Int) (t u:Tok) (s:Shared) (Q:Value->Shared->Prop) (E:Value->Shared->Prop),Q (.bool (g i j)) s->wpAny (model X.prog X.w) X.A (f (.int i t) (.int j u)) Q E s) :
  OpR X f (rI0 fun i j=>.bl (g i j)):=by
 intro pins s σ H x y v u Q I rx ry h
 obtain⟨i,j,rfl,rfl,q⟩:=h
 obtain⟨t,rfl⟩:=rx
 obtain⟨t',rfl⟩:=ry
 exact rule i j t t' s _ _ ⟨.bl (g i j),H,I,rfl,q⟩
def CPow (i j:Int):Prop:=0<=j/\j<=1000000/\i.natAbs<2 ^ 64
def CMul (i j:Int):Prop:=(-(2 ^ 64)<i/\i<2 ^ 64) \/ (-(2 ^ 64)<j/\j<2 ^ 64)
theorem Yt:OpR X (binaryOp .Add) (rI0 fun i j=>.int (i+j)):=Z3d fun _ _ _ _ _ _ _ q=>add_int q
theorem U5:OpR X (binaryOp .Sub) (rI0 fun i j=>.int (i - j)):=Z3d fun _ _ _ _ _ _ _ q=>sub_int q
theorem Vf:OpR X (binaryOp .Mod) (rI (fun _ j=>0<j) fun i j=>.int (i % j)):=opI fun i j _ _ _ _ _ hc q=>by
 have h1:(0:Int)<j:=hc
 exact mod_int' (by omega) (by rw[Int.fmod_eq_emod_of_nonneg i (by omega)];exact q)
theorem Z0g:OpR X (binaryOp .Mod) (rI (fun _ j=>j≠0) fun i j=>.int (i.fmod j)):=opI fun _ _ _ _ _ _ _ hc q=>mod_int' hc q
theorem Po:OpR X (binaryOp .Pow) (rI CPow fun i j=>.int (i ^ j.toNat)):=opI fun _ _ _ _ _ _ _ hc q=>pow_int_small hc.1 hc.2.1 hc.2.2 q
theorem unI {f:Value->Sem Value}{g:Int->Int}
  (rule:∀ (i:Int) (t:Tok) (s:Shared) (Q:Value->Shared->Prop) (E:Value->Shared->Prop),Q (.int (g i) s.toks) { s with toks:=s.toks+1 }->wpAny (model X.prog X.w) X.A (f (.int i t)) Q E s) :
  UnR X f (rU fun i=>.int (g i)):=by
 intro pins s σ H x v Q I rx h
 obtain⟨i,rfl,q⟩:=h
 obtain⟨t,rfl⟩:=rx
 exact rule i t s _ _ ⟨.int (g i),H,I.tok _,⟨_,rfl⟩,q⟩
theorem Wp:UnR X (unaryOp .USub) (rU fun i=>.int (-i)):=unI fun _ _ _ _ _ q=>neg_int q
end
def scal:V->V->Bool
 | .non,.non=>true | .non,.int _=>true | .int _,.non=>true | .non,.bl _=>true | .bl _,.non=>true | .non,.str _=>true | .str _,.non=>true
 | .int _,.int _=>true | .bl _,.bl _=>true | .str _,.str _=>true | .byt _,.byt _=>true
 | .int _,.str _=>true | .str _,.int _=>true | .bl _,.str _=>true | .str _,.bl _=>true
 | _,_=>false
def rEq:R2:=fun x y H Q=>scal x y=true/\Q (.bl (decide (x=y))) H
def rNe:R2:=fun x y H Q=>scal x y=true/\Q (.bl (!decide (x=y))) H
theorem Jt {i j:Int}:decide (V.int i=V.int j)=(i == j):=by
 rw[Bool.eq_iff_iff]
 simp
theorem Bq {i j:Bool}:decide (V.bl i=V.bl j)=(i == j):=by
 rw[Bool.eq_iff_iff]
 simp
theorem Js {i j:Str}:decide (V.str i=V.str j)=(i == j):=by
 rw[Bool.eq_iff_iff]
 simp
theorem Ju {i j:Array UInt8}:decide (V.byt i=V.byt j)=(i.toList == j.toList):=by
 rw[Bool.eq_iff_iff]
 cases i
 cases j
 simp
section
variable {X:Cx}{a b c:Expr}{ta tb tc:TE}{pos:Pos}
theorem Yc {pins:List (Addr × Obj)}{σ:St}{H:Hp}{s:Shared}{Q:VK}{k k':Bool}(I:Inv X pins σ H s)(q:Q (.bl k) H)(e:k=k'):EP X pins σ Q (.bool k') s:=by
 subst e
 exact⟨.bl k,H,I,rfl,q⟩
theorem W0:OpR X (compareOp .Eq) rEq:=by
 intro pins s σ H x y v u Q I rx ry h
 obtain⟨hs,q⟩:=h
 cases x with
 | non =>
  cases rx
  cases y with
  | non=>cases ry;exact PySem.EqNone.eq_none_none (Yc I q (by simp))
  | bl j=>cases ry;exact PySem.EqNone.eq_none_bool (Yc I q (by simp))
  | int j=>obtain⟨t',rfl⟩:=ry;exact PySem.EqNone.eq_none_int (Yc I q (by simp))
  | str j=>obtain⟨t',rfl⟩:=ry;exact PySem.EqNone.eq_none_str (Yc I q (by simp))
  | _=>exact absurd (show false=true from hs) Bool.false_ne_true
 | bl i =>
  cases rx
  cases y with
  | non=>cases ry;exact PySem.EqNone.eq_bool_none (Yc I q (by simp))
  | bl j=>cases ry;exact eq_bool (Yc I q Bq)
  | str j=>obtain⟨t',rfl⟩:=ry;exact PySem.EqMixed.eq_bool_str (Yc I q (by simp))
  | _=>exact absurd (show false=true from hs) Bool.false_ne_true
 | int i =>
  obtain⟨t,rfl⟩:=rx
  cases y with
  | non=>cases ry;exact PySem.EqNone.eq_int_none (Yc I q (by simp))
  | int j=>obtain⟨t',rfl⟩:=ry;exact eq_int (Yc I q Jt)
  | str j=>obtain⟨t',rfl⟩:=ry;exact PySem.EqMixed.eq_int_str (Yc I q (by simp))
  | _=>exact absurd (show false=true from hs) Bool.false_ne_true
 | str i =>
  obtain⟨t,rfl⟩:=rx
  cases y with
  | non=>cases ry;exact PySem.EqNone.eq_str_none (Yc I q (by simp))
  | bl j=>cases ry;exact PySem.EqMixed.eq_str_bool (Yc I q (by simp))
  | int j=>obtain⟨t',rfl⟩:=ry;exact PySem.EqMixed.eq_str_int (Yc I q (by simp))
  | str j=>obtain⟨t',rfl⟩:=ry;exact eq_str (Yc I q Js)
  | _=>exact absurd (show false=true from hs) Bool.false_ne_true
 | byt i =>
  obtain⟨t,rfl⟩:=rx
  cases y with
  | byt j=>obtain⟨t',rfl⟩:=ry;exact W.eq_bytes (Yc I q Ju)
  | _=>exact absurd (show false=true from hs) Bool.false_ne_true
 | _=>cases y <;> exact absurd (show false=true from hs) Bool.false_ne_true
theorem Qu:OpR X (compareOp .NotEq) rNe:=by
 intro pins s σ H x y v u Q I rx ry h
 obtain⟨hs,q⟩:=h
 cases x with
 | non =>
  cases rx
  cases y with
  | non=>cases ry;exact PySem.EqNone.ne_none_none (Yc I q (by simp))
  | bl j=>cases ry;exact PySem.EqNone.ne_none_bool (Yc I q (by simp))
  | int j=>obtain⟨t',rfl⟩:=ry;exact PySem.EqNone.ne_none_int (Yc I q (by simp))
  | str j=>obtain⟨t',rfl⟩:=ry;exact PySem.EqNone.ne_none_str (Yc I q (by simp))
  | _=>exact absurd (show false=true from hs) Bool.false_ne_true
 | bl i =>
  cases rx
  cases y with
  | non=>cases ry;exact PySem.EqNone.ne_bool_none (Yc I q (by simp))
  | bl j=>cases ry;exact ne_bool (Yc I q (congrArg not Bq))
  | str j=>obtain⟨t',rfl⟩:=ry;exact PySem.EqMixed.ne_bool_str (Yc I q (by simp))
  | _=>exact absurd (show false=true from hs) Bool.false_ne_true
 | int i =>
  obtain⟨t,rfl⟩:=rx
  cases y with
  | non=>cases ry;exact PySem.EqNone.ne_int_none (Yc I q (by simp))
  | int j=>obtain⟨t',rfl⟩:=ry;exact ne_int (Yc I q (congrArg not Jt))
  | str j=>obtain⟨t',rfl⟩:=ry;exact PySem.EqMixed.ne_int_str (Yc I q (by simp))
  | _=>exact absurd (show false=true from hs) Bool.false_ne_true
 | str i =>
  obtain⟨t,rfl⟩:=rx
  cases y with
  | non=>cases ry;exact PySem.EqNone.ne_str_none (Yc I q (by simp))
  | bl j=>cases ry;exact PySem.EqMixed.ne_str_bool (Yc I q (by simp))
  | int j=>obtain⟨t',rfl⟩:=ry;exact PySem.EqMixed.ne_str_int (Yc I q (by simp))
  | str j=>obtain⟨t',rfl⟩:=ry;exact ne_str (Yc I q (congrArg not Js))
  | _=>exact absurd (show false=true from hs) Bool.false_ne_true
 | byt i =>
  obtain⟨t,rfl⟩:=rx
  cases y with
  | byt j=>obtain⟨t',rfl⟩:=ry;exact W.ne_bytes (Yc I q (congrArg not Ju))
  | _=>exact absurd (show false=true from hs) Bool.false_ne_true
 | _=>cases y <;> exact absurd (show false=true from hs) Bool.false_ne_true
theorem Tv:OpR X (compareOp .Lt) (rI0 fun i j=>.bl (decide (i<j))):=Z2e fun _ _ _ _ _ _ _ q=>lt_int q
theorem Z1u:OpR X (compareOp .LtE) (rI0 fun i j=>.bl (decide (i<=j))):=Z2e fun _ _ _ _ _ _ _ q=>le_int q
theorem Rj:OpR X (compareOp .Gt) (rI0 fun i j=>.bl (decide (j<i))):=Z2e fun _ _ _ _ _ _ _ q=>gt_int q
theorem Ri:OpR X (compareOp .Is) (fun x y H Q=>y=.non/\Q (.bl (decide (x=.non))) H):=by
 intro pins s σ H x y v u Q I rx ry h
 obtain⟨rfl,q⟩:=h
 cases ry
 refine is_none_gen (Yc I q ?_)
 cases x <;> first
  | (cases rx;rfl)
  | (obtain⟨t,rfl⟩:=rx;rfl)
theorem Uj:OpR X (compareOp .IsNot) (fun x y H Q=>y=.non/\Q (.bl (!decide (x=.non))) H):=by
 intro pins s σ H x y v u Q I rx ry h
 obtain⟨rfl,q⟩:=h
 cases ry
 refine isnot_none_gen (Yc I q ?_)
 cases x <;> first
  | (cases rx;rfl)
  | (obtain⟨t,rfl⟩:=rx;rfl)
theorem Zt (b:Expr){op:CmpOp}(h:op≠.In:=by decide)(h2:op≠.NotIn:=by decide):behindInMarks op b=false:=by
 have e1:(op == CmpOp.In)=false:=by cases op <;> first | rfl | exact absurd rfl h
 have e2:(op == CmpOp.NotIn)=false:=by cases op <;> first | rfl | exact absurd rfl h2
 cases b <;> simp[behindInMarks,e1,e2]
theorem Vd {op:CmpOp}{r:R2}(ho:OpR X (compareOp op) r)(ha:PE X a ta)(hb:PE X b tb)(hm:behindInMarks op b=false):PE X (.Compare a [op] [b] pos) (tOp r ta tb):=by
 intro pins s σ H Q I h
 exact wpAny_Compare1 (Z34 ha hb I h fun v u s2 x y H2 I2 rx ry q=>ho pins s2 σ H2 x y v u Q I2 rx ry q) hm
def tTest (t:TE):TT:=fun σ H Q=>t σ H fun x H'=>∃ k,x=.bl k/\Q k H'
theorem Zn {op:CmpOp}{r:R2}(ho:OpR X (compareOp op) r)(ha:PE X a ta)(hb:PE X b tb)(hm:behindInMarks op b=false):PT X (.Compare a [op] [b] pos) (tTest (tOp r ta tb)):=by
 intro pins s σ H Q I h
 refine wpAny_isTrue_Compare1 (thn (ha pins s σ H _ I h) fun v s1 ⟨x,H1,I1,r1,q1⟩=>thn (hb pins s1 σ H1 _ I1 q1) fun u s2 ⟨y,H2,I2,r2,q2⟩ =>
  thn (ho pins s2 σ H2 x y v u _ I2 r1 r2 q2) fun c s3 ⟨z,H3,I3,r3,k,e,q3⟩=>?_) hm
 subst e
 cases r3
 exact wpAny_truthy_bool ⟨H3,I3,q3⟩
def TruV (K:W.Frag)(x:V)(H:Hp)(k:Bool):Prop :=
 match x with
 | .non=>k=false
 | .bl b=>k=b
 | .int i=>k=(i != 0)
 | .str y=>y.length<=sizeLine/\k=((y.length:Int) != 0)
 | .byt y=>y.size<=sizeLine/\k=((y.size:Int) != 0)
 | .ref p=>(∃ xs,SqL K H p xs/\k=!xs.isEmpty) \/ (∃ xs,SqT K H p xs/\k=!xs.isEmpty) \/ ∃ kvs,H p=some (.dK kvs)/\k=!kvs.isEmpty
 | _=>False
theorem K5 {κ:Type}{kvs:List (κ × V)}{vs:List (κ × Value)}(r:KV kvs vs):(!vs.isEmpty)=!kvs.isEmpty:=by
 cases r <;> rfl
theorem Rz {xs:List V}{its:List Value}(r:Vals xs its):(!its.toArray.isEmpty)=!xs.isEmpty:=by
 cases r <;> simp
theorem Ry:(sizeLine:Nat)<2 ^ 63:=by rw[sizeLine_eq];decide
theorem Z21:TruR X (fun x H Q=>∃ k,TruV X.K x H k/\Q k H):=by
 intro pins s σ H x v Q I rx h
 obtain⟨k,e,q⟩:=h
 have hl:=Ry
 have hs:sizeLine=16777216:=sizeLine_eq
 cases x with
 | non =>
  cases rx
  have e':k=false:=e
  subst e'
  exact truthy_none ⟨H,I,q⟩
 | bl b =>
  cases rx
  have e':k=b:=e
  subst e'
  exact wpAny_truthy_bool ⟨H,I,q⟩
 | int i =>
  obtain⟨t,rfl⟩:=rx
  have e':k=(i != 0):=e
  subst e'
  exact PySem.P.truthy_int ⟨H,I,q⟩
 | str y =>
  obtain⟨t,rfl⟩:=rx
  obtain⟨hy,e'⟩:y.length<=sizeLine/\k=((y.length:Int) != 0):=e
  subst e'
  exact PySem.P.truthy_str (by omega) ⟨H,I.tok _,q⟩
 | byt y =>
  obtain⟨t,rfl⟩:=rx
  obtain⟨hy,e'⟩:y.size<=sizeLine/\k=((y.size:Int) != 0):=e
  subst e'
  exact W.truthy_bytes (by omega) ⟨H,I.tok _,q⟩
 | ref p =>
  cases rx
  have e':(∃ xs,SqL X.K H p xs/\k=!xs.isEmpty) \/ (∃ xs,SqT X.K H p xs/\k=!xs.isEmpty) \/ ∃ kvs,H p=some (.dK kvs)/\k=!kvs.isEmpty:=e
  rcases e' with ⟨xs,hx,e'⟩ | ⟨xs,hx,e'⟩ | ⟨kvs,hx,e'⟩
  ·subst e'
   obtain⟨its,r,pl,hz⟩:=I.list hx
   have hlen:=r.length
   exact wpAny_truthy_list pl.isList (by simp only [List.size_toArray];omega) ⟨H,I.tok _,by rw[Rz r];exact q⟩
  ·subst e'
   obtain⟨its,r,pl,hz⟩:=I.tuple hx
   have hlen:=r.length
   exact truthy_tuple pl (by simp only [List.size_toArray];omega) ⟨H,I.tok _,by rw[Rz r];exact q⟩
  ·subst e'
   obtain⟨hz,hS,vs,r,m⟩:kvs.length<=sizeLine/\(p == sysModules)=false/\∃ vs,KV kvs vs/\s.heap.DictOf (mixKind X.prog X.w) p vs:=I.hok p _ hx
   have hlen:kvs.length=vs.length:=Paired.length r
   exact wpAny_truthy_dict hS m (by omega) ⟨H,I.tok _,by rw[K5 r];exact q⟩
 | _=>exact (show False from e).elim
theorem Dn (ha:PE X a ta)(he:∀ whole,isTrue a X.env whole=(do let v ← whole;standAt a.pos;holding [v] (truthy v))) :
  PT X a (fun σ H Q=>ta σ H fun x H'=>∃ k,TruV X.K x H' k/\Q k H'):=by
 intro pins s σ H Q I h
 exact isTrue_plain (thn (ha pins s σ H _ I h) fun v s1 ⟨x,H1,I1,r1,q1⟩=>Z21 pins s1 σ H1 x v Q I1 r1 q1) (he _)
theorem Ub {x:V}{us:List Value}(r:Vals [x] us):∃ u,us=[u]/\RelV x u:=by
 cases r with
 | cons r1 r2=>cases r2;exact⟨_,rfl,r1⟩
theorem Kc {x y:V}{us:List Value}(r:Vals [x,y] us):∃ u w',us=[u,w']/\RelV x u/\RelV y w':=by
 cases r with
 | cons r1 r2 =>
  cases r2 with
  | cons r3 r4=>cases r4;exact⟨_,_,rfl,r1,r3⟩
theorem Q9:CallR X (.builtin "abs") (fun xs H Q=>∃ i,xs=[.int i]/\Q (.int (if i<0 then -i else i)) H):=by
 intro pins s σ H xs us Q I r h
 obtain⟨i,rfl,q⟩:=h
 obtain⟨u,rfl,t,rfl⟩:=Ub r
 exact call_abs_int fun u tk=>⟨.int (if i<0 then -i else i),H,I.tok _,⟨_,rfl⟩,q⟩
end
end L2
namespace L2
open PySem PySem.Spec PyProof.Rows
structure ObjM (h:Heap)(x dx C:Addr)(mA:Str->Option Value):Prop where
 obj:h.get? x=some (W.instObj C dx)
 ns:h.Ns1 dx mA
 ne:dx≠x
theorem Gv {h:Heap}{dx:Addr}{mA:Str->Option Value}(n:h.Ns1 dx mA):∃ od,h.get? dx=some od/\∀ name,W.lookIn name od=some (mA name):=by
 obtain⟨o,es,ep,ho,hd,hk,_,hm⟩:=n
 refine⟨o,ho,fun name=>?_⟩
 have e:=hm name
 unfold nsFind findBy at e
 rw[← Array.find?_toList] at e
 unfold W.lookIn
 rw[hd]
 dsimp only
 split
 ·rename_i y q
  rw[q] at e
  exact congrArg some e
 ·rename_i q
  rw[q] at e
  have a:es.toList.any (·.refKey)=false:=by
   rw[List.any_eq_false]
   intro y hy
   obtain⟨z,t,hkey⟩:=hk y (Array.mem_toList_iff.mp hy)
   simp[DictEntry.refKey,hkey]
  have a':¬ es.toList.any (·.refKey)=true:=by rw[a];exact Bool.false_ne_true
  rw[if_neg a']
  exact congrArg some e
theorem ObjM.look {h:Heap}{x dx C:Addr}{mA:Str->Option Value}(I:ObjM h x dx C mA):∃ od,W.InstAt h x (W.instObj C dx) C (some od)/\∀ name,W.lookIn name od=some (mA name) :=
 let ⟨od,ho,hl⟩:=Gv I.ns
 ⟨od,⟨I.obj,rfl,rfl,ho⟩,hl⟩
section
variable {prog:Program}{w:World}{A:Around}{E:Value->Shared->Prop}{s:Shared}{K:W.Frag}{x dx C f:Addr}{mA:Str->Option Value}{name:Str}{v:Value}
theorem Z1c {expr:Bool}{Q:Value->Shared->Prop}(X:K.In s.heap)(I:ObjM s.heap x dx C mA)(hg:W.plainGet K C name=true)(hh:W.hasDictIn K C=true)
  (ha:W.findIn K (.ref C) name=some none) (hv:mA name=some v) (hv':W.handedIn v=true) (h:Q v { s with toks:=s.toks+1 }) :
  wpAny (model prog w) A (getAttr (.ref x) name expr) Q E s:=by
 obtain⟨od,J,hl⟩:=I.look
 exact W.get_value X J (W.plainGet_of hg).1 (W.findObj_own hh ha rfl (by rw[hl,hv])) hv' h
theorem Z00 {ns:List Str}{Q:Unit->Shared->Prop}(X:K.In s.heap)(I:ObjM s.heap x dx C mA)
  (hs:W.findIn K (.ref C) "__setattr__"=some (some (.builtin "object.__setattr__"))) (hp:W.plainOver K C=true) (ht:W.takerIn K C name=some none) (hh:W.hasDictIn K C=true)
  (hw:PySem.Within mA ns) (hsz:ns.length<=sizeLine)
  (h:∀ h',ObjM h' x dx C (fun y=>if y=name then some v else mA y)->Heap.SameBut dx s.heap h'->Q () { s with heap:=h',toks:=s.toks+2 }) :
  wpAny (model prog w) A (setAttr (.ref x) name v) Q E s:=by
 obtain⟨od,J,hl⟩:=I.look
 refine W.set_plain X J hs (W.osa_open (s:={ s with toks:=s.toks+1 }) (r:=none) X J hp ht fun b=>?_)
 obtain⟨cd,hc,hd'⟩:=W.any_some hh
 have hx:s.heap.get? x=some ⟨.ref C,some dx,.plain,#[]⟩:=I.obj
 refine wpAny_bind (wpAny_pure (wpAny_bind (wpAny_bind (wpAny_loadPart hx (wpAny_bind (W.Looks.here (s:={ s with toks:=s.toks+1 }) (W.looks_clsIn X hc) ?_))))))
 rw[hd']
 refine wpAny_pure (a:=some dx) (wpAny_bind (wpAny_pure (wpAny_bind ?_)))
 refine wpAny_nsSet1 (s:={ s with toks:=s.toks+1 }) I.ns fun h' hn2 hs2=>?_
 obtain⟨oD,esD,epD,hoD,hdD,hcD⟩:=hn2.count (PySem.Within.cons name v hw)
 refine wpAny_bind (wpAny_lookBehind hoD (by rw[hdD];exact pastItsLine_dict (Nat.le_trans hcD (by rw[List.length_cons];omega))) ?_)
 exact wpAny_pure (h _ ⟨(hs2.2 _ (Ne.symm I.ne)).trans I.obj,hn2,I.ne⟩ hs2)
theorem Cu {R:Result->Shared->Prop}{vs:List Value}{kw:List (Str × Value)}(X:K.In s.heap)(hm:W.makesIn K C=true)
  (hi:W.findIn K (.ref C) "__init__"=some (some (.ref f))) (hf:W.typeIn K (.ref f)=some (.type "function"))
  (h:codeAny (model prog w) (A.under (.builtin "type.__call__" ⟨.ref C::vs,kw⟩)) (.call (.ref f) ⟨.ref (s.heap.objs.size+1)::vs,kw⟩) (W.InitBack (s.heap.objs.size+1) R)
   { s with heap:=(s.heap.push W.emptyDict).push (W.instObj C s.heap.objs.size) }) :
  codeAny (model prog w) A (.call (.ref C) ⟨vs,kw⟩) R s:=by
 obtain⟨hh,g,d,t,os⟩:=s
 exact W.make_core (W.makes_of X hm) (W.looks_findIn X hi) (fun self=>W.bind_fn X self hf) (.inl rfl) h
end
def putF (f:Str)(v:V):List (Str × V)->List (Str × V)
 | []=>[(f,v)]
 | (g,x)::r=>if g=f then (g,v)::r else (g,x)::putF f v r
theorem Y3 (f g:Str)(v:V):∀ fs:List (Str × V),(putF f v fs).lookup g=if g=f then some v else fs.lookup g
 | []=>by
  show List.lookup g [(f,v)]=_
  by_cases h:g=f
  ·have hb:(g == f)=true:=beq_iff_eq.mpr h
   simp only [List.lookup,hb,if_pos h]
  ·have hb:(g == f)=false:=beq_eq_false_iff_ne.mpr h
   simp only [List.lookup,hb,if_neg h]
 | (k,x)::r=>by
  have ih:=Y3 f g v r
  rw[show putF f v ((k,x)::r)=(if k=f then (k,v)::r else (k,x)::putF f v r) from rfl]
  by_cases hk:k=f
  ·rw[if_pos hk]
   by_cases h:g=k
   ·have hb:(g == k)=true:=beq_iff_eq.mpr h
    simp only [List.lookup,hb,if_pos (h.trans hk)]
   ·have hb:(g == k)=false:=beq_eq_false_iff_ne.mpr h
    simp only [List.lookup,hb,if_neg (fun e:g=f=>h (e.trans hk.symm))]
  ·rw[if_neg hk]
   by_cases h:g=k
   ·have hb:(g == k)=true:=beq_iff_eq.mpr h
    simp only [List.lookup,hb,if_neg (fun e:g=f=>hk (h.symm.trans e))]
   ·have hb:(g == k)=false:=beq_eq_false_iff_ne.mpr h
    simp only [List.lookup,hb]
    exact ih
theorem Th (f:Str)(v:V):∀ fs:List (Str × V),f∈(putF f v fs).map (·.1)/\∀ g,g∈fs.map (·.1)->g∈(putF f v fs).map (·.1)
 | []=>⟨by simp[putF],fun g h=>by simp at h⟩
 | (k,x)::r=>by
  obtain⟨i1,i2⟩:=Th f v r
  rw[show putF f v ((k,x)::r)=(if k=f then (k,v)::r else (k,x)::putF f v r) from rfl]
  by_cases hk:k=f
  ·rw[if_pos hk]
   subst hk
   exact⟨by simp,fun g h=>by simpa using h⟩
  ·rw[if_neg hk]
   refine⟨?_,fun g h=>?_⟩
   ·rw[List.map_cons]
    exact List.mem_cons_of_mem _ i1
   ·rw[List.map_cons] at h ⊢
    rcases List.mem_cons.mp h with e | e
    ·exact List.mem_cons.mpr (.inl e)
    ·exact List.mem_cons_of_mem _ (i2 g e)
theorem Tw (f:Str)(v:V):∀ fs:List (Str × V),(putF f v fs).length<=fs.length+1
 | []=>by simp[putF]
 | (k,x)::r=>by
  have ih:=Tw f v r
  rw[show putF f v ((k,x)::r)=(if k=f then (k,v)::r else (k,x)::putF f v r) from rfl]
  by_cases hk:k=f
  ·rw[if_pos hk,List.length_cons,List.length_cons];omega
  ·rw[if_neg hk,List.length_cons,List.length_cons];omega
theorem RelO.some_of {v:V}{o:Option Value}(r:RelO (some v) o):∃ u,o=some u/\RelV v u:=by
 cases o with
 | none=>exact (show False from r).elim
 | some u=>exact⟨u,rfl,r⟩
theorem F7 {v:V}{u:Value}(r:RelV v u):W.handedIn u=true:=by
 cases v with
 | non=>cases (show u=Value.none from r);rfl
 | bl b=>cases (show u=Value.bool b from r);rfl
 | int i=>obtain⟨t,e⟩:=(show ∃ t,u=Value.int i t from r);cases e;rfl
 | str x=>obtain⟨t,e⟩:=(show ∃ t,u=Value.str x t from r);cases e;rfl
 | byt b=>obtain⟨t,e⟩:=(show ∃ t,u=Value.bytes b t from r);cases e;rfl
 | flt b=>obtain⟨t,e⟩:=(show ∃ t,u=Value.float b t from r);cases e;rfl
 | ref a=>cases (show u=Value.ref a from r);rfl
 | ty n=>cases (show u=Value.type n from r);rfl
section
variable {P:Program}{w:World}{H H':Hp}{h h':Heap}{a C dx:Addr}{fs fs':List (Str × V)}
theorem Pw (hok:HOk P w H h)(e:H a=some (.ins C dx fs)):∃ mA,ObjM h a dx C mA/\(∀ f,RelO (fs.lookup f) (mA f))/\PySem.Within mA (fs.map (·.1))/\fs.length<=1000/\H dx=some (.own a):=by
 obtain⟨d,z,ne,ob,mA,n,r,q⟩:=(show ObjOk P w H h a (.ins C dx fs) from hok a _ e)
 exact⟨mA,⟨ob,n,ne⟩,r,q,z,d⟩
end
structure Cls (K:W.Frag)(C:Addr):Prop where
 pg:W.plainGet K C Str.empty=true
 hd:W.hasDictIn K C=true
 po:W.plainOver K C=true
 sa:W.findIn K (.ref C) "__setattr__"=some (some (.builtin "object.__setattr__"))
theorem Cls.get {K:W.Frag}{C:Addr}(c:Cls K C)(f:Str):W.plainGet K C f=true:=c.pg
def NoAttr (K:W.Frag)(C:Addr)(f:Str):Prop:=W.findIn K (.ref C) f=some none
theorem NoAttr.taker {K:W.Frag}{C:Addr}{f:Str}(n:NoAttr K C f):W.takerIn K C f=some none:=by
 unfold W.takerIn
 rw[show W.findIn K (.ref C) f=some none from n]
 rfl
structure Con (K:W.Frag)(C:Addr)(f:Str)(v:V)(u:Value):Prop where
 at_:W.findIn K (.ref C) f=some (some u)
 rel:RelV v u
 get:W.specialIn K u "__get__"=some none
 cp:W.copiedNames.contains f=false
section
variable {X:Cx}{pins:List (Addr × Obj)}{σ:St}{H:Hp}{s:Shared}{a C dx:Addr}{fs:List (Str × V)}{f:Str}{v:V}{A:Around}{E:Value->Shared->Prop}
theorem K6 {b:Bool}{Q:Value->Shared->Prop}(I:Inv X pins σ H s)(e:H a=some (.ins C dx fs))(c:Cls X.K C)(n:NoAttr X.K C f)(l:fs.lookup f=some v)
  (h:∀ u s',Inv X pins σ H s'->RelV v u->Q u s'):wpAny (model X.prog X.w) A (getAttr (.ref a) f b) Q E s:=by
 obtain⟨mA,O,r,_,_,_⟩:=Pw I.hok e
 obtain⟨u,hu,ru⟩:=RelO.some_of (v:=v) (o:=mA f) (by rw[← l];exact r f)
 exact Z1c I.kIn O (c.get f) c.hd n hu (F7 ru) (h u _ (I.tok _) ru)
theorem Lj {y:V}{u:Value}{Q:Unit->Shared->Prop}(I:Inv X pins σ H s)(e:H a=some (.ins C dx fs))(c:Cls X.K C)(n:NoAttr X.K C f)(hl:fs.length<1000)(ry:RelV y u)
  (h:∀ s',Inv X pins σ (upd H a (.ins C dx (putF f y fs))) s'->Q () s'):wpAny (model X.prog X.w) A (setAttr (.ref a) f u) Q E s:=by
 obtain⟨mA,O,r,wi,_,ho⟩:=Pw I.hok e
 have hz:(fs.map (·.1)).length<=sizeLine:=by rw[List.length_map,sizeLine_eq];omega
 refine Z00 I.kIn O c.sa c.po n.taker c.hd wi hz fun h' O' sb=>h _ ?_
 have hd:∃ o,h'.get? dx=some o:=let ⟨o,_,_,e',_⟩:=O'.ns;⟨o,e'⟩
 refine I.write (x:=a) (e:=dx) (by rw[e];exact True.intro) (.inr ho) (fun b q hb z=>(sb.2 b hb).trans z) hd ?_
 refine⟨by rw[Zf O.ne];exact ho,?_,O.ne,O'.obj,_,O'.ns,fun g=>?_,fun g hg=>?_⟩
 ·have:=Tw f y fs;omega
 ·show RelO ((putF f y fs).lookup g) (if g=f then some u else mA g)
  rw[Y3]
  by_cases q:g=f
  ·rw[if_pos q,if_pos q];exact ry
  ·rw[if_neg q,if_neg q];exact r g
 ·by_cases q:g=f
  ·rw[q];exact (Th f y fs).1
  ·refine (Th f y fs).2 g (wi g fun z=>hg ?_)
   show (if g=f then some u else mA g)=none
   rw[if_neg q];exact z
theorem Inv.made (I:Inv X pins σ H s):Inv X pins σ (upd (upd H s.heap.objs.size (.own (s.heap.objs.size+1))) (s.heap.objs.size+1) (.ins C s.heap.objs.size []))
  { s with heap:=(s.heap.push W.emptyDict).push (W.instObj C s.heap.objs.size) }:=by
 have e1:(s.heap.push W.emptyDict).get? s.heap.objs.size=some W.emptyDict:=Heap.get?_push_size s.heap rfl
 have e2:((s.heap.push W.emptyDict).push (W.instObj C s.heap.objs.size)).get? (s.heap.objs.size+1)=some (W.instObj C s.heap.objs.size):=by
  have:=Heap.get?_push_size (s.heap.push W.emptyDict) (o:=W.instObj C s.heap.objs.size) rfl
  rwa [Heap.size_push] at this
 have e3:(s.heap.push W.emptyDict).Ns s.heap.objs.size (fun _=>none):=⟨W.emptyDict,#[],_,e1,rfl,(fun e he=>absurd he (by simp)),fun _=>rfl⟩
 have I1:=I.laid (a:=s.heap.objs.size) (o:=.own (s.heap.objs.size+1)) (h':=s.heap.push W.emptyDict) (t':=s.toks) (fun b u q=>Heap.get?_push_of_some _ q) (Nat.le_refl _) ⟨_,e1⟩
 refine I1.laid (a:=s.heap.objs.size+1) (o:=.ins C s.heap.objs.size []) (t':=s.toks) (fun b u q=>Heap.get?_push_of_some _ q) (Nat.le_of_eq (Heap.size_push _ _)) ?_
 have ne:s.heap.objs.size≠s.heap.objs.size+1:=Nat.ne_of_lt (Nat.lt_succ_self _)
 refine⟨by rw[Zf ne,Zb],Nat.zero_le _,ne,e2,fun _=>none,(Heap.Ns1.of_empty e3).at fun o q=>Heap.get?_push_of_some _ q,fun _=>True.intro,fun y hy=>absurd rfl hy⟩
theorem Z1j {prog:Program}{w:World}{env:Env}{e:Expr}{f:Str}{pos:Pos}{s:Shared}{Q:Value->Shared->Prop}(hb:attributeBase e f env (eval e env)=eval e env)
  (h:wpAny (model prog w) A (eval e env) (fun o s₁=>wpAny (model prog w) A (getAttr o f true) Q E s₁) E s):wpAny (model prog w) A (eval (.Attribute e f pos) env) Q E s :=
 Attribute_any_ h (by rw[arm_eval_Attribute,hb])
end
def tFld (K:W.Frag)(ta:TE)(f:Str):TE:=fun σ H Q=>ta σ H fun x H1=>∃ a C dx fs v,x=.ref a/\H1 a=some (.ins C dx fs)/\Cls K C/\NoAttr K C f/\fs.lookup f=some v/\Q v H1
def sFld (K:W.Frag)(ta tv:TE)(f:Str):TS:=fun D σ H=>tv σ H fun y H1=>ta σ H1 fun x H2=>∃ a C dx fs,x=.ref a/\H2 a=some (.ins C dx fs)/\Cls K C/\NoAttr K C f/\fs.length<1000 ∧
 D.nx σ (upd H2 a (.ins C dx (putF f y fs)))
section
variable {X:Cx}{o e value:Expr}{f:Str}{pos pos' tpos:Pos}{ta tv:TE}
theorem Yh (he:PE X e ta)(hb:attributeBase e f X.env (eval e X.env)=eval e X.env):PE X (.Attribute e f pos) (tFld X.K ta f):=by
 intro pins s σ H Q I h
 refine Z1j hb (thn (he pins s σ H _ I h) fun u s1 ⟨x,H1,I1,rx,a,C,dx,fs,v,ex,ea,c,n,l,q⟩=>?_)
 subst ex
 obtain rfl:u=Value.ref a:=rx
 exact K6 I1 ea c n l fun u' s2 I2 ru=>⟨v,H1,I2,ru,q⟩
theorem Rf (ha:PE X o ta)(hv:PE X value tv)(hs:swapsWith value (some (.Attribute o f pos')) pos.line X.env=pure false):PS X (.Assign [.Attribute o f pos'] value pos) (sFld X.K ta tv f):=by
 intro pins s σ H D I h
 refine plainObj_wpAny_Assign_Attribute (thn (hv pins s σ H _ I h) fun u s1 ⟨y,H1,I1,ry,q⟩=>thn (ha pins s1 σ H1 _ I1 q) fun ov s2 ⟨x,H2,I2,rx,a,C,dx,fs,ex,ea,c,n,l,q2⟩=>?_) hs
 subst ex
 obtain rfl:ov=Value.ref a:=rx
 exact Lj I2 ea c n l ry fun s3 I3=>⟨σ,_,I3,q2⟩
end
section
variable {X:Cx}{pins:List (Addr × Obj)}{σ:St}{H:Hp}{s:Shared}{A:Around}{E:Value->Shared->Prop}{Q:Value->Shared->Prop}{c:Value}{b:Bool}
inductive TyOf (K:W.Frag) (H:Hp):V->Value->Prop where
 | non:TyOf K H .non (.type "NoneType")
 | bl (x:Bool):TyOf K H (.bl x) (.type "bool")
 | int (i:Int):TyOf K H (.int i) (.type "int")
 | str (x:Str):TyOf K H (.str x) (.type "str")
 | flt (x:UInt64):TyOf K H (.flt x) (.type "float")
 | lst {a:Addr} {xs:List V} (e:H a=some (.lst xs)):TyOf K H (.ref a) (.type "list")
 | frz {a:Addr} {o:Obj} {xs:List V} (e:H a=some (.frz o (.lst xs))):TyOf K H (.ref a) (.type "list")
 | tup {a:Addr} {xs:List V} (e:H a=some (.tup xs)):TyOf K H (.ref a) (.type "tuple")
 | dK {a:Addr} {kvs:List (Key × V)} (e:H a=some (.dK kvs)):TyOf K H (.ref a) (.type "dict")
 | dT {a:Addr} {kvs:List (List Key × V)} (e:H a=some (.dT kvs)):TyOf K H (.ref a) (.type "dict")
 | ins {a C dx:Addr} {fs:List (Str × V)} (e:H a=some (.ins C dx fs)) (cl:Cls K C) (ha:W.findIn K (.ref C) "__class__"=some (some (.builtin "object.__class__")))
   (hn:W.specialIn K (.builtin "object.__class__") "__get__"=some (some (.builtin "getset_descriptor.__get__"))) (htk:W.takesIn K (.builtin "object.__class__")=some true)
   (hm:W.mroIn K C (.type "object")=some true):TyOf K H (.ref a) (.ref C)
theorem Gy {x:V}{u t:Value}(I:Inv X pins σ H s)(rx:RelV x u)(ty:TyOf X.K H x t)(e:W.kitOne X.K t c=some b)(h:∀ tk,Q (.bool b) { s with toks:=tk }) :
  wpAny (model X.prog X.w) A (call (.builtin "isinstance") [u,c]) Q E s:=by
 cases ty with
 | non=>cases (show u=Value.none from rx);exact W.kia_one W.kitx_none I.kIn True.intro e (fun z=>nomatch z) h
 | bl y=>cases (show u=Value.bool y from rx);exact W.kia_one W.kitx_bool I.kIn True.intro e (fun z=>nomatch z) h
 | int i=>obtain⟨t,q⟩:=(show ∃ t,u=Value.int i t from rx);cases q;exact W.kia_one W.kitx_int I.kIn True.intro e (fun z=>nomatch z) h
 | str y=>obtain⟨t,q⟩:=(show ∃ t,u=Value.str y t from rx);cases q;exact W.kia_one W.kitx_str I.kIn True.intro e (fun z=>nomatch z) h
 | flt y=>obtain⟨t,q⟩:=(show ∃ t,u=Value.float y t from rx);cases q;exact W.kia_one W.kitx_float I.kIn True.intro e (fun z=>nomatch z) h
 | @lst a xs ea =>
  cases (show u=Value.ref a from rx)
  obtain⟨_,_,n,_,h1⟩:=(show ObjOk X.prog X.w H s.heap a (.lst xs) from I.hok a _ ea)
  exact W.kia_one W.kitx_list I.kIn ⟨_,h1,rfl⟩ e (fun z=>nomatch z) h
 | @frz a ob xs ea =>
  cases (show u=Value.ref a from rx)
  obtain⟨_,_,_,n,_,h1⟩:=(show ObjOk X.prog X.w H s.heap a (.frz ob (.lst xs)) from I.hok a _ ea)
  exact W.kia_one W.kitx_list I.kIn ⟨_,h1,rfl⟩ e (fun z=>nomatch z) h
 | @tup a xs ea =>
  cases (show u=Value.ref a from rx)
  obtain⟨_,_,_,p⟩:=(show ObjOk X.prog X.w H s.heap a (.tup xs) from I.hok a _ ea)
  obtain⟨o,h1,h2,_⟩:=p
  exact W.kia_one W.kitx_tuple I.kIn ⟨o,h1,h2⟩ e (fun z=>nomatch z) h
 | @dK a kvs ea =>
  cases (show u=Value.ref a from rx)
  obtain⟨_,_,vs,_,p⟩:=(show ObjOk X.prog X.w H s.heap a (.dK kvs) from I.hok a _ ea)
  obtain⟨o,es,ep,h1,h2,_⟩:=p
  exact W.kia_one W.kitx_dict I.kIn ⟨o,h1,h2.1⟩ e (fun z=>nomatch z) h
 | @dT a kvs ea =>
  cases (show u=Value.ref a from rx)
  obtain⟨_,_,xs,_,o,es,ep,h1,h2,_⟩:=(show ObjOk X.prog X.w H s.heap a (.dT kvs) from I.hok a _ ea)
  exact W.kia_one W.kitx_dict I.kIn ⟨o,h1,h2.1⟩ e (fun z=>nomatch z) h
 | @ins a C dx fs ea cl ha hn htk hm =>
  cases (show u=Value.ref a from rx)
  obtain⟨mA,O,_⟩:=Pw I.hok ea
  obtain⟨od,J,_⟩:=O.look
  exact W.kia_one (W.kitx_own (cl.get _) cl.hd ha hn htk hm) I.kIn J e (fun z=>nomatch z) h
end
end L2
namespace L2
open PySem PySem.Spec PyProof.Rows
structure Room (k:Nat)(A:Around)(sr:Bool:=false):Prop where
 hd:sr=true->A.handled=none
 dp:A.depth+3*k+5<recursionLimit
 un:A.units+16*k+200<cLine
theorem Room.mono {j k:Nat}{A:Around}{sr:Bool}(r:Room k A sr)(h:j<=k):Room j A sr:=⟨r.hd,by have:=r.dp;omega,by have:=r.un;omega⟩
theorem Room.deeper {k:Nat}{A:Around}{sr:Bool}(r:Room (k+1) A sr)(env:Env):Room k (A.deeper env) sr :=
 ⟨r.hd,by have:=r.dp;show A.depth+1+3*k+5<_;omega,by have:=r.un;show A.units+3+16*k+200<_;omega⟩
theorem K3 {A:Around}{C:Addr}{us:List Value}{kw:List (Str × Value)}:(A.under (.builtin "type.__call__" ⟨.ref C::us,kw⟩)).depth=A.depth+1:=by
 first | rfl | simp[Around.under,Code.weight,Code.isCreation,Code.isGuard,Code.isCaller,Code.frames,Code.isFrame,guardIds]
theorem K2 {A:Around}{C:Addr}{us:List Value}{kw:List (Str × Value)}:(A.under (.builtin "type.__call__" ⟨.ref C::us,kw⟩)).units=A.units+1:=by
 first | rfl | simp[Around.under,Code.cUnits,Code.frames,Code.isFrame]
theorem Room.make {k:Nat}{A:Around}{sr:Bool}(r:Room (k+1) A sr)(C:Addr)(us:List Value)(kw:List (Str × Value)):Room k (A.under (.builtin "type.__call__" ⟨.ref C::us,kw⟩)) sr :=
 ⟨r.hd,by have:=r.dp;rw[K3];omega,by have:=r.un;rw[K2];omega⟩
theorem Room.depth {k:Nat}{A:Around}{sr:Bool}(r:Room k A sr):A.depth<recursionLimit:=by have:=r.dp;omega
theorem Room.units {k:Nat}{A:Around}{sr:Bool}(r:Room k A sr):A.units+64<cLine:=by have:=r.un;omega
theorem Room.loose {k:Nat}{A:Around}{sr:Bool}(r:Room k A sr):Room k A:=⟨(fun z=>nomatch z),r.dp,r.un⟩
def tNil:TA:=fun _ H Q=>Q [] H
def tCons (ta:TE)(tr:TA):TA:=fun σ H Q=>ta σ H fun x H1=>tr σ H1 fun xs H2=>Q (x::xs) H2
section
variable {X:Cx}{e:Expr}{es:List Expr}{te:TE}{t:TA}{pos:Pos}
theorem Z8:PA X [] tNil:=fun _ _ _ _ H Q I h=>Calls.spliced_nil ⟨[],H,I,.nil,h⟩
theorem Z0 (ha:PE X e te)(hr:PA X es t)(hs:starEach (e::es) X.env=(false,eval e X.env)::starEach es X.env:=by rfl):PA X (e::es) (tCons te t):=by
 intro pos pins s σ H Q I h
 rw[hs]
 show wpAny _ _ (spliced ((false,eval e X.env)::backTo pos (starEach es X.env))) _ _ s
 refine Calls.spliced_cons (thn (ha pins s σ H _ I h) fun u s1 ⟨x,H1,I1,r1,q1⟩=>?_)
 exact thn (hr pos pins s1 σ H1 _ I1 q1) fun us s2 ⟨xs,H2,I2,r2,q2⟩=>⟨x::xs,H2,I2,.cons r1 r2,q2⟩
def tTup (t:TA):TE:=fun σ H Q=>t σ H fun xs H1=>xs.length<=sizeLine/\∀ p,H1 p=none->Q (.ref p) (upd H1 p (.tup xs))
def tLst (t:TA):TE:=fun σ H Q=>t σ H fun xs H1=>xs.length<=sizeLine/\∀ p,H1 p=none->Q (.ref p) (upd H1 p (.lst xs))
theorem Yf {x1}(h:PA X es t):PE X (.Tuple es x1 pos) (tTup t):=by
 intro pins s σ H Q I hq
 refine wpAny_Tuple_spliced (thn (h pos pins s σ H _ I hq) fun us s1 ⟨xs,H1,I1,r,z,q⟩=>⟨by rw[← r.length];exact z,?_⟩)
 have hf:H1 s1.heap.objs.size=none:=I1.hok.fresh (Nat.le_refl _)
 refine⟨.ref s1.heap.objs.size,upd H1 s1.heap.objs.size (.tup xs),I1.laid (t':=s1.toks) (fun b u e=>Heap.get?_push_of_some _ e) (Nat.le_refl _) ?_,rfl,q _ hf⟩
 exact⟨z,us,r,⟨_,Heap.get?_push_size _ rfl,rfl,_,rfl⟩⟩
theorem Xz (h:PA X es t):PE X (.List es pos) (tLst t):=by
 intro pins s σ H Q I hq
 refine wpAny_List_spliced (thn (h pos pins s σ H _ I hq) fun us s1 ⟨xs,H1,I1,r,z,q⟩=>⟨by rw[← r.length];exact z,?_⟩)
 have hf:H1 s1.heap.objs.size=none:=I1.hok.fresh (Nat.le_refl _)
 refine⟨.ref s1.heap.objs.size,upd H1 s1.heap.objs.size (.lst xs),I1.laid (t':=s1.toks) (fun b u e=>Heap.get?_push_of_some _ e) (Nat.le_refl _) ?_,rfl,q _ hf⟩
 exact⟨z,us,0,r,Heap.get?_push_size _ rfl⟩
end
abbrev Sp:=List V->Hp->VK->XK->Prop
abbrev CXT:=List Env->Hp->Shared->XK->Value->Shared->Prop
structure Env0 (P:Program)(w:World)(K:W.Frag)(mg:Str->Option Value)(base:Heap)(A:Around)(outer:List Env)(s:Shared)(H:Hp):Prop where
 frames:A.frames=some outer
 mod:Mod K mg base
 bs:∀ b o,base.get? b=some o->s.heap.get? b=some o/\H b=none
 bsz:base.objs.size<=s.heap.objs.size
 funs:s.heap.FunFrames base outer
 frf:∀ b∈frs outer,H b=none
 hok:HOk P w H s.heap
 bare:AllBare s.gens
 qt:Sb.QtE A s.heap H (frs outer)
def CE (outer:List Env)(P:Program)(w:World)(H:Hp)(s:Shared)(Q:VK)(u:Value)(s':Shared):Prop :=
 ∃ v H',s'.os=s.os/\AllBare s'.gens/\Un (frs outer) [] H H' s.heap s'.heap/\HOk P w H' s'.heap/\RelV v u/\Q v H'
def CR (CX:CXT)(outer:List Env)(P:Program)(w:World)(H:Hp)(s:Shared)(Q:VK)(E:XK)(r:Result)(s':Shared):Prop :=
 match r with
 | .ok (.ret u)=>CE outer P w H s Q u s'
 | .ok _=>False
 | .error e=>CX outer H s E e s'
structure FnOk (P:Program)(w:World)(K:W.Frag)(mg:Str->Option Value)(base:Heap)(CX:CXT)(k:Nat)(f:Addr)(fd:FuncData)(ps:List Str)(sp:Sp)(sr:Bool:=false):Prop where
 len:∀ vs H Q E,sp vs H Q E->vs.length=ps.length
 run:∀ (A:Around) (outer:List Env) (s:Shared) (H:Hp) (args:Args) (us:List Value) (vs:List V) (Q:VK) (E:XK),Room k A sr->Env0 P w K mg base A outer s H->BindsTo s fd args (ps.zip us)->Vals vs us->sp vs H Q E →
  codeAny (model P w) A (.call (.ref f) args) (CR CX outer P w H s Q E) s
theorem Env0.make {P:Program}{w:World}{K:W.Frag}{mg:Str->Option Value}{base:Heap}{A:Around}{outer:List Env}{s:Shared}{H:Hp}(e:Env0 P w K mg base A outer s H)(C:Addr)(us:List Value)(kw:List (Str × Value)) :
  Env0 P w K mg base (A.under (.builtin "type.__call__" ⟨.ref C::us,kw⟩)) outer s H:=⟨by first | exact e.frames | (simpa [Around.under,Code.envs,Code.isFrame,pushEnvs] using e.frames),e.mod,e.bs,e.bsz,e.funs,e.frf,e.hok,e.bare,e.qt⟩
section
variable {X:Cx}{pins:List (Addr × Obj)}{σ:St}{H:Hp}{s s':Shared}
theorem Inv.env0 (I:Inv X pins σ H s)(hc:X.calm=true):Env0 X.prog X.w X.K X.mg X.base X.A X.stack s H :=
 ⟨I.ok.frames,I.ok.mod,I.bs,Nat.le_trans I.ok.bsz I.sz,I.stack,I.stkFree,I.hok,I.bare,(I.ok.hd hc).imp id fun ⟨p,hp,e,n⟩=>by
  obtain⟨a1,a2,a3,a4,a5⟩:=I.pin p (List.mem_append_left _ hp)
  exact⟨p.1,p.2,e,a1,n,a2,fun z=>(List.mem_cons.mp (I.stkSub p.1 z)).elim a3 a4,a5⟩⟩
theorem Inv.after {Q:VK}{u:Value}(I:Inv X pins σ H s)(h:CE X.stack X.prog X.w H s Q u s'):EP X pins σ Q u s':=by
 obtain⟨v,H',os,bare,un,hok,r,q⟩:=h
 obtain⟨hh,g,d,t,os'⟩:=s'
 obtain rfl:os'=s.os:=os
 exact⟨v,H',I.call (h':=hh) (g':=g) (d':=d) (t':=t) (ch:=[]) un hok bare (fun b z=>absurd z (by simp)),r,q⟩
end
def tCall (sp:Sp)(dvs:List V)(E:XK)(t:TA):TE:=fun σ H Q=>t σ H fun vs H1=>sp (vs++dvs) H1 Q E
def tMake (C:Addr)(sp:Sp)(dvs:List V)(E:XK)(t:TA):TE:=fun σ H Q=>t σ H fun vs H1=>∀ x dx,H1 x=none->H1 dx=none->dx≠x →
 sp (.ref x::(vs++dvs)) (upd (upd H1 dx (.own x)) x (.ins C dx [])) (fun v H2=>v=.non/\Q (.ref x) H2) E
def Binds (K:W.Frag)(fd:FuncData)(ps:List Str)(ds:List Value):Prop :=
 ∀ (s:Shared) (us:List Value),K.In s.heap->(us++ds).length=ps.length->BindsTo s fd ⟨us,[]⟩ (ps.zip (us++ds))
theorem Binds.all {K:W.Frag}{fd:FuncData}{ps:List Str}(h:∀ us:List Value,us.length=ps.length->bindArgs fd ⟨us,[]⟩=pure (ps.zip us)):Binds K fd ps []:=fun s us _ hl=>by
 rw[List.append_nil] at hl ⊢
 exact .of_eq (h us hl)
def Passes (CX:CXT)(X:Cx)(E:XK):Prop:=∀ (pins:List (Addr × Obj)) (σ:St) (H:Hp) (s:Shared) (e:Value) (s':Shared),Inv X pins σ H s->CX X.stack H s E e s'->X.xe e s'
section
variable {X:Cx}{CX:CXT}{k:Nat}{f C:Addr}{fd:FuncData}{ps:List Str}{sp:Sp}{dvs:List V}{ds:List Value}{E:XK}{x m:Str}{p pos apos:Pos}{e o:Expr}{es:List Expr}{ta:TE}{t:TA}
theorem Z23 {pins:List (Addr × Obj)}{σ:St}{H:Hp}{s:Shared}{Q:VK}{us:List Value}{vs:List V}{sr:Bool}(F:FnOk X.prog X.w X.K X.mg X.base CX k f fd ps sp sr)(hr:Room k X.A sr)(hb:Binds X.K fd ps ds)(hd:Vals dvs ds)(hx:Passes CX X E)(hc:X.calm=true)
  (I:Inv X pins σ H s) (r:Vals vs us) (h:sp (vs++dvs) H Q E):wpAny (model X.prog X.w) X.A (call (.ref f) us) (EP X pins σ Q) X.xe s:=by
 have r2:Vals (vs++dvs) (us++ds):=r.append hd
 have hl:(us++ds).length=ps.length:=by rw[← r2.length];exact F.len _ _ _ _ h
 refine wpAny_call (codeAny_mono (F.run X.A X.stack s H ⟨us,[]⟩ (us++ds) (vs++dvs) Q E hr (I.env0 hc) (hb s us I.kIn hl) r2 h) fun r s' hq=>?_)
 cases r with
 | error e=>exact hx pins σ H s e s' I hq
 | ok fl =>
  cases fl with
  | ret u=>exact I.after hq
  | next=>exact False.elim hq
  | brk=>exact False.elim hq
  | cont=>exact False.elim hq
theorem Z0b {sr:Bool}(F:FnOk X.prog X.w X.K X.mg X.base CX k f fd ps sp sr)(hr:Room k X.A sr)(hg:Gl X x)(hm:X.mg x=some (.ref f))(hk:W.keepIn X.K (.ref f)=true)(hb:Binds X.K fd ps ds)(hd:Vals dvs ds)(hx:Passes CX X E)
  (ha:PA X (e::es) t) (hdb:(x == ("__debug__":Str))=false:=by decide) (he:starEach (e::es) X.env=(false,eval e X.env)::starEach es X.env:=by rfl) (hpl:(backTo pos (starEach es X.env)).any (·.1)=false:=by rfl) (hc:X.calm=true:=by rfl) :
  PE X (.Call (.Name x p) (e::es) [] pos) (tCall sp dvs E t):=by
 intro pins s σ H Q I h
 refine wpAny_Call_Name_kw (Pu I hg hm ?_ hdb)
 refine W.callWith_K (h₀:=X.base) I.ok.mod.kin hk (thn (ha pos pins s σ H _ I h) fun us s1 ⟨vs,H1,I1,r,q⟩=>⟨I1.kIn,?_⟩) he hpl
 exact Z23 F hr hb hd hx hc I1 r q
structure Mk (K:W.Frag)(C f:Addr):Prop where
 makes:W.makesIn K C=true
 init:W.findIn K (.ref C) "__init__"=some (some (.ref f))
 fn:W.isFn K (.ref f)=true
 kp:W.keepIn K (.ref C)=true
theorem Db {pins:List (Addr × Obj)}{σ:St}{H:Hp}{s:Shared}{Q:VK}{us:List Value}{vs:List V}(M:Mk X.K C f){sr:Bool}(F:FnOk X.prog X.w X.K X.mg X.base CX k f fd ps sp sr)(hr:Room (k+1) X.A sr)(hb:Binds X.K fd ps ds)(hd:Vals dvs ds)
  (hx:Passes CX X E) (hc:X.calm=true) (I:Inv X pins σ H s) (r:Vals vs us)
  (h:∀ x dx,H x=none->H dx=none->dx≠x->sp (.ref x::(vs++dvs)) (upd (upd H dx (.own x)) x (.ins C dx [])) (fun v H2=>v=.non/\Q (.ref x) H2) E) :
  wpAny (model X.prog X.w) X.A (call (.ref C) us) (EP X pins σ Q) X.xe s:=by
 have hq:=h (s.heap.objs.size+1) s.heap.objs.size (I.hok.fresh (Nat.le_succ _)) (I.hok.fresh (Nat.le_refl _)) (Nat.ne_of_lt (Nat.lt_succ_self _))
 have I2:=Inv.made (C:=C) I
 have r2:Vals (V.ref (s.heap.objs.size+1)::(vs++dvs)) (Value.ref (s.heap.objs.size+1)::(us++ds)):=.cons rfl (r.append hd)
 have hl:(Value.ref (s.heap.objs.size+1)::us++ds).length=ps.length:=by
  have e:=r2.length
  rw[F.len _ _ _ _ hq] at e
  exact e.symm
 refine wpAny_call (Cu (f:=f) I.kIn M.makes M.init (beq_iff_eq.mp M.fn) (codeAny_mono (F.run _ X.stack _ _ ⟨Value.ref (s.heap.objs.size+1)::us,[]⟩ (Value.ref (s.heap.objs.size+1)::(us++ds)) _ _ E (hr.make C us [])
  ((I2.env0 hc).make C us []) (hb _ (Value.ref (s.heap.objs.size+1)::us) I2.kIn hl) r2 hq) fun r s' hq'=>?_))
 cases r with
 | error e=>exact hx pins σ _ _ e s' I2 hq'
 | ok fl =>
  cases fl with
  | ret u =>
   obtain⟨v,H',I3,rv,ev,q3⟩:=I2.after hq'
   subst ev
   exact⟨rv,⟨V.ref (s.heap.objs.size+1),H',I3,rfl,q3⟩⟩
  | next=>exact False.elim hq'
  | brk=>exact False.elim hq'
  | cont=>exact False.elim hq'
theorem Ja (M:Mk X.K C f){sr:Bool}(F:FnOk X.prog X.w X.K X.mg X.base CX k f fd ps sp sr)(hr:Room (k+1) X.A sr)(hg:Gl X x)(hm:X.mg x=some (.ref C))(hb:Binds X.K fd ps ds)(hd:Vals dvs ds)(hx:Passes CX X E)
  (ha:PA X (e::es) t) (hdb:(x == ("__debug__":Str))=false:=by decide) (he:starEach (e::es) X.env=(false,eval e X.env)::starEach es X.env:=by rfl) (hpl:(backTo pos (starEach es X.env)).any (·.1)=false:=by rfl) (hc:X.calm=true:=by rfl) :
  PE X (.Call (.Name x p) (e::es) [] pos) (tMake C sp dvs E t):=by
 intro pins s σ H Q I h
 refine wpAny_Call_Name_kw (Pu I hg hm ?_ hdb)
 refine W.callWith_K (h₀:=X.base) I.ok.mod.kin M.kp (thn (ha pos pins s σ H _ I h) fun us s1 ⟨vs,H1,I1,r,q⟩=>⟨I1.kIn,?_⟩) he hpl
 exact Db M F hr hb hd hx hc I1 r q
end
section
variable {X:Cx}{CX:CXT}{k:Nat}{f C:Addr}{fd:FuncData}{ps ks:List Str}{sp:Sp}{E:XK}{x m:Str}{p pos apos kpos:Pos}{e o:Expr}{es:List Expr}{kws:List Keyword}{te ta:TE}{t tk:TA}{nm:Option Str}
variable {g:List Value->List Value->List Value}{gV:List V->List V->List V}
end
structure FnScope (N P:List Str)(sc:Scope):Prop where
 kind:sc.kind=.function
 co:sc.isCoroutine=false
 gen:sc.isGenerator=false
 nd:N.Nodup
 pre:N.take P.length=P
 par:∀ x∈P,sc.names.lookup x=some .local \/ sc.names.lookup x=some .cell
 nofree:∀ y∈sc.names,y.2≠.free
theorem fsc {N P:List Str}{sc:Scope}(a:sc.kind=.function:=by rfl)(b:sc.isCoroutine=false:=by rfl)(c:sc.isGenerator=false:=by rfl)(d:N.Nodup:=by decide +kernel)(e:N.take P.length=P:=by rfl)(f:∀ x∈P,sc.names.lookup x=some .local ∨ sc.names.lookup x=some .cell:=by decide +kernel)(g:∀ y∈sc.names,y.2≠.free:=by decide +kernel):FnScope N P sc:=⟨a,b,c,d,e,f,g⟩
theorem Pa {kindOf:Str->Option NameKind}{x:Str}:∀ {binds:List (Str × Value)} {m:Str->Option Value},(∀ v,(x,v) ∉ binds)->bindL kindOf binds m x=m x
 | [],_,_=>rfl
 | (n,v)::r,m,h=>by
  unfold bindL
  rw[Pa fun w hw=>h w (List.mem_cons_of_mem _ hw)]
  split
  ·have:x≠n:=by rintro rfl;exact h v List.mem_cons_self
   simp[this]
  ·rfl
theorem Pc {kindOf:Str->Option NameKind}{x:Str}:∀ {binds:List (Str × Value)} {m:Str->Option Value},(∀ v,(x,v) ∉ binds)->bindC kindOf binds m x=m x
 | [],_,_=>rfl
 | (n,v)::r,m,h=>by
  unfold bindC
  rw[Pc fun w hw=>h w (List.mem_cons_of_mem _ hw)]
  split
  ·rfl
  ·have:x≠n:=by rintro rfl;exact h v List.mem_cons_self
   simp[this]
theorem Pb {kindOf:Str->Option NameKind}{x:Str}{v:Value}:∀ {P:List Str} {vs:List Value} {i:Nat} {m:Str->Option Value},P.Nodup->P[i]?=some x->vs[i]?=some v->kindOf x=some .local →
  bindL kindOf (P.zip vs) m x=some v
 | [],_,_,_,_,h,_,_=>by simp at h
 | _::_,[],_,_,_,_,h,_=>by simp at h
 | p::P,w::vs,0,m,nd,h1,h2,hk=>by
  simp at h1 h2;subst h1;subst h2
  show bindL kindOf ((p,w)::P.zip vs) m p=_
  unfold bindL
  rw[Pa fun v hv=>(List.nodup_cons.mp nd).1 (List.of_mem_zip hv).1,if_pos hk]
  simp
 | p::P,w::vs,i+1,m,nd,h1,h2,hk=>by
  show bindL kindOf ((p,w)::P.zip vs) m x=_
  unfold bindL
  exact Pb (i:=i) (List.nodup_cons.mp nd).2 (by simpa using h1) (by simpa using h2) hk
theorem Pd {kindOf:Str->Option NameKind}{x:Str}{v:Value}:∀ {P:List Str} {vs:List Value} {i:Nat} {m:Str->Option Value},P.Nodup->P[i]?=some x->vs[i]?=some v->kindOf x≠some .local →
  bindC kindOf (P.zip vs) m x=some v
 | [],_,_,_,_,h,_,_=>by simp at h
 | _::_,[],_,_,_,_,h,_=>by simp at h
 | p::P,w::vs,0,m,nd,h1,h2,hk=>by
  simp at h1 h2;subst h1;subst h2
  show bindC kindOf ((p,w)::P.zip vs) m p=_
  unfold bindC
  rw[Pc fun v hv=>(List.nodup_cons.mp nd).1 (List.of_mem_zip hv).1,if_neg hk]
  simp
 | p::P,w::vs,i+1,m,nd,h1,h2,hk=>by
  show bindC kindOf ((p,w)::P.zip vs) m x=_
  unfold bindC
  exact Pd (i:=i) (List.nodup_cons.mp nd).2 (by simpa using h1) (by simpa using h2) hk
def start (N:List Str)(vs:List V):St:=vs.map some++List.replicate (N.length - vs.length) none
def cxOf (CX:CXT)(P:Program)(w:World)(K:W.Frag)(mg:Str->Option Value)(base:Heap)(N:List Str)(qual:Str)(scope:Scope)(f:Addr)(cd:Value)(A:Around)(outer:List Env)(s:Shared)(H:Hp)(E:XK):Cx where
 prog:=P
 w:=w
 K:=K
 mg:=mg
 base:=base
 A:=A.deeper (envOfC qual scope s.heap.objs.size f cd)
 N:=N
 s₀:=s
 H₀:=H
 env:=envOfC qual scope s.heap.objs.size f cd
 outer:=outer
 stack:=envOfC qual scope s.heap.objs.size f cd::outer
 ex:=[]
 calm:=true
 fn:=fun _=>true
 pn:=Sb.qpin A s.heap
 xe:=fun e s'=>wpAny (model P w) (A.deeper (envOfC qual scope s.heap.objs.size f cd)) (leaving (envOfC qual scope s.heap.objs.size f cd) e) (fun _ s''=>CX outer H s E e s'') (fun e' s''=>CX outer H s E e' s'') s'
theorem L5 {sc:Scope}{n:Nat}{x:Str}(h:sc.names.lookup x=some .cell):∃ c,(cellsFrom n sc.names []).lookup x=some c:=by
 have q:=W.cellsFrom_some sc.names n [] (.inl h)
 exact Option.isSome_iff_exists.mp q
theorem F4 {CX:CXT}{P:Program}{w:World}{K:W.Frag}{mg:Str->Option Value}{base:Heap}{N ps:List Str}{qual:Str}{scope:Scope}{f:Addr}{cd:Value}{A:Around}{outer:List Env}{s s1:Shared}{H:Hp}{E:XK}{us:List Value}{vs:List V}
  (S:FnScope N ps scope) (e0:Env0 P w K mg base A outer s H) (hl:vs.length=ps.length) (r:Vals vs us)
  (x:InCallC s s.heap.objs.size (bindL (envOfC qual scope s.heap.objs.size f cd).kindOf (ps.zip us) fun _=>none) (cellsFrom (s.heap.objs.size+1) scope.names []) (bindC (envOfC qual scope s.heap.objs.size f cd).kindOf (ps.zip us) fun _=>none) s1) :
  Inv (cxOf CX P w K mg base N qual scope f cd A outer s H E) [] (start N vs) H s1:=by
 have hpl:ps.length<=N.length:=by have:=congrArg List.length S.pre;rw[List.length_take] at this;omega
 obtain⟨h1,tk,rfl,hk⟩:=x.done
 have noA:∀ b:Addr,b ∉ (cxOf CX P w K mg base N qual scope f cd A outer s H E).ex:=fun b z=>absurd (show b∈([]:List Addr) from z) (by simp)
 refine⟨⟨e0.mod,S.kind,rfl,rfl,Nat.le_refl _,fun y z c h1 h2=>?_,fun y hy=>?_,fun y c _ h=>?_,fun _=>e0.qt.pin,Around.frames_deeper e0.frames,.inr ⟨rfl,rfl⟩,fun b z=>absurd z (noA b),e0.bs,e0.bsz,fun b _ _=>noA b,fun b z=>absurd z (noA b),e0.funs,e0.frf⟩,
  rfl,e0.bare,Un.kept hk,⟨_,x.toInCall.ns,fun i y v h1 h2 h3=>?_⟩,fun y c h=>⟨_,x.cell y c h⟩,e0.hok.fresh (Nat.le_refl _),fun y c h=>?_,fun p hp=>?_,e0.hok.kept hk,?_⟩
 rotate_right 2
 ·obtain⟨a1,a2,a3,a4⟩:=e0.qt.mem p ((List.mem_append.mp hp).elim id fun z=>absurd z (by simp))
  exact⟨hk _ _ a1,a2,Nat.ne_of_lt (Heap.lt_size a1),a3,a4⟩
 rotate_left 1
 ·exact name_of_addr x.apart (PySem.mem_of_lookup h1) (PySem.mem_of_lookup h2)
 ·have hy:scope.names.lookup y=some .cell \/ scope.names.lookup y=some .free:=hy
  rcases hy with hy | hy
  ·exact L5 hy
  ·exact absurd rfl (S.nofree _ (PySem.mem_of_lookup hy))
 ·exact Nat.le_of_lt (x.above y c (PySem.mem_of_lookup h))
 ·have hi:i<vs.length:=by
   unfold start at h2
   by_cases hi:i<vs.length
   ·exact hi
   ·rw[List.getElem?_append_right (by simpa using hi)] at h2
    rw[List.getElem?_replicate] at h2
    split at h2 <;> cases h2
  have ha:vs[i]?=some v:=by
   unfold start at h2
   rw[List.getElem?_append_left (by simpa using hi),List.getElem?_map] at h2
   cases e:vs[i]? with
   | none=>rw[e] at h2;cases h2
   | some a=>rw[e] at h2;cases h2;rfl
  obtain⟨u,hu,rv⟩:=r.get ha
  have hp:ps[i]?=some y:=by
   rw[← S.pre,List.getElem?_take_of_lt (by omega)];exact h1
  have ndP:ps.Nodup:=by rw[← S.pre];exact S.nd.sublist (List.take_sublist _ _)
  refine⟨u,rv,?_⟩
  rcases S.par y (List.mem_of_getElem? hp) with k | k
  ·exact .inl ⟨k,Pb ndP hp hu k⟩
  ·obtain⟨c,e⟩:=L5 (n:=s.heap.objs.size+1) k
   refine .inr ⟨.inl k,c,e,?_⟩
   have q:=x.cell y c e
   rw[Pd ndP hp hu (by show scope.names.lookup y≠_;rw[k];decide)] at q
   exact q
 ·exact e0.hok.fresh (Nat.le_of_lt (x.above y c (PySem.mem_of_lookup h)))
 ·unfold start
  show _=N.length
  rw[List.length_append,List.length_map,List.length_replicate]
  omega
theorem Z3r {CX:CXT}{P:Program}{w:World}{K:W.Frag}{mg:Str->Option Value}{base:Heap}{k:Nat}{f:Addr}{name qual:Str}{params:Arguments}{body:List Stmt}{scope:Scope}{dV kV doc pm cdv ct oc:Value}{an od:Option Addr}
  {osl:Array (Option Value)} {N ps:List Str} {sp:Sp} {sr:Bool} (lk:K.lookup f=some ⟨oc,od,.func (W.fnOf name qual params body scope dV kV doc pm an cdv ct),osl⟩) (hcd:W.codeIn K cdv qual=true) (S:FnScope N ps scope)
  (len:∀ vs H Q E,sp vs H Q E->vs.length=ps.length)
  (hbody:∀ (A:Around) (outer:List Env) (s:Shared) (H:Hp) (vs:List V) (Q:VK) (E:XK),Room k (A.deeper (envOfC qual scope s.heap.objs.size f cdv)) sr->sp vs H Q E →
   ∃ t,PSs (cxOf CX P w K mg base N qual scope f cdv A outer s H E) body t/\t { nx:=fun _ H'=>Q .non H',rt:=Q } (start N vs) H) :
  FnOk P w K mg base CX (k+1) f (W.fnOf name qual params body scope dV kV doc pm an cdv ct) ps sp sr:=by
 refine⟨len,fun A outer s H args us vs Q E hr e0 hb r hsp=>?_⟩
 have hl:=len _ _ _ _ hsp
 have KX:K.In s.heap:=e0.mod.kin.keeps fun b o e=>(e0.bs b o e).1
 have lim:s.heap.NoLimit:=e0.mod.nolimit.keeps fun b o e=>(e0.bs b o e).1
 have hkind:∀ y∈ps.zip us,scope.names.lookup y.1=some .local \/ (scope.names.lookup y.1=some .cell/\((cellsFrom (s.heap.objs.size+1) scope.names []).lookup y.1).isSome=true):=fun ⟨n,v⟩ hy=>by
  rcases S.par n (List.of_mem_zip hy).1 with q | q
  ·exact .inl q
  ·exact .inr ⟨q,W.cellsFrom_some _ _ _ (.inl q)⟩
 refine codeAny_call_function hr.depth (KX _ _ lk) rfl S.co S.gen rfl (W.codeRec_of KX hcd) (hb _ _ _ _ ?_)
 refine wpAny_newFunctionEnv_cells S.kind hkind fun env he s1 x=>?_
 subst he
 refine⟨lim.keeps x.toInCall.keep,codeAny_func ?_⟩
 obtain⟨t,ht,hq⟩:=hbody A outer s H vs Q E (hr.deeper _) hsp
 have I:Inv (cxOf CX P w K mg base N qual scope f cdv A outer s H E) [] (start N vs) H s1:=F4 S e0 hl r x
 refine wpAny_mono (ht [] s1 (start N vs) H _ I hq) (fun fl s' hs=>?_) fun e s' hs=>hs
 have fin:∀ {σ':St} {H':Hp} {v:V} {u:Value},Inv (cxOf CX P w K mg base N qual scope f cdv A outer s H E) [] σ' H' s'->RelV v u->Q v H'->CE outer P w H s Q u s' :=
  fun {σ' H' v u} J rv q=>⟨v,H',J.os,J.bare,J.base,J.hok,rv,q⟩
 cases fl with
 | ret u =>
  obtain⟨v,σ',H',J,rv,q⟩:=hs
  exact fin J rv q
 | next =>
  obtain⟨σ',H',J,q⟩:=hs
  exact fin (v:=V.non) (u:=Value.none) J rfl q
 | brk =>
  obtain⟨_,_,_,q⟩:=hs
  exact False.elim q
 | cont =>
  obtain⟨_,_,_,q⟩:=hs
  exact False.elim q
end L2
namespace L2
open PySem PySem.Spec PyProof.Rows
section
variable {X:Cx}{x:Str}{p pos:Pos}{e:Expr}{es:List Expr}{t:TA}{id T:String}{r:List V->Hp->VK->Prop}
def tCB (r:List V->Hp->VK->Prop)(t:TA):TE:=fun σ H Q=>t σ H fun vs H1=>r vs H1 Q
theorem Zz (hc:CallR X (.builtin id) r)(hg:Gl X x)(hm:X.mg x=none)(hv:bootBuiltins x=some (.builtin id))(ha:PA X (e::es) t)(hn:x≠"__name__":=by decide)(hdb:(x == ("__debug__":Str))=false:=by decide)
  (he:starEach (e::es) X.env=(false,eval e X.env)::starEach es X.env:=by rfl) (hpl:(backTo pos (starEach es X.env)).any (·.1)=false:=by rfl):PE X (.Call (.Name x p) (e::es) [] pos) (tCB r t):=by
 intro pins s σ H Q I h
 refine wpAny_Call_Name_kw (We I hg hm hv ?_ hn hdb)
 exact PyProof.Rows.callWith_builtin1 (thn (ha pos pins s σ H _ I h) fun us s1 ⟨vs,H1,I1,r1,q1⟩=>hc pins s1 σ H1 vs us Q I1 r1 q1) he hpl
theorem Zy (hc:CallR X (.type T) r)(hg:Gl X x)(hm:X.mg x=none)(hv:bootBuiltins x=some (.type T))(ha:PA X (e::es) t)(hn:x≠"__name__":=by decide)(hdb:(x == ("__debug__":Str))=false:=by decide)
  (he:starEach (e::es) X.env=(false,eval e X.env)::starEach es X.env:=by rfl) (hpl:(backTo pos (starEach es X.env)).any (·.1)=false:=by rfl):PE X (.Call (.Name x p) (e::es) [] pos) (tCB r t):=by
 intro pins s σ H Q I h
 refine wpAny_Call_Name_kw (We I hg hm hv ?_ hn hdb)
 exact PyProof.Rows.callWith_type1 (thn (ha pos pins s σ H _ I h) fun us s1 ⟨vs,H1,I1,r1,q1⟩=>hc pins s1 σ H1 vs us Q I1 r1 q1) he hpl
end
end L2
namespace HT
open PySem PyProof.Rows
section
open PySem.SeqAt
open PySem.AutoSeq1 (wpAny_loadPart')
open PySem.MeetsSeq PySem.MeetsSeq2 PySem.MeetsSeq3
end
section
variable {prog:Program}{w:World}{A:Around}{E:Value->Shared->Prop}{s:Shared}
def sIx (n d:Nat):Option Int->Nat
 | none=>d
 | some v=>if v<0 then (v+(n:Int)).toNat else min v.toNat n
theorem sIx_none (n d:Nat):sIx n d none=d:=rfl
theorem sIx_nat (n d k:Nat):sIx n d (some (k:Int))=min k n:=by
 show (if (k:Int)<0 then ((k:Int)+(n:Int)).toNat else min (k:Int).toNat n)=min k n
 rw[if_neg (by omega),Int.toNat_natCast]
end
end HT
namespace L2
open PySem PySem.Spec PyProof.Rows
abbrev TO:=St->Hp->(Option Int->Hp->Prop)->Prop
def PO (X:Cx)(e:Option Expr)(t:TO):Prop :=
 ∀ (pins:List (Addr × Obj)) (s:Shared) (σ:St) (H:Hp) (Q:Option Int->Hp->Prop),Inv X pins σ H s->t σ H Q →
  wpAny (model X.prog X.w) X.A (evalPart e X.env) (fun u s'=>∃ o H',Inv X pins σ H' s'/\IsPart u o/\Q o H') X.xe s
def tNoPart:TO:=fun _ H Q=>Q none H
def tPart (t:TE):TO:=fun σ H Q=>t σ H fun x H1=>∃ i,x=.int i/\Q (some i) H1
theorem Q0 {ns:List Int}:∀ {us:List Value},Vals (ns.map V.int) us->IntsAre us ns:=by
 induction ns with
 | nil=>intro us r;rw[List.map_nil] at r;cases r;exact .nil
 | cons n ns ih =>
  intro us r
  rw[List.map_cons] at r
  cases r with
  | cons r1 r2 =>
   obtain⟨t,e⟩:=r1
   subst e
   exact .cons n t (ih r2)
section
variable {X:Cx}{e:Expr}{te:TE}{lo hi:Option Expr}{tl th:TO}{pos p2:Pos}
theorem Z08:PO X none tNoPart:=by
 intro pins s σ H Q I h
 rw[evalPart_none]
 exact wpAny_pure ⟨none,H,I,.none,h⟩
theorem Z07 (h:PE X e te):PO X (some e) (tPart te):=by
 intro pins s σ H Q I hw
 rw[evalPart_some]
 refine thn (h pins s σ H _ I hw) fun u s1 ⟨x,H1,I1,r1,q1⟩=>?_
 obtain⟨i,rfl,q⟩:=q1
 obtain⟨t,rfl⟩:=r1
 exact⟨some i,H1,I1,.int i t,q⟩
def SlR (X:Cx)(r:V->Option Int->Option Int->Hp->VK->Prop):Prop :=
 ∀ (pins:List (Addr × Obj)) (s:Shared) (σ:St) (H:Hp) (x:V) (v vl vu:Value) (lo hi:Option Int) (sl:Addr) (Q:VK),Inv X pins σ H s->RelV x v->s.heap.IsSliceOf sl vl vu .none->IsPart vl lo->IsPart vu hi->r x lo hi H Q →
  ∃ T id,typeLookup (.type T) "__getitem__"=pure (some (.builtin id))/\s.TypeIs v T/\wpAny (model X.prog X.w) X.A (getItem v (.ref sl)) (EP X pins σ Q) X.xe s
def tSl (r:V->Option Int->Option Int->Hp->VK->Prop)(te:TE)(tl th:TO):TE:=fun σ H Q=>te σ H fun x H1=>tl σ H1 fun l H2=>th σ H2 fun u H3=>r x l u H3 Q
theorem Ds {r:V->Option Int->Option Int->Hp->VK->Prop}(hr:SlR X r)(he:PE X e te)(hl:PO X lo tl)(hu:PO X hi th):PE X (.Subscript e (.Slice lo hi none p2) pos) (tSl r te tl th):=by
 intro pins s σ H Q I h
 refine Subscript_ (thn (he pins s σ H _ I h) fun v s1 ⟨x,H1,I1,r1,q1⟩=>?_)
 refine wpAny_Slice (thn (hl pins s1 σ H1 _ I1 q1) fun vl s2 ⟨l,H2,I2,pl,q2⟩=>thn (hu pins s2 σ H2 _ I2 q2) fun vu s3 ⟨u,H3,I3,pu,q3⟩=>?_)
 rw[evalPart_none]
 refine wpAny_pure ?_
 have I4:Inv X pins σ H3 { s3 with heap:=s3.heap.push { cls:=.type "slice",data:=.fields #[vl,vu,.none] } }:=I3.kept (t':=s3.toks) fun b ob q=>Heap.get?_push_of_some _ q
 obtain⟨T,id,hT,ht,hg⟩:=hr pins { s3 with heap:=s3.heap.push { cls:=.type "slice",data:=.fields #[vl,vu,.none] } } σ H3 x v vl vu l u s3.heap.objs.size Q I4 r1 (Heap.IsSliceOf.new ..) pl pu q3
 show wpAny (model X.prog X.w) X.A (subscriptTail e (.Slice lo hi none p2) v (.ref s3.heap.objs.size)) (EP X pins σ Q) X.xe { s3 with heap:=s3.heap.push { cls:=.type "slice",data:=.fields #[vl,vu,.none] } }
 exact tail_any (ops:=[.ref s3.heap.objs.size,v]) ht hT hg (by with_unfolding_all rfl)
def cutV (xs:List V)(lo hi:Option Int):List V:=(xs.drop (HT.sIx xs.length 0 lo)).take (HT.sIx xs.length xs.length hi - HT.sIx xs.length 0 lo)
theorem My (xs:List V)(lo hi:Option Int):(cutV xs lo hi).length<=xs.length:=by
 unfold cutV
 rw[List.length_take,List.length_drop]
 omega
end
end L2
namespace L2
open PySem PySem.Spec PyProof.Rows
def ixN (n:Nat)(i:Int):Option Nat:=if 0<=i then (if i<n then some i.toNat else none) else if -(n:Int)<=i then some (i+n).toNat else none
def atI {α:Type}(xs:List α)(i:Int):Option α:=(ixN xs.length i).bind fun j=>xs[j]?
theorem Jj {n:Nat}{i:Int}{j:Nat}(h:ixN n i=some j):seqIndex? i n=some j/\j<n/\-(n:Int)<=i/\i<n:=by
 unfold ixN at h
 by_cases h0:0<=i
 ·rw[if_pos h0] at h
  by_cases h1:i<n
  ·rw[if_pos h1] at h
   have e:i.toNat=j:=Option.some.inj h
   exact⟨by rw[seqIndex_of h0 h1,e],by omega,by omega,h1⟩
  ·rw[if_neg h1] at h;cases h
 ·rw[if_neg h0] at h
  by_cases h1:-(n:Int)<=i
  ·rw[if_pos h1] at h
   have e:(i+n).toNat=j:=Option.some.inj h
   exact⟨by rw[seqIndex_neg (by omega) h1,e],by omega,h1,by omega⟩
  ·rw[if_neg h1] at h;cases h
theorem Jy {α:Type}{xs:List α}{i:Int}{v:α}(h:atI xs i=some v):∃ j,seqIndex? i xs.length=some j/\xs[j]?=some v/\j<xs.length/\-(xs.length:Int)<=i/\i<xs.length:=by
 unfold atI at h
 cases e:ixN xs.length i with
 | none=>rw[e] at h;cases h
 | some j =>
  rw[e] at h
  obtain⟨h1,h2,h3,h4⟩:=Jj e
  exact⟨j,h1,h,h2,h3,h4⟩
theorem Zg {α:Type}{xs:List α}{j:Nat}{v:α}(h:xs[j]?=some v):atI xs (j:Int)=some v:=by
 have hj:j<xs.length:=(List.getElem?_eq_some_iff.mp h).1
 have e:ixN xs.length (j:Int)=some j:=by
  unfold ixN
  rw[if_pos (by omega),if_pos (by omega)];simp
 unfold atI;rw[e];exact h
def PlainIx (b:Expr):Prop:=∀ o i,subscripted b false o i=operate [o,i] (getItem o i)
def IxR (X:Cx)(r:R2):Prop :=
 ∀ (value slice:Expr) (pins:List (Addr × Obj)) (s:Shared) (σ:St) (H:Hp) (x y:V) (v u:Value) (Q:VK),Inv X pins σ H s->RelV x v->RelV y u->r x y H Q →
  subscripted slice false v u=operate [v,u] (getItem v u)->wpAny (model X.prog X.w) X.A (subscriptTail value slice v u) (EP X pins σ Q) X.xe s
def MtR (X:Cx)(id:String)(r:V->List V->Hp->VK->Prop):Prop :=
 ∀ (pins:List (Addr × Obj)) (s:Shared) (σ:St) (H:Hp) (x:V) (xs:List V) (v:Value) (us:List Value) (Q:VK),Inv X pins σ H s->RelV x v->Vals xs us->r x xs H Q →
  wpAny (model X.prog X.w) X.A (call (.builtin id) (v::us)) (EP X pins σ Q) X.xe s
section
variable {X:Cx}{a b:Expr}{ta tb:TE}{pos:Pos}
theorem Zh {r:R2}(hr:IxR X r)(ha:PE X a ta)(hb:PE X b tb)(hs:PlainIx b):PE X (.Subscript a b pos) (tOp r ta tb):=by
 intro pins s σ H Q I h
 exact Subscript_ (Z34 ha hb I h fun v u s2 x y H2 I2 rx ry q=>hr a b pins s2 σ H2 x y v u Q I2 rx ry q (hs _ _))
def rIxL (K:W.Frag):R2:=fun x y H Q=>∃ p xs i v,x=.ref p/\y=.int i/\SqL K H p xs/\atI xs i=some v/\Q v H
def rIxT (K:W.Frag):R2:=fun x y H Q=>∃ p xs i v,x=.ref p/\y=.int i/\SqT K H p xs/\atI xs i=some v/\Q v H
theorem Y2:IxR X (rIxL X.K):=by
 intro value slice pins s σ H x y v u Q I rx ry h hs
 obtain⟨p,xs,i,z,rfl,rfl,hq,he,q⟩:=h
 cases rx
 obtain⟨t,rfl⟩:=ry
 obtain⟨its,r,pl,hz⟩:=I.list hq
 obtain⟨j,h1,h2,h3,h4,h5⟩:=Jy he
 obtain⟨w,ew,rw'⟩:=r.get h2
 have hl:=r.length
 have hn:=Ry
 have fin:EP X pins σ Q w s:=⟨z,H,I,rw',q⟩
 by_cases h0:0<=i
 ·have hj:i.toNat=j:=by
   rw[seqIndex_of h0 h5] at h1
   exact Option.some.inj h1
  exact item_listR pl.isList h0 (by omega) (by rw[hj];simpa using ew) fin hs
 ·have hj:(i+(its.toArray.size:Int)).toNat=j:=by
   rw[seqIndex_neg (by omega) h4] at h1
   rw[List.size_toArray,← hl]
   exact Option.some.inj h1
  exact subscriptTail_builtinR (x:=w) pl.isList.typeIs slot_list_getitem.lookup
   (wpAny_getItem_list_neg (Q:=fun r s'=>r=w/\EP X pins σ Q r s') pl.isList (by omega) (by rw[List.size_toArray] <;> omega) (by omega) (by rw[hj];simpa using ew) ⟨rfl,fin⟩) hs
theorem Y8:IxR X (rIxT X.K):=by
 intro value slice pins s σ H x y v u Q I rx ry h hs
 obtain⟨p,xs,i,z,rfl,rfl,hq,he,q⟩:=h
 cases rx
 obtain⟨t,rfl⟩:=ry
 obtain⟨its,r,pl,hz⟩:=I.tuple hq
 obtain⟨j,h1,h2,h3,h4,h5⟩:=Jy he
 obtain⟨w,ew,rw'⟩:=r.get h2
 have hl:=r.length
 have hn:=Ry
 have fin:EP X pins σ Q w s:=⟨z,H,I,rw',q⟩
 exact subscriptTail_builtinR (x:=w) pl.typeIs slot_tuple_getitem.lookup
  (getItem_tuple (j:=j) (Q:=fun r s'=>r=w/\EP X pins σ Q r s') pl (by omega) (by omega) (by rw[List.size_toArray,← hl];exact h1) (by simpa using ew) ⟨rfl,fin⟩) hs
theorem K1 (its:List Value)(n j:Nat)(u:Value):Obj.mapSeq (·.setIfInBounds j u) { cls:=.type "list",data:=.seq its.toArray n }={ cls:=.type "list",data:=.seq (its.set j u).toArray n }:=by
 simp[Obj.mapSeq]
theorem Inv.lst {pins:List (Addr × Obj)}{σ:St}{H:Hp}{s:Shared}{p:Addr}{xs:List V}(I:Inv X pins σ H s)(h:H p=some (.lst xs)) :
  ∃ (its:List Value) (n:Nat),Vals xs its/\s.heap.get? p=some { cls:=.type "list",data:=.seq its.toArray n }/\xs.length<=sizeLine:=by
 obtain⟨z,its,n,r,e⟩:=I.hok p _ h
 exact⟨its,n,r,e,z⟩
theorem Inv.lstUpd {pins:List (Addr × Obj)}{σ:St}{H:Hp}{s:Shared}{p:Addr}{xs ys:List V}{its its':List Value}{n n':Nat}{f:Obj->Obj}(I:Inv X pins σ H s)(h:H p=some (.lst xs))
  (ho:s.heap.get? p=some { cls:=.type "list",data:=.seq its.toArray n }) (hf:f { cls:=.type "list",data:=.seq its.toArray n }={ cls:=.type "list",data:=.seq its'.toArray n' }) (r:Vals ys its') (hz:ys.length<=sizeLine) (t:Nat) :
  Inv X pins σ (upd H p (.lst ys)) { s with heap:=s.heap.update p f,toks:=t }:=by
 have e:(s.heap.update p f).get? p=some { cls:=.type "list",data:=.seq its'.toArray n' }:=by
  rw[Heap.get?_update_self f ho (by rw[hf] <;> rfl),hf]
 refine I.write (x:=p) (e:=p) (by rw[h];trivial) (.inl rfl) (fun b u hb q=>(Heap.get?_update_other _ _ (Ne.symm hb)).trans q) ⟨_,e⟩ ?_
 exact⟨hz,its',n',r,e⟩
def rSetL:V->V->V->Hp->(Hp->Prop)->Prop:=fun o i v H Q=>∃ p xs k j,o=.ref p/\i=.int k/\H p=some (.lst xs)/\ixN xs.length k=some j/\Q (upd H p (.lst (xs.set j v)))
theorem Vj:PSet X rSetL:=by
 intro pins s σ H o i v ov iv u Q I ro ri rv h
 obtain⟨p,xs,k,j,rfl,rfl,hp,hj,q⟩:=h
 cases ro
 obtain⟨t,rfl⟩:=ri
 obtain⟨its,n,r,ho,hz⟩:=I.lst hp
 obtain⟨h1,h2,h3,h4⟩:=Jj hj
 have hl:=r.length
 have hn:=Ry
 have I':Inv X pins σ (upd H p (.lst (xs.set j v))) { s with heap:=s.heap.update p (Obj.mapSeq (·.setIfInBounds j u)) } :=
  I.lstUpd hp ho (K1 its n j u) (r.set rv j) (by rw[List.length_set];exact hz) s.toks
 by_cases h0:0<=k
 ·have hk:k.toNat=j:=by
   rw[seqIndex_of h0 h4] at h1
   exact Option.some.inj h1
  exact W.ki_setAt ho h0 (by omega) (by rw[List.size_toArray,← hl];exact h4) (by rw[hk];exact⟨_,I',q⟩)
 ·have hk:(k+(its.toArray.size:Int)).toNat=j:=by
   rw[seqIndex_neg (by omega) h3] at h1
   rw[List.size_toArray,← hl]
   exact Option.some.inj h1
  exact W.ki_setBack ho (by omega) (by rw[List.size_toArray,← hl];exact h3) (by omega) (by rw[hk];exact⟨_,I',q⟩)
theorem Pf (lo hi:Option Int)(n:Nat):(sliceBounds lo hi none n).1=((HT.sIx n 0 lo:Nat):Int)/\(sliceBounds lo hi none n).2.1=((HT.sIx n n hi:Nat):Int)/\(sliceBounds lo hi none n).2.2=1:=by
 refine⟨?_,?_,rfl⟩
 ·cases lo with
  | none=>simp[sliceBounds,HT.sIx]
  | some i =>
   simp only [sliceBounds,HT.sIx,Option.getD_none,show (1:Int) > 0 by decide,if_true]
   by_cases h:i<0
   ·simp only [h,if_true] <;> omega
   ·simp only [h,if_false] <;> omega
 ·cases hi with
  | none=>simp[sliceBounds,HT.sIx]
  | some i =>
   simp only [sliceBounds,HT.sIx,Option.getD_none,show (1:Int) > 0 by decide,if_true]
   by_cases h:i<0
   ·simp only [h,if_true] <;> omega
   ·simp only [h,if_false] <;> omega
theorem Qc (its:List Value)(lo hi:Option Int):slicePick its.toArray lo hi none=((its.drop (HT.sIx its.length 0 lo)).take (HT.sIx its.length its.length hi - HT.sIx its.length 0 lo)).toArray:=by
 obtain⟨h1,h2,h3⟩:=Pf lo hi its.toArray.size
 unfold slicePick
 rw[h1,h2,h3]
 simp only [sliceRange_one,pick_run,List.size_toArray] <;> rfl
def rSlL (K:W.Frag):V->Option Int->Option Int->Hp->VK->Prop:=fun x lo hi H Q=>∃ a xs,x=.ref a/\SqL K H a xs/\∀ p,H p=none->Q (.ref p) (upd H p (.lst (cutV xs lo hi)))
theorem Bz:SlR X (rSlL X.K):=by
 intro pins s σ H x v vl vu lo hi sl Q I rx hs pl pu h
 obtain⟨a,xs,rfl,hx,q⟩:=h
 cases rx
 obtain⟨its,r,ht,hz⟩:=I.list hx
 have hlen:=r.length
 refine⟨"list",_,slot_list_getitem.lookup,ht.isList.typeIs,?_⟩
 refine wpAny_getItem_list_slice ht.isList hs pl pu .none (by simp) ?_ (by rw[List.size_toArray] <;> omega)
 rw[Qc,← hlen]
 refine⟨.ref s.heap.objs.size,_,I.laid (t':=s.toks) (o:=.lst (cutV xs lo hi)) (fun b ob q=>Heap.get?_push_of_some _ q) (Nat.le_refl _) ?_,rfl,q _ (I.hok.fresh (Nat.le_refl _))⟩
 exact⟨Nat.le_trans (My xs lo hi) hz,_,0,(r.drop (HT.sIx xs.length 0 lo)).take (HT.sIx xs.length xs.length hi - HT.sIx xs.length 0 lo),Heap.get?_push_size _ rfl⟩
def flatV:V->Bool
 | .non=>true
 | .bl _=>true
 | .int _=>true
 | .str _=>true
 | _=>false
def eqV:V->V->Bool
 | .non,.non=>true
 | .bl a,.bl b=>a == b
 | .bl a,.int b=>(if a then 1 else 0) == b
 | .int a,.bl b=>a == (if b then 1 else 0)
 | .int a,.int b=>a == b
 | .str a,.str b=>a == b
 | _,_=>false
theorem Z32 {A:Around}{s:Shared}{y x:V}{u v:Value}(ry:RelV y u)(rx:RelV x v)(fy:flatV y=true)(fx:flatV x=true):SeqAt.EqAt A s u v (eqV y x):=by
 cases y with
 | non =>
  cases ry
  cases x with
  | non=>cases rx;exact SeqAt.EqAt.same _
  | bl b=>cases rx;exact SeqAt.EqAt.none_bool b
  | int b=>obtain⟨t,rfl⟩:=rx;exact SeqAt.EqAt.none_int b t
  | str b=>obtain⟨t,rfl⟩:=rx;exact SeqAt.EqAt.none_str b t
  | _=>exact absurd (show false=true from fx) Bool.false_ne_true
 | bl a =>
  cases ry
  cases x with
  | non=>cases rx;exact SeqAt.EqAt.bool_none a
  | bl b=>cases rx;exact SeqAt.EqAt.bool_bool a b
  | int b=>obtain⟨t,rfl⟩:=rx;exact SeqAt.EqAt.bool_int a b t
  | str b=>obtain⟨t,rfl⟩:=rx;exact SeqAt.EqAt.bool_str a b t
  | _=>exact absurd (show false=true from fx) Bool.false_ne_true
 | int a =>
  obtain⟨t',rfl⟩:=ry
  cases x with
  | non=>cases rx;exact SeqAt.EqAt.int_none a t'
  | bl b=>cases rx;exact SeqAt.EqAt.int_bool a t' b
  | int b=>obtain⟨t,rfl⟩:=rx;exact SeqAt.EqAt.int_int a t' b t
  | str b=>obtain⟨t,rfl⟩:=rx;exact SeqAt.EqAt.int_str a t' b t
  | _=>exact absurd (show false=true from fx) Bool.false_ne_true
 | str a =>
  obtain⟨t',rfl⟩:=ry
  cases x with
  | non=>cases rx;exact SeqAt.EqAt.str_none a t'
  | bl b=>cases rx;exact SeqAt.EqAt.str_bool a t' b
  | int b=>obtain⟨t,rfl⟩:=rx;exact SeqAt.EqAt.str_int a t' b t
  | str b=>obtain⟨t,rfl⟩:=rx;exact SeqAt.EqAt.str_str a t' b t
  | _=>exact absurd (show false=true from fx) Bool.false_ne_true
 | _=>exact absurd (show false=true from fy) Bool.false_ne_true
def eqU (x:V)(u:Value):Bool:=match u with
 | .none=>eqV .non x
 | .bool b=>eqV (.bl b) x
 | .int i _=>eqV (.int i) x
 | .str z _=>eqV (.str z) x
 | _=>false
theorem Bk {x y:V}{u:Value}(r:RelV y u)(f:flatV y=true):eqU x u=eqV y x:=by
 cases y with
 | non=>cases r;rfl
 | bl b=>cases r;rfl
 | int i=>obtain⟨t,rfl⟩:=r;rfl
 | str z=>obtain⟨t,rfl⟩:=r;rfl
 | _=>exact absurd (show false=true from f) Bool.false_ne_true
theorem Ng {x:V}:∀ {xs:List V} {us:List Value},Vals xs us->xs.all flatV=true->us.any (eqU x)=xs.any fun y=>eqV y x
 | _,_,.nil,_=>rfl
 | y::xs,u::us,.cons r t,f=>by
  rw[List.all_cons,Bool.and_eq_true] at f
  rw[List.any_cons,List.any_cons,Bk r f.1,Ng t f.2]
theorem Rr {A:Around}{s:Shared}{x:V}{v:Value}(rx:RelV x v)(fx:flatV x=true):∀ {xs:List V} {us:List Value},Vals xs us->xs.all flatV=true->∀ u∈us,SeqAt.EqAt A s u v (eqU x u)
 | _,_,.nil,_=>fun u hu=>by cases hu
 | y::xs,u::us,.cons r t,f=>fun u' hu=>by
  rw[List.all_cons,Bool.and_eq_true] at f
  rcases List.mem_cons.mp hu with rfl | hu
  ·rw[Bk r f.1];exact Z32 r rx f.1 fx
  ·exact Rr rx fx t f.2 u' hu
def inV (x:V)(xs:List V):Bool:=xs.any fun y=>eqV y x
def rIn (K:W.Frag)(neg:Bool):R2:=fun x y H Q=>∃ p xs,y=.ref p/\(SqL K H p xs \/ SqT K H p xs)/\flatV x=true/\xs.all flatV=true/\Q (.bl (if neg then !inV x xs else inV x xs)) H
theorem W7:OpR X (compareOp .In) (rIn X.K false):=by
 intro pins s σ H x y v u Q I rx ry h
 obtain⟨p,xs,rfl,hq,fx,fs,q⟩:=h
 cases ry
 rcases hq with hq | hq
 ·obtain⟨its,r,pl,hz⟩:=I.list hq
  refine SeqAt.in_listAt (eqU x) pl.isList (fun w hw=>Rr rx fx r fs w (by simpa using hw)) ⟨.bl _,H,I,rfl,?_⟩
  rw[show its.toArray.any (eqU x)=its.any (eqU x) by simp,Ng r fs]
  exact q
 ·obtain⟨its,r,pl,hz⟩:=I.tuple hq
  refine SeqAt.in_tupleAt (eqU x) pl (fun w hw=>Rr rx fx r fs w (by simpa using hw)) ⟨.bl _,H,I,rfl,?_⟩
  rw[show its.toArray.any (eqU x)=its.any (eqU x) by simp,Ng r fs]
  exact q
theorem Y4:CallR X (.builtin "len") (fun xs H Q=>∃ p ys,xs=[.ref p]/\(SqL X.K H p ys \/ SqT X.K H p ys)/\Q (.int ys.length) H):=by
 intro pins s σ H xs us Q I r h
 obtain⟨p,ys,rfl,hq,q⟩:=h
 obtain⟨u,rfl,rx⟩:=Ub r
 cases rx
 have hn:=Ry
 rcases hq with hq | hq
 ·obtain⟨its,r',pl,hz⟩:=I.list hq
  have hlen:=r'.length
  exact Calls.call_len_list pl.isList (by simp only [List.size_toArray] <;> omega) ⟨.int ys.length,H,I.tok _,⟨s.toks+1,by rw[List.size_toArray,hlen]⟩,q⟩
 ·obtain⟨its,r',pl,hz⟩:=I.tuple hq
  have hlen:=r'.length
  exact len_tuple pl (by simp only [List.size_toArray] <;> omega) ⟨.int ys.length,H,I.tok _,⟨s.toks+1,by rw[List.size_toArray,hlen]⟩,q⟩
theorem Yv:CallR X (.type "list") (fun xs H Q=>∃ p ys,xs=[.ref p]/\(SqL X.K H p ys \/ SqT X.K H p ys)/\∀ l,H l=none->Q (.ref l) (upd H l (.lst ys))):=by
 intro pins s σ H xs us Q I r h
 obtain⟨p,ys,rfl,hq,q⟩:=h
 obtain⟨u,rfl,rx⟩:=Ub r
 cases rx
 have fin:∀ (its:List Value),Vals ys its->ys.length<=sizeLine->∀ (h':Heap) (c':Nat),(∀ b o',s.heap.get? b=some o'->h'.get? b=some o') →
   h'.get? s.heap.objs.size=some { cls:=.type "list",dict:=none,data:=.seq its.toArray c',slots:=#[] }->EP X pins σ Q (.ref s.heap.objs.size) { s with heap:=h' }:=fun its r' hz h' c' kp e =>
  ⟨.ref s.heap.objs.size,_,I.laid (t':=s.toks) kp (Nat.le_refl _) (show ObjOk X.prog X.w _ h' _ (.lst ys) from ⟨hz,its,c',r',e⟩),rfl,q _ (I.hok.fresh (Nat.le_refl _))⟩
 rcases hq with hq | hq
 ·obtain⟨its,r',pl,hz⟩:=I.list hq
  have hlen:=r'.length
  obtain⟨o,ho,hc,n,hd⟩:=pl.isList
  exact call_list_seq p (.inl rfl) ho hc hd (fun h' c' kp e=>fin its r' hz h' c' kp e) (by simp only [List.size_toArray] <;> omega)
 ·obtain⟨its,r',pl,hz⟩:=I.tuple hq
  have hlen:=r'.length
  obtain⟨o,ho,hc,n,hd⟩:=pl
  exact call_list_seq p (.inr rfl) ho hc hd (fun h' c' kp e=>fin its r' hz h' c' kp e) (by simp only [List.size_toArray] <;> omega)
theorem Zv:CallR X (.type "tuple") (fun xs H Q=>∃ p ys,xs=[.ref p]/\((SqL X.K H p ys/\∀ l,H l=none->Q (.ref l) (upd H l (.tup ys))) \/ (SqT X.K H p ys/\Q (.ref p) H))):=by
 intro pins s σ H xs us Q I r h
 obtain⟨p,ys,rfl,h⟩:=h
 obtain⟨u,rfl,rx⟩:=Ub r
 cases rx
 rcases h with ⟨hq,q⟩ | ⟨hq,q⟩
 ·obtain⟨its,r',pl,hz⟩:=I.list hq
  have hlen:=r'.length
  refine call_tuple_list pl.isList (fun h' kp=>?_) (by simp only [List.size_toArray] <;> omega)
  have I1:Inv X pins σ H { s with heap:=h' }:=I.kept (t':=s.toks) kp
  have I2:Inv X pins σ (upd H h'.objs.size (.tup ys)) { s with heap:=h'.push { cls:=.type "tuple",data:=.seq its.toArray } } :=
   I1.laid (t':=s.toks) (fun b o e=>Heap.get?_push_of_some _ e) (Nat.le_refl _) (show ObjOk X.prog X.w _ _ _ (.tup ys) from ⟨hz,its,r',IsTup.new _ _⟩)
  exact⟨.ref h'.objs.size,_,I2,rfl,q _ (I1.hok.fresh (Nat.le_refl _))⟩
 ·obtain⟨its,r',pl,hz⟩:=I.tuple hq
  exact call_tuple_same pl ⟨.ref p,H,I,rfl,q⟩
def tyV (K:W.Frag)(T:String)(x:V)(H:Hp):Prop:=match x with
 | .str _=>T="str"
 | .int _=>T="int"
 | .ref p=>(T="list"/\∃ xs,SqL K H p xs) \/ (T="tuple"/\∃ o,K.lookup p=some o/\o.cls=.type "tuple"/\o.dict=none) ∨
   (T="dict"/\((∃ kvs,H p=some (.dK kvs)) \/ ∃ kvs,H p=some (.dT kvs))) \/ (T="set"/\∃ S n,H p=some (.set S n))
 | _=>False
theorem Z20 {pins:List (Addr × Obj)}{σ:St}{H:Hp}{s:Shared}{T:String}{x:V}{v:Value}(I:Inv X pins σ H s)(r:RelV x v)(ty:tyV X.K T x H) :
  s.TypeIs v T/\∀ a,v=.ref a->∃ ob,s.heap.get? a=some ob/\ob.dict=none:=by
 cases x with
 | str z =>
  obtain⟨t,rfl⟩:=r
  cases (show T="str" from ty)
  exact⟨typeIs_str s z t,fun _ e=>nomatch e⟩
 | int i =>
  obtain⟨t,rfl⟩:=r
  cases (show T="int" from ty)
  exact⟨typeIs_int s i t,fun _ e=>nomatch e⟩
 | ref p =>
  cases r
  rcases ty with ⟨rfl,xs,hq⟩ | ⟨rfl,o,hk,hc,hd⟩ | ⟨rfl,hk⟩ | ⟨rfl,S,n,hk⟩
  ·obtain⟨its,_,pl,_⟩:=I.list hq
   refine⟨pl.isList.typeIs,fun a e=>?_⟩
   cases e
   obtain⟨o,n,e,c,hd,_⟩:=pl
   exact⟨o,e,hd⟩
  ·refine⟨⟨o,I.kIn p o hk,hc⟩,fun a e=>?_⟩
   cases e
   exact⟨o,I.kIn _ o hk,hd⟩
  ·have z:∃ o,s.heap.get? p=some o/\o.ExactDict:=by
    rcases hk with ⟨kvs,hk⟩ | ⟨kvs,hk⟩
    ·obtain⟨_,_,_,_,o,_,_,e,ex,_⟩:=I.hok p _ hk
     exact⟨o,e,ex⟩
    ·obtain⟨_,_,_,_,o,_,_,e,ex,_⟩:=I.hok p _ hk
     exact⟨o,e,ex⟩
   obtain⟨o,e,ex⟩:=z
   refine⟨⟨o,e,ex.1⟩,fun a e2=>?_⟩
   cases e2
   exact⟨o,e,ex.2.1⟩
  ·obtain⟨o,_,_,_,e,ex,_⟩:=I.hok p _ hk
   refine⟨⟨o,e,ex.1⟩,fun a e2=>?_⟩
   cases e2
   exact⟨o,e,ex.2.1⟩
 | _=>exact False.elim ty
def tBM (K:W.Frag)(T:String)(r:V->List V->Hp->VK->Prop)(to:TE)(t:TA):TE:=fun σ H Q=>to σ H fun x H1=>tyV K T x H1/\t σ H1 fun xs H2=>r x xs H2 Q
variable {o e:Expr}{es:List Expr}{to:TE}{t:TA}{name:Str}{apos cpos:Pos}{T id:String}{r:V->List V->Hp->VK->Prop}
theorem Wj (pa:PlainAttrs T)(slot:Slot T name id)(hty:typeOf (.builtin id)=pure (.type "method_descriptor"))(hm:MtR X id r)(ho:PE X o to)(ha:PA X (e::es) t)
  (hbase:attributeBase o name X.env (eval o X.env)=eval o X.env:=by rfl)
  (hfew:((backTo cpos (starEach (e::es) X.env)).all (fun x=>!x.1) && (backToKw cpos (keywordEach [] X.env)).all (fun x=>x.1.isSome)
   && decide ((e::es).length+([]:List Keyword).length+(if ([]:List Keyword).isEmpty then 0 else 1)<30))=true:=by rfl)
  (hline:(apos.endLine == cpos.line)=true:=by rfl) (hs:starEach (e::es) X.env=(false,eval e X.env)::starEach es X.env:=by rfl) (hplain:(backTo cpos (starEach es X.env)).any (·.1)=false:=by rfl) :
  PE X (.Call (.Attribute o name apos) (e::es) [] cpos) (tBM X.K T r to t):=by
 intro pins s σ H Q I h
 refine wpAny_Call_method_late hbase hfew hline rfl (thn (ho pins s σ H _ I h) fun v s1 ⟨x,H1,I1,r1,ty,q1⟩=>?_)
 obtain⟨h1,h2⟩:=Z20 I1 r1 ty
 refine⟨T,id,pa,slot,hty,h1,h2,?_⟩
 have hA:=ha cpos pins s1 σ H1 _ I1 q1
 rw[hs] at hA ⊢
 refine Calls.callWith_builtin (by show (false || (backTo cpos (starEach es X.env)).any (·.1))=false;rw[hplain] <;> rfl) (Calls.evalArgs_plain ?_)
 exact thn hA fun us s2 ⟨vs,H2,I2,r2,q2⟩=>hm pins s2 σ H2 x vs v us Q I2 r1 r2 q2
end
end L2
namespace L2
open PySem PySem.Spec PyProof.Rows
def MtM (X:Cx)(id:String)(r:V->List V->Hp->VK->Prop):Prop :=
 ∀ (pins:List (Addr × Obj)) (s:Shared) (σ:St) (H:Hp) (x:V) (xs:List V) (v:Value) (us:List Value) (Q:VK),Inv X pins σ H s->RelV x v->Vals xs us->r x xs H Q →
  wpAny (model X.prog X.w) X.A (call (.builtin id) (v::us)) (EP X pins σ Q) X.xe s
theorem Vals.one:∀ {x:V} {us:List Value},Vals [x] us->∃ u,us=[u]/\RelV x u
 | _,_,.cons r .nil=>⟨_,rfl,r⟩
theorem Vals.rep {xs:List V}{us:List Value}(h:Vals xs us):∀ k:Nat,Vals (List.replicate k xs).flatten (List.replicate k us).flatten
 | 0=>.nil
 | k+1=>by
  rw[List.replicate_succ,List.replicate_succ,List.flatten_cons,List.flatten_cons]
  exact Vals.append h (Vals.rep h k)
theorem P0 (its:List Value):∀ (k:Nat) (acc:List Value),
  List.foldl (fun x1 x2=>x1++x2) acc.toArray (List.replicate k its.toArray)=(acc++(List.replicate k its).flatten).toArray
 | 0,acc=>by simp
 | k+1,acc=>by
  have e:acc.toArray++its.toArray=(acc++its).toArray:=by simp
  have e2:(acc++its)++(List.replicate k its).flatten=acc++(List.replicate (k+1) its).flatten:=by
   rw[List.replicate_succ,List.flatten_cons,List.append_assoc]
  rw[← e2,← P0 its k (acc++its),← e,List.replicate_succ,List.foldl_cons]
section
variable {X:Cx}{pins:List (Addr × Obj)}{σ:St}{H:Hp}{s:Shared}{l b:Addr}{xs ys zs:List V}
theorem Inv.lset {its its':List Value}{n:Nat}{f:Array Value->Array Value}{t':Nat}(I:Inv X pins σ H s)(hH:H l=some (.lst xs))
  (e:s.heap.get? l=some { cls:=.type "list",data:=.seq its.toArray n }) (hf:f its.toArray=its'.toArray) (hv:Vals ys its') (hz:ys.length<=sizeLine) :
  Inv X pins σ (upd H l (.lst ys)) { s with heap:=s.heap.update l (Obj.mapSeq f),toks:=t' }:=by
 have q:=PySem.IsL.update e f
 rw[hf] at q
 refine I.write (x:=l) (e:=l) (by rw[hH];exact trivial) (.inl rfl) (fun b' u hb hu=>(Heap.get?_update_other s.heap (Obj.mapSeq f) (Ne.symm hb)).trans hu) ⟨_,q⟩ ?_
 exact⟨hz,its',_,hv,q⟩
theorem Inv.lnew {its:List Value}{t':Nat}(I:Inv X pins σ H s)(hv:Vals ys its)(hz:ys.length<=sizeLine) :
  Inv X pins σ (upd H s.heap.objs.size (.lst ys)) { s with heap:=s.heap.push { cls:=.type "list",data:=.seq its.toArray },toks:=t' } :=
 I.laid (fun _ _ q=>Heap.get?_push_of_some _ q) (Nat.le_refl _) ⟨hz,its,0,hv,Heap.get?_push_size _ rfl⟩
theorem Inv.fresh (I:Inv X pins σ H s):H s.heap.objs.size=none:=I.hok.fresh (Nat.le_refl _)
theorem Inv.lstM (I:Inv X pins σ H s)(hH:H l=some (.lst xs)):xs.length<=sizeLine/\∃ (its:List Value) (n:Nat),Vals xs its/\xs.length=its.length/\s.heap.get? l=some { cls:=.type "list",data:=.seq its.toArray n }:=by
 obtain⟨z,its,n,r,e⟩:=I.hok l _ hH
 exact⟨z,its,n,r,r.length,e⟩
theorem Ch {n:Nat}(h:n<=sizeLine):Builtin.List.listTooLong n=false:=by
 unfold Builtin.List.listTooLong
 exact decide_eq_false (by omega)
end
section
variable {X:Cx}
def rAppend:V->List V->Hp->VK->Prop:=fun x vs H Q=>∃ l xs y,x=.ref l/\vs=[y]/\H l=some (.lst xs)/\xs.length<sizeLine/\Q .non (upd H l (.lst (xs++[y])))
theorem Ym:MtM X "list.append" rAppend:=by
 intro pins s σ H x vs v us Q I rx rv h
 obtain⟨l,xs,y,rfl,rfl,hH,hz,q⟩:=h
 cases rx
 obtain⟨u,rfl,ru⟩:=rv.one
 obtain⟨z,its,n,r,hl,e⟩:=I.lstM hH
 refine call_meets F.slot_list_append ⟨_,e,rfl⟩ F.entry_list_append (F.args_list_append_2 _ _) (PySem.list_append l its.toArray n u (by rw[List.size_toArray];omega)) ⟨e,?_⟩
 refine⟨.non,_,I.lset (its':=its++[u]) hH e (by simp) (r.append (.cons ru .nil)) ?_,rfl,q⟩
 rw[List.length_append,List.length_singleton]
 omega
def rExtend:V->List V->Hp->VK->Prop:=fun x vs H Q=>∃ l b xs zs,x=.ref l/\vs=[.ref b]/\H l=some (.lst xs)/\H b=some (.lst zs)/\xs.length+zs.length<=sizeLine/\Q .non (upd H l (.lst (xs++zs)))
theorem Gs:MtM X "list.extend" rExtend:=by
 intro pins s σ H x vs v us Q I rx rv h
 obtain⟨l,b,xs,zs,rfl,rfl,hH,hB,hz,q⟩:=h
 cases rx
 obtain⟨u,rfl,ru⟩:=rv.one
 cases ru
 obtain⟨z,its,n,r,hl,e⟩:=I.lstM hH
 obtain⟨z2,its2,n2,r2,hl2,e2⟩:=I.lstM hB
 have hsz:its.toArray.size+its2.toArray.size<=sizeLine:=by rw[List.size_toArray,List.size_toArray];omega
 have hlong:¬ (!its.toArray.isEmpty && Builtin.List.listTooLong (its.toArray.size+its2.toArray.size))=true:=by
  rw[Ch hsz,Bool.and_false]
  exact Bool.false_ne_true
 refine call_meets F.slot_list_extend ⟨_,e,rfl⟩ F.entry_list_extend (F.args_list_extend_2 _ _)
  (AutoSeq1.list_extend_list_list_0 l its.toArray n b its2.toArray n2 hlong (by rw[List.size_toArray];omega) (by omega)) ⟨e,e2,?_⟩
 refine⟨.non,_,I.lset (its':=its++its2) hH e (by simp) (r.append r2) ?_,rfl,q⟩
 rw[List.length_append]
 omega
def rCat:R2:=fun x y H Q=>∃ l b xs zs,x=.ref l/\y=.ref b/\H l=some (.lst xs)/\H b=some (.lst zs)/\xs.length+zs.length<=sizeLine/\∀ p,H p=none->Q (.ref p) (upd H p (.lst (xs++zs)))
theorem Rk:OpR X (binaryOp .Add) rCat:=by
 intro pins s σ H x y v u Q I rx ry h
 obtain⟨l,b,xs,zs,rfl,rfl,hH,hB,hz,q⟩:=h
 cases rx
 cases ry
 obtain⟨z,its,n,r,hl,e⟩:=I.lstM hH
 obtain⟨z2,its2,n2,r2,hl2,e2⟩:=I.lstM hB
 refine PySem.P.add_list e e2 ?_ (by rw[List.size_toArray,List.size_toArray];omega)
 have ea:its.toArray++its2.toArray=(its++its2).toArray:=by simp
 rw[ea]
 exact⟨.ref _,_,I.lnew (t':=s.toks) (r.append r2) (by rw[List.length_append];omega),rfl,q _ I.fresh⟩
theorem Z19 {α:Type}(xs:List α)(k:Nat):(List.replicate k xs).flatten.length=k*xs.length:=by
 induction k with
 | zero=>simp
 | succ k ih=>rw[List.replicate_succ,List.flatten_cons,List.length_append,ih,Nat.succ_mul,Nat.add_comm]
end
section
variable {prog:Program}{w:World}{A:Around}{E:Value->Shared->Prop}{s:Shared}
end
section
variable {X:Cx}
end
end L2
namespace Att
open PySem PySem.W PySem.Calls PyProof.Rows
theorem Sd {P:Params}{h:Heap}:∀ (ns:List Int) (vs:List Value),WellAll P h vs (ns.map WData.int)->IntsAre vs ns:=by
 intro ns
 induction ns with
 | nil =>
  intro vs w
  rw[List.map_nil] at w
  cases w
  exact .nil
 | cons n ns ih =>
  intro vs w
  rw[List.map_cons] at w
  cases w with
  | cons a b =>
   cases a
   exact .cons _ _ (ih _ b)
theorem G8 {l:OpenLaw}{n:Nat}(hn:l.most=some n){P:Params}{h:Heap}{args:List WData}{vals:List Value}
  (hpre:l.row.toRowW.claim.pre args=true) (hwl:WellAll P h vals args) :
  ∃ a vs ns,vals=[Value.ref a]/\args=[WData.list (ns.map WData.int)]/\h.get? a=some { cls:=.type "list",data:=.seq vs.toArray }/\IntsAre vs ns/\ns.length<=n:=by
 have hsh:WShape.hasAll [] args [.list .int]=true:=(pre_splitW hpre).1
 have hc:l.pre.holds [] { args:=args }=true:=(pre_splitW hpre).2
 obtain⟨d,r,rfl,h1,h2⟩:=hasAllW_cons hsh
 obtain rfl:=hasAllW_nil h2
 obtain⟨xs,rfl,h3⟩:=hasW_list h1
 obtain⟨ns,rfl⟩:=items_int h3
 have hlen:ns.length<=n:=by
  unfold OpenLaw.pre at hc
  have h4:(WTm.not (.lt (.lit (.int (n:Int))) (.len (.arg 0)))).holds [] { args:=[.list (ns.map .int)] }=true:=by
   have h4:=(holds_andW hc).1
   rw[hn] at h4
   exact h4
  have h5:=condW_of h4 (w_not (w_lt w_lit (w_len_list (w_arg rfl))))
  rw[List.length_map] at h5
  refine Nat.le_of_not_lt fun q=>?_
  have q':(n:Int)<((ns.length:Nat):Int):=by omega
  first
   | (rw[decide_eq_true q'] at h5;exact absurd h5 (by decide))
   | (simp at h5;omega)
 cases hwl with
 | cons w1 w2 =>
  cases w2
  cases w1 with
  | list ho hall=>exact⟨_,_,ns,rfl,rfl,ho,Sd ns _ hall,hlen⟩
theorem G9 (l:OpenLaw)(args:List WData):l.row.toRowW.claim.post args (.bool true) args=true :=
 postW_of (r:=l.row.toRowW) (X:=(true == true))
  (show WShape.has [] (.bool true) .bool=true by first | rfl | decide | simp[WShape.has,WShape.arms,WShape.armsAll])
  (show (WTm.eq .res (.lit (.bool true))).value [] { args:=args,res:=some (.bool true),after:=args }=some (.bool (true == true)) from w_eq_bool (w_res rfl) w_lit) rfl
theorem attach_call {l:OpenLaw}{n:Nat}{q:Program}{loose:List Str}{XP:(Str->Option Value)->Heap->Prop}{YP:World->Heap->Prop}{d:DefRec}
  (hn:l.most=some n) (hdf:d.params.defaults=[])
  (call:∀ (w:World) (s₀ s₁:Shared) (mg mb:Str->Option Value) (fa:Addr) (o:Obj) (pm cd doc:Value) (a:Addr) (vs:List Value) (ns:List Int),
   Ground q loose [] XP w s₀ mg mb s₁.heap->YP w s₁.heap →
   s₁.heap.get? fa=some o->o.data=.func (docDef d.name d.params d.body d.scope pm cd doc)->s₁.heap.CodeRec cd d.name->mg d.name=some (.ref fa) →
   s₁.heap.get? a=some { cls:=.type "list",data:=.seq vs.toArray }->IntsAre vs ns->ns.length<=n->s₁.gens=#[] →
   codeAny (model l.prog w) callerA (.call (.ref fa) ⟨[.ref a],[]⟩) (fun r s'=>r=.ok (.ret (.bool true))/\OldK s₁.heap s'.heap/\s'.os=s₁.os/\AllBare s'.gens) s₁) :
  WalkO q loose XP YP l.row.toRowW d [] (fun f vs=>PySem.call f vs):=by
 intro w s₀ s₁ mg mb G Y fa o pm cd doc dV kV ho hd hcd hD hmg hg args vals as hpre hlay hrd hwl hlo
 obtain rfl:dV=.none:=Dflts.none hD hdf
 obtain rfl:kV=.none:=Dflts.noKw hD
 obtain⟨a,vs,ns,rfl,rfl,hobj,hints,hlen⟩:=G8 hn hpre hwl
 refine enter_call (codeAny_mono (call w s₀ s₁ mg mb fa o pm cd doc a vs ns G Y ho (fd_plain hd) hcd hmg hobj hints hlen hg) fun r s' hq=>?_)
 obtain⟨rfl,h2,h3,h4⟩:=hq
 exact⟨.inl ⟨.bool true,.bool true,[],rfl,fun _=>rfl,.bool true,G9 l _,fun _=>⟨List.Pairwise.nil,fun _ hm=>(nomatch hm)⟩⟩,h2,h3,h4⟩
section
variable {prog:Program}{w:World}{A:Around}{E:Value->Shared->Prop}{s:Shared}{K:Frag}
def ledger (h:Heap)(L d:Addr):List (Addr × Obj):=(List.range h.objs.size).filterMap fun a=>if a=L \/ a=d then none else (h.get? a).map fun o=>(a,o)
end
end Att
namespace L2
open PySem PySem.Spec PyProof.Rows
theorem Qg:∀ {vs:List Value} {ns:List Int},IntsAre vs ns->Vals (ns.map V.int) vs
 | _,_,.nil=>.nil
 | _,_,.cons n t h=>.cons ⟨t,rfl⟩ (Qg h)
def Only (H:Hp):Prop:=∀ b,H b=none \/ ∃ o xs,H b=some (.frz o (.lst xs))
theorem Cy {P:Program}{w:World}{K:W.Frag}{mg mb:Str->Option Value}{CX:CXT}{k:Nat}{fa a:Addr}{fd:FuncData}{x:Str}{sp:Sp}{s₁:Shared}{vs:List Value}{ns:List Int}
  (KX:K.In s₁.heap) (hns:s₁.heap.Ns mainGlobals mg) (hb:s₁.heap.Ns builtinsNs mb) (hbb:∀ x:Str,x≠"__name__"->mb x=bootBuiltins x) (hlim:s₁.heap.NoLimit) (hg:s₁.gens=#[])
  (ha:s₁.heap.get? a=some { cls:=.type "list",data:=.seq vs.toArray }) (hi:IntsAre vs ns) (hl:ns.length<=sizeLine) {sr:Bool} (hr:Room k callerA sr)
  (F:∀ base:Heap,K.In base->base.Ns mainGlobals mg->FnOk P w K mg base CX k fa fd [x] sp sr) (hbind:∀ (s:Shared) (u:Value),BindsTo s fd ⟨[u],[]⟩ [(x,u)])
  (hsp:∀ H:Hp,Only H->SqL K H a (ns.map V.int)->sp [.ref a] H (fun v _=>v=.bl true) fun _ _ _=>False)
  (hCX:∀ H e s',CX [] H s₁ (fun _ _ _=>False) e s'->False) :
  codeAny (model P w) callerA (.call (.ref fa) ⟨[.ref a],[]⟩) (fun r s'=>r=.ok (.ret (.bool true))/\OldK s₁.heap s'.heap/\s'.os=s₁.os/\AllBare s'.gens) s₁:=by
 have rv:=Qg hi
 have lenV:=hi.length
 have core:∀ H:Hp,Only H->SqL K H a (ns.map V.int)->HOk P w H s₁.heap->(∀ b,H b≠none->b=a)->(H a≠none->K.lookup a=none) →
   codeAny (model P w) callerA (.call (.ref fa) ⟨[.ref a],[]⟩) (fun r s'=>r=.ok (.ret (.bool true))/\OldK s₁.heap s'.heap/\s'.os=s₁.os/\AllBare s'.gens) s₁:=by
  intro H hO hS hok hA hK
  have base_of:∀ {b:Addr} {o:Obj},s₁.heap.get? b=some o->H b=none->(hidT s₁.heap H).get? b=some o:=fun e n=>Ba e n
  have noA:∀ {b:Addr} {o:Obj} {es:Array DictEntry} {ep:Nat},s₁.heap.get? b=some o->o.data=.dict es ep->H b=none:=fun {b o es ep} e d=>by
   cases q:H b with
   | none=>rfl
   | some u =>
    have e':b=a:=hA b (by rw[q];simp)
    subst e'
    rw[ha] at e;cases e
    have d':Data.seq vs.toArray _=Data.dict es ep:=d
    cases d'
  have nsK:∀ {b:Addr} {m:Str->Option Value},s₁.heap.Ns b m->(hidT s₁.heap H).Ns b m:=fun {b m} ⟨o,es,ep,e,d,r⟩=>⟨o,es,ep,base_of e (noA e d),d,r⟩
  have hKb:K.In (hidT s₁.heap H):=fun b o e=>base_of (KX b o e) (by
   cases q:H b with
   | none=>rfl
   | some u =>
    have e':b=a:=hA b (by rw[q];simp)
    subst e'
    rw[hK (by rw[q];simp)] at e;cases e)
  have hM:Mod K mg (hidT s₁.heap H):=⟨hKb,nsK hns,⟨mb,nsK hb,hbb⟩,let ⟨mc,h1,h2⟩:=hlim;⟨mc,nsK h1,h2⟩⟩
  have e0:Env0 P w K mg (hidT s₁.heap H) callerA [] s₁ H:=⟨rfl,hM,fun b o e=>Z13 e,Nat.le_of_eq (F6 _ _),trivial,fun b hb=>absurd (show b∈([]:List Addr) from hb) (by simp),hok,.of_eq hg,.inl rfl⟩
  refine codeAny_mono ((F _ hKb (nsK hns)).run callerA [] s₁ H ⟨[.ref a],[]⟩ [.ref a] [.ref a] _ _ hr e0 (hbind s₁ (.ref a)) (.cons rfl .nil) (hsp H hO hS)) fun r s' h=>?_
  cases r with
  | error e=>exact (hCX H e s' h).elim
  | ok fl =>
   cases fl with
   | next=>exact False.elim h
   | brk=>exact False.elim h
   | cont=>exact False.elim h
   | ret u =>
    obtain⟨v,H',os,bare,un,hok',r',q⟩:=h
    have q':v=.bl true:=q
    subst q'
    obtain rfl:u=Value.bool true:=r'
    refine⟨rfl,OldK.of_keep fun b o e=>?_,os,bare⟩
    cases q:H b with
    | none=>exact un.keep b o e q (by intro z;exact absurd (show b∈([]:List Addr) from z) (by simp)) (by simp)
    | some u =>
     rcases hO b with z | ⟨ob,xs,z⟩
     ·rw[q] at z;cases z
     ·have z2:=un.frzs b ob _ z
      obtain⟨e1,_⟩:=hok b _ z
      obtain⟨e2,_⟩:=hok' b _ z2
      rw[e] at e1;cases e1
      exact e2
 cases hk:K.lookup a with
 | some o =>
  have e:=KX a o hk
  rw[ha] at e
  cases e
  refine core (fun _=>none) (fun _=>.inl rfl) (.inr ⟨_,vs.toArray,_,hk,rfl,rfl,rfl,by rw[List.size_toArray,lenV];exact hl,by simpa using rv⟩) (fun b u z=>by have z':(none:Option HO)=some u:=z;cases z') (fun b z=>absurd rfl z) fun z=>absurd rfl z
 | none =>
  refine core (fun b=>if b=a then some (.frz { cls:=.type "list",data:=.seq vs.toArray } (.lst (ns.map V.int))) else none) (fun b=>?_) (.inl (.inr ⟨{ cls:=.type "list",data:=.seq vs.toArray },if_pos rfl⟩)) (fun b u z=>?_) (fun b z=>?_) fun _=>hk
  ·by_cases hb:b=a
   ·exact .inr ⟨_,_,if_pos hb⟩
   ·exact .inl (if_neg hb)
  ·by_cases hb:b=a
   ·have z':=(if_pos hb).symm.trans z
    cases z'
    subst hb
    exact⟨ha,by rw[List.length_map];exact hl,vs,_,rv,ha⟩
   ·have z':=(if_neg hb).symm.trans z
    cases z'
  ·by_cases hb:b=a
   ·exact hb
   ·exact absurd (if_neg hb) z
end L2
namespace L2
open PySem PySem.Spec PyProof.Rows
abbrev KOf {K:W.Frag}{h:Heap}(_:K.In h):W.Frag:=K
theorem Bx {l:W.OpenLaw}{n k:Nat}{q:Program}{loose:List Str}{XP:(Str->Option Value)->Heap->Prop}{YP:World->Heap->Prop}{d:DefRec}{K:Params->W.Frag}{CX:World->CXT}{sp:World->Sp}{x:Str}
  (hn:l.most=some n) (hn2:n<=sizeLine) (hdf:d.params.defaults=[]) {sr:Bool} (hr:Room k callerA sr)
  (hY:∀ (w:World) (h:Heap),YP w h->(K w.params).In h)
  (F:∀ (w:World) (mg:Str->Option Value) (fa:Addr) (h:Heap),(K w.params).In h->h.Ns mainGlobals mg->mg d.name=some (.ref fa) →
   ∃ fd:FuncData,(∀ (s:Shared) (u:Value),BindsTo s fd ⟨[u],[]⟩ [(x,u)]) ∧
    ∀ base:Heap,(K w.params).In base->base.Ns mainGlobals mg->FnOk l.prog w (K w.params) mg base (CX w) k fa fd [x] (sp w) sr)
  (hsp:∀ (w:World) (H:Hp) (a:Addr) (ns:List Int),ns.length<=n->Only H->SqL (K w.params) H a (ns.map V.int)->sp w [.ref a] H (fun v _=>v=.bl true) fun _ _ _=>False)
  (hCX:∀ (w:World) (H:Hp) (s:Shared) (e:Value) (s':Shared),CX w [] H s (fun _ _ _=>False) e s'->False) :
  W.WalkO q loose XP YP l.row.toRowW d [] (fun f vs=>PySem.call f vs):=by
 refine Att.attach_call hn hdf fun w s₀ s₁ mg mb fa o pm cd doc a vs ns G Y ho hd hcd hmg hobj hints hlen hg=>?_
 have KX:=hY w _ Y
 obtain⟨fd,hb,hF⟩:=F w mg fa _ KX G.T.g hmg
 exact Cy KX G.T.g G.T.b G.T.builtins G.T.nolimit hg hobj hints (Nat.le_trans hlen hn2) hr hF hb (fun H hO hS=>hsp w H a ns hlen hO hS) fun H e s'=>hCX w H s₁ e s'
theorem Fk {l:W.OpenLaw}{n k:Nat}{q:Program}{loose:List Str}{XP:(Str->Option Value)->Heap->Prop}{YP:World->Heap->Prop}{d:DefRec}{K:Params->W.Frag}{CX:CXT}{sp:W.Frag->Sp}{x:Str}
  (hn:l.most=some n) (hn2:n<=sizeLine) (hdf:d.params.defaults=[]) {sr:Bool} (hr:Room k callerA sr)
  (hY:∀ (w:World) (h:Heap),YP w h->(K w.params).In h)
  (F:∀ (w:World) (mg:Str->Option Value) (fa:Addr) (h:Heap),(K w.params).In h->h.Ns mainGlobals mg->mg d.name=some (.ref fa) →
   ∃ fd:FuncData,(∀ (s:Shared) (u:Value),BindsTo s fd ⟨[u],[]⟩ [(x,u)]) ∧
    ∀ base:Heap,(K w.params).In base->base.Ns mainGlobals mg->FnOk l.prog w (K w.params) mg base CX k fa fd [x] (sp (K w.params)) sr)
  (hsp:∀ (K:W.Frag) (H:Hp) (a:Addr) (ns:List Int),ns.length<=n->Only H->SqL K H a (ns.map V.int)->sp K [.ref a] H (fun v _=>v=.bl true) fun _ _ _=>False)
  (hCX:∀ (H:Hp) (s:Shared) (e:Value) (s':Shared),CX [] H s (fun _ _ _=>False) e s'->False) :
  W.WalkO q loose XP YP l.row.toRowW d [] (fun f vs=>PySem.call f vs) :=
 Bx (K:=K) (CX:=fun _=>CX) (sp:=fun w=>sp (K w.params)) hn hn2 hdf hr hY F (fun w H a ns h1 h2 h3=>hsp (K w.params) H a ns h1 h2 h3) fun _ H s e s'=>hCX H s e s'
end L2
namespace L2
open PySem PySem.Spec PyProof.Rows
def inClass (s:Stmt)(j:Nat):Stmt:=match s with
 | .ClassDef _ _ _ body _ _ _ _ _ _ _=>body.getD j (.Pass ⟨0,0,0,0⟩)
 | _=>.Pass ⟨0,0,0,0⟩
def defArgs (s:Stmt):Arguments:=match s with
 | .FunctionDef _ a _ _ _ _ _ _ _ _=>a
 | _=>{ posonlyargs:=[],args:=[],vararg:=none,kwonlyargs:=[],kw_defaults:=[],kwarg:=none,defaults:=[] }
def defBody (s:Stmt):List Stmt:=match s with
 | .FunctionDef _ _ b _ _ _ _ _ _ _=>b
 | _=>[]
def defScope (s:Stmt):Scope:=match s with
 | .FunctionDef _ _ _ _ _ _ sc _ _ _=>sc
 | _=>{ kind:=.function,names:=[],isGenerator:=false,isCoroutine:=false }
abbrev CX0:CXT:=fun _ _ _ _ _ _=>False
abbrev E0:XK:=fun _ _ _=>False
theorem Dv {X:Cx}:Passes CX0 X E0:=fun _ _ _ _ _ _ _ h=>h.elim
structure Fun (K:W.Frag)(x qual:Str)(st:Stmt)(f:Addr)(fd:FuncData):Prop where
 ex:∃ (oc:Value) (od:Option Addr) (kV doc pm:Value) (an:Option Addr) (cdv ct:Value) (osl:Array (Option Value)),
  fd=W.fnOf x qual (defArgs st) (defBody st) (defScope st) .none kV doc pm an cdv ct/\K.lookup f=some ⟨oc,od,.func fd,osl⟩/\W.codeIn K cdv qual=true
 kp:W.keepIn K (.ref f)=true
section
variable {P:Program}{w:World}{K:W.Frag}{mg:Str->Option Value}{base:Heap}
theorem Fun.ok {x qual:Str}{st:Stmt}{f:Addr}{fd:FuncData}{N ps:List Str}{k:Nat}{sp:Sp}{sr:Bool}(F:Fun K x qual st f fd)(S:FnScope N ps (defScope st))(len:∀ vs H Q E,sp vs H Q E->vs.length=ps.length)
  (hbody:∀ (cdv:Value) (A:Around) (outer:List Env) (s:Shared) (H:Hp) (vs:List V) (Q:VK) (E:XK),Room k (A.deeper (envOfC qual (defScope st) s.heap.objs.size f cdv)) sr->sp vs H Q E →
   ∃ t,PSs (cxOf CX0 P w K mg base N qual (defScope st) f cdv A outer s H E).nox (defBody st) t/\t { nx:=fun _ H'=>Q .non H',rt:=Q } (start N vs) H):FnOk P w K mg base CX0 (k+1) f fd ps sp sr:=by
 obtain⟨oc,od,kV,doc,pm,an,cdv,ct,osl,rfl,lk,hcd⟩:=F.ex
 refine Z3r lk hcd S len fun A outer s H vs Q E hr hsp=>?_
 obtain⟨t,h,q⟩:=hbody cdv A outer s H vs Q E hr hsp
 exact⟨t,h.nox,q⟩
theorem Fun.binds {x qual:Str}{st:Stmt}{f:Addr}{fd:FuncData}{ps:List Str}(F:Fun K x qual st f fd)
  (h:∀ (kV doc pm:Value) (an:Option Addr) (cdv ct:Value) (us:List Value),us.length=ps.length->bindArgs (W.fnOf x qual (defArgs st) (defBody st) (defScope st) .none kV doc pm an cdv ct) ⟨us,[]⟩=pure (ps.zip us)):Binds K fd ps []:=by
 obtain⟨oc,od,kV,doc,pm,an,cdv,ct,osl,rfl,lk,hcd⟩:=F.ex
 exact .all (h kV doc pm an cdv ct)
theorem Q3 {x qual:Str}{st:Stmt}{f:Addr}{oc:Value}{od an:Option Addr}{osl:Array (Option Value)}{kV doc pm cdv ct:Value}(l:K.lookup f=some ⟨oc,od,.func (W.fnOf x qual (defArgs st) (defBody st) (defScope st) .none kV doc pm an cdv ct),osl⟩)
  (c:W.codeIn K cdv qual=true) (k:W.keepIn K (.ref f)=true):Fun K x qual st f (W.fnOf x qual (defArgs st) (defBody st) (defScope st) .none kV doc pm an cdv ct):=⟨⟨oc,od,kV,doc,pm,an,cdv,ct,osl,rfl,l,c⟩,k⟩
end
theorem Z1x {A:Around}{k:Nat}{sr:Bool}(hr:Room k A sr):A.units+1<cLine:=Nat.lt_of_le_of_lt (Nat.add_le_add_left (by decide:1<=64) _) hr.units
theorem Xl {n:Nat}(h:n<=1000):n<sizeLine:=Nat.lt_of_le_of_lt h (by decide)
section
variable {X:Cx}
theorem pv (i:Nat){x:Str}{pos:Pos}(hN:X.N[i]?=some x:=by rfl)(hv:Vis X.env.scope x:=by first | exact Or.inl rfl | exact Or.inr (Or.inl rfl) | exact Or.inr (Or.inr rfl))(hd:(x == ("__debug__":Str))=false:=by decide)
  (hcd:(x == ("__classdict__":Str))=false:=by decide):PE X (.Name x pos) (tVar i):=Z2c hN hv hd hcd
end
theorem Wf {A B:Prop}(h:B):if false=true then A else B:=by
 rw[if_neg Bool.false_ne_true]
 exact h
theorem Ti {A B:Prop}(h:A):if true=true then A else B:=by
 rw[if_pos rfl]
 exact h
theorem Xd {c A B:Prop}[Decidable c](h1:c->A)(h2:¬ c->B):if c then A else B:=by
 by_cases h:c
 ·rw[if_pos h]
  exact h1 h
 ·rw[if_neg h]
  exact h2 h
theorem Mo {c A B:Prop}[Decidable c](hc:c)(h:B):if (!decide c)=true then A else B:=by
 rw[decide_eq_true hc]
 exact Wf h
def Same (H H':Hp):Prop:=∀ b o,H b=some o->H' b=some o
theorem Same.refl (H:Hp):Same H H:=fun _ _ h=>h
theorem Same.trans {H H1 H2:Hp}(a:Same H H1)(b:Same H1 H2):Same H H2:=fun c o h=>b c o (a c o h)
end L2
namespace Sb
def Bd (n:Nat)(x:Int):Prop:=x.natAbs<2 ^ n
theorem Bd.mono {m n:Nat}{x:Int}(h:Bd m x)(k:m<=n):Bd n x:=Nat.lt_of_lt_of_le h (Nat.pow_le_pow_right (by decide) k)
theorem Bd.mul {m n:Nat}{x y:Int}(h:Bd m x)(k:Bd n y):Bd (m+n) (x*y):=by
 unfold Bd at *
 rw[Int.natAbs_mul,Nat.pow_add]
 exact Nat.mul_lt_mul'' h k
theorem Bd.add {n:Nat}{x y:Int}(h:Bd n x)(k:Bd n y):Bd (n+1) (x+y):=by
 unfold Bd at *
 rw[Nat.pow_succ]
 omega
theorem Bd.sub {n:Nat}{x y:Int}(h:Bd n x)(k:Bd n y):Bd (n+1) (x - y):=by
 unfold Bd at *
 rw[Nat.pow_succ]
 omega
theorem Bd.neg {n:Nat}{x:Int}(h:Bd n x):Bd n (-x):=by
 unfold Bd at *
 omega
theorem Bd.of_le {n:Nat}{x y:Int}(h:x.natAbs<=y.natAbs)(k:Bd n y):Bd n x:=Nat.lt_of_le_of_lt h k
theorem Bd.of_le' {n:Nat}{x y:Int}(k:Bd n y)(h:x.natAbs<=y.natAbs):Bd n x:=Nat.lt_of_le_of_lt h k
theorem Bd.log {n:Nat}{x:Int}(h:Bd n x)(k:n<9000):x.natAbs.log2<9000:=by
 rcases Nat.eq_zero_or_pos x.natAbs with h0 | hp
 ·rw[h0];decide
 ·have:=(Nat.log2_lt (Nat.ne_of_gt hp)).mpr h
  omega
def gI (p q:Int):Int:=(Int.gcd p q:Int)
def sg (p q:Int):Int:=if q<0 then -(gI p q) else gI p q
def nT (p q:Int):Int:=p.fdiv (sg p q)
def nB (p q:Int):Int:=q.fdiv (sg p q)
theorem K8 {p q:Int}(h:q≠0):0<gI p q:=by
 have:=Int.gcd_pos_of_ne_zero_right p h
 unfold gI;omega
theorem Qj {p q:Int}(h:q≠0):sg p q≠0:=by
 have:=K8 (p:=p) h
 unfold sg;split <;> omega
theorem Lh (p q:Int):sg p q ∣ p:=by
 unfold sg gI;split
 ·exact Int.neg_dvd.mpr (Int.gcd_dvd_left ..)
 ·exact Int.gcd_dvd_left ..
theorem Li (p q:Int):sg p q ∣ q:=by
 unfold sg gI;split
 ·exact Int.neg_dvd.mpr (Int.gcd_dvd_right ..)
 ·exact Int.gcd_dvd_right ..
theorem U9 {a b:Int}(h:b ∣ a):a.fdiv b*b=a:=by
 rw[Int.fdiv_eq_ediv_of_dvd h]
 exact Int.ediv_mul_cancel h
theorem Ly (p q:Int):nT p q*sg p q=p:=U9 (Lh p q)
theorem Tc (p q:Int):nB p q*sg p q=q:=U9 (Li p q)
theorem Pr {p q:Int}(h:q≠0):0<nB p q:=by
 have e:=Tc p q
 have g:=K8 (p:=p) h
 by_cases hq:q<0
 ·have s:sg p q=-(gI p q):=by unfold sg;rw[if_pos hq]
  rw[s] at e
  rcases Int.lt_trichotomy 0 (nB p q) with k | k | k
  ·exact k
  ·rw[← k] at e;simp at e;omega
  ·have:=Int.mul_pos_of_neg_of_neg k (show -(gI p q)<0 by omega);omega
 ·have s:sg p q=gI p q:=by unfold sg;rw[if_neg hq]
  rw[s] at e
  rcases Int.lt_trichotomy 0 (nB p q) with k | k | k
  ·exact k
  ·rw[← k] at e;simp at e;omega
  ·have:=Int.mul_neg_of_neg_of_pos k g;omega
theorem Yu (p q:Int):nT p q*q=p*nB p q:=by
 have h1:=Ly p q
 have h2:=Tc p q
 calc nT p q*q=nT p q*(nB p q*sg p q):=by rw[h2]
  _=(nT p q*sg p q)*nB p q:=by rw[Int.mul_comm (nB p q),Int.mul_assoc]
  _=p*nB p q:=by rw[h1]
theorem Cp {p q:Int}(h:q≠0):Int.gcd (nT p q) (nB p q)=1:=by
 have g:=K8 (p:=p) h
 have e1:=Ly p q
 have e2:=Tc p q
 have e:Int.gcd p q=Int.gcd (nT p q) (nB p q)*(sg p q).natAbs:=by
  have z:=Int.gcd_mul_right (nT p q) (sg p q) (nB p q)
  rw[e1,e2] at z
  exact z
 have s:(sg p q).natAbs=Int.gcd p q:=by
  unfold sg gI;split <;> simp
 rw[s] at e
 have gp:0<Int.gcd p q:=by unfold gI at g;omega
 have e':1*Int.gcd p q=Int.gcd (nT p q) (nB p q)*Int.gcd p q:=by omega
 exact (Nat.eq_of_mul_eq_mul_right gp e').symm
theorem Ft {p q:Int}(h:q≠0):1<=(sg p q).natAbs:=by
 have:=Qj (p:=p) h
 omega
theorem Tg {a b c:Int}(h:a*b=c)(hb:1<=b.natAbs):a.natAbs<=c.natAbs:=by
 rw[← h,Int.natAbs_mul]
 exact Nat.le_mul_of_pos_right _ hb
theorem Z3l {p q:Int}(h:q≠0):(nT p q).natAbs<=p.natAbs:=Tg (Ly p q) (Ft h)
theorem Z3m {p q:Int}(h:q≠0):(nB p q).natAbs<=q.natAbs:=Tg (Tc p q) (Ft h)
theorem Z39 {p q:Int}(h:q≠0):(sg p q).natAbs<=q.natAbs:=by
 have e:=Tc p q
 rw[Int.mul_comm] at e
 have:=Pr (p:=p) h
 exact Tg e (by omega)
theorem gcd_step {a b:Int}:Int.gcd b (a % b)=Int.gcd a b:=by
 rw[Int.gcd_comm b,Int.emod_def]
 rw[Int.gcd_sub_mul_left_left]
theorem F8 (a b:Int):Int.gcd b (a.fmod b)=Int.gcd a b:=by
 rw[Int.gcd_comm b,Int.fmod_def]
 rw[Int.gcd_sub_mul_left_left]
theorem Bg (a:Int){b:Int}(h:b≠0):(a.fmod b).natAbs<b.natAbs:=by
 rcases Int.lt_or_gt_of_ne h with k | k
 ·have h0:=Int.neg_fmod_neg a b
  have h1:=Int.fmod_nonneg_of_pos (-a) (show 0 < -b by omega)
  have h2:=Int.fmod_lt_of_pos (-a) (show 0 < -b by omega)
  omega
 ·have h1:=Int.fmod_nonneg_of_pos a k
  have h2:=Int.fmod_lt_of_pos a k
  omega
theorem Z30 (a b:Int)(ha:0<=a)(h:b=0):a=(Int.gcd a b:Int):=by
 subst h
 simp
 omega
end Sb
namespace Sb
open PySem PySem.Spec PyProof.Rows L2
theorem Bd.bits {n:Nat}{x:Int}(h:Bd n x):Builtin.Int.intBits x<=n:=by
 unfold Builtin.Int.intBits
 split
 ·exact Nat.zero_le _
 ·rename_i h0
  have hn:x.natAbs≠0:=by
   intro z
   have:x=0:=by omega
   exact h0 (by simp[this])
  have:=(Nat.log2_lt hn).mpr h
  omega
theorem Bd.mulOk {m n:Nat}{x y:Int}(h:Bd m x)(k:Bd n y)(hm:m<=1048576)(hn:n<=1048576):IntMulOk x y :=
 IntMulOk.of_bits (Nat.le_trans h.bits (Nat.le_trans hm (by decide))) (Nat.le_trans k.bits (Nat.le_trans hn (by decide)))
theorem Gr {x y:Int}(h1:-(2 ^ 64)<x)(h2:x<2 ^ 64):IntMulOk x y:=IntMulOk.of_left (intBits_le_64 h1 h2)
theorem Gq {x y:Int}(h1:-(2 ^ 64)<y)(h2:y<2 ^ 64):IntMulOk x y:=IntMulOk.of_right (intBits_le_64 h1 h2)
section
variable {X:Cx}
theorem Zx:OpR X (binaryOp .Mult) (rI IntMulOk fun i j=>.int (i*j)):=opI fun _ _ _ _ _ _ _ hc q=>mul_int q hc
def DivOk (_ j:Int):Prop:=j≠0/\j.natAbs.log2<9000
theorem W6:OpR X (binaryOp .FloorDiv) (rI DivOk fun i j=>.int (i.fdiv j)):=opI fun _ _ _ _ _ _ _ hc q=>floordiv_int hc.1 q (.inl (PyProof.noPylong_of_log2 hc.2))
def rP0 (K:W.Frag):R2:=fun x y H Q=>∃ p u v,x=.ref p/\y=.int 0/\SqT K H p [u,v]/\Q u H
def rP1 (K:W.Frag):R2:=fun x y H Q=>∃ p u v,x=.ref p/\y=.int 1/\SqT K H p [u,v]/\Q v H
def rL0 (K:W.Frag):R2:=fun x y H Q=>∃ p u v,x=.ref p/\y=.int 0/\SqL K H p [u,v]/\Q u H
def rL1 (K:W.Frag):R2:=fun x y H Q=>∃ p u v,x=.ref p/\y=.int 1/\SqL K H p [u,v]/\Q v H
theorem at0 {α:Type}(x:α)(xs:List α):atI (x::xs) 0=some x:=Zg (j:=0) rfl
theorem at1 {α:Type}(x y:α)(xs:List α):atI (x::y::xs) 1=some y:=Zg (j:=1) rfl
theorem Xj:IxR X (rP0 X.K):=fun vl sl pins s σ H x y v u Q I rx ry ⟨p,a,b,e1,e2,h,q⟩ hs=>Y8 vl sl pins s σ H x y v u Q I rx ry ⟨p,_,_,_,e1,e2,h,at0 _ _,q⟩ hs
theorem X7:IxR X (rP1 X.K):=fun vl sl pins s σ H x y v u Q I rx ry ⟨p,a,b,e1,e2,h,q⟩ hs=>Y8 vl sl pins s σ H x y v u Q I rx ry ⟨p,_,_,_,e1,e2,h,at1 _ _ _,q⟩ hs
theorem Ji:IxR X (rL0 X.K):=fun vl sl pins s σ H x y v u Q I rx ry ⟨p,a,b,e1,e2,h,q⟩ hs=>Y2 vl sl pins s σ H x y v u Q I rx ry ⟨p,_,_,_,e1,e2,h,at0 _ _,q⟩ hs
theorem Jh:IxR X (rL1 X.K):=fun vl sl pins s σ H x y v u Q I rx ry ⟨p,a,b,e1,e2,h,q⟩ hs=>Y2 vl sl pins s σ H x y v u Q I rx ry ⟨p,_,_,_,e1,e2,h,at1 _ _ _,q⟩ hs
theorem Qr {x:Str}{T:String}{pos:Pos}(hm:X.mg x=none)(hv:bootBuiltins x=some (.type T))(hg:Gl X x:=by rfl)(hn:x≠"__name__":=by decide)(hd:(x == ("__debug__":Str))=false:=by decide):PE X (.Name x pos) (tC (.ty T)) :=
 Z0c hg hm hv rfl hn hd
theorem Xy:CallR X (.builtin "isinstance") (fun xs H Q=>∃ x T t b,xs=[x,.ty T]/\TyOf X.K H x t/\W.kitOne X.K t (.type T)=some b/\Q (.bl b) H):=by
 intro pins s σ H xs us Q I r h
 obtain⟨x,T,t,b,rfl,ty,k,q⟩:=h
 obtain⟨u,w',rfl,rx,ry⟩:=Kc r
 cases (show w'=Value.type T from ry)
 exact Gy I rx ty k fun tk=>⟨.bl b,H,I.tok tk,rfl,q⟩
theorem Nc:CallR X (.builtin "isinstance") (fun xs H Q=>∃ a ys T b,xs=[.ref a,.ty T]/\SqT X.K H a ys/\W.kitOne X.K (.type "tuple") (.type T)=some b/\Q (.bl b) H):=by
 intro pins s σ H xs us Q I r h
 obtain⟨a,ys,T,b,rfl,hs,k,q⟩:=h
 obtain⟨u,w',rfl,rx,ry⟩:=Kc r
 cases (show w'=Value.type T from ry)
 cases (show u=Value.ref a from rx)
 obtain⟨its,_,tup,_⟩:=I.tuple hs
 obtain⟨o,h1,h2,_⟩:=tup
 exact W.kia_one W.kitx_tuple I.kIn ⟨o,h1,h2⟩ k (fun z=>nomatch z) fun tk=>⟨.bl b,H,I.tok tk,rfl,q⟩
end
theorem Uq {K:W.Frag}{T:String}:W.kitOne K (.type T) (.type T)=some true:=by
 unfold W.kitOne
 rw[if_pos (by simp)]
theorem Ur {K:W.Frag}:W.kitOne K (.type "int") (.type "bool")=some false:=by
 show (if (Value.type "int" == Value.type "bool")=true then some true else (if W.kitMeta "bool"=true then (fastBuiltinMro "int").map (·.contains (Value.type "bool")) else none))=some false
 decide +kernel
def Has (P:Program)(w:World)(K:W.Frag)(mg:Str->Option Value)(base:Heap)(k:Nat)(x:Str)(ps:List Str)(sp:Sp)(sr:Bool:=false):Prop :=
 ∃ (f:Addr) (fd:FuncData),FnOk P w K mg base CX0 k f fd ps sp sr/\mg x=some (.ref f)/\W.keepIn K (.ref f)=true/\Binds K fd ps []
def Def (K:W.Frag)(mg:Str->Option Value)(x:Str)(st:Stmt)(ps:List Str):Prop :=
 ∃ (f:Addr) (fd:FuncData),Fun K x x st f fd/\mg x=some (.ref f)/\Binds K fd ps []
theorem Def.has {P:Program}{w:World}{K:W.Frag}{mg:Str->Option Value}{base:Heap}{k:Nat}{x:Str}{st:Stmt}{ps:List Str}{sp:Sp}{sr:Bool}(D:Def K mg x st ps)
  (h:∀ (f:Addr) (fd:FuncData),Fun K x x st f fd->FnOk P w K mg base CX0 k f fd ps sp sr):Has P w K mg base k x ps sp sr:=by
 obtain⟨f,fd,F,hm,b⟩:=D
 exact⟨f,fd,h f fd F,hm,F.kp,b⟩
section
variable {X:Cx}{k:Nat}{x:Str}{ps:List Str}{sp:Sp}{e:Expr}{es:List Expr}{t:TA}{p pos:Pos}
theorem Dq {sr:Bool}(h:Has X.prog X.w X.K X.mg X.base k x ps sp)(hr:Room k X.A sr)(hg:Gl X x)(ha:PA X (e::es) t)(hdb:(x == ("__debug__":Str))=false:=by decide)
  (he:starEach (e::es) X.env=(false,eval e X.env)::starEach es X.env:=by rfl) (hpl:(backTo pos (starEach es X.env)).any (·.1)=false:=by rfl) (hc:X.calm=true:=by rfl):PE X (.Call (.Name x p) (e::es) [] pos) (tCall sp [] E0 t):=by
 obtain⟨f,fd,F,hm,hk,hb⟩:=h
 exact Z0b F hr.loose hg hm hk hb .nil Dv ha hdb he hpl hc
theorem Ze {j:Nat}{sr:Bool}(h:Has X.prog X.w X.K X.mg X.base k x ps sp)(hr:Room j X.A sr)(ha:PA X (e::es) t)(hg:Gl X x:=by rfl)(hj:k<=j:=by decide)(hdb:(x == ("__debug__":Str))=false:=by decide)
  (he:starEach (e::es) X.env=(false,eval e X.env)::starEach es X.env:=by rfl) (hpl:(backTo pos (starEach es X.env)).any (·.1)=false:=by rfl) (hc:X.calm=true:=by rfl):PE X (.Call (.Name x p) (e::es) [] pos) (tCall sp [] E0 t):=Dq h (hr.mono hj) hg ha hdb he hpl hc
end
section
variable {X:Cx}{st:Stmt}{t:TS}{e:Expr}{te:TE}{tt:TT}
def tJ (t:TS):TS:=fun D σ H=>∃ J:L2.St->Hp->Prop,t { D with nx:=J } σ H/\∀ σ' H',J σ' H'->D.nx σ' H'
theorem X4 (h:PS X st t):PS X st (tJ t):=by
 intro pins s σ H D I ⟨J,a,b⟩
 refine thn (h pins s σ H _ I a) fun f s' q=>?_
 cases f with
 | next=>obtain⟨σ',H',I',q⟩:=q;exact⟨σ',H',I',b _ _ q⟩
 | brk=>exact q
 | cont=>exact q
 | ret v=>exact q
end
def SameX (a:Addr)(H H':Hp):Prop:=∀ b o,H b=some o->b≠a->H' b=some o
theorem SameX.refl (a:Addr)(H:Hp):SameX a H H:=fun _ _ h _=>h
theorem SameX.trans {a:Addr}{H H1 H2:Hp}(x:SameX a H H1)(y:SameX a H1 H2):SameX a H H2:=fun b o h n=>y b o (x b o h n) n
theorem SameX.of {a:Addr}{H H':Hp}(x:Same H H'):SameX a H H':=fun b o h _=>x b o h
theorem SameX.upd (a:Addr)(H:Hp)(o:HO):SameX a H (upd H a o):=fun b u h n=>by rw[Zf n];exact h
theorem Same.new {H:Hp}{a:Addr}{o:HO}(h:H a=none):Same H (upd H a o):=fun b u e=>by rw[Zf (Zd e h)];exact e
theorem Zq {K:W.Frag}{H H':Hp}{a:Addr}{xs:List V}(e:Same H H')(h:SqT K H a xs):SqT K H' a xs:=by
 rcases h with (h | ⟨o,h⟩) | h
 ·exact .inl (.inl (e _ _ h))
 ·exact .inl (.inr ⟨o,e _ _ h⟩)
 ·exact .inr h
def BagAt (H:Hp)(a:Addr)(n:Nat):Prop:=∃ x y:Int,H a=some (.lst [.int x,.int y])/\0<=y/\y<=n
theorem BagAt.mono {H:Hp}{a:Addr}{m n:Nat}(h:BagAt H a m)(k:m<=n):BagAt H a n:=by
 obtain⟨x,y,e,h1,h2⟩:=h
 exact⟨x,y,e,h1,by omega⟩
theorem BagAt.same {H H':Hp}{a:Addr}{n:Nat}(h:BagAt H a n)(x:Same H H'):BagAt H' a n:=by
 obtain⟨p,q,e,r⟩:=h
 exact⟨p,q,x _ _ e,r⟩
theorem BagAt.upd {H:Hp}{a l:Addr}{o:HO}{n:Nat}(h:BagAt H a n)(k:a≠l):BagAt (L2.upd H l o) a n:=by
 obtain⟨p,q,e,r⟩:=h
 exact⟨p,q,by rw[Zf k];exact e,r⟩
theorem BagAt.lst {H:Hp}{a:Addr}{n:Nat}(h:BagAt H a n):∃ ys,H a=some (.lst ys):=by
 obtain⟨x,y,e,_⟩:=h
 exact⟨_,e⟩
theorem Zm {K:W.Frag}{h:Heap}{mg:Str->Option Value}{x:Str}{st:Stmt}{ps:List Str}{f:Addr}{oc:Value}{od an:Option Addr}{sl:Array (Option Value)}{kV dc pm cd ct:Value}(X:K.In h)(G:h.Ns mainGlobals mg)
  (a:W.nsIn K mainGlobals x=some (some (.ref f))) (l:K.lookup f=some ⟨oc,od,.func (W.fnOf x x (defArgs st) (defBody st) (defScope st) .none kV dc pm an cd ct),sl⟩) (c:W.codeIn K cd x=true) (k:W.keepIn K (.ref f)=true)
  (b:∀ (kV doc pm:Value) (an:Option Addr) (cdv ct:Value) (us:List Value),us.length=ps.length->bindArgs (W.fnOf x x (defArgs st) (defBody st) (defScope st) .none kV doc pm an cdv ct) ⟨us,[]⟩=pure (ps.zip us)):Def K mg x st ps :=
 ⟨f,_,Q3 l c k,W.mg_of X G a,(Q3 l c k).binds b⟩
theorem Z2s {P:Program}{w:World}{K:W.Frag}{h:Heap}{mg:Str->Option Value}{x:Str}{st:Stmt}{fa f:Addr}{oc:Value}{od an:Option Addr}{sl:Array (Option Value)}{kV dc pm cd ct:Value}{n:Nat}{sp:Sp}{sr:Bool}(X:K.In h)(G:h.Ns mainGlobals mg)(hfa:mg "law"=some (.ref fa))
  (a:W.nsIn K mainGlobals "law"=some (some (.ref f))) (l:K.lookup f=some ⟨oc,od,.func (W.fnOf "law" "law" (defArgs st) (defBody st) (defScope st) .none kV dc pm an cd ct),sl⟩) (c:W.codeIn K cd "law"=true) (k:W.keepIn K (.ref f)=true)
  (b:∀ (s:Shared) (v:Value),BindsTo s (W.fnOf "law" "law" (defArgs st) (defBody st) (defScope st) .none kV dc pm an cd ct) ⟨[v],[]⟩ [(x,v)])
  (ok:∀ (fd:FuncData) (base:Heap),Fun K "law" "law" st fa fd->FnOk P w K mg base CX0 n fa fd [x] sp sr) :
  ∃ fd:FuncData,(∀ (s:Shared) (v:Value),BindsTo s fd ⟨[v],[]⟩ [(x,v)])/\∀ base:Heap,K.In base->base.Ns mainGlobals mg->FnOk P w K mg base CX0 n fa fd [x] sp sr:=by
 have e:=hfa.symm.trans (W.mg_of X G a)
 cases e
 exact⟨_,b,fun base _ _=>ok _ base (Q3 l c k)⟩
theorem Ua (env:Env):∀ (ns:List (Str × NameKind)) (cs:List (Str × Addr)),(∀ y∈ns,y.2=.free->∃ c,env.cells.lookup y.1=some c)->(∀ y c,cs.lookup y=some c->env.cells.lookup y=some c) →
  ∃ cl,(forIn ns cs (fun (x:Str × NameKind) (r:List (Str × Addr))=>(if (x.2 == .free)=true then do let a ← cellOf env x.1;pure (ForInStep.yield ((x.1,a)::r)) else pure (ForInStep.yield r):Sem (ForInStep (List (Str × Addr))))))=pure cl ∧
   (∀ y c,cl.lookup y=some c->env.cells.lookup y=some c)/\(∀ y c,cs.lookup y=some c->∃ c',cl.lookup y=some c')/\∀ y∈ns,y.2=.free->∃ c,cl.lookup y.1=some c
 | [],cs,_,hs=>⟨cs,by simp,hs,fun y c e=>⟨c,e⟩,fun y hy=>nomatch hy⟩
 | (n,k)::r,cs,hf,hs=>by
  have hr:∀ y∈r,y.2=.free->∃ c,env.cells.lookup y.1=some c:=fun y hy=>hf y (List.mem_cons_of_mem _ hy)
  by_cases hk:k=.free
  ·subst hk
   obtain⟨c,hc⟩:=hf (n,.free) List.mem_cons_self rfl
   have hc':env.cells.lookup n=some c:=hc
   have hs':∀ y d,((n,c)::cs).lookup y=some d->env.cells.lookup y=some d:=fun y d e=>by
    by_cases hy:y=n
    ·subst hy
     simp only [List.lookup_cons,beq_self_eq_true] at e
     cases e
     exact hc'
    ·have hb:(y == n)=false:=beq_eq_false_iff_ne.mpr hy
     simp only [List.lookup_cons,hb] at e
     exact hs y d e
   obtain⟨cl,h1,h2,h3,h4⟩:=Ua env r ((n,c)::cs) hr hs'
   have up:∃ c',cl.lookup n=some c':=h3 n c (by simp[List.lookup_cons])
   refine⟨cl,?_,h2,fun y d e=>?_,fun y hy hyf=>?_⟩
   ·have e:cellOf env n=pure c:=by unfold cellOf;rw[hc']
    simp only [List.forIn_cons,beq_self_eq_true,if_true,e]
    exact h1
   ·by_cases hy:y=n
    ·subst hy;exact up
    ·have hb:(y == n)=false:=beq_eq_false_iff_ne.mpr hy
     exact h3 y d (by simp only [List.lookup_cons,hb];exact e)
   ·rcases List.mem_cons.mp hy with z | z
    ·subst z;exact up
    ·exact h4 y z hyf
  ·obtain⟨cl,h1,h2,h3,h4⟩:=Ua env r cs hr hs
   refine⟨cl,?_,h2,h3,fun y hy hyf=>?_⟩
   ·have hb:(k == NameKind.free)=false:=beq_eq_false_iff_ne.mpr hk
    simp only [List.forIn_cons,hb,Bool.false_eq_true,if_false]
    exact h1
   ·rcases List.mem_cons.mp hy with z | z
    ·subst z;exact absurd hyf hk
    ·exact h4 y z hyf
theorem Wx {env:Env}{scope:Scope}(hf:∀ y∈scope.names,y.2=.free->∃ c,env.cells.lookup y.1=some c) :
  ∃ cl,closureFor scope env=pure cl/\(∀ y c,cl.lookup y=some c->env.cells.lookup y=some c)/\∀ y∈scope.names,y.2=.free->∃ c,cl.lookup y.1=some c:=by
 obtain⟨cl,h1,h2,_,h4⟩:=Ua env scope.names [] hf (fun y c e=>by simp at e)
 refine⟨cl,?_,h2,h4⟩
 have e:closureFor scope env=((forIn scope.names ([]:List (Str × Addr)) (fun (x:Str × NameKind) (r:List (Str × Addr))=>(if (x.2 == .free)=true then do let a ← cellOf env x.1;pure (ForInStep.yield ((x.1,a)::r)) else pure (ForInStep.yield r):Sem (ForInStep (List (Str × Addr)))))) >>= fun r=>pure r):=by
  unfold closureFor
  congr 1
 rw[e,h1]
 rfl
theorem Rq {l:List (Str × NameKind)}{x:Str}{q:NameKind}(h:l.lookup x=some q):(x,q)∈l:=by
 obtain⟨a,b,e,_⟩:=List.lookup_eq_some_iff.mp h
 rw[e]
 simp
theorem Va {env:Env}(hf:env.scope.kind=.function):∀ {names:List (Str × NameKind)} {x:Str},names.lookup x=some .free->env.kindOf x=some .cell →
  (names.map fun (n,k)=>if (k == .free && env.scope.kind == .function && env.kindOf n == some .cell) then (n,NameKind.cell) else (n,k)).lookup x=some .cell
 | [],_,h,_=>by simp at h
 | (n,k)::r,x,h,hx=>by
  by_cases e:x=n
  ·subst e
   simp only [List.lookup_cons,beq_self_eq_true] at h
   cases h
   simp[List.lookup_cons,hf,hx]
  ·have hb:(x == n)=false:=beq_eq_false_iff_ne.mpr e
   simp only [List.lookup_cons,hb] at h
   have ih:=Va hf h hx
   show List.lookup x ((if (k == .free && env.scope.kind == .function && env.kindOf n == some .cell)=true then (n,NameKind.cell) else (n,k))::_)=_
   by_cases c:(k == .free && env.scope.kind == .function && env.kindOf n == some .cell)=true
   ·rw[if_pos c];simp only [List.lookup_cons,hb];exact ih
   ·rw[if_neg c];simp only [List.lookup_cons,hb];exact ih
theorem Xg {env:Env}:∀ {names:List (Str × NameKind)} {x:Str} {q:NameKind},(q=.cell \/ q=.free) →
  (names.map fun (n,k)=>if (k == .free && env.scope.kind == .function && env.kindOf n == some .cell) then (n,NameKind.cell) else (n,k)).lookup x=some q →
  ∃ y∈names,y.1=x/\(y.2=.free \/ y.2=.cell)
 | [],_,_,_,h=>by simp at h
 | (n,k)::r,x,q,hq,h=>by
  by_cases e:x=n
  ·subst e
   refine⟨(x,k),List.mem_cons_self,rfl,?_⟩
   replace h:List.lookup x ((if (k == .free && env.scope.kind == .function && env.kindOf x == some .cell)=true then (x,NameKind.cell) else (x,k))::_)=some q:=h
   by_cases c:(k == .free && env.scope.kind == .function && env.kindOf x == some .cell)=true
   ·have:k=.free:=by
     rw[Bool.and_eq_true,Bool.and_eq_true] at c
     exact beq_iff_eq.mp c.1.1
    exact .inl this
   ·rw[if_neg c] at h
    simp only [List.lookup_cons,beq_self_eq_true] at h
    cases h
    rcases hq with z | z
    ·exact .inr z
    ·exact .inl z
  ·have hb:(x == n)=false:=beq_eq_false_iff_ne.mpr e
   replace h:List.lookup x ((if (k == .free && env.scope.kind == .function && env.kindOf n == some .cell)=true then (n,NameKind.cell) else (n,k))::_)=some q:=h
   have h':(r.map fun (n,k)=>if (k == .free && env.scope.kind == .function && env.kindOf n == some .cell) then (n,NameKind.cell) else (n,k)).lookup x=some q:=by
    by_cases c:(k == .free && env.scope.kind == .function && env.kindOf n == some .cell)=true
    ·rw[if_pos c] at h;simp only [List.lookup_cons,hb] at h;exact h
    ·rw[if_neg c] at h;simp only [List.lookup_cons,hb] at h;exact h
   obtain⟨y,hy,z⟩:=Xg hq h'
   exact⟨y,List.mem_cons_of_mem _ hy,z⟩
section
variable {prog:Program}{w:World}{A:Around}{R:Result->Shared->Prop}{s:Shared}
abbrev noX:Value->Shared->Prop:=fun _ _=>False
theorem P6 {elt tg iter:Expr}{ifs:List Expr}{scope:Scope}{pos:Pos}{it acc:Value}{env:Env}(J:Nat->Shared->Prop)
  (turn:∀ n s,J n s->wpAny (model prog w) A (pyNext it) (fun r s1=>match r with
   | none=>R (.ok .next) s1
   | some v=>wpAny (model prog w) A (letOwnedTupleGo tg it v) (fun _ s2=>wpAny (model prog w) A (assign tg env v) (fun _ s3 =>
     wpAny (model prog w) A (forIn ifs true fun c r=>if r=true then do let ok ← isTrue c env (eval c env);pure (ForInStep.yield ok) else pure (ForInStep.yield r)) (fun ok s4 =>
      if ok=true then wpAny (model prog w) A (eval elt env) (fun x s5=>wpAny (model prog w) A (call (.builtin "list.append") [acc,x]) (fun _ s6=>∃ m,m<n/\J m s6) noX s5) noX s4
      else ∃ m,m<n/\J m s4) noX s3) noX s2) noX s1) noX s)
  (n:Nat) (h:J n s):codeAny (model prog w) A (.compLoop (.ListComp elt [⟨tg,iter,ifs,0⟩] scope pos) 0 it acc env) R s:=by
 have no:∀ {Z:Value->Shared->Prop} (a:Value) (b:Shared),noX a b->Z a b:=fun _ _ f=>f.elim
 refine codeAny_loop rfl J (fun n s hJ=>?_) n h
 show wpAny _ A ((compTurn (.ListComp elt [⟨tg,iter,ifs,0⟩] scope pos) 0 it acc env).onRaise (fun x=>do noteFrame x env;theTreesLotGoes x)) _ _ s
 refine wpAny_noted ?_
 rw[compTurn_list]
 refine wpAny_bind (wpAny_standAt (wpAny_bind (wpAny_mono (turn n s hJ) (fun r s1 h1=>?_) no)))
 cases r with
 | none=>exact wpAny_pure h1
 | some v =>
  refine wpAny_bind (wpAny_mono h1 (fun _ s2 h2=>wpAny_bind (wpAny_mono h2 (fun _ s3 h3=>wpAny_bind (wpAny_mono h3 (fun ok s4 h4=>?_) no)) no)) no)
  cases ok with
  | false=>exact wpAny_pure ⟨rfl,h4⟩
  | true=>exact wpAny_bind (wpAny_bind (wpAny_mono h4 (fun x s5 h5=>wpAny_bind (wpAny_mono h5 (fun _ s6 h6=>wpAny_pure (wpAny_pure ⟨rfl,h6⟩)) no)) no))
end
def compCx (X:Cx)(N:List Str)(scope:Scope)(cl:List (Str × Addr))(C:Addr)(fp:List Addr)(s:Shared)(H:Hp):Cx where
 prog:=X.prog
 w:=X.w
 K:=X.K
 mg:=X.mg
 base:=X.base
 A:=X.A
 N:=N
 s₀:=s
 H₀:=H
 env:=compEnvC scope cl C X.env
 outer:=X.stack
 stack:=X.stack
 ex:=fp
 fn:=fun _=>false
 calm:=true
 pn:=X.pn
 xe:=noX
def comp0 (k:Nat)(fv:List Nat)(σ:L2.St):L2.St:=List.replicate k none++fv.map fun j=>σ.getD j none
def PTs (X:Cx)(ifs:List Expr)(t:TT):Prop :=
 ∀ (pins:List (Addr × Obj)) (s:Shared) (σ:L2.St) (H:Hp) (Q:Bool->Hp->Prop),Inv X pins σ H s->t σ H Q →
  wpAny (model X.prog X.w) X.A (forIn ifs true fun c r=>if r=true then do let ok ← isTrue c X.env (eval c X.env);pure (ForInStep.yield ok) else pure (ForInStep.yield r)) (TP X pins σ Q) X.xe s
def tYes:TT:=fun _ H Q=>Q true H
theorem Y7 {X:Cx}:PTs X [] tYes:=fun _ _ _ H _ I h=>wpAny_tests_nil ⟨H,I,h⟩
theorem J9 {X:Cx}{c:Expr}{t:TT}(h:PT X c t):PTs X [c] t:=fun pins s σ H Q I q=>wpAny_tests_one (h pins s σ H Q I q)
def Weaker (σ4 σ0:L2.St):Prop:=σ0.length=σ4.length/\∀ (i:Nat) (v:V),σ0[i]?=some (some v)->σ4[i]?=some (some v)
def tComp (wi:TI)(g:TG)(tt:TT)(te:TE)(k:Nat)(fv:List Nat):TE:=fun σ H Q=>wi σ H fun J H1=>∀ d,H1 d=none->∃ (n:Nat) (W:Nat->List V->Hp->Prop),n<=sizeLine/\W 0 [] (upd H1 d (.lst [])) ∧
 (∀ i ys H2,i<n->W i ys H2->H2 d=some (.lst ys)->J.go i H2/\∀ x H3,J.yld i H2 x H3->g x (comp0 k fv σ) H3 fun σ4 H4=>tt σ4 H4 fun b H5 =>
  if b=true then te σ4 H5 fun y H6=>H6 d=some (.lst ys)/\W (i+1) (ys++[y]) (upd H6 d (.lst (ys++[y]))) else H5 d=some (.lst ys)/\W (i+1) ys H5) ∧
 (∀ ys H2,W n ys H2->H2 d=some (.lst ys)->J.stop n H2/\Q (.ref d) H2)
theorem Jn {P:Program}{w:World}{H:Hp}{h h':Heap}{C:Addr}(x:HOk P w H h)(hn:H C=none)(k:∀ b,b≠C->h'.get? b=h.get? b):HOk P w H h':=fun a o e =>
 (x a o e).stay (fun b u hb q=>by
  rw[k b]
  ·exact q
  ·rintro rfl
   rcases hb with rfl | hb
   ·rw[hn] at e;cases e
   ·rw[hn] at hb;cases hb) (fun _ q=>q) fun _ _ q=>q
theorem Fl {fs ex:List Addr}{H H':Hp}{h h1 h2:Heap}{C:Addr}(u:Un fs ex H H' h h1)(hC:h.get? C=none)(k:∀ b,b≠C->h2.get? b=h1.get? b):Un fs ex H H' h h2:=by
 have ne:∀ b o,h.get? b=some o->b≠C:=fun b o e z=>by rw[z,hC] at e;cases e
 exact⟨fun b o e n hf hx=>by rw[k b (ne b o e)];exact u.keep b o e n hf hx,fun b o e n hf hx=>by rw[k b (ne b o e)];exact u.slot b o e n hf hx,u.free,fun b o e hx=>by rw[k b (ne b o e)];exact u.there b o e hx,u.tups,u.frzs,u.tbls⟩
section
variable {X:Cx}{pins:List (Addr × Obj)}{σ:L2.St}{H:Hp}{s:Shared}{N:List Str}{scope:Scope}{cl:List (Str × Addr)}{fp:List Addr}{k:Nat}{fv:List Nat}
theorem Z1h (I:Inv X pins σ H s)(hc:X.calm=true)(hf:∀ b∈fp,FpOk X pins H b)(hl:∀ b∈fp,b<s.heap.objs.size)(hkind:scope.kind=.function)(hcell:∀ y∈scope.names,y.2≠.cell)
  (h1:∀ y c,cl.lookup y=some c->X.env.cells.lookup y=some c) (h2:∀ y∈scope.names,y.2=.free->∃ c,cl.lookup y.1=some c):(compCx X N scope cl s.heap.objs.size fp s H).Ok where
 mod:=I.ok.mod
 kind:=hkind
 glob:=I.ok.glob
 blt:=I.ok.blt
 above:=Nat.le_refl _
 inj:=fun x y c a b=>I.ok.inj x y c (h1 x c a) (h1 y c b)
 has:=fun x hx=>by
  have:∃ y∈scope.names,y.1=x/\(y.2=.free \/ y.2=.cell):=by
   rcases hx with z | z
   ·exact Xg (.inl rfl) z
   ·exact Xg (.inr rfl) z
  obtain⟨y,hy,e,z⟩:=this
  rcases z with z | z
  ·obtain⟨c,hcl⟩:=h2 y hy z
   exact⟨c,by rw[← e];exact hcl⟩
  ·exact absurd z (hcell y hy)
 cab:=fun x c z=>by cases z
 hd:=fun _=>I.ok.hd hc
 frames:=I.ok.frames
 stk:=.inl rfl
 exf:=fun b hb=>⟨Nat.ne_of_lt (hl b hb),fun x c e=>(hf b hb).2.2.2.2.1 x c (h1 x c e)⟩
 bs:=I.bs
 bsz:=Nat.le_trans I.ok.bsz I.sz
 noex:=fun b o e hb=>by
  rcases (hf b hb).2.2.2.1 with z | z
  ·exact I.ok.noex b o e z
  ·exact absurd (Nat.lt_of_lt_of_le (Heap.lt_size (I.ok.bs b o e).1) z) (Nat.lt_irrefl _)
 exfs:=fun b hb z=>(List.mem_cons.mp (I.stkSub b z)).elim (fun e=>(hf b hb).2.1 e) fun e=>(hf b hb).2.2.1 e
 funs:=I.stack
 frf:=I.stkFree
theorem Bv (I:Inv X pins σ H s)(hc:X.calm=true)(hf:∀ b∈fp,FpOk X pins H b)(hl:∀ b∈fp,b<s.heap.objs.size)(hkind:scope.kind=.function)(hcell:∀ y∈scope.names,y.2≠.cell)
  (h1:∀ y c,cl.lookup y=some c->X.env.cells.lookup y=some c) (h2:∀ y∈scope.names,y.2=.free->∃ c,cl.lookup y.1=some c)
  (hN:N.length=k+fv.length) (hfv:fv.map (fun j=>X.N[j]?)=(N.drop k).map some) (hk:(N.drop k).map X.env.kindOf=(N.drop k).map fun _=>some .cell) (hfl:∀ y∈N.drop k,scope.names.lookup y=some .free)
  {h':Heap} {tk:Nat} (hn:h'.Ns s.heap.objs.size fun _=>none) (hb:∀ b o,s.heap.get? b=some o->h'.get? b=some o) :
  Inv (compCx X N scope cl s.heap.objs.size fp s H) [] (comp0 k fv σ) H { s with heap:=h',toks:=tk } where
 ok:=Z1h I hc hf hl hkind hcell h1 h2
 os:=rfl
 bare:=I.bare
 base:=Un.kept hb
 loc:=⟨_,hn,fun i x v e1 e2 e3=>by
  have hik:k<=i:=by
   apply Nat.le_of_not_lt
   intro z
   have:(comp0 k fv σ)[i]?=some none:=by
    unfold comp0
    rw[List.getElem?_append_left (by simpa using z)]
    simp[z]
   rw[this] at e2
   cases e2
  obtain⟨j,rfl⟩:∃ j,i=k+j:=⟨i - k,by omega⟩
  have e2':(fv.map fun j=>σ.getD j none)[j]?=some (some v):=by
   have:(comp0 k fv σ)[k+j]?=(fv.map fun j=>σ.getD j none)[j]?:=by
    unfold comp0
    rw[List.getElem?_append_right (by simp)]
    simp
   rw[← this]
   exact e2
  rw[List.getElem?_map] at e2'
  cases hj:fv[j]? with
  | none=>rw[hj] at e2';cases e2'
  | some m =>
   rw[hj] at e2'
   have e4:σ.getD m none=some v:=Option.some.inj e2'
   have e5:(N.drop k)[j]?=some x:=by rw[List.getElem?_drop];exact e1
   have e6:X.N[m]?=some x:=by
    have a:=congrArg (fun l=>l[j]?) hfv
    simp only [List.getElem?_map,hj,e5,Option.map_some] at a
    exact Option.some.inj a
   have e7:X.env.kindOf x=some .cell:=by
    have a:=congrArg (fun l=>l[j]?) hk
    simp only [List.getElem?_map,e5,Option.map_some] at a
    exact Option.some.inj a
   have e8:σ[m]?=some (some v):=by
    cases q:σ[m]? with
    | none=>rw[List.getD,q] at e4;cases e4
    | some o=>rw[List.getD,q] at e4;rw[show o=some v from e4]
   obtain⟨m0,hm0,hl0⟩:=I.loc
   obtain⟨u,ru,lk⟩:=hl0 m x v e6 e8 (.inr (.inl e7))
   refine⟨u,ru,?_⟩
   rcases lk with ⟨z,_⟩ | ⟨_,c,hcc,ic⟩
   ·rw[e7] at z;cases z
   ·have mem:x∈N.drop k:=List.mem_of_getElem? e5
    have fr:=hfl x mem
    obtain⟨c',hc'⟩:=h2 (x,.free) (Rq fr) rfl
    have ec:=h1 x c' hc'
    rw[hcc] at ec
    cases ec
    refine .inr ⟨.inl (Va I.ok.kind fr e7),c,hc',?_⟩
    obtain⟨o,ho,hd⟩:=ic
    exact⟨o,hb _ _ ho,hd⟩⟩
 cell:=fun x c e=>by
  obtain⟨v,o,ho,hd⟩:=I.cell x c (h1 x c e)
  exact⟨v,o,hb _ _ ho,hd⟩
 free:=I.hok.fresh (Nat.le_refl _)
 freeC:=fun x c e=>I.freeC x c (h1 x c e)
 pin:=fun p hp=>by
  obtain⟨a1,a2,a3,a4,a5⟩:=I.pin p (List.mem_append_left _ ((List.mem_append.mp hp).elim id fun z=>nomatch z))
  exact⟨hb _ _ a1,a2,Nat.ne_of_lt (Heap.lt_size a1),fun z=>(List.mem_cons.mp (I.stkSub p.1 z)).elim a3 a4,a5⟩
 hok:=I.hok.kept hb
 len:=by
  show (comp0 k fv σ).length=N.length
  unfold comp0
  simp[hN]
end
section
variable {X:Cx}
set_option maxHeartbeats 1000000 in
theorem Q7 {elt iter tg:Expr}{ifs:List Expr}{scope:Scope}{pos:Pos}{g:TG}{tt:TT}{te:TE}{N:List Str}{k:Nat}{fv:List Nat}{cl:List (Str × Addr)}
  {pins:List (Addr × Obj)} {σ:L2.St} {H:Hp} {s:Shared} {it:Addr} {fp:List Addr} {tn:Nat->Heap->Prop} {J:It} {Q:VK} {RR:Value->Addr->Result->Shared->Prop} {E:Value->Shared->Prop}
  (hc:X.calm=true) (hg:∀ cl C fp s H,PG (compCx X N scope cl C fp s H) tg g) (ht:∀ cl C fp s H,PTs (compCx X N scope cl C fp s H) ifs tt) (he:∀ cl C fp s H,PE (compCx X N scope cl C fp s H) elt te)
  (hw:∀ r x H Q,g x (List.replicate k none++r) H Q->g x (List.replicate k none++r) H fun σ4 H4=>Q σ4 H4/\Weaker σ4 (List.replicate k none++r))
  (hN:N.length=k+fv.length) (hfv:fv.map (fun j=>X.N[j]?)=(N.drop k).map some) (hk:(N.drop k).map X.env.kindOf=(N.drop k).map fun _=>some .cell) (hfl:∀ y∈N.drop k,scope.names.lookup y=some .free)
  (hcell:∀ y∈scope.names,y.2≠.cell) (hkind:scope.kind=.function) (h1:∀ y c,cl.lookup y=some c->X.env.cells.lookup y=some c) (h2:∀ y∈scope.names,y.2=.free->∃ c,cl.lookup y.1=some c)
  (I:Inv X pins σ H s) (T:Turn X.prog X.w X.K tg J fp it tn) (st:tn 0 s.heap) (f:∀ b∈fp,FpOk X pins H b)
  (body:∀ d,H d=none->∃ (n:Nat) (W:Nat->List V->Hp->Prop),n<=sizeLine/\W 0 [] (upd H d (.lst [])) ∧
   (∀ i ys H2,i<n->W i ys H2->H2 d=some (.lst ys)->J.go i H2/\∀ x H3,J.yld i H2 x H3->g x (comp0 k fv σ) H3 fun σ4 H4=>tt σ4 H4 fun b H5 =>
    if b=true then te σ4 H5 fun y H6=>H6 d=some (.lst ys)/\W (i+1) (ys++[y]) (upd H6 d (.lst (ys++[y]))) else H5 d=some (.lst ys)/\W (i+1) ys H5) ∧
   (∀ ys H2,W n ys H2->H2 d=some (.lst ys)->J.stop n H2/\Q (.ref d) H2))
  (hR:∀ (D C:Addr) (H':Hp) (s':Shared),(∃ m,s'.heap.Ns C m)->FpOk X pins H' C->Q (.ref D) H'->(∀ h',Heap.SameBut C s'.heap h'->Inv X pins σ H' { s' with heap:=h' })->RR (.ref D) C (.ok .next) s') :
  wpAny (model X.prog X.w) X.A (newList []) (fun acc s3=>wpAny (model X.prog X.w) X.A (newFunctionEnv scope X.env.globals cl [] X.env.qual none .none (some X.env)) (fun cenv s4 =>
   codeAny (model X.prog X.w) X.A (.compStart (.ListComp elt [⟨tg,iter,ifs,0⟩] scope pos) 0 (.ref it) acc { cenv with scope:=relabel scope X.env }) (RR acc cenv.locals) s4) E s3) E s:=by
 refine wpAny_newObj_type ?_
 have I3:=I.lnew (its:=[]) (ys:=[]) (t':=s.toks) .nil (Nat.zero_le _)
 have fresh:=I.fresh
 generalize hD:s.heap.objs.size=D at I3 fresh ⊢
 have f3:∀ b∈fp,FpOk X pins (upd H D (.lst [])) b:=fun b hb=>by
  refine⟨?_,(f b hb).2⟩
  have hne:b≠D:=by
   obtain⟨o,e,_⟩:=T.obj 0 _ st b hb
   rw[← hD]
   exact Nat.ne_of_lt (Heap.lt_size e)
  rw[Zf hne]
  exact (f b hb).1
 have up3:∀ b o,s.heap.get? b=some o->(s.heap.push { cls:=.type "list",data:=.seq ([]:List Value).toArray }).get? b=some o:=fun b o e=>Heap.get?_push_of_some _ e
 have st3:tn 0 (s.heap.push { cls:=.type "list",data:=.seq ([]:List Value).toArray }):=T.keep 0 _ _ st fun b _ o e=>up3 b o e
 have hl3:∀ b∈fp,b<(s.heap.push { cls:=.type "list",data:=.seq ([]:List Value).toArray }).objs.size:=fun b hb=>by
  obtain⟨o,e,_⟩:=T.obj 0 _ st3 b hb
  exact Heap.lt_size e
 obtain⟨n,W,hn,w0,step,fin⟩:=body D fresh
 generalize hS3:({ s with heap:=s.heap.push { cls:=.type "list",data:=.seq ([]:List Value).toArray },toks:=s.toks }:Shared)=s3 at I3
 have eS3:s3.heap=s.heap.push { cls:=.type "list",data:=.seq ([]:List Value).toArray }:=by rw[← hS3]
 rw[← eS3] at st3 hl3
 refine wpAny_newFunctionEnv hcell (fun y hy=>nomatch hy) (fun h4 hns hsb=>?_) hkind
 have old:∀ b o,s3.heap.get? b=some o->h4.get? b=some o:=fun b o e=>(hsb.2 b (Nat.ne_of_lt (Heap.lt_size e))).trans (Heap.get?_push_of_some _ e)
 have I4:=Bv (N:=N) (tk:=s3.toks+([]:List (Str × Value)).length) I3 hc f3 hl3 hkind hcell h1 h2 hN hfv hk hfl (h':=h4) hns old
 have st4:tn 0 h4:=T.keep 0 _ _ st3 fun b _ o e=>old b o e
 have hCn:s3.heap.get? s3.heap.objs.size=none:=by
  cases e:s3.heap.get? s3.heap.objs.size with
  | none=>rfl
  | some o=>exact absurd (Heap.lt_size e) (Nat.lt_irrefl _)
 generalize hC:s3.heap.objs.size=C at I4 hCn ⊢
 have stat:∀ {H':Hp} {ps:List (Addr × Obj)},(∀ b∈fp,H' b=none)->(∀ p∈ps,p.1 ∉ fp)->∀ b∈fp,FpOk (compCx X N scope cl C fp s3 (upd H D (.lst []))) ps H' b:=fun {H' ps} hn hp b hb =>
  ⟨hn b hb,by rw[← hC];exact Nat.ne_of_lt (hl3 b hb),fun z=>(List.mem_cons.mp (I3.stkSub b z)).elim (fun e=>(f3 b hb).2.1 e) fun e=>(f3 b hb).2.2.1 e,.inl hb,fun x c e=>(f3 b hb).2.2.2.2.1 x c (h1 x c e),fun p q z=>(List.mem_append.mp q).elim (fun q=>(f3 b hb).2.2.2.2.2 p (List.mem_append_left _ q) z) fun q=>hp p q (by rw[z];exact hb)⟩
 have loop:∀ s4:Shared,s4={ s3 with heap:=h4,toks:=s3.toks+([]:List (Str × Value)).length } →
   codeAny (model X.prog X.w) X.A (.compLoop (.ListComp elt [⟨tg,iter,ifs,0⟩] scope pos) 0 (.ref it) (.ref D) (compEnvC scope cl C X.env)) (RR (.ref D) C) s4:=by
  rintro s4 rfl
  refine P6 (fun m s'=>∃ i ys H',Inv (compCx X N scope cl C fp s3 (upd H D (.lst []))) [] (comp0 k fv σ) H' s'/\tn i s'.heap/\(∀ b∈fp,H' b=none)/\i<=n/\m=n+1 - i/\ys.length<=i/\H' D=some (.lst ys)/\W i ys H') ?_ (n+1)
   ⟨0,[],_,I4,st4,fun b hb=>(f3 b hb).1,Nat.zero_le _,rfl,Nat.le_refl _,Zb,w0⟩
  rintro m s5 ⟨i,ys,H5,I5,st5,fr5,hi,rfl,hys,hD5,w5⟩
  by_cases hlt:i<n
  ·obtain⟨go,stp⟩:=step i ys H5 hlt w5 hD5
   refine thn (T.item (compCx X N scope cl C fp s3 (upd H D (.lst []))) rfl rfl rfl rfl i [] s5 _ H5 noX I5 (stat fr5 (by simp)) st5 go) fun r s6 ⟨u,er,h6⟩=>?_
   subst er
   refine thn h6 fun _ s7 ⟨x,H7,I7,r7,y7,st7,fr7⟩=>?_
   have I7':=I7.pinned (stat fr7 (by simp)) (T.obj _ _ st7)
   refine thn (hg cl C fp s3 _ _ s7 _ H7 x u _ I7' r7 (hw _ x H7 _ (stp x H7 y7))) fun _ s8 ⟨σ8,H8,I8,q8,wk⟩=>?_
   refine thn (ht cl C fp s3 _ _ s8 σ8 H8 _ I8 q8) fun ok s9 ⟨H9,I9,q9⟩=>?_
   have back:∀ {σ':L2.St} {H':Hp} {s':Shared},Inv (compCx X N scope cl C fp s3 (upd H D (.lst []))) ([]++pinsAt fp s7.heap) σ' H' s'->Weaker σ' (comp0 k fv σ) →
     Inv (compCx X N scope cl C fp s3 (upd H D (.lst []))) [] (comp0 k fv σ) H' s'/\tn (i+1) s'.heap/\∀ b∈fp,H' b=none:=fun {σ' H' s'} I' wk'=>by
    refine⟨I'.unpinned.weak wk'.1 wk'.2,T.keep _ _ _ st7 fun b hb o e=>(I'.pin (b,o) (List.mem_append_right _ (List.mem_append_right _ (Xq hb e)))).1,fun b hb=>?_⟩
    obtain⟨o,e,_⟩:=T.obj _ _ st7 b hb
    exact (I'.pin (b,o) (List.mem_append_right _ (List.mem_append_right _ (Xq hb e)))).2.1
   cases ok with
   | false =>
    rw[if_neg Bool.false_ne_true] at q9 ⊢
    obtain⟨hD9,w9⟩:=q9
    obtain⟨a1,a2,a3⟩:=back I9 wk
    exact⟨n+1 - (i+1),by omega,i+1,ys,H9,a1,a2,a3,hlt,rfl,Nat.le_succ_of_le hys,hD9,w9⟩
   | true =>
    rw[if_pos rfl] at q9 ⊢
    refine thn (he cl C fp s3 _ _ s9 σ8 H9 _ I9 q9) fun y s10 ⟨yv,H10,I10,r10,hD10,w10⟩=>?_
    refine thn (Ym _ s10 σ8 H10 (.ref D) [yv] (.ref D) [y] (fun _ H'=>H'=upd H10 D (.lst (ys++[yv]))) I10 rfl (.cons r10 .nil) ⟨D,ys,yv,rfl,rfl,hD10,Nat.lt_of_le_of_lt hys (Nat.lt_of_lt_of_le hlt hn),rfl⟩) fun _ s11 ⟨_,H11,I11,_,e11⟩=>?_
    subst e11
    obtain⟨a1,a2,a3⟩:=back I11 wk
    exact⟨n+1 - (i+1),by omega,i+1,ys++[yv],_,a1,a2,a3,hlt,rfl,by rw[List.length_append];show ys.length+1<=i+1;omega,Zb,w10⟩
  ·obtain rfl:i=n:=Nat.le_antisymm hi (Nat.not_lt.mp hlt)
   obtain⟨stop,q⟩:=fin ys H5 w5 hD5
   refine thn (T.done (compCx X N scope cl C fp s3 (upd H D (.lst []))) rfl rfl rfl rfl i [] s5 _ H5 noX I5 (stat fr5 (by simp)) st5 stop) fun r s6 ⟨er,I6⟩=>?_
   subst er
   refine hR D C H5 s6 ?_ (I3.fpOk (by rw[hC];exact Nat.le_refl _) I6.free) q fun h' hs'=>?_
   ·obtain⟨m,hm,_⟩:=I6.loc
    exact⟨m,hm⟩
   ·have hs2:∀ b,b≠C->h'.get? b=s6.heap.get? b:=fun b hb=>hs'.2 b hb
    refine I3.call' (s':={ s6 with heap:=h' }) (ch:=fp) ?_ (Fl I6.base hCn hs2) (Jn I6.hok I6.free hs2) I6.bare fun b hb=>?_
    ·exact I6.os
    ·exact⟨(f3 b hb).2.2.2.1,(f3 b hb).2.1,(f3 b hb).2.2.2.2.1,(f3 b hb).2.2.2.2.2⟩
 exact codeAny_compStart_list (loop _ rfl) (T.self _ 0 _ _ _ st4 (loop _ rfl))
theorem Yk {elt iter tg:Expr}{ifs:List Expr}{scope:Scope}{pos:Pos}{wi:TI}{g:TG}{tt:TT}{te:TE}{N:List Str}{k:Nat}{fv:List Nat}
  (hc:X.calm=true) (hi:PI X tg iter wi) (hg:∀ cl C fp s H,PG (compCx X N scope cl C fp s H) tg g) (ht:∀ cl C fp s H,PTs (compCx X N scope cl C fp s H) ifs tt) (he:∀ cl C fp s H,PE (compCx X N scope cl C fp s H) elt te)
  (hw:∀ r x H Q,g x (List.replicate k none++r) H Q->g x (List.replicate k none++r) H fun σ4 H4=>Q σ4 H4/\Weaker σ4 (List.replicate k none++r))
  (hN:N.length=k+fv.length:=by rfl) (hfv:fv.map (fun j=>X.N[j]?)=(N.drop k).map some:=by rfl) (hk:(N.drop k).map X.env.kindOf=(N.drop k).map (fun _=>some .cell):=by rfl)
  (hfl:∀ y∈N.drop k,scope.names.lookup y=some .free:=by decide +kernel) (hfr:∀ y∈scope.names,y.2=.free->y.1∈N.drop k:=by decide +kernel)
  (hcell:∀ y∈scope.names,y.2≠.cell:=by decide +kernel) (hkind:scope.kind=.function:=by rfl) (hnames:∀ y∈scope.names,y.2=.local->scope.names.lookup y.1=some .local:=by decide +kernel)
  (hs:∀ x,foldedSetIterable iter X.env x=pure x:=by intro _;rfl):PE X (.ListComp elt [⟨tg,iter,ifs,0⟩] scope pos) (tComp wi g tt te k fv):=by
 intro pins s σ H Q I h
 have kc:∀ y∈N.drop k,X.env.kindOf y=some .cell:=fun y hy=>by
  obtain⟨j,hj⟩:=List.getElem?_of_mem hy
  have a:=congrArg (fun l=>l[j]?) hk
  simp only [List.getElem?_map,hj,Option.map_some] at a
  exact Option.some.inj a
 obtain⟨cl,hclos,h1,h2⟩:=Wx (env:=X.env) (scope:=scope) fun y hy hf=>I.ok.has y.1 (.inl (kc y.1 (hfr y hy hf)))
 rw[eval_ListComp]
 refine wpAny_comprehension_free (use:=none) rfl hs hclos hkind hnames (thn (hi pins s σ H _ I h) fun xv s1 h1'=>thn h1' fun itv s2 h2'=>?_)
 obtain⟨it,fp,tn,J,H2,e,I2,T,st2,f2,body⟩:=h2'
 subst e
 exact Q7 (RR:=fun acc C=>compPost (model X.prog X.w) X.A X.xe none (EP X pins σ Q) acc C) hc hg ht he hw hN hfv hk hfl hcell hkind h1 h2 I2 T st2 f2 body fun D C H' s' ⟨m,hm⟩ _ q iv=>⟨m,hm,fun h' hs'=>⟨.ref D,H',iv h' hs',rfl,q⟩⟩
theorem Zw:∀ (r:L2.St) (x:V) (H:Hp) (Q:L2.St->Hp->Prop),gName 0 x (List.replicate 1 none++r) H Q->gName 0 x (List.replicate 1 none++r) H fun σ4 H4=>Q σ4 H4/\Weaker σ4 (List.replicate 1 none++r):=fun r x H Q h =>
 ⟨h,by simp,fun i v e=>by
  cases i with
  | zero=>cases e
  | succ j=>exact e⟩
theorem Wy {K:W.Frag}:∀ (r:L2.St) (x:V) (H:Hp) (Q:L2.St->Hp->Prop),gTup K 2 (gCons (gName 0) (gCons (gName 1) gNil)) x (List.replicate 2 none++r) H Q →
  gTup K 2 (gCons (gName 0) (gCons (gName 1) gNil)) x (List.replicate 2 none++r) H fun σ4 H4=>Q σ4 H4/\Weaker σ4 (List.replicate 2 none++r):=by
 rintro r x H Q ⟨a,xs,e1,hq,hl,v,t,e2,v',t',e3,e4,q⟩
 refine⟨a,xs,e1,hq,hl,v,t,e2,v',t',e3,e4,q,by simp,fun i z e=>?_⟩
 cases i with
 | zero=>cases e
 | succ j =>
  cases j with
  | zero=>cases e
  | succ j=>exact e
end
theorem Ye {x:V}{σ:L2.St}{H:Hp}{A B:L2.St->Hp->Prop}(h:A (σ.set 0 (some x)) H):gName 0 x σ H fun σ4 H4=>tYes σ4 H4 fun b H5=>if b=true then A σ4 H5 else B σ4 H5:=by
 show if true=true then A (σ.set 0 (some x)) H else B (σ.set 0 (some x)) H
 exact Ti h
section
variable {X:Cx}
def rIxA (K:W.Frag):R2:=fun x y H Q=>∃ p xs i v,x=.ref p/\y=.int i/\(SqL K H p xs \/ SqT K H p xs)/\atI xs i=some v/\Q v H
theorem Cz:IxR X (rIxA X.K):=fun vl sl pins s σ H x y v u Q I rx ry ⟨p,xs,i,z,e1,e2,h,ea,q⟩ hs=>by
 rcases h with h | h
 ·exact Y2 vl sl pins s σ H x y v u Q I rx ry ⟨p,xs,i,z,e1,e2,h,ea,q⟩ hs
 ·exact Y8 vl sl pins s σ H x y v u Q I rx ry ⟨p,xs,i,z,e1,e2,h,ea,q⟩ hs
end
section
variable {X:Cx}{K:W.Frag}
theorem Mn (h:X.K=K:=by rfl):IxR X (rIxT K):=h ▸ Y8
theorem Jg (h:X.K=K:=by rfl):IxR X (rIxL K):=h ▸ Y2
theorem Z2y (h:X.K=K:=by rfl):IxR X (rP0 K):=h ▸ Xj
theorem Z2x (h:X.K=K:=by rfl):IxR X (rP1 K):=h ▸ X7
end
theorem Co {x:V}{σ:L2.St}{H:Hp}{A B:L2.St->Hp->Prop}{t:TT}(h:t (σ.set 0 (some x)) H fun b H5=>if b=true then A (σ.set 0 (some x)) H5 else B (σ.set 0 (some x)) H5) :
  gName 0 x σ H fun σ4 H4=>t σ4 H4 fun b H5=>if b=true then A σ4 H5 else B σ4 H5:=h
theorem Sm {K:W.Frag}{p:Addr}{u v:V}{σ:L2.St}{H:Hp}{A B:L2.St->Hp->Prop}(hp:SqT K H p [u,v])(h:A ((σ.set 0 (some u)).set 1 (some v)) H) :
  gTup K 2 (gCons (gName 0) (gCons (gName 1) gNil)) (.ref p) σ H fun σ4 H4=>tYes σ4 H4 fun b H5=>if b=true then A σ4 H5 else B σ4 H5:=by
 refine⟨p,[u,v],rfl,hp,rfl,u,[v],rfl,v,[],rfl,rfl,?_⟩
 show if true=true then A ((σ.set 0 (some u)).set 1 (some v)) H else B ((σ.set 0 (some u)).set 1 (some v)) H
 exact Ti h
section
variable {X:Cx}
end
end Sb
namespace Sb
open PySem PySem.Builtin.SmallTypes
section
variable {prog:Program}{w:World}{A:Around}{E:Value->Shared->Prop}{s:Shared}
theorem Ck {it t:Addr}{j:Nat}{ys:Array Value}{y:Value}{Q:Value->Shared->Prop}(ti:s.heap.IsTupleIter it t j)(tt:s.heap.IsTuple t ys)(ey:ys[j]?=some y)
  (hQ:∀ h',h'.IsTupleIter it t (j+1)->Heap.SameBut it s.heap h'->Q y { s with heap:=h' }):wpAny (model prog w) A (nextOf (.ref it)) Q E s:=by
 obtain⟨oi,ei,ci,di⟩:=id ti
 obtain⟨ot,et,_,nt,dt⟩:=tt
 unfold nextOf
 refine wpAny_bind (wpAny_callSpecial?_slot (name:=Str.ofString "__next__") ti.typeIs F.slot_tuple_iterator_next (wpAny_call_entry F.slot_tuple_iterator_next ti.typeIs F.entry_tuple_iterator_next ?_ (F.args_tuple_iterator_next_1 _)))
 show wpAny _ _ (field (.ref it) 0 >>= _) _ _ _
 refine wpAny_bind (wpAny_field ei di (x:=.ref t) rfl ?_)
 show wpAny _ _ (if (Value.ref t == Value.none)=true then _ else _) _ _ _
 rw[if_neg (show ¬ ((Value.ref t == Value.none)=true) from fun q=>Bool.false_ne_true q)]
 show wpAny _ _ (field (.ref it) 1 >>= _) _ _ _
 refine wpAny_bind (wpAny_field ei di (x:=.int j 0) rfl ?_)
 show wpAny _ _ (seqItems? (.ref t) >>= _) _ _ _
 refine wpAny_bind (wpAny_seqItems et dt ?_)
 simp only [Int.toNat_natCast,ey]
 refine wpAny_bind (wpAny_setField ei di (by simp) (wpAny_pure ⟨y,rfl,wpAny_pure (hQ _ ?_ (Heap.SameBut.update ..))⟩))
 refine⟨_,Heap.get?_update_self _ ei (Obj.isFreed_of_fields (Obj.data_mapFields di _)),(Obj.cls_mapFields ..).trans ci,?_⟩
 rw[Obj.data_mapFields di]
 simp[rawInt]
theorem Pq {it t:Addr}{j:Nat}{ys:Array Value}{Q:Value->Shared->Prop}(hq:Qt A s.heap)(ti:s.heap.IsTupleIter it t j)(tt:s.heap.IsTuple t ys)(ey:ys[j]?=none)
  (hE:∀ h' e,Heap.ExtBut it s.heap h'->(∃ o,h'.get? e=some o/\o.cls=.type "StopIteration")->E (.ref e) { s with heap:=h' }):wpAny (model prog w) A (nextOf (.ref it)) Q E s:=by
 obtain⟨oi,ei,ci,di⟩:=id ti
 obtain⟨ot,et,_,nt,dt⟩:=tt
 unfold nextOf
 refine wpAny_bind (wpAny_callSpecial?_slot (name:=Str.ofString "__next__") ti.typeIs F.slot_tuple_iterator_next (wpAny_call_entry F.slot_tuple_iterator_next ti.typeIs F.entry_tuple_iterator_next ?_ (F.args_tuple_iterator_next_1 _)))
 show wpAny _ _ (field (.ref it) 0 >>= _) _ _ _
 refine wpAny_bind (wpAny_field ei di (x:=.ref t) rfl ?_)
 show wpAny _ _ (if (Value.ref t == Value.none)=true then _ else _) _ _ _
 rw[if_neg (show ¬ ((Value.ref t == Value.none)=true) from fun q=>Bool.false_ne_true q)]
 show wpAny _ _ (field (.ref it) 1 >>= _) _ _ _
 refine wpAny_bind (wpAny_field ei di (x:=.int j 0) rfl ?_)
 show wpAny _ _ (seqItems? (.ref t) >>= _) _ _ _
 refine wpAny_bind (wpAny_seqItems et dt ?_)
 simp only [Int.toNat_natCast,ey]
 refine wpAny_bind (wpAny_rule (wpAny_bind (wpAny_setField ei di (by simp) ?_)))
 refine Sw (hq:=(hq.but ei fun n=>?_)) fun h' e k he=>hE _ _ (fun b o hb e=>k b o ((Heap.SameBut.update ..).extBut b o hb e)) he
 obtain⟨vs,e1,e2⟩:=n
 rw[di] at e1
 cases e1
 simp at e2
theorem P5 {qs:List (Addr × Obj)}(hq:QtP A qs)(it t:Addr)(ne:t≠it)(hqs:∀ p∈qs,p.1≠it)(ys:Array Value) :
  Draws prog w A it (it::t::qs.map Prod.fst) ys.size (fun i x=>ys[i]?=some x) (fun i h=>h.IsTupleIter it t i/\h.IsTuple t ys/\∀ p∈qs,h.get? p.1=some p.2) where
 live:=fun i h st=>by
  obtain⟨⟨o,e,_⟩,_⟩:=st
  exact⟨o,e⟩
 frame:=fun i h h' st k=>by
  obtain⟨⟨o,e,r⟩,⟨o',e',r'⟩,st⟩:=st
  exact⟨⟨o,k it (by simp) o e,r⟩,⟨o',k t (by simp) o' e',r'⟩,fun p hp=>k p.1 (by simp;exact .inr (.inr ⟨p.2,hp⟩)) p.2 (st p hp)⟩
 item:=fun i s Q E lt st hQ=>Ck st.1 st.2.1 (Array.getElem?_eq_getElem lt) fun h' a b=>hQ _ h' s.toks (Array.getElem?_eq_getElem lt) ⟨a,st.2.1.extBut b.extBut ne,fun p hp=>b.extBut p.1 p.2 (hqs p hp) (st.2.2 p hp)⟩ b
 done:=fun s Q E st hE=>Pq (hq.at st.2.2) st.1 st.2.1 (Array.getElem?_eq_none (Nat.le_refl _)) hE
end
structure Off (z TI TO i1 i2:Addr)(f1 f2:List Addr):Prop where
 a1:TI≠z
 a2:TO≠z
 a3:i1≠z
 a4:i2≠z
 a5:TI≠TO
 a6:TI≠i1
 a7:TI≠i2
 a8:TO≠i1
 a9:TO≠i2
 b1:i1≠i2
 z1:z ∉ f1
 o1:TO ∉ f1
 n1:i2 ∉ f1
 z2:z ∉ f2
 o2:TO ∉ f2
 n2:i1 ∉ f2
section
variable {prog:Program}{w:World}{A:Around}{E:Value->Shared->Prop}{s:Shared}{z TI TO i1 i2:Addr}{f1 f2:List Addr}{n1 n2:Nat}{P1 P2:Nat->Value->Prop}{S1 S2:Nat->Heap->Prop}
set_option maxHeartbeats 1000000 in
theorem G1 {k:Nat}{a b:Value}{Q:Value->Shared->Prop}(D:Off z TI TO i1 i2 f1 f2)(D1:Draws prog w A i1 f1 n1 P1 S1)(D2:Draws prog w A i2 f2 n2 P2 S2)
  (hz:IsZip s.heap z TI TO .none) (hTI:IsPair s.heap TI (.ref i1) (.ref i2)) (hTO:IsPair s.heap TO a b) (c1:S1 k s.heap) (c2:S2 k s.heap) (l1:k<n1) (l2:k<n2)
  (hQ:∀ x y h' tk,P1 k x->P2 k y->IsZip h' z TI TO (rawInt s.heap.objs.size)->IsPair h' TO x y->S1 (k+1) h'->S2 (k+1) h'->IsPair h' s.heap.objs.size x y->h'.objs.size=s.heap.objs.size+1 →
   (∀ c o,c≠z->c≠TO->c≠i1->c≠i2->s.heap.get? c=some o->h'.get? c=some o)->Q (.ref s.heap.objs.size) { s with heap:=h',toks:=tk }) :
  wpAny (model prog w) A (Builtin.«zip.__next__» ⟨[.ref z],[]⟩) (fun fin s'=>∃ v,fin=.done (.ret v)/\Q v s') E s:=by
 show wpAny _ _ (field (.ref z) 2 >>= _) _ _ _
 refine wpAny_bind (wpAny_field hz rfl (x:=.bool false) rfl ?_)
 show wpAny _ _ (field (.ref z) 3 >>= _) _ _ _
 refine wpAny_bind (wpAny_field hz rfl (x:=.ref TI) rfl ?_)
 refine wpAny_bind (wpAny_seqItems hTI rfl ?_)
 show wpAny _ _ (ownedTupleIsFree (.ref z) >>= _) _ _ _
 refine wpAny_bind ?_
 unfold ownedTupleIsFree
 refine wpAny_bind (wpAny_field hz rfl (x:=.none) rfl (wpAny_pure ?_))
 simp only [if_true]
 refine wpAny_bind (wpAny_rule ?_)
 refine wpAny_bind (wpAny_field hz rfl (x:=.ref TO) rfl ?_)
 refine wpAny_bind (wpAny_setField_rec hz (by simp) fun g1 z1 s1=>?_)
 replace z1:IsZip g1 z TI TO .ellipsis:=z1
 refine wpAny_bind ?_
 simp only [List.zipIdx_cons,List.zipIdx_nil,List.forIn_cons,List.forIn_nil]
 refine wpAny_bind (wpAny_bind (wpAny_onRaise ?_))
 show wpAny _ _ (nextOf (.ref i1) >>= _) _ _ _
 have c11:S1 k g1:=D1.frame _ _ _ c1 fun b hb o e=>s1.extBut b o (fun q=>D.z1 (q ▸ hb)) e
 refine wpAny_bind (D1.item k _ _ _ l1 c11 fun x g2 tk2 p1 c12 s2=>wpAny_pure ?_)
 replace s2:Heap.SameBut i1 g1 g2:=s2
 have t2:IsPair g2 TO a b:=s2.extBut _ _ D.a8 (s1.extBut _ _ D.a2 hTO)
 refine wpAny_bind (wpAny_seqItems t2 rfl ?_)
 refine wpAny_bind (wpAny_updateSeq_pair t2 fun g3 t3 s3=>?_)
 replace t3:IsPair g3 TO x b:=t3
 replace s3:Heap.SameBut TO g2 g3:=s3
 refine wpAny_bind (wpAny_letGo (wpAny_pure ?_))
 refine wpAny_bind (wpAny_bind (wpAny_onRaise ?_))
 show wpAny _ _ (nextOf (.ref i2) >>= _) _ _ _
 have c23:S2 k g3:=D2.frame _ _ _ c2 fun b hb o e=>s3.extBut b o (fun q=>D.o2 (q ▸ hb)) (s2.extBut b o (fun q=>D.n2 (q ▸ hb)) (s1.extBut b o (fun q=>D.z2 (q ▸ hb)) e))
 have c13:S1 (k+1) g3:=D1.frame _ _ _ c12 fun b hb o e=>s3.extBut b o (fun q=>D.o1 (q ▸ hb)) e
 refine wpAny_bind (D2.item k _ _ _ l2 c23 fun y g4 tk4 p2 c24 s4=>wpAny_pure ?_)
 replace s4:Heap.SameBut i2 g3 g4:=s4
 have t4:IsPair g4 TO x b:=s4.extBut _ _ D.a9 t3
 refine wpAny_bind (wpAny_seqItems t4 rfl ?_)
 refine wpAny_bind (wpAny_updateSeq_pair t4 fun g5 t5 s5=>?_)
 replace t5:IsPair g5 TO x y:=t5
 replace s5:Heap.SameBut TO g4 g5:=s5
 refine wpAny_bind (wpAny_letGo (wpAny_pure (wpAny_pure ?_)))
 refine wpAny_bind (wpAny_seqItems t5 rfl ?_)
 refine wpAny_bind (wpAny_newTuple ?_)
 have sz:g5.objs.size=s.heap.objs.size:=by rw[s5.1,s4.1,s3.1,s2.1,s1.1]
 have z5:IsZip g5 z TI TO .ellipsis:=s5.extBut _ _ D.a2.symm (s4.extBut _ _ D.a4.symm (s3.extBut _ _ D.a2.symm (s2.extBut _ _ D.a3.symm z1)))
 have k5:∀ c o,c≠z->c≠TO->c≠i1->c≠i2->s.heap.get? c=some o->g5.get? c=some o:=fun c o q1 q2 q3 q4 e =>
  s5.extBut _ _ q2 (s4.extBut _ _ q4 (s3.extBut _ _ q2 (s2.extBut _ _ q3 (s1.extBut _ _ q1 e))))
 have c15:S1 (k+1) g5:=D1.frame _ _ _ c13 fun b hb o e=>s5.extBut b o (fun q=>D.o1 (q ▸ hb)) (s4.extBut b o (fun q=>D.n1 (q ▸ hb)) e)
 have c25:S2 (k+1) g5:=D2.frame _ _ _ c24 fun b hb o e=>s5.extBut b o (fun q=>D.o2 (q ▸ hb)) e
 have zlt:z<g5.objs.size:=Heap.lt_size z5
 show wpAny _ _ (ownedTupleHandOut (.ref z) (.ref g5.objs.size) >>= _) _ _ _
 refine wpAny_bind ?_
 unfold ownedTupleHandOut
 have z6:IsZip (g5.push { cls:=.type "tuple",data:=.seq #[x,y] }) z TI TO .ellipsis:=Heap.get?_push_of_some _ z5
 refine wpAny_bind (wpAny_setField_rec z6 (by simp) fun g7 z7 s7=>?_)
 replace z7:IsZip g7 z TI TO (rawInt g5.objs.size):=z7
 refine wpAny_setField_rec z7 (by simp) fun g8 z8 s8=>?_
 replace z8:IsZip g8 z TI TO (rawInt g5.objs.size):=z8
 have up:∀ c o,c≠z->g5.get? c=some o->g8.get? c=some o:=fun c o q e=>s8.extBut _ _ q (s7.extBut _ _ q (Heap.get?_push_of_some _ e))
 have t8:IsPair g8 g5.objs.size x y:=s8.extBut _ _ (Nat.ne_of_gt zlt) (s7.extBut _ _ (Nat.ne_of_gt zlt) (Heap.get?_push_size _ rfl))
 have sz8:g8.objs.size=g5.objs.size+1:=by rw[s8.1,s7.1,Heap.size_push]
 rw[sz] at z8 t8 sz8
 refine wpAny_pure ⟨_,rfl,?_⟩
 show Q (.ref g5.objs.size) _
 rw[sz]
 exact hQ x y g8 tk4 p1 p2 z8 (up _ _ D.a2 t5) (D1.frame _ _ _ c15 fun b hb o e=>up b o (fun q=>D.z1 (q ▸ hb)) e) (D2.frame _ _ _ c25 fun b hb o e=>up b o (fun q=>D.z2 (q ▸ hb)) e) t8 sz8
  fun c o q1 q2 q3 q4 e=>up c o q1 (k5 c o q1 q2 q3 q4 e)
theorem G0 {k:Nat}{a b:Value}{Q:Fin->Shared->Prop}(D:Off z TI TO i1 i2 f1 f2)(D1:Draws prog w A i1 f1 n1 P1 S1)(hz:IsZip s.heap z TI TO .none)(hTI:IsPair s.heap TI (.ref i1) (.ref i2))(c1:S1 n1 s.heap)
  (hE:∀ h' e,(∀ c o,c≠z->c≠i1->s.heap.get? c=some o->h'.get? c=some o)->(∃ o,h'.get? e=some o/\o.cls=.type "StopIteration")->E (.ref e) { s with heap:=h' }) :
  wpAny (model prog w) A (Builtin.«zip.__next__» ⟨[.ref z],[]⟩) Q E s:=by
 show wpAny _ _ (field (.ref z) 2 >>= _) _ _ _
 refine wpAny_bind (wpAny_field hz rfl (x:=.bool false) rfl ?_)
 show wpAny _ _ (field (.ref z) 3 >>= _) _ _ _
 refine wpAny_bind (wpAny_field hz rfl (x:=.ref TI) rfl ?_)
 refine wpAny_bind (wpAny_seqItems hTI rfl ?_)
 show wpAny _ _ (ownedTupleIsFree (.ref z) >>= _) _ _ _
 refine wpAny_bind ?_
 unfold ownedTupleIsFree
 refine wpAny_bind (wpAny_field hz rfl (x:=.none) rfl (wpAny_pure ?_))
 simp only [if_true]
 refine wpAny_bind (wpAny_rule ?_)
 refine wpAny_bind (wpAny_field hz rfl (x:=.ref TO) rfl ?_)
 refine wpAny_bind (wpAny_setField_rec hz (by simp) fun g1 z1 s1=>?_)
 replace z1:IsZip g1 z TI TO .ellipsis:=z1
 refine wpAny_bind ?_
 simp only [List.zipIdx_cons,List.zipIdx_nil,List.forIn_cons,List.forIn_nil]
 refine wpAny_bind (wpAny_bind (wpAny_onRaise ?_))
 show wpAny _ _ (nextOf (.ref i1) >>= _) _ _ _
 have c11:S1 n1 g1:=D1.frame _ _ _ c1 fun b hb o e=>s1.extBut b o (fun q=>D.z1 (q ▸ hb)) e
 refine wpAny_bind (D1.done _ _ _ c11 fun g2 e s2 he=>?_)
 obtain⟨oe,eo,ce⟩:=he
 replace s2:Heap.ExtBut i1 g1 g2:=s2
 have z2:IsZip g2 z TI TO .ellipsis:=s2 _ _ D.a3.symm z1
 have ez:e≠z:=fun q=>by
  subst q
  rw[z2] at eo
  cases eo
  simp at ce
 exact wpAny_setField_rec z2 (by simp) fun g3 _ s3=>hE g3 e (fun c o q1 q3 h=>s3.extBut _ _ q1 (s2 _ _ q3 (s1.extBut _ _ q1 h))) ⟨oe,s3.extBut _ _ ez eo,ce⟩
theorem M8 {k:Nat}{a b:Value}{Q:Option Value->Shared->Prop}(D:Off z TI TO i1 i2 f1 f2)(D1:Draws prog w A.in1 i1 f1 n1 P1 S1)(D2:Draws prog w A.in1 i2 f2 n2 P2 S2)
  (hz:IsZip s.heap z TI TO .none) (hTI:IsPair s.heap TI (.ref i1) (.ref i2)) (hTO:IsPair s.heap TO a b) (c1:S1 k s.heap) (c2:S2 k s.heap) (l1:k<n1) (l2:k<n2)
  (hQ:∀ x y h' tk,P1 k x->P2 k y->IsZip h' z TI TO (rawInt s.heap.objs.size)->IsPair h' TO x y->S1 (k+1) h'->S2 (k+1) h'->IsPair h' s.heap.objs.size x y->h'.objs.size=s.heap.objs.size+1 →
   (∀ c o,c≠z->c≠TO->c≠i1->c≠i2->s.heap.get? c=some o->h'.get? c=some o)->Q (some (.ref s.heap.objs.size)) { s with heap:=h',toks:=tk }):wpAny (model prog w) A (pyNext (.ref z)) Q E s:=by
 have hT:s.TypeIs (.ref z) "zip":=⟨_,hz,rfl⟩
 unfold pyNext
 exact wpAny_bind (wpAny_attempt (wpAny_callSpecial?_slot (name:=Str.ofString "__next__") hT F.slot_zip_next (wpAny_call_entry F.slot_zip_next hT F.entry_zip_next
   (G1 D D1 D2 hz hTI hTO c1 c2 l1 l2 fun x y h' tk p1 p2 q1 q2 q3 q4 q5 q6 q7=>wpAny_pure (hQ x y h' tk p1 p2 q1 q2 q3 q4 q5 q6 q7)) (F.args_zip_next_1 _))))
theorem Sc {Q:Option Value->Shared->Prop}(D:Off z TI TO i1 i2 f1 f2)(D1:Draws prog w A.in1 i1 f1 n1 P1 S1)(hz:IsZip s.heap z TI TO .none)(hTI:IsPair s.heap TI (.ref i1) (.ref i2))(c1:S1 n1 s.heap)
  (hQ:∀ h',(∀ c o,c≠z->c≠i1->s.heap.get? c=some o->h'.get? c=some o)->Q none { s with heap:=h' }):wpAny (model prog w) A (pyNext (.ref z)) Q E s:=by
 have hT:s.TypeIs (.ref z) "zip":=⟨_,hz,rfl⟩
 unfold pyNext
 refine wpAny_bind (wpAny_attempt (wpAny_callSpecial?_slot (name:=Str.ofString "__next__") hT F.slot_zip_next (wpAny_call_entry F.slot_zip_next hT F.entry_zip_next
  (G0 (k:=0) (a:=.none) (b:=.none) D D1 hz hTI c1 fun h' e hk he=>?_) (F.args_zip_next_1 _))))
 obtain⟨o,ho,hc⟩:=he
 exact wpAny_bind (wpAny_isInstance (T:="StopIteration") (b:=true) ⟨o,ho,hc⟩ isSubtype_stop (wpAny_pure (hQ _ hk)))
end
abbrev zH1 (h:Heap)(t:Addr):Heap:=h.push { cls:=.type "tuple_iterator",data:=.fields #[.ref t,.int 0 0] }
theorem Mi (t:Addr)(ys:Array Value)(n:Nat)(dd:Option Addr)(sl:Array (Option Value)):Meets (Builtin.«enumerate.__new__» ⟨[.type "enumerate",.ref t],[]⟩) (fun _ R s=>s.heap.get? t=some { cls:=.type "tuple",dict:=dd,data:=.seq ys n,slots:=sl } ∧
  R (.ok (.ret (.ref (zH1 s.heap t).objs.size))) { s with heap:=(zH1 s.heap t).push { cls:=.type "enumerate",data:=.fields #[.none,.bool false,.ref s.heap.objs.size,rawInt 0,.none,.none] } }) :=
 .of_wp fun prog w A R s h=>by
  obtain⟨hp,g,d,tk,os⟩:=s
  obtain⟨hl,h⟩:=h
  have hsub:=sub_enumerate
  have hL:Heap.IsTuple (Shared.heap ⟨hp,g,d,tk,os⟩) t ys:=⟨_,hl,rfl,n,rfl⟩
  wp_walk using wpAny_loadPart' hl
  refine wpAny_stack_any fun st=>wpAny_pure ?_
  split
  ·rename_i c _ _ _ _ _
   cases (c == Value.type "enumerate")
   ·wp_walk using wpAny_loadPart' hl,wpAny_pyIter_tuple hL
    exact⟨_,rfl,h⟩
   ·wp_walk using wpAny_loadPart' hl,wpAny_pyIter_tuple hL
    exact⟨_,rfl,h⟩
  ·wp_walk using wpAny_loadPart' hl,wpAny_pyIter_tuple hL
   exact⟨_,rfl,h⟩
theorem K9 {prog:Program}{w:World}{A:Around}{E:Value->Shared->Prop}{s:Shared}{t:Addr}{ys:Array Value}{Q:Value->Shared->Prop}(ht:s.heap.IsTuple t ys)
  (h:∀ h',IsEnum h' (s.heap.objs.size+1) s.heap.objs.size 0 .none->h'.IsTupleIter s.heap.objs.size t 0->h'.objs.size=s.heap.objs.size+2->(∀ b o,s.heap.get? b=some o->h'.get? b=some o)->Q (.ref (s.heap.objs.size+1)) { s with heap:=h' }) :
  wpAny (model prog w) A (call (.type "enumerate") [.ref t]) Q E s:=by
 obtain⟨⟨c,dd,dt,sl⟩,e,c1,n,d1⟩:=ht
 cases c1
 cases d1
 refine callType_new F.called_enumerate (by decide) (F.typeCall_enumerate_1 _) (F.newCall_enumerate_1 _) (fun obj=>F.args_object_init_2 obj _) F.entry_enumerate_new (Mi t ys n dd sl) ⟨e,?_⟩
 have hz:(zH1 s.heap t).objs.size=s.heap.objs.size+1:=Heap.size_push ..
 show _/\_
 rw[hz]
 have he:IsEnum ((zH1 s.heap t).push { cls:=.type "enumerate",data:=.fields #[.none,.bool false,.ref s.heap.objs.size,rawInt 0,.none,.none] }) (s.heap.objs.size+1) s.heap.objs.size 0 .none:=by
  have q:=Heap.get?_push_size (zH1 s.heap t) (o:={ cls:=.type "enumerate",data:=.fields #[.none,.bool false,.ref s.heap.objs.size,rawInt 0,.none,.none] }) rfl
  rw[hz] at q
  exact q
 exact⟨⟨_,he,rfl⟩,h _ he ⟨_,Heap.get?_push_of_some _ (Heap.get?_push_size _ rfl),rfl,rfl⟩ (by rw[Heap.size_push,hz]) fun b o x=>Heap.get?_push_of_some _ (Heap.get?_push_of_some _ x)⟩
end Sb
namespace Sb
open PySem PySem.Spec PyProof.Rows L2
section
variable {X:Cx}{pins:List (Addr × Obj)}{σ:L2.St}{H:Hp}{s:Shared}{h':Heap}{t':Nat}{ch:List Addr}
theorem Mp (I:Inv X pins σ H s)(hn:∀ b∈ch,H b=none)(k:∀ b o,b ∉ ch->s.heap.get? b=some o->h'.get? b=some o):HOk X.prog X.w H h':=fun a o e =>
 (I.hok a o e).stay (fun b u hb q=>k b u (fun z=>by
  have n:=hn b z
  rcases hb with rfl | hb
  ·rw[n] at e;cases e
  ·rw[n] at hb;cases hb) q) (fun _ q=>q) fun _ _ q=>q
theorem Ut (I:Inv X pins σ H s)(hf:∀ b∈ch,FpOk X pins H b)(k:∀ b o,b ∉ ch->s.heap.get? b=some o->h'.get? b=some o):Inv X pins σ H { s with heap:=h',toks:=t' }:=by
 refine I.step (g':=s.gens) (d':=s.drawn) (ch:=ch) (fun b hb=>?_) (fun b o _ _ hc e _=>k b o hc e) (fun b o _ _ hc e _=>⟨o.slots,k b o hc e⟩) (fun _ _ _ _ n=>n) (fun b o hc e=>⟨o,k b o hc e⟩) (fun _ _ e=>e) (fun _ _ _ e=>e)
  (fun b ps e=>⟨#[],by rw[e];simp⟩) (fun m hm=>?_) (Mp I (fun b hb=>(hf b hb).1) k) I.bare
 ·exact⟨(hf b hb).2.2.2.1,(hf b hb).2.1,(hf b hb).2.2.2.2.1,(hf b hb).2.2.2.2.2⟩
 ·obtain⟨o,es,ep,ho,r⟩:=hm
  exact⟨o,es,ep,k _ o (fun z=>(hf _ z).2.1 rfl) ho,r⟩
theorem Vh {p:Addr}{u:HO}(I:Inv X pins σ H s)(hf:∀ b∈ch,FpOk X pins H b)(k:∀ b o,b ∉ ch->s.heap.get? b=some o->h'.get? b=some o)(hp:s.heap.objs.size<=p)(new:ObjOk X.prog X.w (upd H p u) h' p u) :
  Inv X pins σ (upd H p u) { s with heap:=h',toks:=t' }:=by
 have lt:∀ b o,s.heap.get? b=some o->b≠p:=fun b o e z=>absurd (Nat.lt_of_lt_of_le (Heap.lt_size e) hp) (by rw[z];exact Nat.lt_irrefl _)
 have ltH:∀ b o,H b=some o->b≠p:=fun b o e z=>absurd (Nat.lt_of_lt_of_le (I.hok.lt e) hp) (by rw[z];exact Nat.lt_irrefl _)
 have hk:=Mp I (fun b hb=>(hf b hb).1) k
 refine I.step (g':=s.gens) (d':=s.drawn) (ch:=ch) (fun b hb=>?_) (fun b o _ _ hc e _=>k b o hc e) (fun b o _ _ hc e _=>⟨o.slots,k b o hc e⟩) (fun b o _ e n=>by rw[Zf (lt b o e)];exact n) (fun b o hc e=>⟨o,k b o hc e⟩)
  (fun b _ e=>by rw[Zf (ltH b _ e)];exact e) (fun b _ _ e=>by rw[Zf (ltH b _ e)];exact e) (fun b ps e=>⟨#[],by rw[Zf (ltH b _ e),e];simp⟩) (fun m hm=>?_) (fun b o e=>?_) I.bare
 ·exact⟨(hf b hb).2.2.2.1,(hf b hb).2.1,(hf b hb).2.2.2.2.1,(hf b hb).2.2.2.2.2⟩
 ·obtain⟨o,es,ep,ho,r⟩:=hm
  exact⟨o,es,ep,k _ o (fun z=>(hf _ z).2.1 rfl) ho,r⟩
 ·by_cases hb:b=p
  ·subst hb
   rw[Zb] at e
   cases e
   exact new
  ·rw[Zf hb] at e
   exact (hk b o e).stay (fun _ _ _ q=>q) (fun c q=>by rw[Zf (ltH c _ q)];exact q) fun c xs q=>by rw[Zf (ltH c _ q)];exact q
theorem Fm {b t:Addr}{xs:List V}(I:Inv X pins σ H s)(hf:FpOk X pins H b)(h:SqT X.K H t xs):t≠b:=by
 rintro rfl
 rcases h with (h | ⟨o,h⟩) | ⟨o,its,n,h,_⟩
 ·rw[hf.1] at h;cases h
 ·rw[hf.1] at h;cases h
 ·have e:=I.ok.mod.kin _ _ h
  rcases hf.2.2.2.1 with z | z
  ·exact I.ok.noex _ _ e z
  ·exact absurd (Nat.lt_of_lt_of_le (Heap.lt_size (I.ok.bs _ _ e).1) z) (Nat.lt_irrefl _)
end
structure ZOff (z TI TO i1 i2:Addr):Prop where
 a1:TI≠z
 a2:TO≠z
 a3:i1≠z
 a4:i2≠z
 a5:TI≠TO
 a6:TI≠i1
 a7:TI≠i2
 a8:TO≠i1
 a9:TO≠i2
 b1:i1≠i2
section
variable {X:Cx}
end
def Ite (K:W.Frag)(t:Addr):It :=
 ⟨fun i H=>∃ xs,SqT K H t xs/\i<xs.length,
   fun i H v H'=>∃ p x,v=.ref p/\H p=none/\H'=upd H p (.tup [.int (i:Int),x])/\∀ xs,SqT K H t xs->xs[i]?=some x,
   fun i H=>∃ xs,SqT K H t xs/\i=xs.length⟩
theorem G4 {P:Program}{w:World}{K:W.Frag}{es:List Expr}{kk:Nat}{tp:Pos}{e it:Addr}(O:e≠it)(t:Addr) :
  Turn P w K (.Tuple es kk tp) (Ite K t) [e,it] e (fun i h=>(∃ old,IsEnum h e it (i:Int) old)/\h.IsTupleIter it t i) where
 mem:=by simp
 obj:=fun i h ⟨⟨old,he⟩,⟨o1,e1,_,d1⟩⟩ b hb=>by
  simp only [List.mem_cons,List.not_mem_nil,or_false] at hb
  rcases hb with rfl | rfl
  ·exact⟨_,he,fun v q=>by have q':Data.fields _=Data.cell v:=q;cases q'⟩
  ·exact⟨_,e1,fun v q=>by rw[d1] at q;cases q⟩
 keep:=fun i h h' ⟨⟨old,he⟩,⟨o1,e1,r1⟩⟩ k=>⟨⟨old,k e (by simp) _ he⟩,⟨o1,k it (by simp) _ e1,r1⟩⟩
 item:=by
  intro X hP hw hK hc i pins s σ H E I hf st hg
  subst hP hw hK
  obtain⟨xs,hx,lx⟩:=hg
  obtain⟨⟨old,he⟩,c1⟩:=st
  obtain⟨u1,v1,p1,_⟩:=I.tuple hx
  have n1:=v1.length
  have ne:∀ b∈[e,it],t≠b:=fun b hb=>Fm I (hf b hb) hx
  have off:∀ b∈[e,it],∀ x,(b,x) ∉ X.pn:=fun b hb x m=>(hf b hb).2.2.2.2.2 _ (List.mem_append_left _ m) rfl
  have qI:∀ p∈X.pn,s.heap.get? p.1=some p.2:=fun p hp=>(I.pin p (List.mem_append_left _ hp)).1
  have qO:∀ b∈[e,it],∀ p∈X.pn,p.1≠b:=fun b hb p hp=>(hf b hb).2.2.2.2.2 p (List.mem_append_left _ hp)
  have D1:=P5 (prog:=X.prog) (w:=X.w) (A:=X.A.in1) (I.ok.hd hc) it t (ne it (by simp)) (qO it (by simp)) u1.toArray
  refine wpAny_pyNext_enum_itemD D1 he ⟨c1,p1,qI⟩ (by simp;omega) O (by simp[O,(ne e (by simp)).symm,off e (by simp)]) fun x g tk px out s1 pr sz kp=>?_
  refine⟨_,rfl,wpAny_letOwnedTupleGo_enum out fun g2 z2 sb=>?_⟩
  obtain⟨x0,ex⟩:∃ x0,xs[i]?=some x0:=⟨xs[i],by simp[lx]⟩
  obtain⟨x1,ex1,rx⟩:=v1.get ex
  have qx:x1=x:=by
   have:u1.toArray[i]?=some x:=px
   rw[List.getElem?_toArray,ex1] at this
   exact Option.some.inj this
  subst qx
  have elt:e<s.heap.objs.size:=Heap.lt_size he
  have pe:s.heap.objs.size≠e:=Nat.ne_of_gt elt
  have sb2:∀ b,b≠e->g2.get? b=g.get? b:=fun b hb=>sb.2 b hb
  have keep:∀ b o,b ∉ [e,it]->s.heap.get? b=some o->g2.get? b=some o:=fun b o hb q=>by
   simp only [List.mem_cons,List.not_mem_nil,or_false,not_or] at hb
   rw[sb2 b hb.1]
   exact kp b o hb.1 hb.2 q
  have new:ObjOk X.prog X.w (upd H s.heap.objs.size (.tup [.int (i:Int),x0])) g2 s.heap.objs.size (.tup [.int (i:Int),x0]) :=
   ⟨by show 2<=sizeLine;decide,[.int (i:Int) tk,x1],.cons ⟨tk,rfl⟩ (.cons rx .nil),⟨_,by rw[sb2 _ pe];exact pr,rfl,0,rfl⟩⟩
  have I2:=Vh (t':=tk+1) I hf keep (Nat.le_refl _) new
  have nn:∀ b∈[e,it],upd H s.heap.objs.size (.tup [.int (i:Int),x0]) b=none:=fun b hb=>by
   have:b≠s.heap.objs.size:=by
    have ob:∃ o,s.heap.get? b=some o:=by
     simp only [List.mem_cons,List.not_mem_nil,or_false] at hb
     obtain⟨o1,e1,_⟩:=c1
     rcases hb with rfl | rfl
     ·exact⟨_,he⟩
     ·exact⟨_,e1⟩
    obtain⟨o,q⟩:=ob
    exact Nat.ne_of_lt (Heap.lt_size q)
   rw[Zf this]
   exact (hf b hb).1
  refine⟨.ref s.heap.objs.size,_,I2,rfl,⟨_,x0,rfl,I.fresh,rfl,fun xs' h1=>by rw[I.tuple_inj h1 hx];exact ex⟩,⟨⟨x1,?_⟩,?_⟩,nn⟩
  ·exact z2
  ·exact s1.1.extBut sb.extBut O.symm
 done:=by
  intro X hP hw hK hc i pins s σ H E I hf st hg
  subst hP hw hK
  obtain⟨xs,hx,rfl⟩:=hg
  obtain⟨⟨old,he⟩,c1⟩:=st
  obtain⟨u1,v1,p1,_⟩:=I.tuple hx
  have n1:=v1.length
  have ne:∀ b∈[e,it],t≠b:=fun b hb=>Fm I (hf b hb) hx
  have off:∀ b∈[e,it],∀ x,(b,x) ∉ X.pn:=fun b hb x m=>(hf b hb).2.2.2.2.2 _ (List.mem_append_left _ m) rfl
  have qI:∀ p∈X.pn,s.heap.get? p.1=some p.2:=fun p hp=>(I.pin p (List.mem_append_left _ hp)).1
  have qO:∀ b∈[e,it],∀ p∈X.pn,p.1≠b:=fun b hb p hp=>(hf b hb).2.2.2.2.2 p (List.mem_append_left _ hp)
  have D1:=P5 (prog:=X.prog) (w:=X.w) (A:=X.A.in1) (I.ok.hd hc) it t (ne it (by simp)) (qO it (by simp)) u1.toArray
  have c1':s.heap.IsTupleIter it t u1.toArray.size:=by
   rw[List.size_toArray,← n1]
   exact c1
  refine wpAny_pyNext_enum_endD D1 he ⟨c1',p1,qI⟩ fun g kp=>⟨rfl,?_⟩
  exact Ut (t':=s.toks) I hf fun b o hb q=>by
   simp only [List.mem_cons,List.not_mem_nil,or_false,not_or] at hb
   exact kp b o hb.2 q
 self:=fun _ _ _ _ _ st h=>by
  obtain⟨⟨old,he⟩,_⟩:=st
  exact wpAny_pyIter_enum he h
section
variable {X:Cx}
def iEnum (K:W.Frag)(ta:TA):TI:=fun σ H R=>ta σ H fun vs H1=>∃ t,vs=[.ref t]/\(∃ xs,SqT K H1 t xs)/\R (Ite K t) H1
theorem Z09 {a:Expr}{ta:TA}{p pos:Pos}{es:List Expr}{kk:Nat}{tp:Pos}(hg:Gl X "enumerate")(hm:X.mg "enumerate"=none)(ha:PA X [a] ta)(hs:starEach [a] X.env=[(false,eval a X.env)]:=by rfl) :
  PI X (.Tuple es kk tp) (.Call (.Name "enumerate" p) [a] [] pos) (iEnum X.K ta):=by
 intro pins s σ H R I h
 refine Call_ (We I hg hm boot_enumerate (PyProof.Rows.callWith_type1 (thn (ha pos pins s σ H _ I h) fun us s1 ⟨vs,H1,I1,r1,q1⟩=>?_) hs rfl))
 obtain⟨t,e,⟨xs,hx⟩,q⟩:=q1
 subst e
 obtain⟨t0,e0,rt⟩:=Ub r1
 cases (show t0=Value.ref t from rt)
 subst e0
 obtain⟨u1,v1,p1,_⟩:=I1.tuple hx
 refine K9 (ys:=u1.toArray) p1 fun g z0 i1 sz kp=>?_
 refine wpAny_pyIter_enum z0 ?_
 have I2:Inv X pins σ H1 { s1 with heap:=g }:=I1.kept (t':=s1.toks) kp
 refine⟨s1.heap.objs.size+1,[s1.heap.objs.size+1,s1.heap.objs.size],_,Ite X.K t,H1,rfl,I2,G4 (O:=?_) t,⟨⟨_,z0⟩,i1⟩,fun b hb=>?_,q⟩
 ·show @Ne Nat _ _
  omega
 ·have hb':s1.heap.objs.size<=b:=by
   simp only [List.mem_cons,List.not_mem_nil,or_false] at hb
   rcases hb with rfl | rfl
   ·exact Nat.le_add_right _ _
   ·exact Nat.le_refl _
  exact I1.fpOk hb' (I1.hok.fresh hb')
end
end Sb
namespace Sb
open PySem L2
structure Ext (H H':Hp):Prop where
 tup:∀ b xs,H b=some (.tup xs)->H' b=some (.tup xs)
 frz:∀ b o u,H b=some (.frz o u)->H' b=some (.frz o u)
theorem Ext.trans {H H1 H2:Hp}(a:Ext H H1)(b:Ext H1 H2):Ext H H2:=⟨fun c xs h=>b.tup c xs (a.tup c xs h),fun c o u h=>b.frz c o u (a.frz c o u h)⟩
theorem Ext.same {H H':Hp}(x:Same H H'):Ext H H':=⟨fun b _ h=>x b _ h,fun b _ _ h=>x b _ h⟩
theorem Ext.x {a:Addr}{H H':Hp}{ys:List V}(x:SameX a H H')(ha:H a=some (.lst ys)):Ext H H' :=
 ⟨fun b _ h=>x b _ h (Z1v h ha (by intro z;cases z)),fun b _ _ h=>x b _ h (Z1v h ha (by intro z;cases z))⟩
theorem Ext.bag {a:Addr}{n:Nat}{H H':Hp}(x:SameX a H H')(ha:BagAt H a n):Ext H H':=by
 obtain⟨ys,e⟩:=ha.lst
 exact Ext.x x e
theorem Ext.upd {l:Addr}{H:Hp}{ys:List V}{o:HO}(hl:H l=some (.lst ys)):Ext H (L2.upd H l o):=Ext.x (SameX.upd l H o) hl
theorem Ext.new {l:Addr}{H:Hp}{o:HO}(hl:H l=none):Ext H (L2.upd H l o):=Ext.same (Same.new hl)
theorem Ext.sq {K:W.Frag}{H H':Hp}{a:Addr}{xs:List V}(e:Ext H H')(h:SqT K H a xs):SqT K H' a xs:=by
 rcases h with (h | ⟨o,h⟩) | h
 ·exact .inl (.inl (e.tup _ _ h))
 ·exact .inl (.inr ⟨o,e.frz _ _ _ h⟩)
 ·exact .inr h
abbrev Rat:=Int × Int
def IsR (K:W.Frag)(H:Hp)(r:Rat)(v:V):Prop:=∃ b,v=.ref b/\SqT K H b [.int r.1,.int r.2]
theorem IsR.ext {K:W.Frag}{H H':Hp}{r:Rat}{v:V}(h:IsR K H r v)(e:Ext H H'):IsR K H' r v:=by
 obtain⟨b,q,h⟩:=h
 exact⟨b,q,e.sq h⟩
def Rs (K:W.Frag)(H:Hp)(rs:List Rat)(xs:List V):Prop:=Paired (IsR K H) rs xs
theorem Rs.ext {K:W.Frag}{H H':Hp}{rs:List Rat}{xs:List V}(h:Rs K H rs xs)(e:Ext H H'):Rs K H' rs xs:=Paired.mapP h fun _ _ q=>q.ext e
theorem Rs.snoc {K:W.Frag}{H:Hp}{rs:List Rat}{xs:List V}{r:Rat}{v:V}(h:Rs K H rs xs)(q:IsR K H r v):Rs K H (rs++[r]) (xs++[v]):=Paired.snoc h q
theorem Rs.len {K:W.Frag}{H:Hp}{rs:List Rat}{xs:List V}(h:Rs K H rs xs):rs.length=xs.length:=Paired.length h
theorem Rs.at {K:W.Frag}{H:Hp}:∀ {rs:List Rat} {xs:List V} {i:Nat} {r:Rat},Rs K H rs xs->rs[i]?=some r->∃ v,xs[i]?=some v/\IsR K H r v
 | _,_,_,_,.nil,e=>by simp at e
 | _,_,0,_,.cons q _,e=>by
  simp at e
  subst e
  exact⟨_,rfl,q⟩
 | _,_,i+1,r,.cons _ t,e=>by
  obtain⟨v,h1,h2⟩:=Rs.at (i:=i) (r:=r) t (by simpa using e)
  exact⟨v,by simpa using h1,h2⟩
theorem Rs.back {K:W.Frag}{H:Hp}{rs:List Rat}{xs:List V}{i:Nat}{v:V}(h:Rs K H rs xs)(e:xs[i]?=some v):∃ r,rs[i]?=some r/\IsR K H r v:=by
 have hi:i<xs.length:=(List.getElem?_eq_some_iff.mp e).1
 have hr:i<rs.length:=by rw[h.len];exact hi
 obtain⟨w,h1,h2⟩:=h.at (i:=i) (r:=rs[i]) (by simp[hr])
 rw[e] at h1
 cases h1
 exact⟨_,by simp[hr],h2⟩
def RowAt (K:W.Frag)(H:Hp)(a:Addr)(rs:List Rat):Prop:=∃ xs,SqT K H a xs/\Rs K H rs xs
theorem RowAt.ext {K:W.Frag}{H H':Hp}{a:Addr}{rs:List Rat}(h:RowAt K H a rs)(e:Ext H H'):RowAt K H' a rs:=by
 obtain⟨xs,h1,h2⟩:=h
 exact⟨xs,e.sq h1,h2.ext e⟩
structure Good (n:Nat)(r:Rat):Prop where
 b1:Bd n r.1
 b2:Bd n r.2
 pos:0<r.2
 cop:Int.gcd r.1 r.2=1
theorem Good.mono {m n:Nat}{r:Rat}(h:Good m r)(k:m<=n):Good n r:=⟨h.b1.mono k,h.b2.mono k,h.pos,h.cop⟩
def nrm (p q:Int):Rat:=(nT p q,nB p q)
theorem V3 {n:Nat}{p q:Int}(hp:Bd n p)(hq:Bd n q)(h:q≠0):Good n (nrm p q):=⟨hp.of_le' (Z3l h),hq.of_le' (Z3m h),Pr h,Cp h⟩
def addR (r s:Rat):Rat:=nrm (r.1*s.2+s.1*r.2) (r.2*s.2)
def subR (r s:Rat):Rat:=nrm (r.1*s.2 - s.1*r.2) (r.2*s.2)
def mulR' (r s:Rat):Rat:=nrm (r.1*s.1) (r.2*s.2)
theorem Xp {a b:Int}(ha:0<a)(hb:0<b):a*b≠0:=by
 have:=Int.mul_pos ha hb
 omega
end Sb
namespace Sb
open PySem PySem.Spec PyProof.Rows L2
set_option maxRecDepth 100000
theorem V4:fillsNumberSlot (.type "tuple") "mul"=pure false :=
 PySem.fillsNumberSlot_seq (id:="tuple.__mul__") (r:=some (.builtin "tuple.__rmul__")) F.slot_tuple_mul.lookup (by decide +kernel) F.slot_tuple_rmul.lookup (by decide +kernel)
theorem Uh:seqRepeat? (.type "tuple")=pure (some (.builtin "tuple.__mul__")):=by
 unfold seqRepeat?
 rw[PySem.seqSlot_of (T:="tuple") (name:="__mul__") (id:="tuple.__mul__") F.slot_tuple_mul.lookup (by decide +kernel),PySem.seqSlot_of (T:="tuple") (name:="__rmul__") (id:="tuple.__rmul__") F.slot_tuple_rmul.lookup (by decide +kernel)]
 rfl
theorem Vz (a:Int)(t:Tok)(l:Addr)(items:Array Value)(n:Nat)(dd:Option Addr)(sl:Array (Option Value)) :
  Meets (Builtin.«int.__rmul__» ⟨[.int a t,.ref l],[]⟩) (fun _ R s=>s.heap.get? l=some { cls:=.type "tuple",dict:=dd,data:=.seq items n,slots:=sl }/\R (.ok (.ret Value.notImplemented)) s) :=
 .of_wp fun prog w A R s h=>by obtain⟨hp,g,d,tk,os⟩:=s;obtain⟨hl,h⟩:=h;wp_walk;exact⟨_,rfl,h⟩
theorem G5 (l:Addr)(items:Array Value)(n:Nat)(dd:Option Addr)(sl:Array (Option Value))(x:Int)(u:Tok)(h1:2<=x)(h2:items.isEmpty=false)(h3:items.size*x.toNat<=1000) :
  Meets (Builtin.«tuple.__mul__» ⟨[.ref l,.int x u],[]⟩) (fun _ R s=>s.heap.get? l=some { cls:=.type "tuple",dict:=dd,data:=.seq items n,slots:=sl } ∧
   R (.ok (.ret (Value.ref s.heap.objs.size))) { s with heap:=s.heap.push { cls:=Value.type "tuple",data:=Data.seq (List.foldl (·++·) #[] (List.replicate x.toNat items)) } }) :=
 .of_wp fun prog w A R s h=>by
  obtain⟨hp,g,d,tk,os⟩:=s;obtain⟨hl,h⟩:=h
  have f1:=AutoSeq1.idx_int
  have f2:=AutoSeq1.sub_tuple_tuple
  have b1:(items.size:Int)*x<=1000:=by
   have e:x=(x.toNat:Int):=by omega
   rw[e,← Int.natCast_mul]
   omega
  have b2:0<items.size:=by
   cases items with
   | mk l=>cases l with
    | nil=>simp at h2
    | cons a r=>simp
  have b3:x<=1000:=by
   have:(1:Int)*x<=(items.size:Int)*x:=Int.mul_le_mul_of_nonneg_right (by omega) (by omega)
   omega
  have c0:¬ (decide (x < -2 ^ 63) || decide (x ≥ 2 ^ 63))=true:=by simp;omega
  have c1:¬ (items.isEmpty || x == 1)=true:=by rw[h2];simp;omega
  have c2:¬ (decide (x<=0) || items.isEmpty)=true:=by rw[h2];simp;omega
  have c3:¬ ((items.size:Int)*x > (2 ^ 63 - 1) / 8):=by
   have:(1000:Int)<=(2 ^ 63 - 1) / 8:=by decide
   omega
  have c4:¬ Builtin.Tuple.tupleTooMany ((items.size:Int)*x)=true:=by
   unfold Builtin.Tuple.tupleTooMany
   have:((items.size:Int)*x).toNat<=1000:=by omega
   have:(1000:Nat)<=sizeLine:=by decide
   simp
   omega
  have c5:(List.foldl (fun x1 x2=>x1++x2) #[] (List.replicate x.toNat items)).size<=sizeLine:=by
   rw[AutoSeq1.size_joined]
   have:(1000:Nat)<=sizeLine:=by decide
   have e:x.toNat*items.size=items.size*x.toNat:=Nat.mul_comm ..
   simp
   omega
  wp_walk using wpAny_loadPart' hl
  refine wpAny_ite_false (decide_eq_false c0) ?_
  wp_walk using wpAny_loadPart' hl
  refine wpAny_ite_false (decide_eq_false c1) ?_
  wp_walk using wpAny_loadPart' hl
  refine wpAny_ite_false (decide_eq_false c2) ?_
  wp_walk using wpAny_loadPart' hl
  refine wpAny_ite_false (decide_eq_false c3) ?_
  wp_walk using wpAny_loadPart' hl
  exact⟨_,rfl,h⟩
section
variable {X:Cx}{K:W.Frag}
def rRepT (K:W.Frag):R2:=fun x y H Q=>∃ a k xs,x=.ref a/\y=.int k/\SqT K H a xs/\2<=k/\xs≠[]/\xs.length*k.toNat<=1000/\∀ p,H p=none->Q (.ref p) (upd H p (.tup (List.replicate k.toNat xs).flatten))
theorem Jb:OpR X (binaryOp .Mult) (rRepT X.K):=by
 intro pins s σ H x y v u Q I rx ry h
 obtain⟨l,k,xs,rfl,rfl,hq,h1,h2,h3,q⟩:=h
 cases rx
 obtain⟨t,rfl⟩:=ry
 obtain⟨its,r,pl,hz⟩:=I.tuple hq
 obtain⟨⟨cls,dd,data,sl⟩,ho,hc,n,hd⟩:=id pl
 simp only at hc hd
 subst hc hd
 have hl:=r.length
 have he:its.toArray.isEmpty=false:=by
  cases its with
  | nil=>cases r;exact absurd rfl h2
  | cons a b=>rfl
 have hnew:List.foldl (fun x1 x2=>x1++x2) #[] (List.replicate k.toNat its.toArray)=(List.replicate k.toNat its).flatten.toArray:=by
  have:=P0 its k.toNat []
  rw[List.nil_append] at this
  exact this
 refine wpAny_binaryOp_repeat_ref (T:="tuple") (U:="int") (by decide) ⟨_,ho,rfl⟩ (fun s'=>typeIs_int s' k t) V4 F.fills_int_mul F.slot_int_rmul Uh F.slot_int_index.lookup
  (call_meets F.slot_int_rmul (typeIs_int s k t) F.entry_int_rmul (F.args_int_rmul_2 _ _) (Vz k t l its.toArray n dd sl)
   ⟨ho,rfl,⟨_,ho,rfl⟩,call_meets F.slot_tuple_mul ⟨_,ho,rfl⟩ F.entry_tuple_mul (F.args_tuple_mul_2 _ _) (G5 l its.toArray n dd sl k t h1 he (by rw[List.size_toArray,← hl];exact h3)) ⟨ho,?_⟩⟩)
 rw[hnew]
 refine⟨.ref s.heap.objs.size,_,I.laid (t':=s.toks) (o:=.tup (List.replicate k.toNat xs).flatten) (fun b ob q=>Heap.get?_push_of_some _ q) (Nat.le_refl _) ?_,rfl,q _ (I.hok.fresh (Nat.le_refl _))⟩
 exact⟨by rw[Z19,Nat.mul_comm];exact Nat.le_trans h3 (by decide),_,r.rep k.toNat,IsTup.new _ _⟩
def rEqI (K:W.Frag):R2:=fun x y H Q=>∃ (a b:Addr) (ns ms:List Int),x=.ref a/\y=.ref b/\SqT K H a (ns.map V.int)/\SqT K H b (ms.map V.int)/\Q (.bl (decide (ns=ms))) H
theorem Z35 (ns ms:List Int):((List.range (min ns.length ms.length)).all (fun j=>ns.getD j 0 == ms.getD j 0) && ns.length == ms.length)=decide (ns=ms):=by
 rw[Bool.eq_iff_iff]
 simp only [Bool.and_eq_true,List.all_eq_true,List.mem_range,beq_iff_eq,decide_eq_true_eq]
 constructor
 ·rintro ⟨h,hl⟩
  refine List.ext_getElem hl fun i h1 h2=>?_
  have:=h i (by omega)
  simpa [List.getD,h1,h2] using this
 ·rintro rfl
  exact⟨fun _ _=>rfl,rfl⟩
theorem Jm {ns:List Int}{us:List Value}(r:Vals (ns.map V.int) us){j:Nat}(h:j<us.length):∃ t,us[j]=Value.int (ns.getD j 0) t:=by
 have hl:=r.length
 rw[List.length_map] at hl
 have hj:j<ns.length:=by omega
 obtain⟨u,e,q⟩:=r.get (i:=j) (show (ns.map V.int)[j]?=some (V.int ns[j]) by simp[hj])
 obtain⟨t,rfl⟩:=q
 have e2:us[j]?=some us[j]:=by simp[h]
 rw[e2] at e
 refine⟨t,?_⟩
 rw[Option.some.inj e]
 simp[List.getD,hj]
theorem Dx (hu:X.A.units<cLine)(hK:X.K=K:=by rfl):OpR X (compareOp .Eq) (rEqI K):=by
 subst hK
 intro pins s σ H x y v u Q I rx ry h
 obtain⟨a,b,ns,ms,rfl,rfl,ha,hb,q⟩:=h
 cases rx
 cases ry
 obtain⟨its,r1,p1,_⟩:=I.tuple ha
 obtain⟨its2,r2,p2,_⟩:=I.tuple hb
 have l1:=r1.length
 have l2:=r2.length
 rw[List.length_map] at l1 l2
 refine SeqAt.eq_tupleAt (e:=fun j=>ns.getD j 0 == ms.getD j 0) p1 p2 hu (fun j h1 h2=>?_) ?_
 ·obtain⟨t,e1⟩:=Jm r1 (j:=j) (by simpa using h1)
  obtain⟨t',e2⟩:=Jm r2 (j:=j) (by simpa using h2)
  have e1':its.toArray[j]=Value.int (ns.getD j 0) t:=by simpa using e1
  have e2':its2.toArray[j]=Value.int (ms.getD j 0) t':=by simpa using e2
  rw[e1',e2']
  exact SeqAt.EqAt.int_int _ _ _ _
 ·rw[List.size_toArray,List.size_toArray,← l1,← l2,Z35]
  exact⟨.bl _,H,I,rfl,q⟩
end
theorem Q1 (i:Int)(ns:List Int):inV (.int i) (ns.map V.int)=decide (i∈ns):=by
 unfold inV
 rw[List.any_map,Bool.eq_iff_iff]
 simp only [List.any_eq_true,decide_eq_true_eq,Function.comp]
 constructor
 ·rintro ⟨x,hx,e⟩
  have:x=i:=by simpa [eqV] using e
  exact this ▸ hx
 ·intro h
  exact⟨i,h,by simp[eqV]⟩
theorem Tm (ns:List Int):(ns.map V.int).all flatV=true:=by
 rw[List.all_map,List.all_eq_true]
 intro x _
 rfl
end Sb
namespace Sb
open PySem L2
def Con (K:W.Frag)(mg:Str->Option Value)(x:Str)(r:Rat):Prop:=∃ a:Addr,mg x=some (.ref a)/\∀ H,SqT K H a [.int r.1,.int r.2]
theorem Bt {K:W.Frag}{h:Heap}{mg:Str->Option Value}{x:Str}{a:Addr}{i j:Int}{t1 t2:Tok}{n:Nat}{dd:Option Addr}{sl:Array (Option Value)}(X:K.In h)(G:h.Ns mainGlobals mg)
  (e:W.nsIn K mainGlobals x=some (some (.ref a))) (l:K.lookup a=some ⟨.type "tuple",dd,.seq #[.int i t1,.int j t2] n,sl⟩):Con K mg x (i,j) :=
 ⟨a,W.mg_of X G e,fun H=>.inr ⟨_,_,_,l,rfl,rfl,sz2,.cons ⟨_,rfl⟩ (.cons ⟨_,rfl⟩ .nil)⟩⟩
def evI (c:Nat)(p:Nat->Bool):List Int:=((List.range c).filter p).map fun (w:Nat)=>(w:Int)
def EvAt (K:W.Frag)(H:Hp)(c:Nat)(o:Option (Nat->Bool))(v:V):Prop:=match o with
 | none=>v=.non
 | some p=>∃ a,v=.ref a/\SqT K H a ((evI c p).map V.int)
theorem EvAt.ext {K:W.Frag}{H H':Hp}{c:Nat}{o:Option (Nat->Bool)}{v:V}(h:EvAt K H c o v)(e:Ext H H'):EvAt K H' c o v:=by
 cases o with
 | none=>exact h
 | some p=>obtain⟨a,q,h⟩:=h;exact⟨a,q,e.sq h⟩
theorem EvAt.same {K:W.Frag}{H H':Hp}{c:Nat}{o:Option (Nat->Bool)}{v:V}(h:EvAt K H c o v)(e:Same H H'):EvAt K H' c o v:=h.ext (Ext.same e)
def inE (o:Option (Nat->Bool))(i:Nat):Bool:=match o with
 | none=>true
 | some p=>p i
theorem Je {c:Nat}{p:Nat->Bool}{i:Nat}:((i:Int)∈evI c p) ↔ i<c/\p i=true:=by
 unfold evI
 simp only [List.mem_map,List.mem_filter,List.mem_range]
 constructor
 ·rintro ⟨j,h,e⟩
  have:j=i:=by omega
  exact this ▸ h
 ·intro h
  exact⟨i,h,rfl⟩
theorem Bj (c:Nat)(p:Nat->Bool):evI (c+1) p=evI c p++if p c then [(c:Int)] else []:=by
 unfold evI
 rw[List.range_succ,List.filter_append,List.map_append]
 congr 1
 cases h:p c <;> simp[h]
theorem Jk {c A B:Prop}[Decidable c](hc:c)(h:A):if decide c=true then A else B:=by rw[decide_eq_true hc];exact Ti h
theorem Qz {c A B:Prop}[Decidable c](hc:¬ c)(h:B):if decide c=true then A else B:=by rw[decide_eq_false hc];exact Wf h
theorem Z1b {b:Bool}{A B:Prop}(h1:b=true->A)(h0:b=false->B):if b=true then A else B:=by
 cases b with
 | true=>exact Ti (h1 rfl)
 | false=>exact Wf (h0 rfl)
theorem Y9 {α:Type}{l:List α}{i:Nat}{x:α}(h:l[i]?=some x):l.take (i+1)=l.take i++[x]:=by rw[List.take_add_one,h];rfl
def cutR (o:Option (Nat->Bool))(rs:List Rat):List Rat:=rs.mapIdx fun i r=>if inE o i then r else (0,1)
theorem Wo {o:Option (Nat->Bool)}{rs:List Rat}{i:Nat}{r:Rat}(h:rs[i]?=some r):(cutR o rs)[i]?=some (if inE o i then r else (0,1)):=by
 unfold cutR
 rw[List.getElem?_mapIdx,h]
 rfl
theorem Yl (o:Option (Nat->Bool))(rs:List Rat):(cutR o rs).length=rs.length:=by unfold cutR;simp
def mapR {α:Type}(op:Rat->α)(rs:List Rat)(i:Nat):List α:=(rs.take i).map op
theorem Gu {α:Type}(op:Rat->α){rs:List Rat}{i:Nat}{r:Rat}(hr:rs[i]?=some r):mapR op rs (i+1)=mapR op rs i++[op r]:=by
 unfold mapR
 rw[List.take_add_one,hr,List.map_append]
 rfl
theorem Ct {α:Type}(op:Rat->α){rs:List Rat}{n:Nat}(hr:rs.length=n):mapR op rs n=rs.map op:=by
 unfold mapR
 rw[List.take_of_length_le (by omega)]
def ltR (r s:Rat):Bool:=decide (r.1*s.2<s.1*r.2)
theorem Rs.app {K:W.Frag}{H:Hp}:∀ {rs ss:List Rat} {xs ys:List V},Rs K H rs xs->Rs K H ss ys->Rs K H (rs++ss) (xs++ys)
 | _,_,_,_,.nil,s=>s
 | _,_,_,_,.cons r t,s=>.cons r (Rs.app t s)
theorem Z33 {xs:List V}{i:Nat}(h:i<=xs.length):cutV xs none (some (i:Int))=xs.take i:=by
 unfold cutV
 rw[HT.sIx_none,HT.sIx_nat,Nat.min_eq_left h]
 simp
end Sb
namespace Sb
open PySem PySem.Spec PyProof.Rows L2
section
variable {X:Cx}{tg:Expr}{K:W.Frag}
def iSeq (K:W.Frag)(tl:TE):TI:=fun σ H R=>tl σ H fun x H1=>∃ a,x=.ref a/\(((∃ xs,SqL K H1 a xs)/\R (Itl K a) H1) \/ ((∃ xs,SqT K H1 a xs)/\R (Itt K a) H1))
theorem Z2a {l:Expr}{tl:TE}(hl:PE X l tl):PI X tg l (iSeq X.K tl):=by
 intro pins s σ H R I h
 refine thn (hl pins s σ H _ I h) fun v s1 ⟨x,H1,I1,r1,q1⟩=>?_
 obtain⟨a,e,⟨⟨xs,hq⟩,q⟩ | ⟨⟨xs,hq⟩,q⟩⟩:=q1
 ·subst e
  cases r1
  obtain⟨its,rv,p,hz⟩:=I1.list hq
  refine wpAny_pyIter_list p.isList ?_
  refine⟨s1.heap.objs.size,[s1.heap.objs.size],_,_,H1,rfl,I1.kept (t':=s1.toks) fun b o e=>Heap.get?_push_of_some _ e,Uy a _,⟨_,Heap.get?_push_size _ rfl,rfl,rfl⟩,fun b hb=>?_,q⟩
  have e:b=s1.heap.objs.size:=by simpa using hb
  subst e
  exact I1.fpOk (Nat.le_refl _) (I1.hok.fresh (Nat.le_refl _))
 ·subst e
  cases r1
  obtain⟨its,rv,p,hz⟩:=I1.tuple hq
  refine wpAny_pyIter_tuple (show s1.heap.IsTuple a its.toArray from p) ?_
  refine⟨s1.heap.objs.size,[s1.heap.objs.size],_,_,H1,rfl,I1.kept (t':=s1.toks) fun b o e=>Heap.get?_push_of_some _ e,U4 a _,⟨_,Heap.get?_push_size _ rfl,rfl,rfl⟩,fun b hb=>?_,q⟩
  have e:b=s1.heap.objs.size:=by simpa using hb
  subst e
  exact I1.fpOk (Nat.le_refl _) (I1.hok.fresh (Nat.le_refl _))
theorem Z1e {a:Addr}{xs:List V}{g:TG}{tb:TS}{D:Ends}{σ:L2.St}{H:Hp}(Pv:Nat->L2.St->Hp->Prop)(hx:SqL K H a xs \/ SqT K H a xs)(h0:Pv 0 σ H)(hS:∀ i σ H',i<=xs.length->Pv i σ H'->Same H H')
  (hs:∀ i x σ H,xs[i]?=some x->Pv i σ H->g x σ H fun σ2 H2=>tb { D with nx:=Pv (i+1),ct:=Pv (i+1),bk:=D.nx } σ2 H2) (hd:∀ σ H,Pv xs.length σ H->D.nx σ H) :
  ∃ b,V.ref a=.ref b/\(((∃ xs,SqL K H b xs)/\∃ W:Nat->Nat->L2.St->Hp->Prop,(∃ m,W 0 m σ H)/\∀ i m σ H,W i m σ H →
   ((Itl K b).stop i H/\D.nx σ H) \/ ((Itl K b).go i H/\∃ N:L2.St->Hp->Prop,(∀ σ' H',N σ' H'->∃ m',m'<m/\W (i+1) m' σ' H')/\∀ x H',(Itl K b).yld i H x H'->g x σ H' fun σ2 H2=>tb { D with nx:=N,ct:=N,bk:=D.nx } σ2 H2)) ∨
   ((∃ xs,SqT K H b xs)/\∃ W:Nat->Nat->L2.St->Hp->Prop,(∃ m,W 0 m σ H)/\∀ i m σ H,W i m σ H →
   ((Itt K b).stop i H/\D.nx σ H) \/ ((Itt K b).go i H/\∃ N:L2.St->Hp->Prop,(∀ σ' H',N σ' H'->∃ m',m'<m/\W (i+1) m' σ' H')/\∀ x H',(Itt K b).yld i H x H'->g x σ H' fun σ2 H2=>tb { D with nx:=N,ct:=N,bk:=D.nx } σ2 H2))):=by
 refine⟨a,rfl,?_⟩
 rcases hx with hx | hx
 ·exact .inl ⟨⟨_,hx⟩,Uu (K:=K) (a:=a) (xs:=xs) Pv h0 (fun i σ H' hi p=>by
   rcases hx with (z | ⟨o,z⟩) | z
   ·exact .inl (.inl (hS i σ H' hi p _ _ z))
   ·exact .inl (.inr ⟨o,hS i σ H' hi p _ _ z⟩)
   ·exact .inr z) hs hd⟩
 ·exact .inr ⟨⟨_,hx⟩,N0 (K:=K) (a:=a) (xs:=xs) Pv h0 (fun i σ H' hi p=>Zq (hS i σ H' hi p) hx) hs hd⟩
theorem Tp (hc:X.calm=true)(hK:X.K=K:=by rfl):CallR X (.builtin "sum") (fun xs H Q=>∃ (p:Addr) (ns:List Int),xs=[.ref p]/\SqL K H p (ns.map V.int)/\Q (.int ns.sum) H):=by
 subst hK
 intro pins s σ H xs us Q I r h
 obtain⟨p,ns,rfl,hs,q⟩:=h
 obtain⟨u,e0,rx⟩:=Ub r
 cases (show u=Value.ref p from rx)
 subst e0
 obtain⟨its,rv,pl,hz⟩:=I.list hs
 have hi:IntsAre its ns:=Q0 rv
 obtain⟨ys,ey⟩:=hi.allInts.items
 have en:(numsOf its.toArray.toList)=ns:=hi.numsOf
 have lp:s.heap.IsList p (intItems ys):=by rw[← ey];exact pl.isList
 rw[ey,nums_intItems] at en
 refine Z37 (I.ok.hd hc) (fun p hp=>(I.pin p (List.mem_append_left _ hp)).1) lp fun h' tk t' hk=>⟨.int ns.sum,H,I.kept (t':=tk) hk,⟨t',?_⟩,q⟩
 rw[preSum_eq,List.take_of_length_le (by simp),en]
end
end Sb
namespace Sb
open PySem L2
theorem M3 {K:W.Frag}{H H':Hp}{a:Addr}{xs:List V}(e:Same H H')(h:SqL K H a xs):SqL K H' a xs:=by
 rcases h with (h | ⟨o,h⟩) | h
 ·exact .inl (.inl (e _ _ h))
 ·exact .inl (.inr ⟨o,e _ _ h⟩)
 ·exact .inr h
end Sb
namespace Sb
open PySem PySem.Spec PyProof.Rows L2
section
variable {P:Program}{w:World}{K:W.Frag}{mg:Str->Option Value}{base:Heap}{N:List Str}{qual:Str}{scope:Scope}{f:Addr}{cd:Value}{A:Around}{outer:List Env}{s:Shared}{H:Hp}{E:XK}
end
structure CatchBy (K:W.Frag)(C D:Addr):Prop where
 nt:W.instIn K (.ref D) (.type "tuple")=some false
 be:W.subIn K (.ref D) (.type "BaseException")=some true
 it:W.kitOne K (.type "int") (.ref D)=some false
 sub:W.subIn K (.ref C) (.ref D)=some true
section
variable {X:Cx}{k:Nat}{x:Str}{ps:List Str}{sp:Sp}{e:Expr}{es:List Expr}{t:TA}{p pos:Pos}{EX:L2.St->XK}
end
section
variable {X:Cx}{pins pins' pn:List (Addr × Obj)}{σ:L2.St}{H:Hp}{s:Shared}{E:Value->Shared->Prop}{a:Addr}
end
section
variable {X:Cx}{x:Str}{C D:Addr}{body:List Stmt}{b₀:Stmt}{suite:List Stmt}{np hp pos:Pos}{tb:(L2.St->XK)->TS}{ts:TS}
end
open PySem.W (Looks findIn specialIn takesIn mroIn clsIn InstAt findObj KitX)
def ExAt (h:Heap)(x C:Addr):Prop:=∃ ox,h.get? x=some ox/\ox.cls=.ref C
section
variable {K:W.Frag}{C x:Addr}{prog:Program}{w:World}{A:Around}{E:Value->Shared->Prop}{h:Heap}{g:Array GenState}{d:Drawn}{t:Nat}{os:OsState}
end
section
variable {X:Cx}{K:W.Frag}
end
end Sb
namespace Sb
open PySem PySem.Spec PyProof.Rows L2
section
variable {X:Cx}{pins:List (Addr × Obj)}{σ:L2.St}{H:Hp}{s:Shared}
end
section
variable {X:Cx}{x n:Str}{i:Nat}{C D:Addr}{body:List Stmt}{b₀:Stmt}{suite:List Stmt}{np hp pos:Pos}{tb:(L2.St->XK)->TS}{ts:TS}
end
theorem Paired.getB {α β:Type}{R:α->β->Prop}:∀ {xs:List α} {ys:List β} {i:Nat} {x:α} {y:β},Paired R xs ys->xs[i]?=some x->ys[i]?=some y->R x y
 | _,_,_,_,_,.nil,e,_=>by simp at e
 | _,_,0,_,_,.cons q _,e,e'=>by
  simp at e e'
  subst e e'
  exact q
 | _,_,i+1,x,y,.cons _ t,e,e'=>Paired.getB (i:=i) t (by simpa using e) (by simpa using e')
section
variable {X:Cx}{pins:List (Addr × Obj)}{σ:L2.St}{H:Hp}{s:Shared}{K:W.Frag}
def rIndex (K:W.Frag):V->List V->Hp->VK->Prop:=fun x vs H Q=>∃ (l:Addr) (ns:List Int) (i:Int) (j:Nat),x=.ref l/\vs=[.int i]/\SqL K H l (ns.map V.int)/\ns[j]?=some i/\(∀ m,m<j->ns[m]?≠some i)/\ns.length<=1000/\Q (.int j) H
def eInt (i:Int):Value->Bool
 | .int a _=>a == i
 | _=>false
theorem Rn (hK:X.K=K:=by rfl):MtM X "list.index" (rIndex K):=by
 subst hK
 intro pins s σ H x vs v us Q I rx rv h
 obtain⟨l,ns,i,j,rfl,rfl,hq,hj,hno,hl,q⟩:=h
 cases rx
 obtain⟨u,rfl,ru⟩:=rv.one
 obtain⟨t,rfl⟩:=ru
 obtain⟨its,r,pl,hz⟩:=I.list hq
 obtain⟨⟨cls,dd,data,sl⟩,ho,hc,n,hd⟩:=pl.isList
 simp only at hc hd
 subst hc hd
 have lr:=r.length
 rw[List.length_map] at lr
 have at_:∀ (m:Nat) (hm:m<its.toArray.size),∃ t',its.toArray[m]=Value.int (ns[m]'(by simp at hm;omega)) t':=fun m hm=>by
  have hm':m<its.length:=by simpa using hm
  obtain⟨w,e,q⟩:=r.get (i:=m) (x:=V.int (ns[m]'(by omega))) (by simp)
  obtain⟨t',rfl⟩:=q
  refine⟨t',?_⟩
  have:its[m]?=some its[m]:=by simp[hm']
  rw[this] at e
  simpa using Option.some.inj e
 have hjn:j<ns.length:=(List.getElem?_eq_some_iff.mp hj).1
 have hjs:j<its.toArray.size:=by simp;omega
 refine call_meets F.slot_list_index ⟨_,ho,rfl⟩ F.entry_list_index (F.args_list_index_2 _ _) (SeqAt.list_indexAt l its.toArray n dd sl (.int i t) (eInt i) j hjs (by omega) ?_ ?_) ⟨ho,fun y hy=>?_,?_⟩
 ·obtain⟨t',e⟩:=at_ j hjs
  rw[e]
  have:ns[j]=i:=by
   have:=(List.getElem?_eq_some_iff.mp hj).2
   exact this
  show (ns[j] == i)=true
  rw[this]
  exact beq_self_eq_true i
 ·intro m hm hmj
  obtain⟨t',e⟩:=at_ m hm
  rw[e]
  have hm':m<ns.length:=by simp at hm;omega
  show (ns[m] == i)=false
  apply beq_false_of_ne
  intro z
  exact hno m hmj (by rw[← z];simp[hm'])
 ·obtain⟨m,hm,e⟩:=Array.mem_iff_getElem.mp hy
  obtain⟨t',e'⟩:=at_ m hm
  rw[← e,e']
  exact SeqAt.EqAt.int_int _ _ _ _
 ·exact⟨.int j,H,I.tok _,⟨_,rfl⟩,q⟩
theorem Fi (hc:X.calm=true)(hK:X.K=K:=by rfl):CallR X (.builtin "min") (fun xs H Q=>∃ (p:Addr) (ns:List Int),xs=[.ref p]/\SqL K H p (ns.map V.int)/\ns≠[]/\∀ M,M∈ns->(∀ a∈ns,M<=a)->Q (.int M) H):=by
 subst hK
 intro pins s σ H xs us Q I r h
 obtain⟨p,ns,rfl,hs,hne,q⟩:=h
 obtain⟨u,e0,rx⟩:=Ub r
 cases (show u=Value.ref p from rx)
 subst e0
 obtain⟨its,rv,pl,hz⟩:=I.list hs
 have hi:IntsAre its ns:=Q0 rv
 obtain⟨ys,ey⟩:=hi.allInts.items
 have hns:ns=ys.toList.map (·.1):=by
  rw[← hi.numsOf,← nums_intItems,← ey]
 have hsz:0<ys.size:=by
  have h3:0<ns.length:=List.length_pos_iff.mpr hne
  rw[hns,List.length_map,Array.length_toList] at h3
  exact h3
 have lp:s.heap.IsList p (intItems ys):=by rw[← ey];exact pl.isList
 refine Z3n (I.ok.hd hc) (fun p hp=>(I.pin p (List.mem_append_left _ hp)).1) lp hsz fun v h' tk hv hk=>?_
 obtain⟨t,rfl⟩:=intItems_at hv
 obtain⟨h1,h2⟩:=argBest_lt (numAt ys) (ys.size - 1)
 refine⟨.int _,H,I.kept (t':=tk) hk,⟨t,rfl⟩,q _ ?_ fun a ha=>?_⟩
 ·rw[hns,numAt_eq]
  exact getD_mem (by rw[List.length_map,Array.length_toList];omega)
 ·rw[hns] at ha
  obtain⟨j,hj,rfl⟩:=mem_getD ha
  rw[List.length_map,Array.length_toList] at hj
  rw[← numAt_eq]
  exact h2 j (by omega)
end
end Sb
namespace Sb
open PySem PySem.Builtin.SmallTypes
abbrev yH1 (h:Heap)(t:Addr):Heap:=h.push { cls:=.type "list_iterator",data:=.fields #[.ref t,.int 0 0] }
abbrev yH2 (h:Heap)(t u:Addr):Heap:=(yH1 h t).push { cls:=.type "list_iterator",data:=.fields #[.ref u,.int 0 0] }
abbrev yH3 (h:Heap)(t u:Addr):Heap:=(yH2 h t u).push { cls:=.type "tuple",data:=.seq #[.ref h.objs.size,.ref (yH1 h t).objs.size] }
abbrev yH4 (h:Heap)(t u:Addr):Heap:=(yH3 h t u).push { cls:=.type "tuple",data:=.seq #[.none,.none] }
abbrev yH5 (h:Heap)(t u:Addr):Heap:=(yH4 h t u).push { cls:=.type "zip",data:=.fields #[.none,.bool false,.bool false,.ref (yH2 h t u).objs.size,.ref (yH3 h t u).objs.size] }
theorem K0 (t u:Addr)(xs ys:Array Value):Meets (Builtin.«zip.__new__» ⟨[.type "zip",.ref t,.ref u],[]⟩) (fun _ R s=>s.heap.IsList t xs/\s.heap.IsList u ys ∧
  R (.ok (.ret (.ref (yH4 s.heap t u).objs.size))) { s with heap:=yH5 s.heap t u }) :=
 .of_wp fun prog w A R s h=>by
  obtain⟨hp,g,d,tk,os⟩:=s
  obtain⟨h1,h2,h⟩:=h
  have hsub:=sub_zip
  have T1:Heap.IsList (Shared.heap ⟨hp,g,d,tk,os⟩) t xs:=h1
  have T2:Heap.IsList (Shared.heap ⟨hp.push { cls:=.type "list_iterator",data:=.fields #[.ref t,.int 0 0] },g,d,tk,os⟩) u ys:=Heap.IsList.push h2 _
  wp_walk using wpAny_pyIter_list T1,wpAny_pyIter_list T2
  exact⟨_,rfl,h⟩
theorem Fh {prog:Program}{w:World}{A:Around}{E:Value->Shared->Prop}{s:Shared}{t u:Addr}{xs ys:Array Value}{Q:Value->Shared->Prop}(h1:s.heap.IsList t xs)(h2:s.heap.IsList u ys)
  (h:∀ h',IsZip h' (s.heap.objs.size+4) (s.heap.objs.size+2) (s.heap.objs.size+3) .none->IsPair h' (s.heap.objs.size+2) (.ref s.heap.objs.size) (.ref (s.heap.objs.size+1))->IsPair h' (s.heap.objs.size+3) .none .none →
   h'.IsListIter s.heap.objs.size t 0->h'.IsListIter (s.heap.objs.size+1) u 0->h'.objs.size=s.heap.objs.size+5->(∀ c o,s.heap.get? c=some o->h'.get? c=some o)->Q (.ref (s.heap.objs.size+4)) { s with heap:=h' }) :
  wpAny (model prog w) A (call (.type "zip") [.ref t,.ref u]) Q E s:=by
 refine callType_new F.called_zip (by decide) (F.typeCall_zip_2 _ _) (F.newCall_zip_2 _ _) (fun obj=>F.args_object_init_3 obj _ _) F.entry_zip_new (K0 t u xs ys) ⟨h1,h2,?_⟩
 have e1:(yH1 s.heap t).objs.size=s.heap.objs.size+1:=Heap.size_push ..
 have e2:(yH2 s.heap t u).objs.size=s.heap.objs.size+2:=by rw[Heap.size_push,e1]
 have e3:(yH3 s.heap t u).objs.size=s.heap.objs.size+3:=by rw[Heap.size_push,e2]
 have e4:(yH4 s.heap t u).objs.size=s.heap.objs.size+4:=by rw[Heap.size_push,e3]
 have e5:(yH5 s.heap t u).objs.size=s.heap.objs.size+5:=by rw[Heap.size_push,e4]
 have p5:(yH5 s.heap t u).get? (yH4 s.heap t u).objs.size=some _:=Heap.get?_push_size _ rfl
 have p4:(yH5 s.heap t u).get? (yH3 s.heap t u).objs.size=some _:=Heap.get?_push_of_some _ (Heap.get?_push_size _ rfl)
 have p3:(yH5 s.heap t u).get? (yH2 s.heap t u).objs.size=some _:=Heap.get?_push_of_some _ (Heap.get?_push_of_some _ (Heap.get?_push_size _ rfl))
 have p2:(yH5 s.heap t u).get? (yH1 s.heap t).objs.size=some _:=Heap.get?_push_of_some _ (Heap.get?_push_of_some _ (Heap.get?_push_of_some _ (Heap.get?_push_size _ rfl)))
 have p1:(yH5 s.heap t u).get? s.heap.objs.size=some _:=Heap.get?_push_of_some _ (Heap.get?_push_of_some _ (Heap.get?_push_of_some _ (Heap.get?_push_of_some _ (Heap.get?_push_size _ rfl))))
 show _/\_
 rw[e2,e3,e4] at p5
 rw[e1,e2] at p3
 rw[e3] at p4
 rw[e1] at p2
 rw[e4]
 refine⟨⟨_,p5,rfl⟩,h _ p5 p3 p4 ⟨_,p1,rfl,rfl⟩ ⟨_,p2,rfl,rfl⟩ e5 fun c o x=>?_⟩
 exact Heap.get?_push_of_some _ (Heap.get?_push_of_some _ (Heap.get?_push_of_some _ (Heap.get?_push_of_some _ (Heap.get?_push_of_some _ x))))
theorem Mj (t:Addr)(ys:Array Value)(n:Nat)(dd:Option Addr)(sl:Array (Option Value)):Meets (Builtin.«enumerate.__new__» ⟨[.type "enumerate",.ref t],[]⟩) (fun _ R s=>s.heap.get? t=some { cls:=.type "list",dict:=dd,data:=.seq ys n,slots:=sl } ∧
  R (.ok (.ret (.ref (yH1 s.heap t).objs.size))) { s with heap:=(yH1 s.heap t).push { cls:=.type "enumerate",data:=.fields #[.none,.bool false,.ref s.heap.objs.size,rawInt 0,.none,.none] } }) :=
 .of_wp fun prog w A R s h=>by
  obtain⟨hp,g,d,tk,os⟩:=s
  obtain⟨hl,h⟩:=h
  have hsub:=sub_enumerate
  have hL:Heap.IsList (Shared.heap ⟨hp,g,d,tk,os⟩) t ys:=⟨_,hl,rfl,n,rfl⟩
  wp_walk using wpAny_loadPart' hl
  refine wpAny_stack_any fun st=>wpAny_pure ?_
  split
  ·rename_i c _ _ _ _ _
   cases (c == Value.type "enumerate")
   ·wp_walk using wpAny_loadPart' hl,wpAny_pyIter_list hL
    exact⟨_,rfl,h⟩
   ·wp_walk using wpAny_loadPart' hl,wpAny_pyIter_list hL
    exact⟨_,rfl,h⟩
  ·wp_walk using wpAny_loadPart' hl,wpAny_pyIter_list hL
   exact⟨_,rfl,h⟩
theorem Ka {prog:Program}{w:World}{A:Around}{E:Value->Shared->Prop}{s:Shared}{t:Addr}{ys:Array Value}{Q:Value->Shared->Prop}(ht:s.heap.IsList t ys)
  (h:∀ h',IsEnum h' (s.heap.objs.size+1) s.heap.objs.size 0 .none->h'.IsListIter s.heap.objs.size t 0->h'.objs.size=s.heap.objs.size+2->(∀ b o,s.heap.get? b=some o->h'.get? b=some o)->Q (.ref (s.heap.objs.size+1)) { s with heap:=h' }) :
  wpAny (model prog w) A (call (.type "enumerate") [.ref t]) Q E s:=by
 obtain⟨⟨c,dd,dt,sl⟩,e,c1,n,d1⟩:=ht
 cases c1
 cases d1
 refine callType_new F.called_enumerate (by decide) (F.typeCall_enumerate_1 _) (F.newCall_enumerate_1 _) (fun obj=>F.args_object_init_2 obj _) F.entry_enumerate_new (Mj t ys n dd sl) ⟨e,?_⟩
 have hz:(yH1 s.heap t).objs.size=s.heap.objs.size+1:=Heap.size_push ..
 show _/\_
 rw[hz]
 have he:IsEnum ((yH1 s.heap t).push { cls:=.type "enumerate",data:=.fields #[.none,.bool false,.ref s.heap.objs.size,rawInt 0,.none,.none] }) (s.heap.objs.size+1) s.heap.objs.size 0 .none:=by
  have q:=Heap.get?_push_size (yH1 s.heap t) (o:={ cls:=.type "enumerate",data:=.fields #[.none,.bool false,.ref s.heap.objs.size,rawInt 0,.none,.none] }) rfl
  rw[hz] at q
  exact q
 exact⟨⟨_,he,rfl⟩,h _ he ⟨_,Heap.get?_push_of_some _ (Heap.get?_push_size _ rfl),rfl,rfl⟩ (by rw[Heap.size_push,hz]) fun b o x=>Heap.get?_push_of_some _ (Heap.get?_push_of_some _ x)⟩
end Sb
namespace Sb
open PySem PySem.Spec PyProof.Rows L2
section
variable {X:Cx}{pins:List (Addr × Obj)}{σ:L2.St}{H:Hp}{s:Shared}
theorem Te {b t:Addr}{xs:List V}(I:Inv X pins σ H s)(hf:FpOk X pins H b)(h:SqL X.K H t xs):t≠b:=by
 rintro rfl
 rcases h with (h | ⟨o,h⟩) | ⟨o,its,n,h,_⟩
 ·rw[hf.1] at h;cases h
 ·rw[hf.1] at h;cases h
 ·have e:=I.ok.mod.kin _ _ h
  rcases hf.2.2.2.1 with z | z
  ·exact I.ok.noex _ _ e z
  ·exact absurd (Nat.lt_of_lt_of_le (Heap.lt_size (I.ok.bs _ _ e).1) z) (Nat.lt_irrefl _)
end
def ItzL (K:W.Frag)(t u:Addr):It :=
 ⟨fun i H=>∃ xs ys,SqL K H t xs/\SqL K H u ys/\i<xs.length/\i<ys.length,
   fun i H v H'=>∃ p x y,v=.ref p/\H p=none/\H'=upd H p (.tup [x,y])/\(∀ xs,SqL K H t xs->xs[i]?=some x)/\∀ ys,SqL K H u ys->ys[i]?=some y,
   fun i H=>∃ xs ys,SqL K H t xs/\SqL K H u ys/\i=xs.length⟩
theorem G2 {P:Program}{w:World}{K:W.Frag}{es:List Expr}{kk:Nat}{tp:Pos}{z TI TO i1 i2:Addr}(O:ZOff z TI TO i1 i2)(t u:Addr) :
  Turn P w K (.Tuple es kk tp) (ItzL K t u) [z,TI,TO,i1,i2] z (fun i h=>IsZip h z TI TO .none/\IsPair h TI (.ref i1) (.ref i2)/\(∃ a b,IsPair h TO a b)/\h.IsListIter i1 t i/\h.IsListIter i2 u i) where
 mem:=by simp
 obj:=fun i h ⟨hz,hTI,⟨a,b,hTO⟩,⟨o1,e1,_,d1⟩,⟨o2,e2,_,d2⟩⟩ b hb=>by
  simp only [List.mem_cons,List.not_mem_nil,or_false] at hb
  rcases hb with rfl | rfl | rfl | rfl | rfl
  ·exact⟨_,hz,fun v q=>by have q':Data.fields _=Data.cell v:=q;cases q'⟩
  ·exact⟨_,hTI,fun v q=>by have q':Data.seq _ _=Data.cell v:=q;cases q'⟩
  ·exact⟨_,hTO,fun v q=>by have q':Data.seq _ _=Data.cell v:=q;cases q'⟩
  ·exact⟨_,e1,fun v q=>by rw[d1] at q;cases q⟩
  ·exact⟨_,e2,fun v q=>by rw[d2] at q;cases q⟩
 keep:=fun i h h' ⟨hz,hTI,⟨a,b,hTO⟩,⟨o1,e1,r1⟩,⟨o2,e2,r2⟩⟩ k=>⟨k z (by simp) _ hz,k TI (by simp) _ hTI,⟨a,b,k TO (by simp) _ hTO⟩,⟨o1,k i1 (by simp) _ e1,r1⟩,⟨o2,k i2 (by simp) _ e2,r2⟩⟩
 item:=by
  intro X hP hw hK hc i pins s σ H E I hf st hg
  subst hP hw hK
  obtain⟨xs,ys,hx,hy,lx,ly⟩:=hg
  obtain⟨hz,hTI,⟨a,b,hTO⟩,c1,c2⟩:=st
  obtain⟨u1,v1,p1',_⟩:=I.list hx
  have p1:=p1'.isList
  obtain⟨u2,v2,p2',_⟩:=I.list hy
  have p2:=p2'.isList
  have n1:=v1.length
  have n2:=v2.length
  have ne:∀ b∈[z,TI,TO,i1,i2],t≠b/\u≠b:=fun b hb=>⟨Te I (hf b hb) hx,Te I (hf b hb) hy⟩
  have off:∀ b∈[z,TI,TO,i1,i2],∀ x,(b,x) ∉ X.pn:=fun b hb x m=>(hf b hb).2.2.2.2.2 _ (List.mem_append_left _ m) rfl
  have qI:∀ p∈X.pn,s.heap.get? p.1=some p.2:=fun p hp=>(I.pin p (List.mem_append_left _ hp)).1
  have qO:∀ b∈[z,TI,TO,i1,i2],∀ p∈X.pn,p.1≠b:=fun b hb p hp=>(hf b hb).2.2.2.2.2 p (List.mem_append_left _ hp)
  have D:Off z TI TO i1 i2 (i1::t::X.pn.map Prod.fst) (i2::u::X.pn.map Prod.fst):=⟨O.a1,O.a2,O.a3,O.a4,O.a5,O.a6,O.a7,O.a8,O.a9,O.b1,
   by simp[O.a3.symm,(ne z (by simp)).1.symm,off z (by simp)],by simp[O.a8,(ne TO (by simp)).1.symm,off TO (by simp)],by simp[O.b1.symm,(ne i2 (by simp)).1.symm,off i2 (by simp)],
   by simp[O.a4.symm,(ne z (by simp)).2.symm,off z (by simp)],by simp[O.a9,(ne TO (by simp)).2.symm,off TO (by simp)],by simp[O.b1,(ne i1 (by simp)).2.symm,off i1 (by simp)]⟩
  have D1:=Sb.Draws.listQ (prog:=X.prog) (w:=X.w) (A:=X.A.in1) (I.ok.hd hc) i1 t (ne i1 (by simp)).1 (qO i1 (by simp)) u1.toArray
  have D2:=Sb.Draws.listQ (prog:=X.prog) (w:=X.w) (A:=X.A.in1) (I.ok.hd hc) i2 u (ne i2 (by simp)).2 (qO i2 (by simp)) u2.toArray
  refine M8 D D1 D2 hz hTI hTO ⟨c1,p1,qI⟩ ⟨c2,p2,qI⟩ (by simp;omega) (by simp;omega) fun x y g tk px py z' to' s1 s2 pr sz kp=>?_
  refine⟨_,rfl,wpAny_letOwnedTupleGo_zip z' fun g2 z2 sb=>?_⟩
  obtain⟨x0,ex⟩:∃ x0,xs[i]?=some x0:=⟨xs[i],by simp[lx]⟩
  obtain⟨y0,ey⟩:∃ y0,ys[i]?=some y0:=⟨ys[i],by simp[ly]⟩
  obtain⟨x1,ex1,rx⟩:=v1.get ex
  obtain⟨y1,ey1,ry⟩:=v2.get ey
  have qx:x1=x:=by
   have:u1.toArray[i]?=some x:=px
   rw[List.getElem?_toArray,ex1] at this
   exact Option.some.inj this
  have qy:y1=y:=by
   have:u2.toArray[i]?=some y:=py
   rw[List.getElem?_toArray,ey1] at this
   exact Option.some.inj this
  subst qx qy
  have zlt:z<s.heap.objs.size:=Heap.lt_size hz
  have pz:s.heap.objs.size≠z:=Nat.ne_of_gt zlt
  have sb2:∀ b,b≠z->g2.get? b=g.get? b:=fun b hb=>sb.2 b hb
  have keep:∀ b o,b ∉ [z,TI,TO,i1,i2]->s.heap.get? b=some o->g2.get? b=some o:=fun b o hb e=>by
   simp only [List.mem_cons,List.not_mem_nil,or_false,not_or] at hb
   rw[sb2 b hb.1]
   exact kp b o hb.1 hb.2.2.1 hb.2.2.2.1 hb.2.2.2.2 e
  have new:ObjOk X.prog X.w (upd H s.heap.objs.size (.tup [x0,y0])) g2 s.heap.objs.size (.tup [x0,y0]) :=
   ⟨by show 2<=sizeLine;decide,[x1,y1],.cons rx (.cons ry .nil),⟨_,by rw[sb2 _ pz];exact pr,rfl,0,rfl⟩⟩
  have I2:=Vh (t':=tk) I hf keep (Nat.le_refl _) new
  have nn:∀ b∈[z,TI,TO,i1,i2],upd H s.heap.objs.size (.tup [x0,y0]) b=none:=fun b hb=>by
   have:b≠s.heap.objs.size:=by
    have ob:∃ o,s.heap.get? b=some o:=by
     simp only [List.mem_cons,List.not_mem_nil,or_false] at hb
     obtain⟨o1,e1,_⟩:=c1
     obtain⟨o2,e2,_⟩:=c2
     rcases hb with rfl | rfl | rfl | rfl | rfl
     ·exact⟨_,hz⟩
     ·exact⟨_,hTI⟩
     ·exact⟨_,hTO⟩
     ·exact⟨_,e1⟩
     ·exact⟨_,e2⟩
    obtain⟨o,e⟩:=ob
    exact Nat.ne_of_lt (Heap.lt_size e)
   rw[Zf this]
   exact (hf b hb).1
  refine⟨.ref s.heap.objs.size,_,I2,rfl,⟨_,x0,y0,rfl,I.fresh,rfl,fun xs' h1=>by rw[I.list_inj h1 hx];exact ex,fun ys' h2=>by rw[I.list_inj h2 hy];exact ey⟩,⟨z2,?_,⟨x1,y1,?_⟩,?_,?_⟩,nn⟩
  ·exact (sb2 TI O.a1).trans (kp _ _ O.a1 O.a5 O.a6 O.a7 hTI)
  ·exact (sb2 TO O.a2).trans to'
  ·exact s1.1.extBut sb.extBut O.a3
  ·exact s2.1.extBut sb.extBut O.a4
 done:=by
  intro X hP hw hK hc i pins s σ H E I hf st hg
  subst hP hw hK
  obtain⟨xs,ys,hx,hy,rfl⟩:=hg
  obtain⟨hz,hTI,⟨a,b,hTO⟩,c1,c2⟩:=st
  obtain⟨u1,v1,p1',_⟩:=I.list hx
  have p1:=p1'.isList
  have n1:=v1.length
  have ne:∀ b∈[z,TI,TO,i1,i2],t≠b/\u≠b:=fun b hb=>⟨Te I (hf b hb) hx,Te I (hf b hb) hy⟩
  have off:∀ b∈[z,TI,TO,i1,i2],∀ x,(b,x) ∉ X.pn:=fun b hb x m=>(hf b hb).2.2.2.2.2 _ (List.mem_append_left _ m) rfl
  have qI:∀ p∈X.pn,s.heap.get? p.1=some p.2:=fun p hp=>(I.pin p (List.mem_append_left _ hp)).1
  have qO:∀ b∈[z,TI,TO,i1,i2],∀ p∈X.pn,p.1≠b:=fun b hb p hp=>(hf b hb).2.2.2.2.2 p (List.mem_append_left _ hp)
  have D:Off z TI TO i1 i2 (i1::t::X.pn.map Prod.fst) (i2::u::X.pn.map Prod.fst):=⟨O.a1,O.a2,O.a3,O.a4,O.a5,O.a6,O.a7,O.a8,O.a9,O.b1,
   by simp[O.a3.symm,(ne z (by simp)).1.symm,off z (by simp)],by simp[O.a8,(ne TO (by simp)).1.symm,off TO (by simp)],by simp[O.b1.symm,(ne i2 (by simp)).1.symm,off i2 (by simp)],
   by simp[O.a4.symm,(ne z (by simp)).2.symm,off z (by simp)],by simp[O.a9,(ne TO (by simp)).2.symm,off TO (by simp)],by simp[O.b1,(ne i1 (by simp)).2.symm,off i1 (by simp)]⟩
  have D1:=Sb.Draws.listQ (prog:=X.prog) (w:=X.w) (A:=X.A.in1) (I.ok.hd hc) i1 t (ne i1 (by simp)).1 (qO i1 (by simp)) u1.toArray
  have c1':s.heap.IsListIter i1 t u1.toArray.size:=by
   rw[List.size_toArray,← n1]
   exact c1
  refine Sc D D1 hz hTI ⟨c1',p1,qI⟩ fun g kp=>⟨rfl,?_⟩
  exact Ut (t':=s.toks) I hf fun b o hb e=>by
   simp only [List.mem_cons,List.not_mem_nil,or_false,not_or] at hb
   exact kp b o hb.1 hb.2.2.2.1 e
 self:=fun _ _ _ _ _ st h=>wpAny_pyIter_zip st.1 h
section
variable {X:Cx}
def iZipL (K:W.Frag)(ta:TA):TI:=fun σ H R=>ta σ H fun vs H1=>∃ t u,vs=[.ref t,.ref u]/\(∃ xs,SqL K H1 t xs)/\(∃ ys,SqL K H1 u ys)/\R (ItzL K t u) H1
theorem Pk {a b:Expr}{ta:TA}{p pos:Pos}{es:List Expr}{kk:Nat}{tp:Pos}(hg:Gl X "zip")(hm:X.mg "zip"=none)(ha:PA X [a,b] ta)(hs:starEach [a,b] X.env=[(false,eval a X.env),(false,eval b X.env)]:=by rfl)
  (hs2:starEach [b] X.env=[(false,eval b X.env)]:=by rfl):PI X (.Tuple es kk tp) (.Call (.Name "zip" p) [a,b] [] pos) (iZipL X.K ta):=by
 intro pins s σ H R I h
 refine Call_ (We I hg hm boot_zip (PyProof.Rows.callWith_type1 (thn (ha pos pins s σ H _ I h) fun us s1 ⟨vs,H1,I1,r1,q1⟩=>?_) (by rw[hs,hs2]) (by rw[hs2];rfl)))
 obtain⟨t,u,e,⟨xs,hx⟩,⟨ys,hy⟩,q⟩:=q1
 subst e
 obtain⟨t0,u0,e0,rt,ru⟩:=Kc r1
 cases (show t0=Value.ref t from rt)
 cases (show u0=Value.ref u from ru)
 subst e0
 obtain⟨u1,v1,p1',_⟩:=I1.list hx
 have p1:=p1'.isList
 obtain⟨u2,v2,p2',_⟩:=I1.list hy
 have p2:=p2'.isList
 refine Fh (xs:=u1.toArray) (ys:=u2.toArray) p1 p2 fun g z0 ti to i1 i2 sz kp=>?_
 refine wpAny_pyIter_zip z0 ?_
 have I2:Inv X pins σ H1 { s1 with heap:=g }:=I1.kept (t':=s1.toks) kp
 refine⟨s1.heap.objs.size+4,[s1.heap.objs.size+4,s1.heap.objs.size+2,s1.heap.objs.size+3,s1.heap.objs.size,s1.heap.objs.size+1],_,ItzL X.K t u,H1,rfl,I2,G2 (O:=?_) t u,⟨z0,ti,⟨_,_,to⟩,i1,i2⟩,fun b hb=>?_,q⟩
 ·refine⟨?_,?_,?_,?_,?_,?_,?_,?_,?_,?_⟩ <;> (show @Ne Nat _ _;omega)
 ·have hb':s1.heap.objs.size<=b:=by
   simp only [List.mem_cons,List.not_mem_nil,or_false] at hb
   rcases hb with rfl | rfl | rfl | rfl | rfl
   ·exact Nat.le_add_right _ _
   ·exact Nat.le_add_right _ _
   ·exact Nat.le_add_right _ _
   ·exact Nat.le_refl _
   ·exact Nat.le_add_right _ _
  exact I1.fpOk hb' (I1.hok.fresh hb')
end
def IteL (K:W.Frag)(t:Addr):It :=
 ⟨fun i H=>∃ xs,SqL K H t xs/\i<xs.length,
   fun i H v H'=>∃ p x,v=.ref p/\H p=none/\H'=upd H p (.tup [.int (i:Int),x])/\∀ xs,SqL K H t xs->xs[i]?=some x,
   fun i H=>∃ xs,SqL K H t xs/\i=xs.length⟩
theorem La {P:Program}{w:World}{K:W.Frag}{es:List Expr}{kk:Nat}{tp:Pos}{e it:Addr}(O:e≠it)(t:Addr) :
  Turn P w K (.Tuple es kk tp) (IteL K t) [e,it] e (fun i h=>(∃ old,IsEnum h e it (i:Int) old)/\h.IsListIter it t i) where
 mem:=by simp
 obj:=fun i h ⟨⟨old,he⟩,⟨o1,e1,_,d1⟩⟩ b hb=>by
  simp only [List.mem_cons,List.not_mem_nil,or_false] at hb
  rcases hb with rfl | rfl
  ·exact⟨_,he,fun v q=>by have q':Data.fields _=Data.cell v:=q;cases q'⟩
  ·exact⟨_,e1,fun v q=>by rw[d1] at q;cases q⟩
 keep:=fun i h h' ⟨⟨old,he⟩,⟨o1,e1,r1⟩⟩ k=>⟨⟨old,k e (by simp) _ he⟩,⟨o1,k it (by simp) _ e1,r1⟩⟩
 item:=by
  intro X hP hw hK hc i pins s σ H E I hf st hg
  subst hP hw hK
  obtain⟨xs,hx,lx⟩:=hg
  obtain⟨⟨old,he⟩,c1⟩:=st
  obtain⟨u1,v1,p1',_⟩:=I.list hx
  have p1:=p1'.isList
  have n1:=v1.length
  have ne:∀ b∈[e,it],t≠b:=fun b hb=>Te I (hf b hb) hx
  have off:∀ b∈[e,it],∀ x,(b,x) ∉ X.pn:=fun b hb x m=>(hf b hb).2.2.2.2.2 _ (List.mem_append_left _ m) rfl
  have qI:∀ p∈X.pn,s.heap.get? p.1=some p.2:=fun p hp=>(I.pin p (List.mem_append_left _ hp)).1
  have qO:∀ b∈[e,it],∀ p∈X.pn,p.1≠b:=fun b hb p hp=>(hf b hb).2.2.2.2.2 p (List.mem_append_left _ hp)
  have D1:=Sb.Draws.listQ (prog:=X.prog) (w:=X.w) (A:=X.A.in1) (I.ok.hd hc) it t (ne it (by simp)) (qO it (by simp)) u1.toArray
  refine wpAny_pyNext_enum_itemD D1 he ⟨c1,p1,qI⟩ (by simp;omega) O (by simp[O,(ne e (by simp)).symm,off e (by simp)]) fun x g tk px out s1 pr sz kp=>?_
  refine⟨_,rfl,wpAny_letOwnedTupleGo_enum out fun g2 z2 sb=>?_⟩
  obtain⟨x0,ex⟩:∃ x0,xs[i]?=some x0:=⟨xs[i],by simp[lx]⟩
  obtain⟨x1,ex1,rx⟩:=v1.get ex
  have qx:x1=x:=by
   have:u1.toArray[i]?=some x:=px
   rw[List.getElem?_toArray,ex1] at this
   exact Option.some.inj this
  subst qx
  have elt:e<s.heap.objs.size:=Heap.lt_size he
  have pe:s.heap.objs.size≠e:=Nat.ne_of_gt elt
  have sb2:∀ b,b≠e->g2.get? b=g.get? b:=fun b hb=>sb.2 b hb
  have keep:∀ b o,b ∉ [e,it]->s.heap.get? b=some o->g2.get? b=some o:=fun b o hb q=>by
   simp only [List.mem_cons,List.not_mem_nil,or_false,not_or] at hb
   rw[sb2 b hb.1]
   exact kp b o hb.1 hb.2 q
  have new:ObjOk X.prog X.w (upd H s.heap.objs.size (.tup [.int (i:Int),x0])) g2 s.heap.objs.size (.tup [.int (i:Int),x0]) :=
   ⟨by show 2<=sizeLine;decide,[.int (i:Int) tk,x1],.cons ⟨tk,rfl⟩ (.cons rx .nil),⟨_,by rw[sb2 _ pe];exact pr,rfl,0,rfl⟩⟩
  have I2:=Vh (t':=tk+1) I hf keep (Nat.le_refl _) new
  have nn:∀ b∈[e,it],upd H s.heap.objs.size (.tup [.int (i:Int),x0]) b=none:=fun b hb=>by
   have:b≠s.heap.objs.size:=by
    have ob:∃ o,s.heap.get? b=some o:=by
     simp only [List.mem_cons,List.not_mem_nil,or_false] at hb
     obtain⟨o1,e1,_⟩:=c1
     rcases hb with rfl | rfl
     ·exact⟨_,he⟩
     ·exact⟨_,e1⟩
    obtain⟨o,q⟩:=ob
    exact Nat.ne_of_lt (Heap.lt_size q)
   rw[Zf this]
   exact (hf b hb).1
  refine⟨.ref s.heap.objs.size,_,I2,rfl,⟨_,x0,rfl,I.fresh,rfl,fun xs' h1=>by rw[I.list_inj h1 hx];exact ex⟩,⟨⟨x1,?_⟩,?_⟩,nn⟩
  ·exact z2
  ·exact s1.1.extBut sb.extBut O.symm
 done:=by
  intro X hP hw hK hc i pins s σ H E I hf st hg
  subst hP hw hK
  obtain⟨xs,hx,rfl⟩:=hg
  obtain⟨⟨old,he⟩,c1⟩:=st
  obtain⟨u1,v1,p1',_⟩:=I.list hx
  have p1:=p1'.isList
  have n1:=v1.length
  have ne:∀ b∈[e,it],t≠b:=fun b hb=>Te I (hf b hb) hx
  have off:∀ b∈[e,it],∀ x,(b,x) ∉ X.pn:=fun b hb x m=>(hf b hb).2.2.2.2.2 _ (List.mem_append_left _ m) rfl
  have qI:∀ p∈X.pn,s.heap.get? p.1=some p.2:=fun p hp=>(I.pin p (List.mem_append_left _ hp)).1
  have qO:∀ b∈[e,it],∀ p∈X.pn,p.1≠b:=fun b hb p hp=>(hf b hb).2.2.2.2.2 p (List.mem_append_left _ hp)
  have D1:=Sb.Draws.listQ (prog:=X.prog) (w:=X.w) (A:=X.A.in1) (I.ok.hd hc) it t (ne it (by simp)) (qO it (by simp)) u1.toArray
  have c1':s.heap.IsListIter it t u1.toArray.size:=by
   rw[List.size_toArray,← n1]
   exact c1
  refine wpAny_pyNext_enum_endD D1 he ⟨c1',p1,qI⟩ fun g kp=>⟨rfl,?_⟩
  exact Ut (t':=s.toks) I hf fun b o hb q=>by
   simp only [List.mem_cons,List.not_mem_nil,or_false,not_or] at hb
   exact kp b o hb.2 q
 self:=fun _ _ _ _ _ st h=>by
  obtain⟨⟨old,he⟩,_⟩:=st
  exact wpAny_pyIter_enum he h
section
variable {X:Cx}
def iEnumL (K:W.Frag)(ta:TA):TI:=fun σ H R=>ta σ H fun vs H1=>∃ t,vs=[.ref t]/\(∃ xs,SqL K H1 t xs)/\R (IteL K t) H1
theorem Rg {a:Expr}{ta:TA}{p pos:Pos}{es:List Expr}{kk:Nat}{tp:Pos}(hg:Gl X "enumerate")(hm:X.mg "enumerate"=none)(ha:PA X [a] ta)(hs:starEach [a] X.env=[(false,eval a X.env)]:=by rfl) :
  PI X (.Tuple es kk tp) (.Call (.Name "enumerate" p) [a] [] pos) (iEnumL X.K ta):=by
 intro pins s σ H R I h
 refine Call_ (We I hg hm boot_enumerate (PyProof.Rows.callWith_type1 (thn (ha pos pins s σ H _ I h) fun us s1 ⟨vs,H1,I1,r1,q1⟩=>?_) hs rfl))
 obtain⟨t,e,⟨xs,hx⟩,q⟩:=q1
 subst e
 obtain⟨t0,e0,rt⟩:=Ub r1
 cases (show t0=Value.ref t from rt)
 subst e0
 obtain⟨u1,v1,p1',_⟩:=I1.list hx
 have p1:=p1'.isList
 refine Ka (ys:=u1.toArray) p1 fun g z0 i1 sz kp=>?_
 refine wpAny_pyIter_enum z0 ?_
 have I2:Inv X pins σ H1 { s1 with heap:=g }:=I1.kept (t':=s1.toks) kp
 refine⟨s1.heap.objs.size+1,[s1.heap.objs.size+1,s1.heap.objs.size],_,IteL X.K t,H1,rfl,I2,La (O:=?_) t,⟨⟨_,z0⟩,i1⟩,fun b hb=>?_,q⟩
 ·show @Ne Nat _ _
  omega
 ·have hb':s1.heap.objs.size<=b:=by
   simp only [List.mem_cons,List.not_mem_nil,or_false] at hb
   rcases hb with rfl | rfl
   ·exact Nat.le_add_right _ _
   ·exact Nat.le_refl _
  exact I1.fpOk hb' (I1.hok.fresh hb')
end
end Sb
namespace Sv
def sm:Nat->(Nat->Int)->Int
 | 0,_=>0
 | n+1,f=>sm n f+f n
theorem Y5 {n:Nat}{f g:Nat->Int}(h:∀ i,i<n->f i=g i):sm n f=sm n g:=by
 induction n with
 | zero=>rfl
 | succ n ih =>
  show sm n f+f n=sm n g+g n
  rw[ih fun i hi=>h i (by omega),h n (by omega)]
theorem Wq (n:Nat)(f g:Nat->Int):sm n (fun i=>f i+g i)=sm n f+sm n g:=by
 induction n with
 | zero=>rfl
 | succ n ih=>show sm n _+(f n+g n)=(sm n f+f n)+(sm n g+g n);rw[ih];omega
theorem X2 (a:Int)(n:Nat)(f:Nat->Int):sm n (fun i=>a*f i)=a*sm n f:=by
 induction n with
 | zero=>show (0:Int)=a*0;simp
 | succ n ih=>show sm n _+_=a*(sm n f+f n);rw[ih,Int.mul_add]
theorem sm_zero {n:Nat}{f:Nat->Int}(h:∀ i,i<n->f i=0):sm n f=0:=by
 induction n with
 | zero=>rfl
 | succ n ih=>show sm n f+f n=0;rw[ih fun i hi=>h i (by omega),h n (by omega)];rfl
theorem Y1 {n k:Nat}{f:Nat->Int}(hk:k<n):sm n f=f k+sm n (fun i=>if i=k then 0 else f i):=by
 induction n with
 | zero=>omega
 | succ n ih =>
  show sm n f+f n=f k+(sm n (fun i=>if i=k then 0 else f i)+if n=k then 0 else f n)
  by_cases e:n=k
  ·subst e
   rw[if_pos rfl,Y5 (f:=fun i=>if i=n then 0 else f i) (g:=f) fun i hi=>if_neg (by omega)]
   omega
  ·rw[if_neg e,ih (by omega)]
   omega
theorem sm_one {n k:Nat}{f:Nat->Int}(hk:k<n)(h:∀ i,i<n->i≠k->f i=0):sm n f=f k:=by
 rw[Y1 hk,sm_zero fun i hi=>?_]
 ·omega
 ·by_cases e:i=k
  ·rw[if_pos e]
  ·rw[if_neg e];exact h i hi e
theorem Fr {n p q:Nat}{f:Nat->Int}(hp:p<n)(hq:q<n)(hpq:p≠q)(h:∀ i,i<n->i≠p->i≠q->f i=0):sm n f=f p+f q:=by
 rw[Y1 hp,sm_one (k:=q) hq fun i hi hne=>?_]
 ·rw[if_neg (Ne.symm hpq)]
 ·by_cases e:i=p
  ·rw[if_pos e]
  ·rw[if_neg e];exact h i hi e hne
theorem Ya {n:Nat}{f:Nat->Int}(h:∀ i,i<n->0<=f i):0<=sm n f:=by
 induction n with
 | zero=>exact Int.le_refl _
 | succ n ih =>
  show 0<=sm n f+f n
  have:=ih fun i hi=>h i (by omega)
  have:=h n (by omega)
  omega
theorem Uc {n:Nat}{f g:Nat->Int}(h:∀ i,i<n->f i<=g i):sm n f<=sm n g:=by
 induction n with
 | zero=>exact Int.le_refl _
 | succ n ih =>
  show sm n f+f n<=sm n g+g n
  have:=ih fun i hi=>h i (by omega)
  have:=h n (by omega)
  omega
theorem Lf {n:Nat}{f:Nat->Int}(h:0<sm n f):∃ i,i<n/\0<f i:=by
 apply Classical.byContradiction
 intro hn
 have:sm n f<=sm n (fun _=>0):=Uc fun i hi=>by
  have:¬ 0<f i:=fun z=>hn ⟨i,hi,z⟩
  omega
 rw[sm_zero (f:=fun _=>0) fun _ _=>rfl] at this
 omega
theorem Lg (n m:Nat)(f:Nat->Int):sm (n+m) f=sm n f+sm m (fun i=>f (n+i)):=by
 induction m with
 | zero=>show sm n f=sm n f+0;omega
 | succ m ih =>
  show sm (n+m) f+f (n+m)=sm n f+(sm m (fun i=>f (n+i))+f (n+m))
  rw[ih]
  omega
theorem sm_abs {n M:Nat}{f:Nat->Int}(h:∀ i,i<n->(f i).natAbs<=M):(sm n f).natAbs<=n*M:=by
 induction n with
 | zero=>show (0:Int).natAbs<=0*M;simp
 | succ n ih =>
  show (sm n f+f n).natAbs<=(n+1)*M
  have h1:=ih fun i hi=>h i (by omega)
  have h2:=h n (by omega)
  rw[Nat.succ_mul]
  omega
abbrev Vec:=Nat->Int
abbrev Mat:=Nat->Vec
def skip (k i:Nat):Nat:=if i<k then i else i+1
def sgn:Nat->Int
 | 0=>1
 | n+1=>- sgn n
def minor (v:Mat)(k:Nat):Mat:=fun i r=>v (skip k i) (r+1)
def det:Nat->Mat->Int
 | 0,_=>1
 | m+1,v=>sm (m+1) (fun k=>sgn k*v k 0*det m (minor v k))
def put (v:Mat)(c:Nat)(x:Vec):Mat:=fun i=>if i=c then x else v i
theorem Y6 (v:Mat)(c:Nat)(x:Vec):put v c x c=x:=if_pos rfl
theorem Y0 {v:Mat}{c i:Nat}{x:Vec}(h:i≠c):put v c x i=v i:=if_neg h
theorem V1 (v:Mat)(c:Nat):put v c (v c)=v:=by
 funext i
 by_cases e:i=c
 ·subst e;exact Y6 ..
 ·exact Y0 e
theorem Xu {v:Mat}{c d:Nat}{x y:Vec}(h:c≠d):put (put v c x) d y=put (put v d y) c x:=by
 funext i
 by_cases e:i=c
 ·subst e;rw[Y0 h,Y6,Y6]
 ·by_cases e':i=d
  ·subst e';rw[Y6,Y0 e,Y6]
  ·rw[Y0 e',Y0 e,Y0 e,Y0 e']
theorem Ys:∀ {m:Nat} {v w:Mat},(∀ k r,k<m->r<m->v k r=w k r)->det m v=det m w
 | 0,_,_,_=>rfl
 | m+1,v,w,h=>by
  refine Y5 fun k hk=>?_
  rw[h k 0 hk (by omega),Ys (m:=m) (v:=minor v k) (w:=minor w k) fun i r hi hr=>?_]
  exact h _ _ (by unfold skip;split <;> omega) (by omega)
def unskip (k c:Nat):Nat:=if c<k then c else c - 1
theorem U6 (v:Mat)(c:Nat)(z:Vec):minor (put v c z) c=minor v c:=by
 funext i r
 show put v c z (skip c i) (r+1)=v (skip c i) (r+1)
 rw[Y0 (by unfold skip;split <;> omega)]
theorem Td {v:Mat}{k c:Nat}{z:Vec}(h:k≠c):minor (put v c z) k=put (minor v k) (unskip k c) (fun r=>z (r+1)):=by
 funext i r
 show put v c z (skip k i) (r+1)=_
 by_cases e:skip k i=c
 ·have e':i=unskip k c:=by
   unfold skip at e
   unfold unskip
   split at e <;> split <;> omega
  rw[e,e',Y6,Y6]
 ·have e':i≠unskip k c:=by
   unfold skip at e
   unfold unskip
   split at e <;> split <;> omega
  rw[Y0 e,Y0 e']
  rfl
theorem Vy:∀ {m:Nat} {v:Mat} {c:Nat} {a b:Int} {x y:Vec},c<m->det m (put v c (fun r=>a*x r+b*y r))=a*det m (put v c x)+b*det m (put v c y)
 | 0,_,_,_,_,_,_,h=>by omega
 | m+1,v,c,a,b,x,y,h=>by
  show sm (m+1) _=a*sm (m+1) _+b*sm (m+1) _
  rw[← X2,← X2,← Wq]
  refine Y5 fun k hk=>?_
  by_cases e:k=c
  ·subst e
   rw[U6,U6,U6,Y6,Y6,Y6]
   grind
  ·rw[Td e,Td e,Td e,Y0 e,Y0 e,Y0 e]
   have:=Vy (m:=m) (v:=minor v k) (c:=unskip k c) (a:=a) (b:=b) (x:=fun r=>x (r+1)) (y:=fun r=>y (r+1)) (by unfold unskip;split <;> omega)
   rw[this]
   grind
theorem Mu {m:Nat}{v:Mat}{c:Nat}(h:c<m):det m (put v c (fun _=>0))=0:=by
 have:=Vy (m:=m) (v:=v) (c:=c) (a:=0) (b:=0) (x:=fun _=>0) (y:=fun _=>0) h
 simpa using this
theorem Uv {m:Nat}{v:Mat}{c:Nat}(h:c<m)(a:Nat->Int)(u:Nat->Vec):∀ n,det m (put v c (fun r=>sm n (fun k=>a k*u k r)))=sm n (fun k=>a k*det m (put v c (u k)))
 | 0=>Mu h
 | n+1=>by
  have:=Vy (m:=m) (v:=v) (c:=c) (a:=1) (b:=a n) (x:=fun r=>sm n (fun k=>a k*u k r)) (y:=u n) h
  show _=sm n (fun k=>a k*det m (put v c (u k)))+a n*det m (put v c (u n))
  rw[← Uv h a u n]
  rw[Int.one_mul] at this
  rw[← this]
  congr 2
  funext r
  show sm n _+_=_
  rw[Int.one_mul]
theorem Mv {m:Nat}{v:Mat}{c:Nat}(h:c<m)(a:Int)(x:Vec):det m (put v c (fun r=>a*x r))=a*det m (put v c x):=by
 have:=Vy (m:=m) (v:=v) (c:=c) (a:=a) (b:=0) (x:=x) (y:=x) h
 simpa using this
theorem Na {m:Nat}{v:Mat}{c:Nat}(h:c<m)(x y:Vec):det m (put v c (fun r=>x r+y r))=det m (put v c x)+det m (put v c y):=by
 have:=Vy (m:=m) (v:=v) (c:=c) (a:=1) (b:=1) (x:=x) (y:=y) h
 simpa using this
theorem So:∀ {m:Nat} {v:Mat} {p:Nat},p+1<m->v p=v (p+1)->det m v=0
 | 0,_,_,h,_=>by omega
 | m+1,v,p,h,e=>by
  show sm (m+1) _=0
  rw[Fr (p:=p) (q:=p+1) (by omega) h (by omega) fun k hk h1 h2=>?_]
  ·have e2:minor v p=minor v (p+1):=by
    funext i r
    show v (skip p i) (r+1)=v (skip (p+1) i) (r+1)
    by_cases q:i=p
    ·have a1:skip p i=p+1:=by unfold skip;split <;> omega
     have a2:skip (p+1) i=p:=by unfold skip;split <;> omega
     rw[a1,a2,e]
    ·have a1:skip p i=skip (p+1) i:=by unfold skip;split <;> split <;> omega
     rw[a1]
   rw[e2,e]
   show sgn p*_*_ + -sgn p*_*_=0
   grind
  ·have:det m (minor v k)=0:=by
    by_cases q:k<p
    ·refine So (p:=p - 1) (by omega) ?_
     funext r
     show v (skip k (p - 1)) (r+1)=v (skip k (p - 1+1)) (r+1)
     have a1:skip k (p - 1)=p:=by unfold skip;split <;> omega
     have a2:skip k (p - 1+1)=p+1:=by unfold skip;split <;> omega
     rw[a1,a2,e]
    ·refine So (p:=p) (by omega) ?_
     funext r
     show v (skip k p) (r+1)=v (skip k (p+1)) (r+1)
     have a1:skip k p=p:=by unfold skip;split <;> omega
     have a2:skip k (p+1)=p+1:=by unfold skip;split <;> omega
     rw[a1,a2,e]
   rw[this,Int.mul_zero]
theorem Mw {m:Nat}{v:Mat}{p q:Nat}(hp:p<m)(hq:q<m)(hpq:p≠q)(h0:∀ z:Vec,det m (put (put v p z) q z)=0)(x y:Vec):det m (put (put v p x) q y)=- det m (put (put v p y) q x):=by
 have e:=h0 (fun r=>x r+y r)
 rw[Na hq,Xu hpq,Na hp,Xu (c:=p) hpq,Na hp] at e
 rw[Xu (Ne.symm hpq),Xu (Ne.symm hpq),Xu (Ne.symm hpq),Xu (Ne.symm hpq),h0 x,h0 y] at e
 omega
theorem N8:∀ (d:Nat) {m:Nat} {v:Mat} {p q:Nat},q=p+1+d->q<m->v p=v q->det m v=0
 | 0,m,v,p,q,h,hq,e=>So (p:=p) (by omega) (by rw[e,h])
 | d+1,m,v,p,q,h,hq,e=>by
  have hz:∀ z:Vec,det m (put (put v (q - 1) z) q z)=0:=fun z=>by
   refine So (p:=q - 1) (by omega) ?_
   have a:q - 1+1=q:=by omega
   rw[a,Y6,Y0 (by omega),Y6]
  have s:=Mw (m:=m) (v:=v) (p:=q - 1) (q:=q) (by omega) hq (by omega) hz (v (q - 1)) (v q)
  rw[V1,V1] at s
  have:det m (put (put v (q - 1) (v q)) q (v (q - 1)))=0:=by
   refine N8 d (p:=p) (q:=q - 1) (by omega) (by omega) ?_
   rw[Y0 (by omega),Y0 (by omega),Y0 (by omega),Y6,e]
  rw[s,this]
  rfl
theorem Uw {m:Nat}{v:Mat}{p q:Nat}(hp:p<m)(hq:q<m)(hpq:p≠q)(e:v p=v q):det m v=0:=by
 by_cases h:p<q
 ·exact N8 (q - p - 1) (p:=p) (q:=q) (by omega) hq e
 ·exact N8 (p - q - 1) (p:=q) (q:=p) (by omega) hp e.symm
theorem Bo {m:Nat}{v:Mat}{p q:Nat}(hp:p<m)(hq:q<m)(hpq:p≠q)(x y:Vec):det m (put (put v p x) q y)=- det m (put (put v p y) q x) :=
 Mw hp hq hpq (fun z=>Uw hp hq hpq (by rw[Y0 hpq,Y6,Y6])) x y
def idm:Mat:=fun k r=>if k=r then 1 else 0
theorem Bp:∀ m:Nat,det m idm=1
 | 0=>rfl
 | m+1=>by
  show sm (m+1) _=1
  rw[sm_one (k:=0) (by omega) fun k hk h=>?_]
  ·have e:minor idm 0=idm:=by
    funext i r
    show (if skip 0 i=r+1 then (1:Int) else 0)=if i=r then 1 else 0
    have:skip 0 i=i+1:=by unfold skip;split <;> omega
    rw[this]
    by_cases q:i=r
    ·rw[if_pos q,if_pos (by omega)]
    ·rw[if_neg q,if_neg (by omega)]
   rw[e,Bp m]
   show (1:Int)*(if (0:Nat)=0 then 1 else 0)*1=1
   rfl
  ·show sgn k*(if k=0 then 1 else 0)*_=0
   rw[if_neg h]
   simp
theorem Sf:∀ k,(sgn k).natAbs=1
 | 0=>rfl
 | k+1=>by show (-sgn k).natAbs=1;rw[Int.natAbs_neg];exact Sf k
theorem Tn {M:Nat}:∀ {m:Nat} {v:Mat},(∀ k r,k<m->r<m->(v k r).natAbs<=M)->(det m v).natAbs<=(m*M) ^ m
 | 0,_,_=>by show (1:Int).natAbs<=1;decide
 | m+1,v,h=>by
  have key:(sm (m+1) (fun k=>sgn k*v k 0*det m (minor v k))).natAbs<=(m+1)*(M*(m*M) ^ m):=sm_abs fun k hk=>by
   rw[Int.natAbs_mul,Int.natAbs_mul,Sf,Nat.one_mul]
   exact Nat.mul_le_mul (h k 0 hk (by omega)) (Tn (m:=m) fun i r hi hr=>h _ _ (by unfold skip;split <;> omega) (by omega))
  refine Nat.le_trans key ?_
  rw[← Nat.mul_assoc,Nat.pow_succ,Nat.mul_comm]
  exact Nat.mul_le_mul_right _ (Nat.pow_le_pow_left (Nat.mul_le_mul_right _ (by omega)) _)
end Sv
namespace Sb
theorem N7 {a b c:Int}(h:a ∣ b*c)(g:Int.gcd a b=1):a ∣ c:=by
 have h1:a.natAbs ∣ b.natAbs*c.natAbs:=by
  rw[← Int.natAbs_mul]
  exact Int.natAbs_dvd_natAbs.mpr h
 exact Int.natAbs_dvd_natAbs.mp (Nat.Coprime.dvd_of_dvd_mul_left g h1)
theorem Xf {r s:Rat}(hr:0<r.2)(hs:0<s.2)(cr:Int.gcd r.1 r.2=1)(cs:Int.gcd s.1 s.2=1)(h:r.1*s.2=s.1*r.2):r=s:=by
 have d1:r.2 ∣ s.2:=by
  have:r.2 ∣ r.1*s.2:=⟨s.1,by rw[h,Int.mul_comm]⟩
  exact N7 this (by rw[Int.gcd_comm];exact cr)
 have d2:s.2 ∣ r.2:=by
  have:s.2 ∣ s.1*r.2:=⟨r.1,by rw[← h,Int.mul_comm]⟩
  exact N7 this (by rw[Int.gcd_comm];exact cs)
 have e:r.2=s.2:=Int.dvd_antisymm (by omega) (by omega) d1 d2
 have e1:r.1=s.1:=by
  rw[e] at h
  exact Int.eq_of_mul_eq_mul_right (by omega) h
 obtain⟨a,b⟩:=r
 obtain⟨c,d⟩:=s
 simp only at e e1
 rw[e,e1]
theorem Q5 {r:Rat}{D W:Int}(hr:0<r.2)(cr:Int.gcd r.1 r.2=1)(h:r.1*D=W*r.2):r.2 ∣ D :=
 N7 (show r.2 ∣ r.1*D from ⟨W,by rw[h,Int.mul_comm]⟩) (by rw[Int.gcd_comm];exact cr)
theorem Xc {a b:Int}(hb:0<b)(h:a ∣ b):a.natAbs<=b.natAbs:=by
 have:=Int.natAbs_dvd_natAbs.mpr h
 exact Nat.le_of_dvd (by omega) this
theorem Df {r:Rat}{D W:Int}(hD:0<D)(hr:0<r.2)(cr:Int.gcd r.1 r.2=1)(h:r.1*D=W*r.2):r.1.natAbs<=W.natAbs/\r.2.natAbs<=D.natAbs:=by
 have d:=Q5 hr cr h
 refine⟨?_,Xc hD d⟩
 obtain⟨k,e⟩:=d
 have:W=r.1*k:=by
  rw[e] at h
  have:(r.1*k)*r.2=W*r.2:=by rw[← h];rw[Int.mul_assoc,Int.mul_comm k]
  exact (Int.eq_of_mul_eq_mul_right (by omega) this).symm
 rw[this,Int.natAbs_mul]
 refine Nat.le_mul_of_pos_right _ ?_
 have:k≠0:=by
  intro z
  rw[z] at e
  simp at e
  omega
 omega
theorem Vq {n:Nat}{r:Rat}{D W:Int}(hD:0<D)(hr:0<r.2)(cr:Int.gcd r.1 r.2=1)(h:r.1*D=W*r.2)(bD:Bd n D)(bW:Bd n W):Good n r :=
 ⟨bW.of_le' (Df hD hr cr h).1,bD.of_le' (Df hD hr cr h).2,hr,cr⟩
theorem J5 {p q:Int}(_:q≠0):(nrm p q).1*q=p*(nrm p q).2:=Yu p q
theorem Sk {r s:Rat}{D1 D2 W1 W2:Int}(hr:0<r.2)(hs:0<s.2)(h1:r.1*D1=W1*r.2)(h2:s.1*D2=W2*s.2):(mulR' r s).1*(D1*D2)=(W1*W2)*(mulR' r s).2:=by
 have h3:(mulR' r s).1*(r.2*s.2)=(r.1*s.1)*(mulR' r s).2:=Yu _ _
 generalize mulR' r s=m at *
 have:(r.2*s.2)*(m.1*(D1*D2))=(r.2*s.2)*(W1*W2*m.2):=by grind
 exact Int.eq_of_mul_eq_mul_left (Xp hr hs) this
theorem Sl {r s:Rat}{D W1 W2:Int}(hr:0<r.2)(hs:0<s.2)(h1:r.1*D=W1*r.2)(h2:s.1*D=W2*s.2):(addR r s).1*D=(W1+W2)*(addR r s).2:=by
 have h3:(addR r s).1*(r.2*s.2)=(r.1*s.2+s.1*r.2)*(addR r s).2:=Yu _ _
 generalize addR r s=m at *
 have:(r.2*s.2)*(m.1*D)=(r.2*s.2)*((W1+W2)*m.2):=by grind
 exact Int.eq_of_mul_eq_mul_left (Xp hr hs) this
theorem Sj {r s:Rat}{D W1 W2:Int}(hr:0<r.2)(hs:0<s.2)(h1:r.1*D=W1*r.2)(h2:s.1*D=W2*s.2):(subR r s).1*D=(W1 - W2)*(subR r s).2:=by
 have h3:(subR r s).1*(r.2*s.2)=(r.1*s.2 - s.1*r.2)*(subR r s).2:=Yu _ _
 generalize subR r s=m at *
 have:(r.2*s.2)*(m.1*D)=(r.2*s.2)*((W1 - W2)*m.2):=by grind
 exact Int.eq_of_mul_eq_mul_left (Xp hr hs) this
structure Low (r:Rat):Prop where
 pos:0<r.2
 cop:Int.gcd r.1 r.2=1
theorem Good.low {n:Nat}{r:Rat}(h:Good n r):Low r:=⟨h.pos,h.cop⟩
theorem Yp {p q:Int}(h:q≠0):Low (nrm p q):=⟨Pr h,Cp h⟩
theorem Wn {r s:Rat}(hr:Low r)(hs:Low s):Low (addR r s):=Yp (Xp hr.pos hs.pos)
theorem Wl {r s:Rat}(hr:Low r)(hs:Low s):Low (subR r s):=Yp (Xp hr.pos hs.pos)
theorem Xe {r s:Rat}(hr:Low r)(hs:Low s):Low (mulR' r s):=Yp (Xp hr.pos hs.pos)
theorem Um:Low (0,1):=⟨by decide,by decide⟩
theorem low11:Low (1,1):=⟨by decide,by decide⟩
structure RepL (n:Nat)(D:Int)(Ws:List Int)(rs:List Rat):Prop where
 pos:0<D
 bD:Bd n D
 len:Ws.length=rs.length
 at_:∀ (i:Nat) (W:Int) (r:Rat),Ws[i]?=some W->rs[i]?=some r->r.1*D=W*r.2/\Bd n W/\Low r
theorem RepL.good {n:Nat}{D:Int}{Ws:List Int}{rs:List Rat}(h:RepL n D Ws rs):∀ r∈rs,Good n r:=fun r hr=>by
 obtain⟨i,hi⟩:=List.getElem?_of_mem hr
 have hl:i<rs.length:=(List.getElem?_eq_some_iff.mp hi).1
 have hw:i<Ws.length:=by rw[h.len];exact hl
 obtain⟨e,b,l⟩:=h.at_ i Ws[i] r (by simp[hw]) hi
 exact Vq h.pos l.pos l.cop e h.bD b
def lcm1 (l b:Int):Int:=(l*b).fdiv (Int.gcd l b)
theorem Qx {l b:Int}(hl:0<l)(hb:0<b):0<lcm1 l b/\l ∣ lcm1 l b/\b ∣ lcm1 l b/\∀ D,l ∣ D->b ∣ D->lcm1 l b ∣ D:=by
 have hg:0<(Int.gcd l b:Int):=by
  have:=Int.gcd_pos_of_ne_zero_left b (show l≠0 by omega)
  omega
 obtain⟨x,ex⟩:=Int.gcd_dvd_left (a:=l) (b:=b)
 obtain⟨y,ey⟩:=Int.gcd_dvd_right (a:=l) (b:=b)
 have e1:lcm1 l b=x*b:=by
  unfold lcm1
  have:l*b=(x*b)*(Int.gcd l b:Int):=by
   conv=>lhs;rw[ex]
   rw[Int.mul_comm (Int.gcd l b:Int),Int.mul_assoc,Int.mul_comm (Int.gcd l b:Int),← Int.mul_assoc]
  rw[this,Int.mul_fdiv_cancel _ (by omega)]
 have e2:lcm1 l b=l*y:=by
  unfold lcm1
  have:l*b=(l*y)*(Int.gcd l b:Int):=by
   conv=>lhs;rw[ey]
   rw[Int.mul_comm (Int.gcd l b:Int),Int.mul_assoc]
  rw[this,Int.mul_fdiv_cancel _ (by omega)]
 have hx:0<x:=by
  apply Classical.byContradiction
  intro z
  have:(Int.gcd l b:Int)*x<=0:=Int.mul_nonpos_of_nonneg_of_nonpos (by omega) (by omega)
  omega
 refine⟨by rw[e1];exact Int.mul_pos hx hb,⟨y,e2⟩,⟨x,by rw[e1,Int.mul_comm]⟩,fun D h1 h2=>?_⟩
 have:(lcm1 l b).natAbs ∣ D.natAbs:=by
  have e3:(lcm1 l b).natAbs=Nat.lcm l.natAbs b.natAbs:=by
   unfold Nat.lcm
   have g:Nat.gcd l.natAbs b.natAbs=Int.gcd l b:=rfl
   rw[g]
   have e4:(lcm1 l b).natAbs*Int.gcd l b=l.natAbs*b.natAbs:=by
    rw[← Int.natAbs_mul,e1]
    have:((x*b).natAbs)*Int.gcd l b=(x*b*(Int.gcd l b:Int)).natAbs:=by
     rw[Int.natAbs_mul (x*b)]
     rfl
    rw[this]
    congr 1
    conv=>rhs;rw[ex]
    rw[Int.mul_assoc,Int.mul_comm b,← Int.mul_assoc,Int.mul_comm x]
   rw[← e4]
   exact (Nat.mul_div_cancel _ (by omega)).symm
  rw[e3]
  exact Nat.lcm_dvd (Int.natAbs_dvd_natAbs.mpr h1) (Int.natAbs_dvd_natAbs.mpr h2)
 exact Int.natAbs_dvd_natAbs.mp this
def lcmB (rs:List Rat):Int:=rs.foldl (fun l r=>lcm1 l r.2) 1
theorem Gx (rs:List Rat)(r:Rat):lcmB (rs++[r])=lcm1 (lcmB rs) r.2:=by
 unfold lcmB
 rw[List.foldl_append]
 rfl
theorem Gw {rs:List Rat}{i:Nat}{r:Rat}(h:rs[i]?=some r):lcmB (rs.take (i+1))=lcm1 (lcmB (rs.take i)) r.2:=by rw[Y9 h,Gx]
theorem Mr:∀ (rs:List Rat) (l:Int),0<l->(∀ r∈rs,0<r.2)->0<rs.foldl (fun l r=>lcm1 l r.2) l/\l ∣ rs.foldl (fun l r=>lcm1 l r.2) l/\(∀ r∈rs,r.2 ∣ rs.foldl (fun l r=>lcm1 l r.2) l)/\∀ D,l ∣ D->(∀ r∈rs,r.2 ∣ D)->rs.foldl (fun l r=>lcm1 l r.2) l ∣ D
 | [],l,hl,_=>⟨hl,Int.dvd_refl _,(fun _ h=>nomatch h),fun D h _=>h⟩
 | r::t,l,hl,h=>by
  obtain⟨p,d1,d2,m⟩:=Qx hl (h r List.mem_cons_self)
  obtain⟨p',d1',d2',m'⟩:=Mr t (lcm1 l r.2) p fun x hx=>h x (List.mem_cons_of_mem _ hx)
  refine⟨p',Int.dvd_trans d1 d1',fun x hx=>?_,fun D h1 h2=>m' D (m D h1 (h2 r List.mem_cons_self)) fun x hx=>h2 x (List.mem_cons_of_mem _ hx)⟩
  rcases List.mem_cons.mp hx with rfl | hx
  ·exact Int.dvd_trans d2 d1'
  ·exact d2' x hx
theorem W8 {rs:List Rat}(h:∀ r∈rs,0<r.2):0<lcmB rs/\(∀ r∈rs,r.2 ∣ lcmB rs)/\∀ D,(∀ r∈rs,r.2 ∣ D)->lcmB rs ∣ D:=by
 obtain⟨p,_,d,m⟩:=Mr rs 1 (by decide) h
 exact⟨p,d,fun D hD=>m D (Int.one_dvd _) hD⟩
def wholeB (rs:List Rat)(D:Int):List Int:=rs.map fun r=>r.1*D.fdiv r.2
theorem W9 {r:Rat}{D:Int}(h:r.2 ∣ D):r.1*D=(r.1*D.fdiv r.2)*r.2:=by
 have:=U9 h
 rw[Int.mul_assoc,this]
theorem RepL.least {n:Nat}{D:Int}{Ws:List Int}{rs:List Rat}(h:RepL n D Ws rs):RepL n (lcmB rs) (wholeB rs (lcmB rs)) rs:=by
 have low:∀ r∈rs,Low r:=fun r hr=>(h.good r hr).low
 obtain⟨p,d,m⟩:=W8 fun r hr=>(low r hr).pos
 have dD:∀ r∈rs,r.2 ∣ D:=fun r hr=>by
  obtain⟨i,hi⟩:=List.getElem?_of_mem hr
  have hl:i<rs.length:=(List.getElem?_eq_some_iff.mp hi).1
  have hw:i<Ws.length:=by rw[h.len];exact hl
  obtain⟨e,b,l⟩:=h.at_ i Ws[i] r (by simp[hw]) hi
  exact Q5 l.pos l.cop e
 have hd:=m D dD
 refine⟨p,h.bD.of_le' (Xc h.pos hd),by unfold wholeB;rw[List.length_map],fun i W r hW hr=>?_⟩
 have hrm:=List.mem_of_getElem? hr
 have hl:i<rs.length:=(List.getElem?_eq_some_iff.mp hr).1
 have hw:i<Ws.length:=by rw[h.len];exact hl
 obtain⟨e,b,l⟩:=h.at_ i Ws[i] r (by simp[hw]) hr
 unfold wholeB at hW
 rw[List.getElem?_map,hr] at hW
 cases hW
 refine⟨W9 (d r hrm),?_,l⟩
 obtain⟨k,ek⟩:=hd
 have e1:=W9 (D:=lcmB rs) (d r hrm)
 have hk:Ws[i]=(r.1*(lcmB rs).fdiv r.2)*k:=by
  have:(r.1*(lcmB rs).fdiv r.2*k)*r.2=Ws[i]*r.2:=by
   rw[← e,ek,← Int.mul_assoc,e1]
   grind
  exact (Int.eq_of_mul_eq_mul_right (by have:=l.pos;omega) this).symm
 have hk0:k≠0:=by
  intro z
  rw[z,Int.mul_zero] at ek
  have:=h.pos
  omega
 refine b.of_le' ?_
 rw[hk,Int.natAbs_mul _ k]
 exact Nat.le_mul_of_pos_right _ (by omega)
theorem N4 {a b:Int}(ha:0<a)(hb:0<b):(a.fdiv b).natAbs<=a.natAbs:=by
 rw[Int.fdiv_eq_ediv_of_nonneg _ (by omega)]
 have h1:=Int.ediv_nonneg (show 0<=a by omega) (show 0<=b by omega)
 have h2:=Int.ediv_le_self b (show 0<=a by omega)
 omega
theorem Sa {n:Nat}:∀ (rs:List Rat) (l:Int) (m:Nat),0<l->Bd m l->(∀ r∈rs,0<r.2/\Bd n r.2)->Bd (m+n*rs.length) (rs.foldl (fun l r=>lcm1 l r.2) l)
 | [],l,m,_,b,_=>b
 | r::t,l,m,hl,b,h=>by
  obtain⟨hp,hb⟩:=h r List.mem_cons_self
  obtain⟨p,_,_,mm⟩:=Qx hl hp
  have:Bd (m+n) (lcm1 l r.2):=(b.mul hb).of_le' (Xc (Int.mul_pos hl hp) (mm _ (Int.dvd_mul_right ..) (Int.dvd_mul_left ..)))
  have:=Sa t (lcm1 l r.2) (m+n) p this fun x hx=>h x (List.mem_cons_of_mem _ hx)
  rw[List.length_cons,Nat.mul_succ]
  exact this.mono (by omega)
theorem RepL.of_good {n:Nat}{rs:List Rat}(h:∀ r∈rs,Good n r):RepL (n*(rs.length+1)+1) (lcmB rs) (wholeB rs (lcmB rs)) rs:=by
 obtain⟨p,d,_⟩:=W8 fun r hr=>(h r hr).pos
 have b:Bd (1+n*rs.length) (lcmB rs):=Sa rs 1 1 (by decide) (by show (1:Int).natAbs<2 ^ 1;decide) fun r hr=>⟨(h r hr).pos,(h r hr).b2⟩
 refine⟨p,b.mono (by rw[Nat.mul_succ];omega),by unfold wholeB;rw[List.length_map],fun i W r hW hr=>?_⟩
 have hrm:=List.mem_of_getElem? hr
 unfold wholeB at hW
 rw[List.getElem?_map,hr] at hW
 cases hW
 exact⟨W9 (d r hrm),((h r hrm).b1.mul (b.of_le' (N4 p (h r hrm).pos))).mono (by rw[Nat.mul_succ];omega),(h r hrm).low⟩
theorem Nd {n:Nat}:∀ (xs:List Int),(∀ x∈xs,Bd n x)->∀ k,xs.length<=2 ^ k->Bd (n+k) xs.sum:=fun xs h k hk=>by
 have key:∀ (xs:List Int),(∀ x∈xs,Bd n x)->xs.sum.natAbs<=xs.length*(2 ^ n - 1):=fun xs=>by
  induction xs with
  | nil=>intro _;simp
  | cons a t ih =>
   intro h
   have h1:=ih fun x hx=>h x (List.mem_cons_of_mem _ hx)
   have h2:a.natAbs<2 ^ n:=h a List.mem_cons_self
   rw[List.sum_cons,List.length_cons,Nat.succ_mul]
   omega
 have h1:=key xs h
 unfold Bd
 have h2:xs.length*(2 ^ n - 1)<=2 ^ k*(2 ^ n - 1):=Nat.mul_le_mul_right _ hk
 have h3:2 ^ k*(2 ^ n - 1)<2 ^ (n+k):=by
  rw[Nat.pow_add,Nat.mul_comm (2 ^ n)]
  have:0<2 ^ n:=Nat.pow_pos (by decide)
  exact Nat.mul_lt_mul_of_pos_left (by omega) (Nat.pow_pos (by decide))
 omega
theorem J4 {D:Int}(hD:0<D):∀ (Ns:List Int) (zs:List Rat),Ns.length=zs.length->(∀ (i:Nat) (N:Int) (z:Rat),Ns[i]?=some N->zs[i]?=some z->z.1*D=N*z.2/\Low z)->∀ (a:Rat) (A:Int),Low a->a.1*D=A*a.2->(zs.foldl addR a).1*D=(A+Ns.sum)*(zs.foldl addR a).2/\Low (zs.foldl addR a)
 | [],[],_,_,a,A,la,ha=>⟨by simpa using ha,la⟩
 | [],_::_,h,_,_,_,_,_=>by simp at h
 | _::_,[],h,_,_,_,_,_=>by simp at h
 | N::Ns,z::zs,h,hz,a,A,la,ha=>by
  obtain⟨e,lz⟩:=hz 0 N z rfl rfl
  obtain⟨h1,h2⟩:=J4 hD Ns zs (by simpa using h) (fun i N' z' e1 e2=>hz (i+1) N' z' (by simpa using e1) (by simpa using e2)) (addR a z) (A+N) (Wn la lz) (Sl la.pos lz.pos ha e)
  refine⟨?_,h2⟩
  rw[List.sum_cons,← Int.add_assoc]
  exact h1
theorem RepL.mul {n n':Nat}{D D':Int}{Ws Rs:List Int}{ws rs:List Rat}(h:RepL n D Ws ws)(h':RepL n' D' Rs rs)(hl:ws.length=rs.length):RepL (n+n') (D*D') (List.zipWith (·*·) Ws Rs) (List.zipWith mulR' ws rs):=by
 refine⟨Int.mul_pos h.pos h'.pos,h.bD.mul h'.bD,by rw[List.length_zipWith,List.length_zipWith,h.len,h'.len],fun i W r hW hr=>?_⟩
 rw[List.getElem?_zipWith] at hW hr
 cases e1:Ws[i]? with
 | none=>rw[e1] at hW;cases hW
 | some x =>
  cases e2:Rs[i]? with
  | none=>rw[e1,e2] at hW;cases hW
  | some y =>
   cases e3:ws[i]? with
   | none=>rw[e3] at hr;cases hr
   | some u =>
    cases e4:rs[i]? with
    | none=>rw[e3,e4] at hr;cases hr
    | some v =>
     rw[e1,e2] at hW
     rw[e3,e4] at hr
     cases hW
     cases hr
     obtain⟨a1,b1,l1⟩:=h.at_ i x u e1 e3
     obtain⟨a2,b2,l2⟩:=h'.at_ i y v e2 e4
     exact⟨Sk l1.pos l2.pos a1 a2,b1.mul b2,Xe l1 l2⟩
theorem RepL.sum {n:Nat}{D:Int}{Ns:List Int}{zs:List Rat}(h:RepL n D Ns zs):(zs.foldl addR (0,1)).1*D=Ns.sum*(zs.foldl addR (0,1)).2/\Low (zs.foldl addR (0,1)):=by
 have:=J4 h.pos Ns zs h.len (fun i N z e1 e2=>⟨(h.at_ i N z e1 e2).1,(h.at_ i N z e1 e2).2.2⟩) (0,1) 0 Um (by simp)
 rwa [Int.zero_add] at this
theorem RepL.take {n:Nat}{D:Int}{Ns:List Int}{zs:List Rat}(h:RepL n D Ns zs)(i:Nat):RepL n D (Ns.take i) (zs.take i):=by
 refine⟨h.pos,h.bD,by rw[List.length_take,List.length_take,h.len],fun j W r hW hr=>?_⟩
 rw[List.getElem?_take] at hW hr
 split at hW
 ·rename_i q
  rw[if_pos q] at hr
  exact h.at_ j W r hW hr
 ·cases hW
theorem RepL.sumGood {n k:Nat}{D:Int}{Ns:List Int}{zs:List Rat}(h:RepL n D Ns zs)(hk:zs.length<=2 ^ k):Good (n+k) (zs.foldl addR (0,1)):=by
 obtain⟨e,l⟩:=h.sum
 refine Vq h.pos l.pos l.cop e (h.bD.mono (by omega)) (Nd Ns (fun x hx=>?_) k (by rw[h.len];exact hk))
 obtain⟨i,hi⟩:=List.getElem?_of_mem hx
 have hl:i<Ns.length:=(List.getElem?_eq_some_iff.mp hi).1
 have hz:i<zs.length:=by rw[← h.len];exact hl
 exact (h.at_ i x zs[i] hi (by simp[hz])).2.1
theorem Z17 {n n':Nat}{D D':Int}{Ws Rs:List Int}{ws rs:List Rat}(h:RepL n D Ws ws)(h':RepL n' D' Rs rs)(hl:ws.length=rs.length) :
  nrm (List.zipWith (·*·) Ws Rs).sum (D*D')=(List.zipWith mulR' ws rs).foldl addR (0,1):=by
 have m:=h.mul h' hl
 obtain⟨e,l⟩:=m.sum
 have hne:D*D'≠0:=by have:=m.pos;omega
 have l':=Yp (p:=(List.zipWith (·*·) Ws Rs).sum) hne
 have e':=J5 (p:=(List.zipWith (·*·) Ws Rs).sum) hne
 refine Xf l'.pos l.pos l'.cop l.cop ?_
 generalize (List.zipWith mulR' ws rs).foldl addR (0,1)=u at *
 generalize nrm (List.zipWith (·*·) Ws Rs).sum (D*D')=v at *
 generalize (List.zipWith (·*·) Ws Rs).sum=N at *
 generalize D*D'=E at *
 have:E*(v.1*u.2)=E*(u.1*v.2):=by grind
 exact Int.eq_of_mul_eq_mul_left hne this
end Sb
namespace Sb
open PySem L2
def sumR (rs:List Rat):Rat:=rs.foldl addR (0,1)
theorem G6 (rs:List Rat)(r:Rat):sumR (rs++[r])=addR (sumR rs) r:=by
 unfold sumR
 rw[List.foldl_append]
 rfl
theorem Qh {rs:List Rat}{i:Nat}{r:Rat}(h:rs[i]?=some r):sumR (rs.take (i+1))=addR (sumR (rs.take i)) r:=by rw[Y9 h,G6]
def isW (rs:List Rat):Bool:=!((rs.map fun r=>ltR r (0,1)).any id) && decide (sumR rs=(1,1))
theorem Lc:∀ (ns:List Int) (m:Int),(∀ z∈ns,0<=z/\z<=m)->0<=ns.sum/\ns.sum<=m*ns.length
 | [],m,_=>by simp
 | z::t,m,h=>by
  obtain⟨h1,h2⟩:=Lc t m fun x hx=>h x (List.mem_cons_of_mem _ hx)
  obtain⟨h3,h4⟩:=h z List.mem_cons_self
  rw[List.sum_cons,List.length_cons]
  have:m*((t.length+1:Nat):Int)=m*t.length+m:=by rw[Int.natCast_add,Int.mul_add];simp
  omega
theorem Kf:∀ (ns:List Int),(∀ z∈ns,0<=z)->(∃ z∈ns,1<=z)->1<=ns.sum
 | [],_,h=>by obtain⟨z,hz,_⟩:=h;cases hz
 | y::t,h0,h=>by
  have ht:0<=t.sum:=by
   have:∀ l:List Int,(∀ z∈l,0<=z)->0<=l.sum:=fun l=>by
    induction l with
    | nil=>intro _;simp
    | cons a r ih =>
     intro h
     have:=ih fun x hx=>h x (List.mem_cons_of_mem _ hx)
     have:=h a List.mem_cons_self
     rw[List.sum_cons]
     omega
   exact this t fun x hx=>h0 x (List.mem_cons_of_mem _ hx)
  have hy:=h0 y List.mem_cons_self
  rw[List.sum_cons]
  obtain⟨z,hz,h1⟩:=h
  rcases List.mem_cons.mp hz with e | e
  ·subst e;omega
  ·have:=Kf t (fun x hx=>h0 x (List.mem_cons_of_mem _ hx)) ⟨z,e,h1⟩
   omega
end Sb
namespace Sb
theorem Wz {α β:Type}(f:α->β){l:List α}{i:Nat}{x:α}(h:l[i]?=some x):(l.map f).take (i+1)=(l.map f).take i++[f x]:=Y9 (by rw[List.getElem?_map,h];rfl)
open Sv (sm Y5 Wq X2 sm_zero Ya Y1 Uc)
theorem Kb:∀ (c:Nat) (As Bs:List Int),As.length=c->Bs.length=c->(List.zipWith (·*·) As Bs).sum=sm c (fun i=>As.getD i 0*Bs.getD i 0)
 | 0,As,Bs,h1,h2=>by
  rw[List.eq_nil_of_length_eq_zero h1]
  rfl
 | c+1,As,Bs,h1,h2=>by
  have e1:As=As.take c++[As.getD c 0]:=by
   have:As[c]?=some (As.getD c 0):=by simp[List.getD,show c<As.length by omega]
   rw[← Y9 this,List.take_of_length_le (by omega)]
  have e2:Bs=Bs.take c++[Bs.getD c 0]:=by
   have:Bs[c]?=some (Bs.getD c 0):=by simp[List.getD,show c<Bs.length by omega]
   rw[← Y9 this,List.take_of_length_le (by omega)]
  have l1:(As.take c).length=c:=by rw[List.length_take];omega
  have l2:(Bs.take c).length=c:=by rw[List.length_take];omega
  have ih:=Kb c (As.take c) (Bs.take c) l1 l2
  conv=>lhs;rw[e1,e2]
  rw[List.zipWith_append (by omega)]
  rw[List.sum_append,ih]
  show _+(As.getD c 0*Bs.getD c 0+0)=sm c _+As.getD c 0*Bs.getD c 0
  rw[Int.add_zero]
  congr 1
  refine Y5 fun i hi=>?_
  have g:∀ L:List Int,c<=L.length->(L.take c).getD i 0=L.getD i 0:=fun L hL=>by
   simp[List.getD,List.getElem?_take,hi]
  rw[g As (by omega),g Bs (by omega)]
def cutZ (o:Option (Nat->Bool))(Zs:List Int):List Int:=Zs.mapIdx fun i z=>if inE o i then z else 0
theorem Mx (o:Option (Nat->Bool))(Zs:List Int):(cutZ o Zs).length=Zs.length:=by unfold cutZ;simp
theorem Jv {o:Option (Nat->Bool)}{Zs:List Int}{i:Nat}:(cutZ o Zs)[i]?=(Zs[i]?).map fun z=>if inE o i then z else 0:=by
 unfold cutZ
 rw[List.getElem?_mapIdx]
theorem bd0 (n:Nat):Bd n 0:=by
 show (0:Int).natAbs<2 ^ n
 exact Nat.pow_pos (by decide)
theorem RepL.cut {n:Nat}{D:Int}{Zs:List Int}{rs:List Rat}(h:RepL n D Zs rs)(o:Option (Nat->Bool)):RepL n D (cutZ o Zs) (cutR o rs):=by
 refine⟨h.pos,h.bD,by rw[Mx,Yl,h.len],fun i W r hW hr=>?_⟩
 have hl:i<rs.length:=by
  have:=(List.getElem?_eq_some_iff.mp hr).1
  rwa [Yl] at this
 have hz:i<Zs.length:=by rw[h.len];exact hl
 rw[Wo (r:=rs[i]) (by simp[hl])] at hr
 rw[Jv,show Zs[i]?=some Zs[i] by simp[hz]] at hW
 cases hr
 cases hW
 obtain⟨a,b,l⟩:=h.at_ i Zs[i] rs[i] (by simp[hz]) (by simp[hl])
 split
 ·exact⟨a,b,l⟩
 ·exact⟨by simp,bd0 n,Um⟩
theorem RepL.ones (c:Nat):RepL 1 1 (List.replicate c 1) (List.replicate c (1,1)):=by
 refine⟨by decide,by show (1:Int).natAbs<2 ^ 1;decide,by simp,fun i W r hW hr=>?_⟩
 have h1:=List.eq_of_mem_replicate (List.mem_of_getElem? hW)
 have h2:=List.eq_of_mem_replicate (List.mem_of_getElem? hr)
 subst h1 h2
 exact⟨rfl,by show (1:Int).natAbs<2 ^ 1;decide,low11⟩
theorem RepL.mono {m n:Nat}{D:Int}{Zs:List Int}{rs:List Rat}(h:RepL m D Zs rs)(k:m<=n):RepL n D Zs rs :=
 ⟨h.pos,h.bD.mono k,h.len,fun i W r hW hr=>⟨(h.at_ i W r hW hr).1,(h.at_ i W r hW hr).2.1.mono k,(h.at_ i W r hW hr).2.2⟩⟩
theorem RepL.of_map {n:Nat}{D:Int}(hD:0<D)(bD:Bd n D){α:Type}(l:List α)(f:α->Rat)(g:α->Int)(h:∀ x∈l,(f x).1*D=g x*(f x).2/\Bd n (g x)/\Low (f x)):RepL n D (l.map g) (l.map f):=by
 refine⟨hD,bD,by simp,fun i W r hW hr=>?_⟩
 rw[List.getElem?_map] at hW hr
 cases e:l[i]? with
 | none=>rw[e] at hW;cases hW
 | some x =>
  rw[e] at hW hr
  cases hW
  cases hr
  exact h x (List.mem_of_getElem? e)
section
variable {c:Nat}{Ws Ro:List Int}{o:Option (Nat->Bool)}
end
theorem RepL.bdW {n:Nat}{D:Int}{Zs:List Int}{rs:List Rat}(h:RepL n D Zs rs):∀ z∈Zs,Bd n z:=fun z hz=>by
 obtain⟨i,hi⟩:=List.getElem?_of_mem hz
 have hl:i<Zs.length:=(List.getElem?_eq_some_iff.mp hi).1
 have hr:i<rs.length:=by rw[← h.len];exact hl
 exact (h.at_ i z rs[i] hi (by simp[hr])).2.1
end Sb
namespace Sb
open PySem L2
structure Goes (J:It)(H:Hp)(xs:List V):Prop where
 go:∀ (i:Nat) (H':Hp),Same H H'->i<xs.length->J.go i H'
 yld:∀ (i:Nat) (H':Hp) (x:V) (H'':Hp),Same H H'->J.yld i H' x H''->H''=H'/\xs[i]?=some x
 stop:∀ H':Hp,Same H H'->J.stop xs.length H'
theorem Z3q {K:W.Frag}{H:Hp}{a:Addr}{xs:List V}(h:SqL K H a xs):Goes (Itl K a) H xs :=
 ⟨fun i H' S hi=>⟨xs,xs[i],M3 S h,by simp[hi]⟩,fun _ _ _ _ S ⟨e,f⟩=>⟨e,f xs (M3 S h)⟩,fun _ S=>⟨xs,M3 S h,Nat.le_refl _⟩⟩
theorem Z3p {K:W.Frag}{H:Hp}{a:Addr}{xs:List V}(h:SqT K H a xs):Goes (Itt K a) H xs :=
 ⟨fun i H' S hi=>⟨xs,xs[i],Zq S h,by simp[hi]⟩,fun _ _ _ _ S ⟨e,f⟩=>⟨e,f xs (Zq S h)⟩,fun _ S=>⟨xs,Zq S h,Nat.le_refl _⟩⟩
section
open PySem.Spec PyProof.Rows
variable {X:Cx}{tg:Expr}
def iAny (K:W.Frag)(tl:TE):TI:=fun σ H R=>tl σ H fun x H1=>∃ (a:Addr) (xs:List V),x=.ref a/\(SqL K H1 a xs \/ SqT K H1 a xs)/\∀ J:It,Goes J H1 xs->R J H1
theorem Z2b {l:Expr}{tl:TE}(hl:PE X l tl):PI X tg l (iAny X.K tl):=by
 intro pins s σ H R I h
 refine thn (hl pins s σ H _ I h) fun v s1 ⟨x,H1,I1,r1,q1⟩=>?_
 obtain⟨a,xs,e,hq | hq,q⟩:=q1
 ·subst e
  cases r1
  obtain⟨its,rv,p,hz⟩:=I1.list hq
  refine wpAny_pyIter_list p.isList ?_
  refine⟨s1.heap.objs.size,[s1.heap.objs.size],_,_,H1,rfl,I1.kept (t':=s1.toks) fun b o e=>Heap.get?_push_of_some _ e,Uy a _,⟨_,Heap.get?_push_size _ rfl,rfl,rfl⟩,fun b hb=>?_,q _ (Z3q hq)⟩
  have e:b=s1.heap.objs.size:=by simpa using hb
  subst e
  exact I1.fpOk (Nat.le_refl _) (I1.hok.fresh (Nat.le_refl _))
 ·subst e
  cases r1
  obtain⟨its,rv,p,hz⟩:=I1.tuple hq
  refine wpAny_pyIter_tuple (show s1.heap.IsTuple a its.toArray from p) ?_
  refine⟨s1.heap.objs.size,[s1.heap.objs.size],_,_,H1,rfl,I1.kept (t':=s1.toks) fun b o e=>Heap.get?_push_of_some _ e,U4 a _,⟨_,Heap.get?_push_size _ rfl,rfl,rfl⟩,fun b hb=>?_,q _ (Z3p hq)⟩
  have e:b=s1.heap.objs.size:=by simpa using hb
  subst e
  exact I1.fpOk (Nat.le_refl _) (I1.hok.fresh (Nat.le_refl _))
end
end Sb
namespace Sb
open PySem PySem.Spec PyProof.Rows L2
section
variable {X:Cx}
theorem W5 {i:Nat}{x:Str}{pos' spos:Pos}{elt iter tg:Expr}{ifs:List Expr}{scope:Scope}{pos:Pos}{wi:TI}{g:TG}{tt:TT}{te:TE}{N:List Str}{k:Nat}{fv:List Nat}
  (hXN:X.N.Nodup) (hix:X.N[i]?=some x) (hx:Loc X.env.scope x)
  (hc:X.calm=true) (hi:PI X tg iter wi) (hg:∀ cl C fp s H,PG (compCx X N scope cl C fp s H) tg g) (ht:∀ cl C fp s H,PTs (compCx X N scope cl C fp s H) ifs tt) (he:∀ cl C fp s H,PE (compCx X N scope cl C fp s H) elt te)
  (hw:∀ r x H Q,g x (List.replicate k none++r) H Q->g x (List.replicate k none++r) H fun σ4 H4=>Q σ4 H4/\Weaker σ4 (List.replicate k none++r))
  (hN:N.length=k+fv.length:=by rfl) (hfv:fv.map (fun j=>X.N[j]?)=(N.drop k).map some:=by rfl) (hk:(N.drop k).map X.env.kindOf=(N.drop k).map (fun _=>some .cell):=by rfl)
  (hfl:∀ y∈N.drop k,scope.names.lookup y=some .free:=by decide +kernel) (hfr:∀ y∈scope.names,y.2=.free->y.1∈N.drop k:=by decide +kernel)
  (hcell:∀ y∈scope.names,y.2≠.cell:=by decide +kernel) (hkind:scope.kind=.function:=by rfl) (hnames:∀ y∈scope.names,y.2=.local->scope.names.lookup y.1=some .local:=by decide +kernel)
  (hs:∀ x,foldedSetIterable iter X.env x=pure x:=by intro _;rfl)
  (hsw:swapsWith (.ListComp elt [⟨tg,iter,ifs,0⟩] scope pos) (some (.Name x pos')) spos.line X.env=pure true:=by rfl)
  (hf:X.fn x=true \/ X.env.scope.names.lookup x=some .local:=by first | exact .inl rfl | exact .inr rfl | assumption) :
  PS X (.Assign [.Name x pos'] (.ListComp elt [⟨tg,iter,ifs,0⟩] scope pos) spos) (tAsg (tComp wi g tt te k fv) (gName i)):=by
 intro pins s σ H D I h
 have kc:∀ y∈N.drop k,X.env.kindOf y=some .cell:=fun y hy=>by
  obtain⟨j,hj⟩:=List.getElem?_of_mem hy
  have a:=congrArg (fun l=>l[j]?) hk
  simp only [List.getElem?_map,hj,Option.map_some] at a
  exact Option.some.inj a
 obtain⟨cl,hclos,h1,h2⟩:=Wx (env:=X.env) (scope:=scope) fun y hy hf=>I.ok.has y.1 (.inl (kc y.1 (hfr y hy hf)))
 rw[exec_Assign_Name_used _ _ _ _ hsw]
 refine wpAny_bind (wpAny_standAt (wpAny_bind ?_))
 unfold evalThenUse
 refine wpAny_bind (wpAny_comprehension_free (use:=some (assign (.Name x pos') X.env)) rfl hs hclos hkind hnames (thn (hi pins s σ H _ I h) fun xv s1 h1'=>thn h1' fun itv s2 h2'=>?_))
 obtain⟨it,fp,tn,J,H2,e,I2,T,st2,f2,body⟩:=h2'
 subst e
 refine Q7 (Q:=fun v H1=>gName i v σ H1 D.nx) (RR:=fun acc C=>compPost (model X.prog X.w) X.A X.xe (some (assign (.Name x pos') X.env)) _ acc C) hc hg ht he hw hN hfv hk hfl hcell hkind h1 h2 I2 T st2 f2 body fun Dd C H' s' ⟨m,hm⟩ fpC q iv=>?_
 show wpAny _ _ (assign (.Name x pos') X.env (.ref Dd)) _ _ s'
 have I':Inv X pins σ H' s':=iv s'.heap ⟨rfl,fun _ _=>rfl⟩
 refine wpAny_assign_Name (Qi I' hXN hix hx (v:=.ref Dd) rfl (fun s3 I3 ⟨a,sb,ha⟩=>⟨m,?_,fun h' hs'=>?_⟩) hf)
 ·have hne:C≠a:=by
   rcases ha with rfl | ha
   ·exact fpC.2.1
   ·exact fun z=>fpC.2.2.2.2.1 x a ha z.symm
  obtain⟨o,es,ep,ho,r⟩:=hm
  exact⟨o,es,ep,by rw[sb.2 C hne];exact ho,r⟩
 ·refine wpAny_pure (wpAny_pure ?_)
  have I4:=Ut (ch:=[C]) (h':=h') (t':=s3.toks) I3 (fun b hb=>by rw[List.mem_singleton.mp hb];exact fpC) fun b o hb e=>by
   rw[hs'.2 b (fun z=>hb (by rw[z];exact List.mem_singleton.mpr rfl))]
   exact e
  exact⟨_,H',I4,q⟩
end
end Sb
namespace Sb
open PySem L2
theorem Tl {K:W.Frag}{a:Addr}{xs:List V}{g:TG}{tb:TS}{D:Ends}{σ:L2.St}{H:Hp}(Pv:Nat->L2.St->Hp->Prop)(h0:Pv 0 σ H)(hl:∀ i σ H,i<=xs.length->Pv i σ H->SqL K H a xs)
  (hs:∀ i x σ H p,xs[i]?=some x->Pv i σ H->H p=none->g (.ref p) σ (upd H p (.tup [.int (i:Int),x])) fun σ2 H2=>tb { D with nx:=Pv (i+1),ct:=Pv (i+1),bk:=D.nx } σ2 H2) (hd:∀ σ H,Pv xs.length σ H->D.nx σ H) :
  ∃ W:Nat->Nat->L2.St->Hp->Prop,(∃ m,W 0 m σ H)/\∀ i m σ H,W i m σ H →
   ((IteL K a).stop i H/\D.nx σ H) \/ ((IteL K a).go i H/\∃ N:L2.St->Hp->Prop,(∀ σ' H',N σ' H'->∃ m',m'<m/\W (i+1) m' σ' H')/\∀ x H',(IteL K a).yld i H x H'->g x σ H' fun σ2 H2=>tb { D with nx:=N,ct:=N,bk:=D.nx } σ2 H2):=by
 refine⟨fun i m σ H=>m=xs.length - i/\i<=xs.length/\Pv i σ H,⟨xs.length,by simp,Nat.zero_le _,h0⟩,?_⟩
 rintro i m σ H ⟨rfl,hi,p⟩
 have q:=hl i σ H hi p
 by_cases hlt:i<xs.length
 ·refine .inr ⟨⟨xs,q,hlt⟩,Pv (i+1),fun σ' H' p'=>⟨xs.length - (i+1),by omega,rfl,hlt,p'⟩,fun x H' y=>?_⟩
  obtain⟨pp,x0,rfl,hp,rfl,fx⟩:=y
  exact hs i x0 σ H pp (fx xs q) p hp
 ·have e:i=xs.length:=by omega
  subst e
  exact .inl ⟨⟨xs,q,rfl⟩,hd σ H p⟩
theorem Paired.appP {α β:Type}{R:α->β->Prop}:∀ {xs xs':List α} {ys ys':List β},Paired R xs ys->Paired R xs' ys'->Paired R (xs++xs') (ys++ys')
 | _,_,_,_,.nil,s=>s
 | _,_,_,_,.cons r t,s=>.cons r (Paired.appP t s)
section
variable {K:W.Frag}
def RowsAt (K:W.Frag)(H:Hp)(l:Addr)(rss:List (List Rat)):Prop:=∃ as:List Addr,H l=some (.lst (as.map V.ref))/\Paired (RowAt K H) as rss
theorem Yg {H H':Hp}{as:List Addr}{rss:List (List Rat)}(h:Paired (RowAt K H) as rss)(x:Ext H H'):Paired (RowAt K H') as rss:=Paired.mapP h fun _ _ q=>q.ext x
end
theorem Qy {c A B:Prop}[Decidable c](hc:¬ c)(h:A):if (!decide c)=true then A else B:=by
 rw[decide_eq_false hc]
 exact Ti h
end Sb
namespace Sb
open PySem PySem.Spec PyProof.Rows L2
theorem Lb (l:Addr)(items:Array Value)(n:Nat)(dd:Option Addr)(sl:Array (Option Value))(u:Tok) :
  Meets (Builtin.«tuple.__mul__» ⟨[.ref l,.int 1 u],[]⟩) (fun _ R s=>s.heap.get? l=some { cls:=.type "tuple",dict:=dd,data:=.seq items n,slots:=sl }/\R (.ok (.ret (Value.ref l))) s) :=
 .of_wp fun prog w A R s h=>by
  obtain⟨hp,g,d,tk,os⟩:=s;obtain⟨hl,h⟩:=h
  have f1:=AutoSeq1.idx_int
  have f2:=AutoSeq1.sub_tuple_tuple
  have c1:(items.isEmpty || (1:Int) == 1)=true:=by simp
  wp_walk using wpAny_loadPart' hl
  exact⟨_,rfl,h⟩
section
variable {X:Cx}{K:W.Frag}
def rRepU (K:W.Frag):R2:=fun x y H Q=>∃ a k xs,x=.ref a/\y=.int k/\SqT K H a xs/\1<=k/\xs≠[]/\xs.length*k.toNat<=1000/\∀ p H',Same H H'->SqT K H' p (List.replicate k.toNat xs).flatten->Q (.ref p) H'
theorem Z0f:OpR X (binaryOp .Mult) (rRepU X.K):=by
 intro pins s σ H x y v u Q I rx ry h
 obtain⟨l,k,xs,rfl,rfl,hq,h1,h2,h3,q⟩:=h
 by_cases hk:2<=k
 ·exact Jb pins s σ H _ _ v u Q I rx ry ⟨l,k,xs,rfl,rfl,hq,hk,h2,h3,fun p hp=>q p _ (Same.new hp) (SqT.of Zb)⟩
 ·have e:k=1:=by omega
  subst e
  cases rx
  obtain⟨t,rfl⟩:=ry
  obtain⟨its,r,pl,hz⟩:=I.tuple hq
  obtain⟨⟨cls,dd,data,sl⟩,ho,hc,n,hd⟩:=id pl
  simp only at hc hd
  subst hc hd
  refine wpAny_binaryOp_repeat_ref (T:="tuple") (U:="int") (by decide) ⟨_,ho,rfl⟩ (fun s'=>typeIs_int s' 1 t) V4 F.fills_int_mul F.slot_int_rmul Uh F.slot_int_index.lookup
   (call_meets F.slot_int_rmul (typeIs_int s 1 t) F.entry_int_rmul (F.args_int_rmul_2 _ _) (Vz 1 t l its.toArray n dd sl)
    ⟨ho,rfl,⟨_,ho,rfl⟩,call_meets F.slot_tuple_mul ⟨_,ho,rfl⟩ F.entry_tuple_mul (F.args_tuple_mul_2 _ _) (Lb l its.toArray n dd sl t) ⟨ho,?_⟩⟩)
  refine⟨.ref l,H,I,rfl,q l H (fun _ _ h=>h) ?_⟩
  have:(List.replicate (1:Int).toNat xs).flatten=xs:=by simp
  rw[this]
  exact hq
end
end Sb
namespace Sv
structure Tab where
 b:Int
 own:Nat->Nat
 hd:Nat->Nat
 L:Nat->Nat->Int
def colOf (n:Nat)(col:Nat->Vec)(rhs:Vec)(T:Tab)(j:Nat):Vec:=if j<n then col (T.hd j) else rhs
def bas (col:Nat->Vec)(T:Tab):Mat:=fun i=>col (T.own i)
structure Inv (m n:Nat)(col:Nat->Vec)(rhs:Vec)(T:Tab):Prop where
 pos:0<T.b
 dt:det m (bas col T)=T.b
 eqs:∀ j,j<=n->∀ r,r<m->T.b*colOf n col rhs T j r=sm m (fun i=>T.L i j*bas col T i r)
 part:∀ f:Nat->Int,sm (n+m) f=sm m (fun i=>f (T.own i))+sm n (fun j=>f (T.hd j))
section
variable {m n:Nat}{col:Nat->Vec}{rhs:Vec}{T:Tab}
theorem Nb {a x y:Int}(h:0<a)(e:a*x=a*y):x=y:=Int.eq_of_mul_eq_mul_left (by omega) e
theorem N9 {i k:Nat}(hi:i<m)(hk:k<m):det m (put (bas col T) i (bas col T k))=if k=i then det m (bas col T) else 0:=by
 by_cases e:k=i
 ·subst e
  rw[if_pos rfl,V1]
 ·rw[if_neg e]
  exact Uw hi hk (Ne.symm e) (by rw[Y6,Y0 e])
theorem Inv.phi (I:Inv m n col rhs T){i j:Nat}(hi:i<m)(hj:j<=n):det m (put (bas col T) i (colOf n col rhs T j))=T.L i j:=by
 refine Nb I.pos ?_
 rw[← Mv hi]
 have e1:det m (put (bas col T) i (fun r=>T.b*colOf n col rhs T j r))=det m (put (bas col T) i (fun r=>sm m (fun k=>T.L k j*bas col T k r))):=by
  refine Ys fun k r hk hr=>?_
  by_cases e:k=i
  ·subst e
   rw[Y6,Y6]
   exact I.eqs j hj r hr
  ·rw[Y0 e,Y0 e]
 rw[e1,Uv hi]
 rw[sm_one (k:=i) hi fun k hk hne=>?_]
 ·rw[N9 hi hi,if_pos rfl,I.dt,Int.mul_comm]
 ·rw[N9 hi hk,if_neg hne,Int.mul_zero]
theorem Inv.phiO (I:Inv m n col rhs T){i k:Nat}(hi:i<m)(hk:k<m):det m (put (bas col T) i (bas col T k))=if k=i then T.b else 0:=by
 rw[N9 hi hk,I.dt]
theorem Inv.two (I:Inv m n col rhs T){p i c j:Nat}(hp:p<m)(hi:i<m)(hpi:i≠p)(hc:c<=n)(hj:j<=n) :
  T.b*det m (put (put (bas col T) p (colOf n col rhs T c)) i (colOf n col rhs T j))=T.L i j*T.L p c - T.L i c*T.L p j:=by
 rw[Xu (Ne.symm hpi),← Mv hp]
 have e1:det m (put (put (bas col T) i (colOf n col rhs T j)) p (fun r=>T.b*colOf n col rhs T c r))=det m (put (put (bas col T) i (colOf n col rhs T j)) p (fun r=>sm m (fun k=>T.L k c*bas col T k r))):=by
  refine Ys fun k r hk hr=>?_
  by_cases e:k=p
  ·subst e
   rw[Y6,Y6]
   exact I.eqs c hc r hr
  ·rw[Y0 e,Y0 e]
 rw[e1,Uv hp]
 rw[Fr (p:=p) (q:=i) hp hi (Ne.symm hpi) fun k hk h1 h2=>?_]
 ·have a1:put (put (bas col T) i (colOf n col rhs T j)) p (bas col T p)=put (bas col T) i (colOf n col rhs T j):=by
   rw[Xu hpi,V1]
  have a2:det m (put (put (bas col T) i (colOf n col rhs T j)) p (bas col T i))=- T.L p j:=by
   rw[Bo hi hp hpi,V1,I.phi hp hj]
  rw[a1,a2,I.phi hi hj]
  grind
 ·rw[Uw (p:=p) (q:=k) hp hk (Ne.symm h1) (by rw[Y6,Y0 h1,Y0 h2]),Int.mul_zero]
def newL (T:Tab)(p c i j:Nat):Int:=if i=p then (if j=c then T.b else T.L p j) else if j=c then - T.L i c else (T.L i j*T.L p c - T.L i c*T.L p j).fdiv T.b
def up (f:Nat->Nat)(i v:Nat):Nat->Nat:=fun k=>if k=i then v else f k
def piv (T:Tab)(p c:Nat):Tab:=⟨T.L p c,up T.own p (T.hd c),up T.hd c (T.own p),newL T p c⟩
theorem Inv.newL_mul (I:Inv m n col rhs T){p c i j:Nat}(hp:p<m)(hc:c<n)(hi:i<m)(hj:j<=n)(h1:i≠p)(h2:j≠c):T.b*newL T p c i j=T.L i j*T.L p c - T.L i c*T.L p j:=by
 have h:=I.two hp hi h1 (Nat.le_of_lt hc) hj
 unfold newL
 rw[if_neg h1,if_neg h2,← h]
 rw[Int.mul_comm T.b (det m _),Int.mul_fdiv_cancel _ (by have:=I.pos;omega)]
 rw[Int.mul_comm]
theorem Z1m {k:Nat}{f:Nat->Int}{g:Nat->Nat}{i v:Nat}(hi:i<k):sm k (fun x=>f (up g i v x))=sm k (fun x=>f (g x))+f v - f (g i):=by
 rw[Y1 (k:=i) hi,Y1 (f:=fun x=>f (g x)) (k:=i) hi]
 have e:sm k (fun x=>if x=i then 0 else f (up g i v x))=sm k (fun x=>if x=i then 0 else f (g x)):=Y5 fun x _=>by
  by_cases h:x=i
  ·rw[if_pos h,if_pos h]
  ·rw[if_neg h,if_neg h];unfold up;rw[if_neg h]
 rw[e]
 have:up g i v i=v:=if_pos rfl
 show f (up g i v i)+_=_
 rw[this]
 omega
theorem Jw (T:Tab)(p c:Nat):bas col (piv T p c)=put (bas col T) p (col (T.hd c)):=by
 funext i
 show col (up T.own p (T.hd c) i)=_
 by_cases e:i=p
 ·subst e
  rw[Y6]
  unfold up
  rw[if_pos rfl]
 ·rw[Y0 e]
  unfold up
  rw[if_neg e]
  rfl
theorem Xk {j:Nat}(h:j<n):colOf n col rhs T j=col (T.hd j):=if_pos h
theorem Inv.piv (I:Inv m n col rhs T){p c:Nat}(hp:p<m)(hc:c<n)(hk:0<T.L p c):Inv m n col rhs (piv T p c):=by
 refine⟨hk,?_,fun j hj r hr=>?_,fun f=>?_⟩
 ·rw[Jw,← Xk (col:=col) (rhs:=rhs) (T:=T) hc,I.phi hp (Nat.le_of_lt hc)]
  rfl
 ·rw[Jw]
  show T.L p c*colOf n col rhs (Sv.piv T p c) j r=sm m (fun i=>newL T p c i j*put (bas col T) p (col (T.hd c)) i r)
  have ec:=I.eqs c (Nat.le_of_lt hc) r hr
  rw[Xk hc,Y1 (k:=p) hp] at ec
  rw[Y1 (k:=p) hp,Y6]
  by_cases e:j=c
  ·subst e
   have e1:colOf n col rhs (Sv.piv T p j) j=bas col T p:=by
    rw[Xk hc]
    show col (up T.hd j (T.own p) j)=_
    unfold up
    rw[if_pos rfl]
    rfl
   have e2:sm m (fun i=>if i=p then 0 else newL T p j i j*put (bas col T) p (col (T.hd j)) i r)=(-1)*sm m (fun i=>if i=p then 0 else T.L i j*bas col T i r):=by
    rw[← X2]
    refine Y5 fun i hi=>?_
    by_cases h:i=p
    ·rw[if_pos h,if_pos h];rfl
    ·rw[if_neg h,if_neg h,Y0 h]
     unfold newL
     rw[if_neg h,if_pos rfl]
     grind
   have e3:newL T p j p j=T.b:=by unfold newL;rw[if_pos rfl,if_pos rfl]
   rw[e1,e2,e3]
   omega
  ·have ej:=I.eqs j hj r hr
   rw[Y1 (k:=p) hp] at ej
   have e1:colOf n col rhs (Sv.piv T p c) j=colOf n col rhs T j:=by
    unfold colOf
    by_cases q:j<n
    ·rw[if_pos q,if_pos q]
     show col (up T.hd c (T.own p) j)=_
     unfold up
     rw[if_neg e]
    ·rw[if_neg q,if_neg q]
   have e3:newL T p c p j=T.L p j:=by unfold newL;rw[if_pos rfl,if_neg e]
   refine Nb I.pos ?_
   have e2:T.b*sm m (fun i=>if i=p then 0 else newL T p c i j*put (bas col T) p (col (T.hd c)) i r)=T.L p c*sm m (fun i=>if i=p then 0 else T.L i j*bas col T i r)+(- T.L p j)*sm m (fun i=>if i=p then 0 else T.L i c*bas col T i r):=by
    rw[← X2,← X2,← X2,← Wq]
    refine Y5 fun i hi=>?_
    by_cases h:i=p
    ·rw[if_pos h,if_pos h,if_pos h];simp
    ·rw[if_neg h,if_neg h,if_neg h,Y0 h,← Int.mul_assoc,I.newL_mul hp hc hi hj h e]
     grind
   rw[e1,e3,Int.mul_add,e2]
   generalize sm m (fun i=>if i=p then 0 else T.L i j*bas col T i r)=A at *
   generalize sm m (fun i=>if i=p then 0 else T.L i c*bas col T i r)=B at *
   generalize colOf n col rhs T j r=x at *
   generalize col (T.hd c) r=y at *
   generalize bas col T p r=z at *
   clear e2
   grind
 ·show sm (n+m) f=sm m (fun i=>f (up T.own p (T.hd c) i))+sm n (fun j=>f (up T.hd c (T.own p) j))
  rw[Z1m hp,Z1m hc,I.part f]
  omega
def ind (v:Nat):Nat->Int:=fun x=>if x=v then 1 else 0
theorem Tj (v x:Nat):0<=ind v x:=by unfold ind;split <;> omega
theorem Inv.cnt (I:Inv m n col rhs T){v:Nat}(h:v<n+m):sm m (fun i=>ind v (T.own i))+sm n (fun j=>ind v (T.hd j))=1:=by
 rw[← I.part (ind v),sm_one (f:=ind v) (k:=v) h fun i hi hne=>if_neg hne]
 exact if_pos rfl
theorem Inv.big (I:Inv m n col rhs T):sm m (fun i=>if T.own i<n+m then (0:Int) else 1)+sm n (fun j=>if T.hd j<n+m then (0:Int) else 1)=0:=by
 rw[← I.part (fun x=>if x<n+m then 0 else 1)]
 exact sm_zero fun i hi=>if_pos hi
theorem Inv.ownLt (I:Inv m n col rhs T){i:Nat}(hi:i<m):T.own i<n+m:=by
 apply Classical.byContradiction
 intro h
 have e:=I.big
 have h1:0<=sm n (fun j=>if T.hd j<n+m then (0:Int) else 1):=Ya fun j _=>by split <;> omega
 rw[Y1 (k:=i) hi,if_neg h] at e
 have h2:0<=sm m (fun x=>if x=i then 0 else if T.own x<n+m then (0:Int) else 1):=Ya fun j _=>by split <;> (try split) <;> omega
 omega
theorem Inv.hdLt (I:Inv m n col rhs T){j:Nat}(hj:j<n):T.hd j<n+m:=by
 apply Classical.byContradiction
 intro h
 have e:=I.big
 have h1:0<=sm m (fun j=>if T.own j<n+m then (0:Int) else 1):=Ya fun j _=>by split <;> omega
 rw[Y1 (f:=fun j=>if T.hd j<n+m then (0:Int) else 1) (k:=j) hj,if_neg h] at e
 have h2:0<=sm n (fun x=>if x=j then 0 else if T.hd x<n+m then (0:Int) else 1):=Ya fun j _=>by split <;> (try split) <;> omega
 omega
theorem Inv.ne (I:Inv m n col rhs T){i j:Nat}(hi:i<m)(hj:j<n):T.own i≠T.hd j:=fun h=>by
 have e:=I.cnt (I.ownLt hi)
 rw[Y1 (k:=i) hi,Y1 (f:=fun x=>ind (T.own i) (T.hd x)) (k:=j) hj] at e
 have a1:ind (T.own i) (T.own i)=1:=if_pos rfl
 have a2:ind (T.own i) (T.hd j)=1:=if_pos h.symm
 have h1:0<=sm m (fun x=>if x=i then 0 else ind (T.own i) (T.own x)):=Ya fun x _=>by split;omega;exact Tj ..
 have h2:0<=sm n (fun x=>if x=j then 0 else ind (T.own i) (T.hd x)):=Ya fun x _=>by split;omega;exact Tj ..
 omega
theorem Inv.ownInj (I:Inv m n col rhs T){i k:Nat}(hi:i<m)(hk:k<m)(h:T.own i=T.own k):i=k:=by
 apply Classical.byContradiction
 intro hne
 have e:=I.cnt (I.ownLt hi)
 rw[Y1 (k:=i) hi,Y1 (f:=fun x=>if x=i then 0 else ind (T.own i) (T.own x)) (k:=k) hk] at e
 have a1:ind (T.own i) (T.own i)=1:=if_pos rfl
 rw[if_neg (Ne.symm hne)] at e
 have a2:ind (T.own i) (T.own k)=1:=if_pos h.symm
 have h1:0<=sm m (fun x=>if x=k then 0 else if x=i then 0 else ind (T.own i) (T.own x)):=Ya fun x _=>by split;omega;split;omega;exact Tj ..
 have h2:0<=sm n (fun x=>ind (T.own i) (T.hd x)):=Ya fun x _=>Tj ..
 omega
theorem Inv.hdInj (I:Inv m n col rhs T){i k:Nat}(hi:i<n)(hk:k<n)(h:T.hd i=T.hd k):i=k:=by
 apply Classical.byContradiction
 intro hne
 have e:=I.cnt (I.hdLt hi)
 rw[Y1 (f:=fun x=>ind (T.hd i) (T.hd x)) (k:=i) hi,Y1 (f:=fun x=>if x=i then 0 else ind (T.hd i) (T.hd x)) (k:=k) hk] at e
 have a1:ind (T.hd i) (T.hd i)=1:=if_pos rfl
 rw[if_neg (Ne.symm hne)] at e
 have a2:ind (T.hd i) (T.hd k)=1:=if_pos h.symm
 have h1:0<=sm n (fun x=>if x=k then 0 else if x=i then 0 else ind (T.hd i) (T.hd x)):=Ya fun x _=>by split;omega;split;omega;exact Tj ..
 have h2:0<=sm m (fun x=>ind (T.hd i) (T.own x)):=Ya fun x _=>Tj ..
 omega
theorem Inv.cover (I:Inv m n col rhs T){v:Nat}(h:v<n+m):(∃ i,i<m/\T.own i=v) \/ (∃ j,j<n/\T.hd j=v):=by
 have e:=I.cnt h
 by_cases q:0<sm m (fun i=>ind v (T.own i))
 ·obtain⟨i,hi,hp⟩:=Lf q
  refine .inl ⟨i,hi,?_⟩
  apply Classical.byContradiction
  intro z
  rw[show ind v (T.own i)=0 from if_neg z] at hp
  omega
 ·have:0<sm n (fun j=>ind v (T.hd j)):=by omega
  obtain⟨i,hi,hp⟩:=Lf this
  refine .inr ⟨i,hi,?_⟩
  apply Classical.byContradiction
  intro z
  rw[show ind v (T.hd i)=0 from if_neg z] at hp
  omega
theorem Inv.row (I:Inv m n col rhs T){i:Nat}(hi:i<m)(x:Nat->Int)(hx:∀ r,r<m->sm (n+m) (fun v=>x v*col v r)=0):T.b*x (T.own i)+sm n (fun j=>T.L i j*x (T.hd j))=0:=by
 have e1:det m (put (bas col T) i (fun r=>sm (n+m) (fun v=>x v*col v r)))=0:=by
  rw[← Mu (m:=m) (v:=bas col T) (c:=i) hi]
  refine Ys fun k r hk hr=>?_
  by_cases e:k=i
  ·subst e
   rw[Y6,Y6]
   exact hx r hr
  ·rw[Y0 e,Y0 e]
 rw[Uv hi,I.part] at e1
 have e2:sm m (fun k=>x (T.own k)*det m (put (bas col T) i (col (T.own k))))=T.b*x (T.own i):=by
  rw[sm_one (k:=i) hi fun k hk hne=>?_]
  ·have:=I.phiO hi hi
   rw[if_pos rfl] at this
   show x (T.own i)*det m (put (bas col T) i (bas col T i))=_
   rw[this,Int.mul_comm]
  ·have:=I.phiO hi hk
   rw[if_neg hne] at this
   show x (T.own k)*det m (put (bas col T) i (bas col T k))=_
   rw[this,Int.mul_zero]
 have e3:sm n (fun j=>x (T.hd j)*det m (put (bas col T) i (col (T.hd j))))=sm n (fun j=>T.L i j*x (T.hd j)):=Y5 fun j hj=>by
  have:=I.phi (i:=i) (j:=j) hi (Nat.le_of_lt hj)
  rw[Xk hj] at this
  rw[this,Int.mul_comm]
 rw[e2,e3] at e1
 exact e1
def dir (m:Nat)(T:Tab)(c:Nat):Nat->Int:=fun v=>(if v=T.hd c then T.b else 0) + - sm m (fun i=>if T.own i=v then T.L i c else 0)
theorem Inv.dirO (I:Inv m n col rhs T){c i:Nat}(hc:c<n)(hi:i<m):dir m T c (T.own i)=- T.L i c:=by
 unfold dir
 rw[if_neg (I.ne hi hc),sm_one (k:=i) hi fun k hk hne=>if_neg fun z=>hne (I.ownInj hk hi z),if_pos rfl]
 omega
theorem Inv.dirH (I:Inv m n col rhs T){c j:Nat}(hc:c<n)(hj:j<n):dir m T c (T.hd j)=if j=c then T.b else 0:=by
 unfold dir
 rw[sm_zero (f:=fun i=>if T.own i=T.hd j then T.L i c else 0) fun k hk=>if_neg (I.ne hk hj)]
 by_cases e:j=c
 ·subst e
  rw[if_pos rfl,if_pos rfl]
  omega
 ·rw[if_neg e,if_neg fun z=>e (I.hdInj hj hc z)]
  omega
theorem Inv.dirSol (I:Inv m n col rhs T){c:Nat}(hc:c<n){r:Nat}(hr:r<m):sm (n+m) (fun v=>dir m T c v*col v r)=0:=by
 rw[I.part]
 have e1:sm m (fun i=>dir m T c (T.own i)*col (T.own i) r)=(-1)*sm m (fun i=>T.L i c*bas col T i r):=by
  rw[← X2]
  refine Y5 fun i hi=>?_
  rw[I.dirO hc hi]
  show _=-1*(T.L i c*col (T.own i) r)
  grind
 have e2:sm n (fun j=>dir m T c (T.hd j)*col (T.hd j) r)=T.b*col (T.hd c) r:=by
  rw[sm_one (k:=c) hc fun j hj hne=>by rw[I.dirH hc hj,if_neg hne,Int.zero_mul],I.dirH hc hc,if_pos rfl]
 have e3:=I.eqs c (Nat.le_of_lt hc) r hr
 rw[Xk hc] at e3
 rw[e1,e2,e3]
 omega
end
end Sv
namespace Sv
section
variable {m n lk i0:Nat}{col:Nat->Vec}{rhs:Vec}{T:Tab}{p c:Nat}
structure Step (m n lk i0:Nat)(T:Tab)(p c:Nat):Prop where
 hp:p<m
 hc:c<n
 nl:T.hd c≠lk
 help:0<T.L i0 c
 first:∀ j,j<n->T.hd j≠lk->0<T.L i0 j->T.hd c<=T.hd j
 el:T.own p<=lk
 key:0<T.L p c
 least:∀ i,i<m->T.own i<=lk->0<T.L i c->T.L p n*T.L i c<T.L i n*T.L p c \/ (T.L p n*T.L i c=T.L i n*T.L p c/\T.own p<=T.own i)
def Feas (m n lk:Nat)(T:Tab):Prop:=∀ i,i<m->T.own i<=lk->0<=T.L i n
theorem Gn {a x:Int}(ha:0<a)(h:0<=a*x):0<=x:=by
 apply Classical.byContradiction
 intro z
 have:=Int.mul_neg_of_pos_of_neg ha (show x<0 by omega)
 omega
theorem Inv.end_ne (I:Inv m n col rhs T)(s:Step m n lk i0 T p c){i:Nat}(hi:i<m)(h:i≠p):T.b*(Sv.piv T p c).L i n=T.L i n*T.L p c - T.L i c*T.L p n :=
 I.newL_mul s.hp s.hc hi (Nat.le_refl n) h (by have:=s.hc;omega)
theorem Z1y (s:Step m n lk i0 T p c):(piv T p c).L p n=T.L p n:=by
 show newL T p c p n=_
 unfold newL
 rw[if_pos rfl,if_neg (by have:=s.hc;omega)]
theorem own_p:(piv T p c).own p=T.hd c:=if_pos rfl
theorem own_ne {i:Nat}(h:i≠p):(piv T p c).own i=T.own i:=if_neg h
theorem Step.feas (I:Inv m n col rhs T)(s:Step m n lk i0 T p c)(F:Feas m n lk T):Feas m n lk (piv T p c):=fun i hi ho=>by
 by_cases e:i=p
 ·subst e
  rw[Z1y s]
  exact F i hi s.el
 ·rw[own_ne e] at ho
  have h:=I.end_ne s hi e
  have h0:=F i hi ho
  have h1:=F p s.hp s.el
  refine Gn I.pos ?_
  rw[h]
  by_cases q:0<T.L i c
  ·rcases s.least i hi ho q with z | ⟨z,_⟩
   ·rw[Int.mul_comm (T.L i c)];omega
   ·rw[Int.mul_comm (T.L i c)];omega
  ·have a1:0<=T.L i n*T.L p c:=Int.mul_nonneg h0 (by have:=s.key;omega)
   have a2:T.L i c*T.L p n<=0:=Int.mul_nonpos_of_nonpos_of_nonneg (by omega) h1
   omega
structure Run (m n lk i0:Nat)(col:Nat->Vec)(rhs:Vec)(K:Nat)(S:Nat->Tab)(P C:Nat->Nat):Prop where
 h0:i0<m
 I0:Inv m n col rhs (S 0)
 F0:Feas m n lk (S 0)
 st:∀ k,k<K->Step m n lk i0 (S k) (P k) (C k)
 stay:∀ k,k<K->P k≠i0
 nx:∀ k,k<K->S (k+1)=piv (S k) (P k) (C k)
variable {K:Nat}{S:Nat->Tab}{P C:Nat->Nat}
theorem Run.inv (R:Run m n lk i0 col rhs K S P C):∀ k,k<=K->Inv m n col rhs (S k)/\Feas m n lk (S k)
 | 0,_=>⟨R.I0,R.F0⟩
 | k+1,h=>by
  obtain⟨I,F⟩:=R.inv k (by omega)
  have s:=R.st k (by omega)
  rw[R.nx k (by omega)]
  exact⟨I.piv s.hp s.hc s.key,s.feas I F⟩
theorem Run.down (R:Run m n lk i0 col rhs K S P C){a:Nat}:∀ d,a+d<=K->(S (a+d)).L i0 n*(S a).b<=(S a).L i0 n*(S (a+d)).b/\((∃ l,a<=l/\l<a+d/\0<(S l).L (P l) n)->(S (a+d)).L i0 n*(S a).b<(S a).L i0 n*(S (a+d)).b)
 | 0,_=>⟨Int.le_refl _,fun ⟨l,h1,h2,_⟩=>by omega⟩
 | d+1,h=>by
  obtain⟨h1,h2⟩:=R.down (a:=a) d (by omega)
  obtain⟨I,F⟩:=R.inv (a+d) (by omega)
  obtain⟨Ia,_⟩:=R.inv a (by omega)
  have s:=R.st (a+d) (by omega)
  have e:=I.end_ne s R.h0 (Ne.symm (R.stay (a+d) (by omega)))
  have eb:(piv (S (a+d)) (P (a+d)) (C (a+d))).b=(S (a+d)).L (P (a+d)) (C (a+d)):=rfl
  rw[← Nat.add_assoc,R.nx (a+d) (by omega),eb]
  have hn:=F (P (a+d)) s.hp s.el
  have hh:=s.help
  have hk:=s.key
  have hb:=I.pos
  have ha:=Ia.pos
  have hd:0<=(S (a+d)).L i0 (C (a+d))*(S (a+d)).L (P (a+d)) n:=Int.mul_nonneg (by omega) hn
  have hds:0<(S (a+d)).L (P (a+d)) n->0<(S (a+d)).L i0 (C (a+d))*(S (a+d)).L (P (a+d)) n:=fun z=>Int.mul_pos hh z
  have hs:(∃ l,a<=l/\l<a+d+1/\0<(S l).L (P l) n)->(∃ l,a<=l/\l<a+d/\0<(S l).L (P l) n) \/ 0<(S (a+d)).L (P (a+d)) n:=fun ⟨l,l1,l2,l3⟩=>by
   by_cases q:l=a+d
   ·subst q;exact .inr l3
   ·exact .inl ⟨l,l1,by omega,l3⟩
  generalize (piv (S (a+d)) (P (a+d)) (C (a+d))).L i0 n=x' at *
  generalize (S (a+d)).L i0 n=x at *
  generalize (S (a+d)).b=b at *
  generalize (S (a+d)).L (P (a+d)) (C (a+d))=b' at *
  generalize (S a).b=ba at *
  generalize (S a).L i0 n=xa at *
  generalize (S (a+d)).L i0 (C (a+d))*(S (a+d)).L (P (a+d)) n=t at *
  have e1:b*(x'*ba)=x*ba*b' - t*ba:=by
   have:b*(x'*ba)=(b*x')*ba:=by grind
   rw[this,e];grind
  have e2:b*(xa*b')=(xa*b)*b':=by grind
  have m1:x*ba*b'<=xa*b*b':=Int.mul_le_mul_of_nonneg_right h1 (by omega)
  have m2:0<=t*ba:=Int.mul_nonneg hd (by omega)
  constructor
  ·exact Int.le_of_mul_le_mul_left (show b*(x'*ba)<=b*(xa*b') by omega) hb
  ·intro z
   rcases hs z with z | z
   ·have m3:x*ba*b'<xa*b*b':=Int.mul_lt_mul_of_pos_right (h2 z) hk
    exact Int.lt_of_mul_lt_mul_left (show b*(x'*ba)<b*(xa*b') by omega) (by omega)
   ·have m3:0<t*ba:=Int.mul_pos (hds z) ha
    exact Int.lt_of_mul_lt_mul_left (show b*(x'*ba)<b*(xa*b') by omega) (by omega)
def isOwn (m:Nat)(T:Tab)(r:Nat):Prop:=∃ i,i<m/\T.own i=r
def Zr (m n:Nat)(T:Tab)(r:Nat):Prop:=∀ i,i<m->T.own i=r->T.L i n=0
theorem K4 {r:Nat}(h:isOwn m T r)(hr:r≠T.own p):isOwn m (piv T p c) r:=by
 obtain⟨i,hi,rfl⟩:=h
 have:i≠p:=fun z=>hr (by rw[z])
 exact⟨i,hi,own_ne this⟩
theorem Gz {r:Nat}(h:¬ isOwn m T r)(hr:r≠T.hd c):¬ isOwn m (piv T p c) r:=fun ⟨i,hi,e⟩=>by
 by_cases q:i=p
 ·subst q
  rw[own_p] at e
  exact hr e.symm
 ·rw[own_ne q] at e
  exact h ⟨i,hi,e⟩
theorem Z36 (I:Inv m n col rhs T)(s:Step m n lk i0 T p c)(h0:T.L p n=0){r:Nat}:(Zr m n T r->Zr m n (piv T p c) r)/\(Zr m n (piv T p c) r->Zr m n T r):=by
 have hb:=I.pos
 have hk:=s.key
 refine⟨fun h i hi e=>?_,fun h i hi e=>?_⟩
 ·by_cases q:i=p
  ·subst q
   rw[Z1y s];exact h0
  ·rw[own_ne q] at e
   have:=I.end_ne s hi q
   rw[h i hi e,h0] at this
   refine Nb hb ?_
   rw[this];simp
 ·by_cases q:i=p
  ·subst q;exact h0
  ·have:=I.end_ne s hi q
   rw[h i hi (by rw[own_ne q];exact e),h0] at this
   refine Nb hk ?_
   have e2:T.L p c*T.L i n=T.L i n*T.L p c:=Int.mul_comm ..
   rw[e2]
   simp at this
   simp
   omega
theorem Run.Zall (R:Run m n lk i0 col rhs K S P C){a d0:Nat}(hK:a+d0<=K)(hz:∀ l,a<=l->l<a+d0->(S l).L (P l) n=0){r:Nat}:∀ d,d<=d0->(Zr m n (S (a+d)) r ↔ Zr m n (S a) r)
 | 0,_=>Iff.rfl
 | d+1,h=>by
  have ih:=R.Zall hK hz (r:=r) d (by omega)
  obtain⟨I,_⟩:=R.inv (a+d) (by omega)
  obtain⟨z1,z2⟩:=Z36 I (R.st (a+d) (by omega)) (hz (a+d) (by omega) (by omega)) (r:=r)
  rw[← Nat.add_assoc,R.nx (a+d) (by omega)]
  exact⟨fun h=>ih.mp (z2 h),fun h=>z1 (ih.mpr h)⟩
theorem Run.keeps (R:Run m n lk i0 col rhs K S P C){k r:Nat}(h:isOwn m (S k) r):∀ d,k+d<=K->(∀ l,k<=l->l<k+d->(S l).own (P l)≠r)->isOwn m (S (k+d)) r
 | 0,_,_=>h
 | d+1,hK,hl=>by
  have ih:=R.keeps h d (by omega) fun l h1 h2=>hl l h1 (by omega)
  rw[← Nat.add_assoc,R.nx (k+d) (by omega)]
  exact K4 ih (Ne.symm (hl (k+d) (by omega) (by omega)))
theorem Run.keepsN (R:Run m n lk i0 col rhs K S P C){k r:Nat}(h:¬ isOwn m (S k) r):∀ d,k+d<=K->(∀ l,k<=l->l<k+d->(S l).hd (C l)≠r)->¬ isOwn m (S (k+d)) r
 | 0,_,_=>h
 | d+1,hK,hl=>by
  have ih:=R.keepsN h d (by omega) fun l h1 h2=>hl l h1 (by omega)
  rw[← Nat.add_assoc,R.nx (k+d) (by omega)]
  exact Gz ih (Ne.symm (hl (k+d) (by omega) (by omega)))
theorem Cs (f:Nat->Nat)(a:Nat):∀ d,0<d->∃ k,a<=k/\k<a+d/\∀ l,a<=l->l<a+d->f l<=f k
 | 0,h=>by omega
 | 1,_=>⟨a,by omega,by omega,fun l h1 h2=>by rw[show l=a by omega];exact Nat.le_refl _⟩
 | d+2,_=>by
  obtain⟨k,h1,h2,h3⟩:=Cs f a (d+1) (by omega)
  by_cases q:f k<=f (a+d+1)
  ·refine⟨a+d+1,by omega,by omega,fun l l1 l2=>?_⟩
   by_cases e:l=a+d+1
   ·rw[e];exact Nat.le_refl _
   ·exact Nat.le_trans (h3 l l1 (by omega)) q
  ·refine⟨k,h1,by omega,fun l l1 l2=>?_⟩
   by_cases e:l=a+d+1
   ·rw[e];omega
   ·exact h3 l l1 (by omega)
theorem Run.once (R:Run m n lk i0 col rhs K S P C){a d:Nat}(hd:0<d)(hK:a+d<=K)(same:∀ i,i<m->(S a).own i=(S (a+d)).own i):False:=by
 obtain⟨Ia,Fa⟩:=R.inv a (by omega)
 obtain⟨Ib,Fb⟩:=R.inv (a+d) hK
 have eb:(S a).b=(S (a+d)).b:=by
  rw[← Ia.dt,← Ib.dt]
  refine Ys fun k r hk hr=>?_
  show col ((S a).own k) r=col ((S (a+d)).own k) r
  rw[same k hk]
 have ee:(S a).L i0 n=(S (a+d)).L i0 n:=by
  rw[← Ia.phi R.h0 (Nat.le_refl n),← Ib.phi R.h0 (Nat.le_refl n)]
  refine Ys fun k r hk hr=>?_
  by_cases e:k=i0
  ·subst e
   rw[Y6,Y6]
   unfold colOf
   rw[if_neg (by omega),if_neg (by omega)]
  ·rw[Y0 e,Y0 e]
   show col ((S a).own k) r=col ((S (a+d)).own k) r
   rw[same k hk]
 have hz:∀ l,a<=l->l<a+d->(S l).L (P l) n=0:=fun l h1 h2=>by
  have s:=R.st l (by omega)
  have f:=(R.inv l (by omega)).2 (P l) s.hp s.el
  apply Classical.byContradiction
  intro z
  have:=(R.down (a:=a) d hK).2 ⟨l,h1,h2,by omega⟩
  rw[← ee,← eb] at this
  omega
 have own_iff:∀ r,isOwn m (S a) r->isOwn m (S (a+d)) r:=fun r ⟨i,hi,e⟩=>⟨i,hi,by rw[← same i hi];exact e⟩
 have own_iff':∀ r,isOwn m (S (a+d)) r->isOwn m (S a) r:=fun r ⟨i,hi,e⟩=>⟨i,hi,by rw[same i hi];exact e⟩
 obtain⟨k1,h11,h12,hmax⟩:=Cs (fun k=>(S k).hd (C k)) a d hd
 have s1:=R.st k1 (by omega)
 obtain⟨I1,F1⟩:=R.inv k1 (by omega)
 have not1:¬ isOwn m (S k1) ((S k1).hd (C k1)):=fun ⟨i,hi,e⟩=>I1.ne hi s1.hc e
 have ⟨k2,h21,h22,h23⟩:∃ k,a<=k/\k<a+d/\(S k).own (P k)=(S k1).hd (C k1):=by
  apply Classical.byContradiction
  intro hn
  have hne:∀ l,a<=l->l<a+d->(S l).own (P l)≠(S k1).hd (C k1):=fun l l1 l2 z=>hn ⟨l,l1,l2,z⟩
  have o1:isOwn m (S (k1+1)) ((S k1).hd (C k1)):=⟨P k1,s1.hp,by rw[R.nx k1 (by omega)];exact own_p⟩
  have o2:=R.keeps o1 (a+d - (k1+1)) (by omega) fun l l1 l2=>hne l (by omega) (by omega)
  rw[show k1+1+(a+d - (k1+1))=a+d by omega] at o2
  have o3:=R.keeps (own_iff' _ o2) (k1 - a) (by omega) fun l l1 l2=>hne l (by omega) (by omega)
  rw[show a+(k1 - a)=k1 by omega] at o3
  exact not1 o3
 have s2:=R.st k2 (by omega)
 obtain⟨I2,F2⟩:=R.inv k2 (by omega)
 have row:=I1.row R.h0 (dir m (S k2) (C k2)) fun r hr=>I2.dirSol s2.hc hr
 have ho:∀ k,k<=K->(S k).own i0=(S 0).own i0:=fun k=>by
  induction k with
  | zero=>intro _;rfl
  | succ k ih =>
   intro h
   rw[R.nx k (by omega),own_ne (Ne.symm (R.stay k (by omega)))]
   exact ih (by omega)
 have e12:(S k1).own i0=(S k2).own i0:=by rw[ho k1 (by omega),ho k2 (by omega)]
 rw[e12,I2.dirO s2.hc R.h0] at row
 have pos:0<sm n (fun j=>(S k1).L i0 j*dir m (S k2) (C k2) ((S k1).hd j)):=by
  have:=Int.mul_pos I1.pos s2.help
  have e:(S k1).b * -(S k2).L i0 (C k2)=-((S k1).b*(S k2).L i0 (C k2)):=by grind
  rw[e] at row
  omega
 obtain⟨j,hj,hp⟩:=Lf pos
 rcases I2.cover (I1.hdLt hj) with ⟨i,hi,e⟩ | ⟨j',hj',e⟩
 ·rw[← e,I2.dirO s2.hc hi] at hp
  have own2:isOwn m (S k2) ((S k1).hd j):=⟨i,hi,e⟩
  have notown1:¬ isOwn m (S k1) ((S k1).hd j):=fun ⟨i',hi',e'⟩=>I1.ne hi' hj e'
  have ⟨k3,h31,h32,h33⟩:∃ k,a<=k/\k<a+d/\(S k).hd (C k)=(S k1).hd j:=by
   apply Classical.byContradiction
   intro hn
   have hne:∀ l,a<=l->l<a+d->(S l).hd (C l)≠(S k1).hd j:=fun l l1 l2 z=>hn ⟨l,l1,l2,z⟩
   have o2:=R.keepsN notown1 (a+d - k1) (by omega) fun l l1 l2=>hne l (by omega) (by omega)
   rw[show k1+(a+d - k1)=a+d by omega] at o2
   have o3:=R.keepsN (fun z=>o2 (own_iff _ z)) (k2 - a) (by omega) fun l l1 l2=>hne l (by omega) (by omega)
   rw[show a+(k2 - a)=k2 by omega] at o3
   exact o3 own2
  have hle:(S k1).hd j<=(S k1).hd (C k1):=by rw[← h33];exact hmax k3 h31 h32
  have s3:=R.st k3 (by omega)
  have hnl:(S k1).hd j≠lk:=by rw[← h33];exact s3.nl
  by_cases q:i=P k2
  ·
   subst q
   have ej:(S k1).hd j=(S k1).hd (C k1):=by rw[← e];exact h23
   have ec:j=C k1:=I1.hdInj hj s1.hc ej
   subst ec
   have:=Int.mul_pos s1.help s2.key
   have e':(S k1).L i0 (C k1) * -(S k2).L (P k2) (C k2)=-((S k1).L i0 (C k1)*(S k2).L (P k2) (C k2)):=by grind
   rw[e'] at hp
   omega
  ·have hlt:(S k1).hd j<(S k1).hd (C k1):=by
    rcases Nat.lt_or_ge ((S k1).hd j) ((S k1).hd (C k1)) with z | z
    ·exact z
    ·have:(S k2).own i=(S k2).own (P k2):=by rw[e,h23];omega
     exact absurd (I2.ownInj hi s2.hp this) q
   have l1:(S k1).L i0 j<=0:=by
    apply Classical.byContradiction
    intro z
    have:=s1.first j hj hnl (by omega)
    omega
   have l2:0<(S k2).L i (C k2):=by
    apply Classical.byContradiction
    intro z
    have:(S k1).L i0 j * -(S k2).L i (C k2)<=0:=Int.mul_nonpos_of_nonpos_of_nonneg l1 (by omega)
    omega
   have elr:(S k2).own i<=lk:=by rw[e];have:=s2.el;rw[h23] at this;omega
   have z3:Zr m n (S k3) ((S k1).hd j):=fun x hx ex=>absurd (by rw[ex,h33]) ((R.inv k3 (by omega)).1.ne hx s3.hc)
   have za:=(R.Zall hK hz (r:=(S k1).hd j) (k3 - a) (by omega))
   rw[show a+(k3 - a)=k3 by omega] at za
   have zb:=(R.Zall hK hz (r:=(S k1).hd j) (k2 - a) (by omega))
   rw[show a+(k2 - a)=k2 by omega] at zb
   have zi:=(zb.mpr (za.mp z3)) i hi e
   have zp:=hz k2 h21 h22
   rcases s2.least i hi elr l2 with z | ⟨_,z⟩
   ·rw[zi,zp] at z
    simp at z
   ·rw[e,h23] at z
    omega
 ·rw[← e,I2.dirH s2.hc hj'] at hp
  by_cases q:j'=C k2
  ·subst q
   rw[if_pos rfl] at hp
   have l1:0<(S k1).L i0 j:=by
    apply Classical.byContradiction
    intro z
    have:(S k1).L i0 j*(S k2).b<=0:=Int.mul_nonpos_of_nonpos_of_nonneg (by omega) (by have:=I2.pos;omega)
    omega
   have h1:=s1.first j hj (by rw[← e];exact s2.nl) l1
   have h2:=hmax k2 h21 h22
   have:(S k2).own (P k2)=(S k2).hd (C k2):=by
    rw[h23]
    have h1':(S k1).hd (C k1)<=(S k1).hd j:=h1
    have h2':(S k2).hd (C k2)<=(S k1).hd (C k1):=h2
    rw[e] at *
    omega
   exact I2.ne s2.hp s2.hc this
  ·rw[if_neg q] at hp
   simp at hp
theorem Do:∀ (M:Nat) (f:Nat->Nat),(∀ i,i<=M->f i<M)->∃ a d,0<d/\a+d<=M/\f a=f (a+d)
 | 0,f,h=>absurd (h 0 (by omega)) (by omega)
 | M+1,f,h=>by
  by_cases q:∃ i,i<=M/\f i=f (M+1)
  ·obtain⟨i,hi,e⟩:=q
   exact⟨i,M+1 - i,by omega,by omega,by rw[show i+(M+1 - i)=M+1 by omega];exact e⟩
  ·have hne:∀ i,i<=M->f i≠f (M+1):=fun i hi z=>q ⟨i,hi,z⟩
   obtain⟨a,d,h1,h2,h3⟩:=Do M (fun i=>if f i<f (M+1) then f i else f i - 1) fun i hi=>by
    have:=hne i hi
    have:=h i (by omega)
    have:=h (M+1) (by omega)
    show (if f i<f (M+1) then f i else f i - 1)<M
    split <;> omega
   refine⟨a,d,h1,by omega,?_⟩
   have n1:=hne a (by omega)
   have n2:=hne (a+d) (by omega)
   have h3:(if f a<f (M+1) then f a else f a - 1)=if f (a+d)<f (M+1) then f (a+d) else f (a+d) - 1:=h3
   split at h3 <;> split at h3 <;> omega
def code (N:Nat):Nat->(Nat->Nat)->Nat
 | 0,_=>0
 | k+1,f=>code N k f+f k*N ^ k
theorem Ss {N:Nat}:∀ {k:Nat} {f:Nat->Nat},(∀ i,i<k->f i<N)->code N k f<N ^ k
 | 0,_,_=>by show 0<1;decide
 | k+1,f,h=>by
  have h1:=Ss (k:=k) (f:=f) fun i hi=>h i (by omega)
  have h2:=h k (by omega)
  show code N k f+f k*N ^ k<N ^ (k+1)
  rw[Nat.pow_succ]
  have h3:(f k+1)*N ^ k<=N*N ^ k:=Nat.mul_le_mul_right _ h2
  rw[Nat.add_mul] at h3
  rw[Nat.mul_comm (N ^ k)]
  omega
theorem L4 {N:Nat}:∀ {k:Nat} {f g:Nat->Nat},(∀ i,i<k->f i<N)->(∀ i,i<k->g i<N)->code N k f=code N k g->∀ i,i<k->f i=g i
 | 0,_,_,_,_,_,i,hi=>by omega
 | k+1,f,g,hf,hg,e,i,hi=>by
  have a1:=Ss (k:=k) (f:=f) fun i hi=>hf i (by omega)
  have a2:=Ss (k:=k) (f:=g) fun i hi=>hg i (by omega)
  have e:code N k f+f k*N ^ k=code N k g+g k*N ^ k:=e
  have e1:code N k f=code N k g:=by
   have:=congrArg (· % N ^ k) e
   simp only [Nat.add_mul_mod_self_right] at this
   rwa [Nat.mod_eq_of_lt a1,Nat.mod_eq_of_lt a2] at this
  by_cases q:i=k
  ·subst q
   have:f i*N ^ i=g i*N ^ i:=by omega
   exact Nat.eq_of_mul_eq_mul_right (by omega) this
  ·exact L4 (k:=k) (fun i hi=>hf i (by omega)) (fun i hi=>hg i (by omega)) e1 i (by omega)
theorem Run.short (R:Run m n lk i0 col rhs K S P C):K<(n+m) ^ m:=by
 rcases Nat.lt_or_ge K ((n+m) ^ m) with h | h
 ·exact h
 ·obtain⟨a,d,h1,h2,h3⟩:=Do ((n+m) ^ m) (fun k=>code (n+m) m (S k).own) fun k hk=>Ss fun i hi=>(R.inv k (by omega)).1.ownLt hi
  exact absurd (R.once h1 (by omega) fun i hi=>L4 (fun i hi=>(R.inv a (by omega)).1.ownLt hi) (fun i hi=>(R.inv (a+d) (by omega)).1.ownLt hi) h3 i hi) id
end
end Sv
namespace Sv
section
variable {m n:Nat}{col:Nat->Vec}{rhs:Vec}{T:Tab}
def numAt (n:Nat)(T:Tab)(i v:Nat):Int:=sm n (fun j=>if T.hd j=v then T.L i j else 0)
def endOf (m n:Nat)(T:Tab)(v:Nat):Int:=sm m (fun i=>if T.own i=v then T.L i n else 0)
def coef (n:Nat)(T:Tab)(i v:Nat):Int:=(if v=T.own i then T.b else 0)+numAt n T i v
theorem Inv.numH (I:Inv m n col rhs T){i j:Nat}(hj:j<n):numAt n T i (T.hd j)=T.L i j:=by
 unfold numAt
 rw[sm_one (k:=j) hj fun k hk hne=>if_neg fun z=>hne (I.hdInj hk hj z),if_pos rfl]
theorem Inv.numO (I:Inv m n col rhs T){i k:Nat}(hk:k<m):numAt n T i (T.own k)=0:=sm_zero fun j hj=>if_neg (Ne.symm (I.ne hk hj))
theorem Inv.endO (I:Inv m n col rhs T){i:Nat}(hi:i<m):endOf m n T (T.own i)=T.L i n:=by
 unfold endOf
 rw[sm_one (k:=i) hi fun k hk hne=>if_neg fun z=>hne (I.ownInj hk hi z),if_pos rfl]
theorem Inv.endH (I:Inv m n col rhs T){j:Nat}(hj:j<n):endOf m n T (T.hd j)=0:=sm_zero fun i hi=>if_neg (I.ne hi hj)
theorem Inv.coefs (I:Inv m n col rhs T){i v:Nat}(hi:i<m)(hv:v<n+m):det m (put (bas col T) i (col v))=coef n T i v:=by
 unfold coef
 rcases I.cover hv with ⟨k,hk,rfl⟩ | ⟨j,hj,rfl⟩
 ·rw[I.numO hk]
  have:=I.phiO hi hk
  show det m (put (bas col T) i (bas col T k))=_
  rw[this]
  by_cases e:k=i
  ·subst e
   rw[if_pos rfl,if_pos rfl];omega
  ·rw[if_neg e,if_neg fun z=>e (I.ownInj hk hi z)];omega
 ·rw[I.numH hj,if_neg (Ne.symm (I.ne hi hj))]
  have:=I.phi hi (Nat.le_of_lt hj)
  rw[Xk hj] at this
  rw[this];omega
theorem Inv.lin (I:Inv m n col rhs T)(hc:∀ i r,i<m->r<m->col (n+i) r=if i=r then 1 else 0){i:Nat}(hi:i<m)(x:Vec):det m (put (bas col T) i x)=sm m (fun r=>x r*coef n T i (n+r)):=by
 have e:det m (put (bas col T) i x)=det m (put (bas col T) i (fun r=>sm m (fun k=>x k*col (n+k) r))):=by
  refine Ys fun k r hk hr=>?_
  by_cases q:k=i
  ·subst q
   rw[Y6,Y6,sm_one (k:=r) hr fun k hk hne=>by rw[hc k r hk hr,if_neg hne,Int.mul_zero],hc r r hr hr,if_pos rfl,Int.mul_one]
  ·rw[Y0 q,Y0 q]
 rw[e,Uv hi]
 exact Y5 fun r hr=>by rw[I.coefs hi (by omega)]
theorem Inv.size (I:Inv m n col rhs T){M:Nat}(hc:∀ v r,v<n+m->r<m->(col v r).natAbs<=M)(hr:∀ r,r<m->(rhs r).natAbs<=M){i j:Nat}(hi:i<m)(hj:j<=n):(T.L i j).natAbs<=(m*M) ^ m:=by
 rw[← I.phi hi hj]
 refine Tn fun k r hk hr'=>?_
 by_cases e:k=i
 ·subst e
  rw[Y6]
  unfold colOf
  split
  ·exact hc _ _ (I.hdLt (by assumption)) hr'
  ·exact hr r hr'
 ·rw[Y0 e]
  exact hc _ _ (I.ownLt hk) hr'
theorem Inv.sizeB (I:Inv m n col rhs T){M:Nat}(hc:∀ v r,v<n+m->r<m->(col v r).natAbs<=M):T.b.natAbs<=(m*M) ^ m:=by
 rw[← I.dt]
 exact Tn fun k r hk hr'=>hc _ _ (I.ownLt hk) hr'
theorem Inv.sol (I:Inv m n col rhs T){r:Nat}(hr:r<m):sm (n+m) (fun v=>endOf m n T v*col v r)=T.b*rhs r:=by
 rw[I.part]
 have e1:sm n (fun j=>endOf m n T (T.hd j)*col (T.hd j) r)=0:=sm_zero fun j hj=>by rw[I.endH hj,Int.zero_mul]
 have e2:sm m (fun i=>endOf m n T (T.own i)*col (T.own i) r)=sm m (fun i=>T.L i n*bas col T i r):=Y5 fun i hi=>by rw[I.endO hi];rfl
 have e3:=I.eqs n (Nat.le_refl n) r hr
 unfold colOf at e3
 rw[if_neg (by omega)] at e3
 rw[e1,e2,← e3];omega
end
section
variable {n g:Nat}{A:Nat->Nat->Int}{pap gl:Nat->Int}
def colS (n g:Nat)(A:Nat->Nat->Int)(pap gl:Nat->Int):Nat->Vec:=fun v r=>if v<n then (if r<g then A r v else if r=g then pap v else gl v) else if v - n=r then 1 else 0
def rhsS (g:Nat):Vec:=fun r=>if r=g then 1 else 0
def T0 (n g:Nat)(A:Nat->Nat->Int)(pap gl:Nat->Int):Tab:=⟨1,fun i=>n+i,fun j=>j,fun i j=>if j<n then colS n g A pap gl j i else rhsS g i⟩
theorem colS_id {i r:Nat}:colS n g A pap gl (n+i) r=if i=r then 1 else 0:=by
 unfold colS
 rw[if_neg (by omega)]
 have:n+i - n=i:=by omega
 rw[this]
theorem inv0:Inv (g+2) n (colS n g A pap gl) (rhsS g) (T0 n g A pap gl):=by
 refine⟨by show (0:Int)<1;decide,?_,fun j hj r hr=>?_,fun f=>?_⟩
 ·show det (g+2) _=1
  rw[← Bp (g+2)]
  exact Ys fun k r _ _=>colS_id
 ·show 1*colOf n (colS n g A pap gl) (rhsS g) (T0 n g A pap gl) j r=sm (g+2) (fun i=>(if j<n then colS n g A pap gl j i else rhsS g i)*colS n g A pap gl (n+i) r)
  rw[sm_one (k:=r) hr fun k hk hne=>by rw[colS_id,if_neg hne,Int.mul_zero],colS_id,if_pos rfl]
  unfold colOf
  rw[Int.mul_one,Int.one_mul]
  split <;> rfl
 ·rw[Lg,Int.add_comm]
  rfl
theorem feas0:Feas (g+2) n (n+g) (T0 n g A pap gl):=fun i _ _=>by
 show 0<=if n<n then _ else rhsS g i
 rw[if_neg (by omega)]
 unfold rhsS
 split <;> omega
variable {T:Tab}
abbrev InvS (n g:Nat)(A:Nat->Nat->Int)(pap gl:Nat->Int)(T:Tab):Prop:=Inv (g+2) n (colS n g A pap gl) (rhsS g) T
theorem InvS.world (I:InvS n g A pap gl T){i w:Nat}(hi:i<g+2)(hw:w<n):coef n T i w=sm g (fun k=>A k w*coef n T i (n+k))+pap w*coef n T i (n+g)+gl w*coef n T i (n+g+1):=by
 rw[← I.coefs hi (by omega),I.lin (fun i r _ _=>colS_id) hi]
 show sm g _+colS n g A pap gl w g*_+colS n g A pap gl w (g+1)*_=_
 have e1:sm g (fun r=>colS n g A pap gl w r*coef n T i (n+r))=sm g (fun k=>A k w*coef n T i (n+k)):=Y5 fun r hr=>by
  unfold colS
  rw[if_pos hw,if_pos hr]
 have e2:colS n g A pap gl w g=pap w:=by unfold colS;rw[if_pos hw,if_neg (by omega),if_pos rfl]
 have e3:colS n g A pap gl w (g+1)=gl w:=by unfold colS;rw[if_pos hw,if_neg (by omega),if_neg (by omega)]
 rw[e1,e2,e3]
 rfl
theorem InvS.ends (I:InvS n g A pap gl T){i:Nat}(hi:i<g+2):T.L i n=coef n T i (n+g):=by
 rw[← I.phi hi (Nat.le_refl n)]
 unfold colOf
 rw[if_neg (by omega),I.lin (fun i r _ _=>colS_id) hi,sm_one (k:=g) (by omega) fun k hk hne=>by unfold rhsS;rw[if_neg hne,Int.zero_mul]]
 unfold rhsS
 rw[if_pos rfl,Int.one_mul]
theorem InvS.lines (I:InvS n g A pap gl T):(∀ k,k<g->sm n (fun w=>A k w*endOf (g+2) n T w)+endOf (g+2) n T (n+k)=0)/\sm n (fun w=>pap w*endOf (g+2) n T w)+endOf (g+2) n T (n+g)=T.b/\sm n (fun w=>gl w*endOf (g+2) n T w)+endOf (g+2) n T (n+g+1)=0:=by
 have key:∀ (r:Nat) (a:Nat->Int),r<g+2->(∀ w,w<n->colS n g A pap gl w r=a w)->sm n (fun w=>a w*endOf (g+2) n T w)+endOf (g+2) n T (n+r)=T.b*rhsS g r:=fun r a hr ha=>by
  rw[← I.sol hr,Lg]
  congr 1
  ·exact Y5 fun w hw=>by rw[ha w hw,Int.mul_comm]
  ·rw[sm_one (k:=r) hr fun k hk hne=>by rw[colS_id,if_neg hne,Int.mul_zero],colS_id,if_pos rfl,Int.mul_one]
 refine⟨fun k hk=>?_,?_,?_⟩
 ·rw[key k (fun w=>A k w) (by omega) fun w hw=>by unfold colS;rw[if_pos hw,if_pos hk]]
  unfold rhsS
  rw[if_neg (by omega),Int.mul_zero]
 ·rw[key g pap (by omega) fun w hw=>by unfold colS;rw[if_pos hw,if_neg (by omega),if_pos rfl]]
  unfold rhsS
  rw[if_pos rfl,Int.mul_one]
 ·have:=key (g+1) gl (by omega) fun w hw=>by unfold colS;rw[if_pos hw,if_neg (by omega),if_neg (by omega)]
  rw[show n+(g+1)=n+g+1 by omega] at this
  rw[this]
  unfold rhsS
  rw[if_neg (by omega),Int.mul_zero]
theorem Sr (I:InvS n g A pap gl T){i lk v:Nat}(hv:v<n+(g+2))(h1:v≠T.own i)(h2:v≠lk)(hs:∀ j,j<n->T.hd j≠lk->T.L i j<=0):coef n T i v<=0:=by
 unfold coef
 rw[if_neg h1]
 rcases I.cover hv with ⟨k,hk,rfl⟩ | ⟨j,hj,rfl⟩
 ·rw[I.numO hk];omega
 ·rw[I.numH hj]
  have:=hs j hj h2
  omega
theorem InvS.none (I:InvS n g A pap gl T){i ia:Nat}(hi:i<g+2)(ho:T.own i=n+g)(hia:ia<g+2)(hoa:T.own ia=n+g+1)(hs:∀ j,j<n->T.hd j≠n+g->T.L i j<=0) :
  (∀ k,k<g->numAt n T i (n+k)<=0)/\∀ w,w<n->pap w*T.b<=sm g (fun k=>A k w * -numAt n T i (n+k)):=by
 have hk:∀ k,k<g->coef n T i (n+k)=numAt n T i (n+k):=fun k hk=>by
  unfold coef
  rw[if_neg (by omega)];omega
 refine⟨fun k hk'=>?_,fun w hw=>?_⟩
 ·rw[← hk k hk']
  exact Sr I (by omega) (by omega) (lk:=n+g) (by omega) hs
 ·have e:=I.world hi hw
  have h:=Sr I (v:=w) (by omega) (by omega) (lk:=n+g) (by omega) hs
  have e1:coef n T i (n+g)=T.b:=by
   unfold coef
   rw[if_pos ho.symm]
   have:=I.numO (i:=i) hi
   rw[ho] at this
   omega
  have e2:coef n T i (n+g+1)=0:=by
   unfold coef
   rw[if_neg (by omega)]
   have:=I.numO (i:=i) hia
   rw[hoa] at this
   omega
  have e3:sm g (fun k=>A k w*coef n T i (n+k))=- sm g (fun k=>A k w * -numAt n T i (n+k)):=by
   have:sm g (fun k=>A k w*coef n T i (n+k))=sm g (fun k=>(-1)*(A k w * -numAt n T i (n+k))):=Y5 fun k hk'=>by rw[hk k hk'];grind
   rw[this,X2];omega
  rw[e1,e2,e3] at e
  omega
structure Most (n g:Nat)(A:Nat->Nat->Int)(pap gl:Nat->Int)(T:Tab)(i:Nat):Prop where
 x0:∀ w,w<n->0<=endOf (g+2) n T w
 fit:∀ k,k<g->sm n (fun w=>A k w*endOf (g+2) n T w)<=0
 lie:sm n (fun w=>pap w*endOf (g+2) n T w)=T.b
 val:sm n (fun w=>gl w*endOf (g+2) n T w)=- T.L i n
 y0:∀ k,k<g->numAt n T i (n+k)<=0
 show_:∀ w,w<n->gl w*T.b<=sm g (fun k=>A k w * -numAt n T i (n+k))+pap w * -T.L i n
theorem InvS.most (I:InvS n g A pap gl T)(F:Feas (g+2) n (n+g) T){i jl:Nat}(hi:i<g+2)(ho:T.own i=n+g+1)(hjl:jl<n)(hol:T.hd jl=n+g)(hs:∀ j,j<n->T.hd j≠n+g->T.L i j<=0):Most n g A pap gl T i:=by
 obtain⟨l1,l2,l3⟩:=I.lines
 have x0:∀ v,v<=n+g->0<=endOf (g+2) n T v:=fun v hv=>by
  rcases I.cover (v:=v) (by omega) with ⟨k,hk,rfl⟩ | ⟨j,hj,rfl⟩
  ·rw[I.endO hk];exact F k hk hv
  ·rw[I.endH hj];omega
 have hk:∀ k,k<g->coef n T i (n+k)=numAt n T i (n+k):=fun k hk=>by
  unfold coef
  rw[if_neg (by omega)];omega
 refine⟨fun w hw=>x0 w (by omega),fun k hk=>?_,?_,?_,fun k hk'=>?_,fun w hw=>?_⟩
 ·have:=l1 k hk
  have:=x0 (n+k) (by omega)
  omega
 ·have:=I.endH hjl
  rw[hol] at this
  rw[this] at l2
  omega
 ·have:=I.endO hi
  rw[ho] at this
  rw[this] at l3
  omega
 ·rw[← hk k hk']
  exact Sr I (by omega) (by omega) (lk:=n+g) (by omega) hs
 ·have e:=I.world hi hw
  have h:=Sr I (v:=w) (by omega) (by omega) (lk:=n+g) (by omega) hs
  have e1:=I.ends hi
  have e2:coef n T i (n+g+1)=T.b:=by
   unfold coef
   rw[if_pos ho.symm]
   have:=I.numO (i:=i) hi
   rw[ho] at this
   omega
  have e3:sm g (fun k=>A k w*coef n T i (n+k))=- sm g (fun k=>A k w * -numAt n T i (n+k)):=by
   have:sm g (fun k=>A k w*coef n T i (n+k))=sm g (fun k=>(-1)*(A k w * -numAt n T i (n+k))):=Y5 fun k hk'=>by rw[hk k hk'];grind
   rw[this,X2];omega
  rw[← e1,e2,e3] at e
  have e4:pap w * -T.L i n=-(pap w*T.L i n):=by grind
  omega
theorem InvS.bounded (I:InvS n g A pap gl T)(hpap:∀ w,w<n->0<=pap w)(hgl:∀ w,w<n->pap w=0->gl w=0){i jl c:Nat}(hi:i<g+2)(ho:T.own i=n+g+1)(hjl:jl<n)(hol:T.hd jl=n+g)(hc:c<n)(hcl:T.hd c≠n+g)(hh:0<T.L i c) :
  ∃ k,k<g+2/\T.own k<=n+g/\0<T.L k c:=by
 apply Classical.byContradiction
 intro hn
 have hle:∀ k,k<g+2->T.own k<=n+g->T.L k c<=0:=fun k h1 h2=>by
  apply Classical.byContradiction
  intro z
  exact hn ⟨k,h1,h2,by omega⟩
 have x0:∀ v,v<=n+g->0<=dir (g+2) T c v:=fun v hv=>by
  rcases I.cover (v:=v) (by omega) with ⟨k,hk,rfl⟩ | ⟨j,hj,rfl⟩
  ·rw[I.dirO hc hk]
   have:=hle k hk hv
   omega
  ·rw[I.dirH hc hj]
   have:=I.pos
   split <;> omega
 have row:∀ (r:Nat) (a:Nat->Int),r<g+2->(∀ w,w<n->colS n g A pap gl w r=a w)->sm n (fun w=>a w*dir (g+2) T c w)+dir (g+2) T c (n+r)=0:=fun r a hr ha=>by
  rw[← I.dirSol hc hr,Lg]
  congr 1
  ·exact Y5 fun w hw=>by rw[ha w hw,Int.mul_comm]
  ·rw[sm_one (k:=r) hr fun k hk hne=>by rw[colS_id,if_neg hne,Int.mul_zero],colS_id,if_pos rfl,Int.mul_one]
 have r1:=row g pap (by omega) fun w hw=>by unfold colS;rw[if_pos hw,if_neg (by omega),if_pos rfl]
 have r2:=row (g+1) gl (by omega) fun w hw=>by unfold colS;rw[if_pos hw,if_neg (by omega),if_neg (by omega)]
 have hl:dir (g+2) T c (n+g)=0:=by
  rw[← hol,I.dirH hc hjl,if_neg fun z=>hcl (by rw[← z];exact hol)]
 have hz:∀ w,w<n->pap w*dir (g+2) T c w=0:=fun w hw=>by
  apply Classical.byContradiction
  intro z
  have h1:∀ x,x<n->0<=pap x*dir (g+2) T c x:=fun x hx=>Int.mul_nonneg (hpap x hx) (x0 x (by omega))
  rw[hl,Y1 (k:=w) hw] at r1
  have h2:0<=sm n (fun i=>if i=w then 0 else pap i*dir (g+2) T c i):=Ya fun x hx=>by
   split
   ·omega
   ·exact h1 x hx
  have:=h1 w hw
  omega
 have hg:sm n (fun w=>gl w*dir (g+2) T c w)=0:=sm_zero fun w hw=>by
  by_cases q:pap w=0
  ·rw[hgl w hw q,Int.zero_mul]
  ·have:=hz w hw
   rcases Int.mul_eq_zero.mp this with z | z
   ·exact absurd z q
   ·rw[z,Int.mul_zero]
 have ha:=I.dirO hc hi
 rw[ho] at ha
 rw[hg,show n+(g+1)=n+g+1 by omega,ha] at r2
 omega
end
end Sv
namespace Sb
open PySem PySem.Spec PyProof.Rows L2
theorem Qs {α β:Type}{R:α->β->Prop}:∀ {xs:List α} {us:List β},xs.length=us.length->(∀ (j:Nat) (x:α) (u:β),xs[j]?=some x->us[j]?=some u->R x u)->Paired R xs us
 | [],[],_,_=>.nil
 | [],_::_,h,_=>by simp at h
 | _::_,[],h,_=>by simp at h
 | x::xs,u::us,h,hr=>.cons (hr 0 x u rfl rfl) (Qs (by simpa using h) fun j y w e1 e2=>hr (j+1) y w (by simpa using e1) (by simpa using e2))
section
variable {X:Cx}{K:W.Frag}
theorem Dw {p:Addr}{u v:V}{σ:L2.St}{H:Hp}{A B:L2.St->Hp->Prop}{t:TT}(hp:SqT K H p [u,v])(h:t ((σ.set 0 (some u)).set 1 (some v)) H fun b H5=>if b=true then A ((σ.set 0 (some u)).set 1 (some v)) H5 else B ((σ.set 0 (some u)).set 1 (some v)) H5) :
  gTup K 2 (gCons (gName 0) (gCons (gName 1) gNil)) (.ref p) σ H fun σ4 H4=>t σ4 H4 fun b H5=>if b=true then A σ4 H5 else B σ4 H5 :=
 ⟨p,[u,v],rfl,hp,rfl,u,[v],rfl,v,[],rfl,rfl,h⟩
theorem Pm {e:Expr}{f:Str}{pos:Pos}{ta:TE}(he:PE X e ta)(hb:attributeBase e f X.env (eval e X.env)=eval e X.env)(h:X.K=K:=by rfl):PE X (.Attribute e f pos) (tFld K ta f):=h ▸ Yh he hb
def tLR1 (ta:TA):TE:=fun σ H Q=>ta σ H fun vs H1=>∃ n:Nat,vs=[.int (n:Int)]/\n<=1000/\∀ l,H1 l=none->Q (.ref l) (upd H1 l (.lst ((List.range n).map fun (k:Nat)=>V.int (k:Int))))
def tLR2 (ta:TA):TE:=fun σ H Q=>ta σ H fun vs H1=>∃ i n:Nat,vs=[.int (i:Int),.int ((i+n:Nat):Int)]/\i<=1000/\n<=1000/\∀ l,H1 l=none->Q (.ref l) (upd H1 l (.lst ((List.range n).map fun k=>V.int ((i+k:Nat):Int))))
theorem U2 {pins:List (Addr × Obj)}{σ:L2.St}{H:Hp}{s:Shared}{Q:VK}{i n:Nat}{t u v:Tok}{tk:Nat}(hc:X.calm=true)(I:Inv X pins σ H s)(hi:i<=1000)(hn:n<=1000)
  (q:∀ l,H l=none->Q (.ref l) (upd H l (.lst ((List.range n).map fun k=>V.int ((i+k:Nat):Int))))) :
  wpAny (model X.prog X.w) X.A (call (.type "list") [.ref s.heap.objs.size]) (EP X pins σ Q) X.xe { s with heap:=s.heap.push { cls:=.type "range",data:=.fields #[.int (i:Int) t,.int ((i+n:Nat):Int) u,.int 1 v] },toks:=tk }:=by
 have I1:Inv X pins σ H { s with heap:=s.heap.push { cls:=.type "range",data:=.fields #[.int (i:Int) t,.int ((i+n:Nat):Int) u,.int 1 v] },toks:=tk }:=I.kept fun b o e=>Heap.get?_push_of_some _ e
 refine Pt (n:=n) (I1.ok.hd hc) (fun p hp=>(I1.pin p (List.mem_append_left _ hp)).1) (IsRange.new ..) (small_one (by omega) (by omega) (by omega) (by omega)) ?_ (by omega) fun h' tk' acc c' kp e items=>?_
 ·rw[rangeSize_one]
  split <;> omega
 ·refine⟨.ref _,_,I1.laid (t':=tk') (o:=.lst ((List.range n).map fun k=>V.int ((i+k:Nat):Int))) kp (Nat.le_refl _) ?_,rfl,q _ (I1.hok.fresh (Nat.le_refl _))⟩
  obtain⟨hsz,hat⟩:=items
  refine⟨by rw[List.length_map,List.length_range];exact Nat.le_trans hn (by decide),acc.toList,c',?_,by simpa using e⟩
  refine Qs (by simp[hsz]) fun j x u' e1 e2=>?_
  rw[List.getElem?_map] at e1
  cases e3:(List.range n)[j]? with
  | none=>rw[e3] at e1;cases e1
  | some k =>
   rw[e3] at e1
   cases e1
   have hk:k=j:=by
    have:=List.getElem?_eq_some_iff.mp e3
    obtain⟨_,h2⟩:=this
    rw[← h2]
    simp
   subst hk
   obtain⟨t',e4⟩:=hat k u' (by simpa using e2)
   refine⟨t',?_⟩
   rw[e4]
   congr 1
   omega
theorem Ga {a b:Expr}{ta:TA}{p p' pos pos':Pos}(hc:X.calm=true)(hgL:Gl X "list")(hmL:X.mg "list"=none)(hgR:Gl X "range")(hmR:X.mg "range"=none)(ha:PA X [a,b] ta)
  (hs:starEach [a,b] X.env=[(false,eval a X.env),(false,eval b X.env)]:=by rfl) (hs2:starEach [b] X.env=[(false,eval b X.env)]:=by rfl)
  (hs0:starEach [.Call (.Name "range" p') [a,b] [] pos'] X.env=[(false,eval (.Call (.Name "range" p') [a,b] [] pos') X.env)]:=by rfl) :
  PE X (.Call (.Name "list" p) [.Call (.Name "range" p') [a,b] [] pos'] [] pos) (tLR2 ta):=by
 intro pins s σ H Q I h
 refine wpAny_Call_Name_kw (We I hgL hmL PyProof.Rows.boot_list ?_)
 refine PyProof.Rows.callWith_type1 ?_ (by rw[hs0];rfl) rfl
 rw[hs0]
 show wpAny _ _ (spliced ((false,eval (.Call (.Name "range" p') [a,b] [] pos') X.env)::[])) _ _ s
 refine Calls.spliced_cons (Call_ (We I hgR hmR boot_range (PyProof.Rows.callWith_type1 (thn (ha pos' pins s σ H _ I h) fun us s1 ⟨vs,H1,I1,r1,q1⟩=>?_) (by rw[hs,hs2]) (by rw[hs2];rfl))))
 obtain⟨i,n,e,hi,hn,q⟩:=q1
 subst e
 obtain⟨t0,u0,e0,rt,ru⟩:=Kc r1
 obtain⟨t,rfl⟩:=rt
 obtain⟨u,rfl⟩:=ru
 subst e0
 refine call_range_2 ?_
 refine Calls.spliced_nil ?_
 exact U2 hc I1 hi hn q
theorem Gb {a:Expr}{ta:TA}{p p' pos pos':Pos}(hc:X.calm=true)(hgL:Gl X "list")(hmL:X.mg "list"=none)(hgR:Gl X "range")(hmR:X.mg "range"=none)(ha:PA X [a] ta)
  (hs:starEach [a] X.env=[(false,eval a X.env)]:=by rfl)
  (hs0:starEach [.Call (.Name "range" p') [a] [] pos'] X.env=[(false,eval (.Call (.Name "range" p') [a] [] pos') X.env)]:=by rfl) :
  PE X (.Call (.Name "list" p) [.Call (.Name "range" p') [a] [] pos'] [] pos) (tLR1 ta):=by
 intro pins s σ H Q I h
 refine wpAny_Call_Name_kw (We I hgL hmL PyProof.Rows.boot_list ?_)
 refine PyProof.Rows.callWith_type1 ?_ (by rw[hs0];rfl) rfl
 rw[hs0]
 show wpAny _ _ (spliced ((false,eval (.Call (.Name "range" p') [a] [] pos') X.env)::[])) _ _ s
 refine Calls.spliced_cons (Call_ (We I hgR hmR boot_range (PyProof.Rows.callWith_type1 (thn (ha pos' pins s σ H _ I h) fun us s1 ⟨vs,H1,I1,r1,q1⟩=>?_) hs rfl)))
 obtain⟨n,e,hn,q⟩:=q1
 subst e
 obtain⟨t0,e0,rt⟩:=Ub r1
 obtain⟨t,rfl⟩:=rt
 subst e0
 refine call_range_1 ?_
 refine Calls.spliced_nil ?_
 have:=U2 (i:=0) (n:=n) (t:=s1.toks) (u:=t) (v:=s1.toks+1) (tk:=s1.toks+1+1) (Q:=Q) hc I1 (by decide) hn (by simpa using q)
 simpa using this
end
theorem Q8:∀ (names:List (Str × NameKind)) (n:Nat) (acc:List (Str × Addr)) (h:Heap),(names.filter fun y=>y.2 == .cell)=[]->cellsFrom n names acc=acc/\pushCells h names=h
 | [],_,_,_,_=>⟨rfl,rfl⟩
 | (m,k)::r,n,acc,h,e=>by
  by_cases hk:(k == NameKind.cell)=true
  ·rw[List.filter_cons_of_pos (a:=(m,k)) (l:=r) (p:=fun y:Str × NameKind=>y.2 == .cell) hk] at e
   cases e
  ·rw[List.filter_cons_of_neg (a:=(m,k)) (l:=r) (p:=fun y:Str × NameKind=>y.2 == .cell) hk] at e
   unfold cellsFrom pushCells
   rw[if_neg hk,if_neg hk]
   exact Q8 r n acc h e
theorem To {x:Str}:∀ (names:List (Str × NameKind)) (n:Nat) (acc:List (Str × Addr)) (h:Heap),(names.filter fun y=>y.2 == .cell)=[(x,.cell)]->cellsFrom n names acc=(x,n)::acc/\pushCells h names=h.push { cls:=.type "cell",data:=.cell none }
 | [],_,_,_,e=>by cases e
 | (m,k)::r,n,acc,h,e=>by
  by_cases hk:(k == NameKind.cell)=true
  ·rw[List.filter_cons_of_pos (a:=(m,k)) (l:=r) (p:=fun y:Str × NameKind=>y.2 == .cell) hk] at e
   injection e with e1 e2
   cases e1
   unfold cellsFrom pushCells
   rw[if_pos hk,if_pos hk]
   exact Q8 r _ _ _ e2
  ·rw[List.filter_cons_of_neg (a:=(m,k)) (l:=r) (p:=fun y:Str × NameKind=>y.2 == .cell) hk] at e
   unfold cellsFrom pushCells
   rw[if_neg hk,if_neg hk]
   exact To r n acc h e
theorem Cj {M:Model}{A:Around}{E:Value->Shared->Prop}{s:Shared}{scope:Scope}{globals:Addr}{cl:List (Str × Addr)}{qual:Str}{func:Option Addr}{code:Value}{outer:Env}{builtins:Addr}{Q:Env->Shared->Prop}{x:Str}
  (hone:(scope.names.filter fun y=>y.2 == .cell)=[(x,.cell)])
  (hQ:∀ h',h'=(s.heap.push { cls:=.type "dict",data:=.dict #[] }).push { cls:=.type "cell",data:=.cell none }->Q (newEnv scope s.heap.objs.size globals ((x,s.heap.objs.size+1)::cl) qual func code (some outer) builtins) { s with heap:=h' }) :
  wpAny M A (newFunctionEnv scope globals cl [] qual func code (some outer) builtins) Q E s:=by
 simp only [newFunctionEnv,Option.isSome_some,if_true]
 refine wpAny_bind (wpAny_alloc ?_)
 refine wpAny_bind (wpAny_layCells _ (fun name kind cells=>by cases hkc:kind == NameKind.cell <;> simp[hkc]) _ _ _ _ ?_)
 rw[show ({ s with heap:=s.heap.push { cls:=.type "dict",data:=.dict #[] } }:Shared).heap.objs.size=s.heap.objs.size+1 from Heap.size_push ..]
 rw[(To scope.names (s.heap.objs.size+1) cl (s.heap.push { cls:=.type "dict",data:=.dict #[] }) hone).1,(To scope.names (s.heap.objs.size+1) cl (s.heap.push { cls:=.type "dict",data:=.dict #[] }) hone).2]
 refine wpAny_bind ?_
 rw[List.forIn_nil]
 exact wpAny_pure (wpAny_pure (hQ _ rfl))
theorem Vg {x:Str}{n:Addr}{cl:List (Str × Addr)}{y:Str}{c:Addr}(h:((x,n)::cl).lookup y=some c):(y=x/\c=n) \/ (y≠x/\cl.lookup y=some c):=by
 rw[List.lookup_cons] at h
 cases hb:y == x with
 | true=>rw[hb] at h;cases h;exact .inl ⟨beq_iff_eq.mp hb,rfl⟩
 | false=>rw[hb] at h;exact .inr ⟨beq_eq_false_iff_ne.mp hb,h⟩
theorem Z1w {x:Str}{n:Addr}{cl:List (Str × Addr)}{y:Str}(h:y≠x):((x,n)::cl).lookup y=cl.lookup y:=by
 rw[List.lookup_cons,beq_eq_false_iff_ne.mpr h]
theorem Jf {x:Str}{n:Addr}{cl:List (Str × Addr)}:((x,n)::cl).lookup x=some n:=by
 rw[List.lookup_cons,beq_self_eq_true]
def compCxC (X:Cx)(N:List Str)(scope:Scope)(x:Str)(cl:List (Str × Addr))(C:Addr)(fp:List Addr)(s:Shared)(H:Hp):Cx :=
 { compCx X N scope ((x,C+1)::cl) C fp s H with fn:=fun y=>y == x }
section
variable {X:Cx}{pins:List (Addr × Obj)}{σ:L2.St}{H:Hp}{s:Shared}{N:List Str}{scope:Scope}{cl:List (Str × Addr)}{fp:List Addr}{k:Nat}{fv:List Nat}{x:Str}
theorem Dy (hone:(scope.names.filter fun y=>y.2 == .cell)=[(x,.cell)]){y:Str × NameKind}(hy:y∈scope.names)(hc:y.2=.cell):y.1=x:=by
 have:y∈scope.names.filter fun y=>y.2 == .cell:=List.mem_filter.mpr ⟨hy,by rw[hc];rfl⟩
 rw[hone] at this
 rw[List.mem_singleton.mp this]
theorem Bu (I:Inv X pins σ H s)(hc:X.calm=true)(hf:∀ b∈fp,FpOk X pins H b)(hl:∀ b∈fp,b<s.heap.objs.size)(hkind:scope.kind=.function)(hone:(scope.names.filter fun y=>y.2 == .cell)=[(x,.cell)])
  (h1:∀ y c,cl.lookup y=some c->X.env.cells.lookup y=some c) (h2:∀ y∈scope.names,y.2=.free->∃ c,cl.lookup y.1=some c):(compCxC X N scope x cl s.heap.objs.size fp s H).Ok where
 mod:=I.ok.mod
 kind:=hkind
 glob:=I.ok.glob
 blt:=I.ok.blt
 above:=Nat.le_refl _
 inj:=fun y z c a b=>by
  have old:∀ {n:Str} {d:Addr},cl.lookup n=some d->d<s.heap.objs.size:=fun {n d} e=>by
   obtain⟨v,ic⟩:=I.cell n d (h1 n d e)
   exact ic.lt
  rcases Vg a with ⟨ey,ec⟩ | ⟨ny,a'⟩
  ·rcases Vg b with ⟨ez,_⟩ | ⟨nz,b'⟩
   ·rw[ey,ez]
   ·have:=old b';rw[ec] at this;exact absurd this (Nat.not_lt.mpr (Nat.le_succ _))
  ·rcases Vg b with ⟨ez,ec⟩ | ⟨nz,b'⟩
   ·have:=old a';rw[ec] at this;exact absurd this (Nat.not_lt.mpr (Nat.le_succ _))
   ·exact I.ok.inj y z c (h1 y c a') (h1 z c b')
 has:=fun z hz=>by
  have:∃ y∈scope.names,y.1=z/\(y.2=.free \/ y.2=.cell):=by
   rcases hz with q | q
   ·exact Xg (.inl rfl) q
   ·exact Xg (.inr rfl) q
  obtain⟨y,hy,e,q⟩:=this
  by_cases hx:z=x
  ·exact⟨_,by rw[hx];exact Jf⟩
  ·rcases q with q | q
   ·obtain⟨c,hcl⟩:=h2 y hy q
    exact⟨c,(Z1w hx).trans (by rw[← e];exact hcl)⟩
   ·exact absurd (e.symm.trans (Dy hone hy q)) hx
 cab:=fun y c z e=>by
  have hy:y=x:=beq_iff_eq.mp z
  subst hy
  have e':((y,s.heap.objs.size+1)::cl).lookup y=some c:=e
  rw[Jf] at e'
  cases e'
  exact Nat.le_succ _
 hd:=fun _=>I.ok.hd hc
 frames:=I.ok.frames
 stk:=.inl rfl
 exf:=fun b hb=>⟨Nat.ne_of_lt (hl b hb),fun y c e=>by
  rcases Vg e with ⟨_,rfl⟩ | ⟨_,e⟩
  ·exact fun z=>absurd (hl b hb) (Nat.not_lt.mpr (by rw[← z];exact Nat.le_succ _))
  ·exact (hf b hb).2.2.2.2.1 y c (h1 y c e)⟩
 bs:=I.bs
 bsz:=Nat.le_trans I.ok.bsz I.sz
 noex:=fun b o e hb=>by
  rcases (hf b hb).2.2.2.1 with z | z
  ·exact I.ok.noex b o e z
  ·exact absurd (Nat.lt_of_lt_of_le (Heap.lt_size (I.ok.bs b o e).1) z) (Nat.lt_irrefl _)
 exfs:=fun b hb z=>(List.mem_cons.mp (I.stkSub b z)).elim (fun e=>(hf b hb).2.1 e) fun e=>(hf b hb).2.2.1 e
 funs:=I.stack
 frf:=I.stkFree
theorem Fe (I:Inv X pins σ H s)(hc:X.calm=true)(hf:∀ b∈fp,FpOk X pins H b)(hl:∀ b∈fp,b<s.heap.objs.size)(hkind:scope.kind=.function)(hone:(scope.names.filter fun y=>y.2 == .cell)=[(x,.cell)])(hx:scope.names.lookup x=some .cell)
  (h1:∀ y c,cl.lookup y=some c->X.env.cells.lookup y=some c) (h2:∀ y∈scope.names,y.2=.free->∃ c,cl.lookup y.1=some c)
  (hN:N.length=k+fv.length) (hfv:fv.map (fun j=>X.N[j]?)=(N.drop k).map some) (hk:(N.drop k).map X.env.kindOf=(N.drop k).map fun _=>some .cell) (hfl:∀ y∈N.drop k,scope.names.lookup y=some .free)
  {h':Heap} {tk:Nat} (hn:h'.Ns s.heap.objs.size fun _=>none) (hcn:h'.IsCell (s.heap.objs.size+1) none) (hb:∀ b o,s.heap.get? b=some o->h'.get? b=some o) :
  Inv (compCxC X N scope x cl s.heap.objs.size fp s H) [] (comp0 k fv σ) H { s with heap:=h',toks:=tk } where
 ok:=Bu I hc hf hl hkind hone h1 h2
 os:=rfl
 bare:=I.bare
 base:=Un.kept hb
 loc:=⟨_,hn,fun i y v e1 e2 e3=>by
  have hik:k<=i:=by
   apply Nat.le_of_not_lt
   intro z
   have:(comp0 k fv σ)[i]?=some none:=by
    unfold comp0
    rw[List.getElem?_append_left (by simpa using z)]
    simp[z]
   rw[this] at e2
   cases e2
  obtain⟨j,rfl⟩:∃ j,i=k+j:=⟨i - k,by omega⟩
  have e2':(fv.map fun j=>σ.getD j none)[j]?=some (some v):=by
   have:(comp0 k fv σ)[k+j]?=(fv.map fun j=>σ.getD j none)[j]?:=by
    unfold comp0
    rw[List.getElem?_append_right (by simp)]
    simp
   rw[← this]
   exact e2
  rw[List.getElem?_map] at e2'
  cases hj:fv[j]? with
  | none=>rw[hj] at e2';cases e2'
  | some m =>
   rw[hj] at e2'
   have e4:σ.getD m none=some v:=Option.some.inj e2'
   have e5:(N.drop k)[j]?=some y:=by rw[List.getElem?_drop];exact e1
   have e6:X.N[m]?=some y:=by
    have a:=congrArg (fun l=>l[j]?) hfv
    simp only [List.getElem?_map,hj,e5,Option.map_some] at a
    exact Option.some.inj a
   have e7:X.env.kindOf y=some .cell:=by
    have a:=congrArg (fun l=>l[j]?) hk
    simp only [List.getElem?_map,e5,Option.map_some] at a
    exact Option.some.inj a
   have e8:σ[m]?=some (some v):=by
    cases q:σ[m]? with
    | none=>rw[List.getD,q] at e4;cases e4
    | some o=>rw[List.getD,q] at e4;rw[show o=some v from e4]
   obtain⟨m0,hm0,hl0⟩:=I.loc
   obtain⟨u,ru,lk⟩:=hl0 m y v e6 e8 (.inr (.inl e7))
   refine⟨u,ru,?_⟩
   rcases lk with ⟨z,_⟩ | ⟨_,c,hcc,ic⟩
   ·rw[e7] at z;cases z
   ·have mem:y∈N.drop k:=List.mem_of_getElem? e5
    have fr:=hfl y mem
    have nyx:y≠x:=fun z=>by rw[z,hx] at fr;cases fr
    obtain⟨c',hc'⟩:=h2 (y,.free) (Rq fr) rfl
    have ec:=h1 y c' hc'
    rw[hcc] at ec
    cases ec
    refine .inr ⟨.inl (Va I.ok.kind fr e7),c,(Z1w nyx).trans hc',?_⟩
    obtain⟨o,ho,hd⟩:=ic
    exact⟨o,hb _ _ ho,hd⟩⟩
 cell:=fun y c e=>by
  rcases Vg e with ⟨_,rfl⟩ | ⟨_,e⟩
  ·exact⟨_,hcn⟩
  ·obtain⟨v,o,ho,hd⟩:=I.cell y c (h1 y c e)
   exact⟨v,o,hb _ _ ho,hd⟩
 free:=I.hok.fresh (Nat.le_refl _)
 freeC:=fun y c e=>by
  rcases Vg e with ⟨_,rfl⟩ | ⟨_,e⟩
  ·exact I.hok.fresh (Nat.le_succ _)
  ·exact I.freeC y c (h1 y c e)
 pin:=fun p hp=>by
  obtain⟨a1,a2,a3,a4,a5⟩:=I.pin p (List.mem_append_left _ ((List.mem_append.mp hp).elim id fun z=>nomatch z))
  exact⟨hb _ _ a1,a2,Nat.ne_of_lt (Heap.lt_size a1),fun z=>(List.mem_cons.mp (I.stkSub p.1 z)).elim a3 a4,a5⟩
 hok:=I.hok.kept hb
 len:=by
  show (comp0 k fv σ).length=N.length
  unfold comp0
  simp[hN]
end
section
variable {X:Cx}
set_option maxHeartbeats 1000000 in
theorem L0 {elt iter tg:Expr}{ifs:List Expr}{scope:Scope}{pos:Pos}{g:TG}{tt:TT}{te:TE}{N:List Str}{k:Nat}{fv:List Nat}{cl:List (Str × Addr)}{x0:Str}
  {pins:List (Addr × Obj)} {σ:L2.St} {H:Hp} {s:Shared} {it:Addr} {fp:List Addr} {tn:Nat->Heap->Prop} {J:It} {Q:VK} {RR:Value->Addr->Result->Shared->Prop} {E:Value->Shared->Prop}
  (hc:X.calm=true) (hg:∀ cl C fp s H,PG (compCxC X N scope x0 cl C fp s H) tg g) (ht:∀ cl C fp s H,PTs (compCxC X N scope x0 cl C fp s H) ifs tt) (he:∀ cl C fp s H,PE (compCxC X N scope x0 cl C fp s H) elt te)
  (hw:∀ r x H Q,g x (List.replicate k none++r) H Q->g x (List.replicate k none++r) H fun σ4 H4=>Q σ4 H4/\Weaker σ4 (List.replicate k none++r))
  (hN:N.length=k+fv.length) (hfv:fv.map (fun j=>X.N[j]?)=(N.drop k).map some) (hk:(N.drop k).map X.env.kindOf=(N.drop k).map fun _=>some .cell) (hfl:∀ y∈N.drop k,scope.names.lookup y=some .free)
  (hone:(scope.names.filter fun y=>y.2 == .cell)=[(x0,.cell)]) (hx0:scope.names.lookup x0=some .cell) (hkind:scope.kind=.function) (h1:∀ y c,cl.lookup y=some c->X.env.cells.lookup y=some c) (h2:∀ y∈scope.names,y.2=.free->∃ c,cl.lookup y.1=some c)
  (I:Inv X pins σ H s) (T:Turn X.prog X.w X.K tg J fp it tn) (st:tn 0 s.heap) (f:∀ b∈fp,FpOk X pins H b)
  (body:∀ d,H d=none->∃ (n:Nat) (W:Nat->List V->Hp->Prop),n<=sizeLine/\W 0 [] (upd H d (.lst [])) ∧
   (∀ i ys H2,i<n->W i ys H2->H2 d=some (.lst ys)->J.go i H2/\∀ x H3,J.yld i H2 x H3->g x (comp0 k fv σ) H3 fun σ4 H4=>tt σ4 H4 fun b H5 =>
    if b=true then te σ4 H5 fun y H6=>H6 d=some (.lst ys)/\W (i+1) (ys++[y]) (upd H6 d (.lst (ys++[y]))) else H5 d=some (.lst ys)/\W (i+1) ys H5) ∧
   (∀ ys H2,W n ys H2->H2 d=some (.lst ys)->J.stop n H2/\Q (.ref d) H2))
  (hR:∀ (D C:Addr) (H':Hp) (s':Shared),(∃ m,s'.heap.Ns C m)->FpOk X pins H' C->Q (.ref D) H'->(∀ h',Heap.SameBut C s'.heap h'->Inv X pins σ H' { s' with heap:=h' })->RR (.ref D) C (.ok .next) s') :
  wpAny (model X.prog X.w) X.A (newList []) (fun acc s3=>wpAny (model X.prog X.w) X.A (newFunctionEnv scope X.env.globals cl [] X.env.qual none .none (some X.env)) (fun cenv s4 =>
   codeAny (model X.prog X.w) X.A (.compStart (.ListComp elt [⟨tg,iter,ifs,0⟩] scope pos) 0 (.ref it) acc { cenv with scope:=relabel scope X.env }) (RR acc cenv.locals) s4) E s3) E s:=by
 refine wpAny_newObj_type ?_
 have I3:=I.lnew (its:=[]) (ys:=[]) (t':=s.toks) .nil (Nat.zero_le _)
 have fresh:=I.fresh
 generalize hD:s.heap.objs.size=D at I3 fresh ⊢
 have f3:∀ b∈fp,FpOk X pins (upd H D (.lst [])) b:=fun b hb=>by
  refine⟨?_,(f b hb).2⟩
  have hne:b≠D:=by
   obtain⟨o,e,_⟩:=T.obj 0 _ st b hb
   rw[← hD]
   exact Nat.ne_of_lt (Heap.lt_size e)
  rw[Zf hne]
  exact (f b hb).1
 have up3:∀ b o,s.heap.get? b=some o->(s.heap.push { cls:=.type "list",data:=.seq ([]:List Value).toArray }).get? b=some o:=fun b o e=>Heap.get?_push_of_some _ e
 have st3:tn 0 (s.heap.push { cls:=.type "list",data:=.seq ([]:List Value).toArray }):=T.keep 0 _ _ st fun b _ o e=>up3 b o e
 have hl3:∀ b∈fp,b<(s.heap.push { cls:=.type "list",data:=.seq ([]:List Value).toArray }).objs.size:=fun b hb=>by
  obtain⟨o,e,_⟩:=T.obj 0 _ st3 b hb
  exact Heap.lt_size e
 obtain⟨n,W,hn,w0,step,fin⟩:=body D fresh
 generalize hS3:({ s with heap:=s.heap.push { cls:=.type "list",data:=.seq ([]:List Value).toArray },toks:=s.toks }:Shared)=s3 at I3
 have eS3:s3.heap=s.heap.push { cls:=.type "list",data:=.seq ([]:List Value).toArray }:=by rw[← hS3]
 rw[← eS3] at st3 hl3
 refine Cj hone (fun h4 eh4=>?_)
 have old:∀ b o,s3.heap.get? b=some o->h4.get? b=some o:=fun b o e=>by rw[eh4];exact Heap.get?_push_of_some _ (Heap.get?_push_of_some _ e)
 have hns:h4.Ns s3.heap.objs.size (fun _=>none):=by rw[eh4];exact (Heap.Ns.new s3.heap (.type "dict")).keeps fun b o e=>Heap.get?_push_of_some _ e
 have hcn:h4.IsCell (s3.heap.objs.size+1) none:=by
  rw[eh4]
  rw[← Heap.size_push s3.heap { cls:=.type "dict",data:=.dict #[] }]
  exact⟨_,Heap.get?_push_size _ rfl,rfl⟩
 clear eh4
 have I4:=Fe (N:=N) (tk:=s3.toks) I3 hc f3 hl3 hkind hone hx0 h1 h2 hN hfv hk hfl (h':=h4) hns hcn old
 have st4:tn 0 h4:=T.keep 0 _ _ st3 fun b _ o e=>old b o e
 have hCn:s3.heap.get? s3.heap.objs.size=none:=by
  cases e:s3.heap.get? s3.heap.objs.size with
  | none=>rfl
  | some o=>exact absurd (Heap.lt_size e) (Nat.lt_irrefl _)
 generalize hC:s3.heap.objs.size=C at I4 hCn ⊢
 have stat:∀ {H':Hp} {ps:List (Addr × Obj)},(∀ b∈fp,H' b=none)->(∀ p∈ps,p.1 ∉ fp)->∀ b∈fp,FpOk (compCxC X N scope x0 cl C fp s3 (upd H D (.lst []))) ps H' b:=fun {H' ps} hn hp b hb =>
  ⟨hn b hb,by rw[← hC];exact Nat.ne_of_lt (hl3 b hb),fun z=>(List.mem_cons.mp (I3.stkSub b z)).elim (fun e=>(f3 b hb).2.1 e) fun e=>(f3 b hb).2.2.1 e,.inl hb,fun x c e=>(Vg e).elim (fun z q=>absurd (hl3 b hb) (Nat.not_lt.mpr (by rw[← q,z.2,← hC];exact Nat.le_succ _))) (fun z=>(f3 b hb).2.2.2.2.1 x c (h1 x c z.2)),fun p q z=>(List.mem_append.mp q).elim (fun q=>(f3 b hb).2.2.2.2.2 p (List.mem_append_left _ q) z) fun q=>hp p q (by rw[z];exact hb)⟩
 have loop:∀ s4:Shared,s4={ s3 with heap:=h4,toks:=s3.toks } →
   codeAny (model X.prog X.w) X.A (.compLoop (.ListComp elt [⟨tg,iter,ifs,0⟩] scope pos) 0 (.ref it) (.ref D) (compEnvC scope ((x0,C+1)::cl) C X.env)) (RR (.ref D) C) s4:=by
  rintro s4 rfl
  refine P6 (fun m s'=>∃ i ys H',Inv (compCxC X N scope x0 cl C fp s3 (upd H D (.lst []))) [] (comp0 k fv σ) H' s'/\tn i s'.heap/\(∀ b∈fp,H' b=none)/\i<=n/\m=n+1 - i/\ys.length<=i/\H' D=some (.lst ys)/\W i ys H') ?_ (n+1)
   ⟨0,[],_,I4,st4,fun b hb=>(f3 b hb).1,Nat.zero_le _,rfl,Nat.le_refl _,Zb,w0⟩
  rintro m s5 ⟨i,ys,H5,I5,st5,fr5,hi,rfl,hys,hD5,w5⟩
  by_cases hlt:i<n
  ·obtain⟨go,stp⟩:=step i ys H5 hlt w5 hD5
   refine thn (T.item (compCxC X N scope x0 cl C fp s3 (upd H D (.lst []))) rfl rfl rfl rfl i [] s5 _ H5 noX I5 (stat fr5 (by simp)) st5 go) fun r s6 ⟨u,er,h6⟩=>?_
   subst er
   refine thn h6 fun _ s7 ⟨x,H7,I7,r7,y7,st7,fr7⟩=>?_
   have I7':=I7.pinned (stat fr7 (by simp)) (T.obj _ _ st7)
   refine thn (hg cl C fp s3 _ _ s7 _ H7 x u _ I7' r7 (hw _ x H7 _ (stp x H7 y7))) fun _ s8 ⟨σ8,H8,I8,q8,wk⟩=>?_
   refine thn (ht cl C fp s3 _ _ s8 σ8 H8 _ I8 q8) fun ok s9 ⟨H9,I9,q9⟩=>?_
   have back:∀ {σ':L2.St} {H':Hp} {s':Shared},Inv (compCxC X N scope x0 cl C fp s3 (upd H D (.lst []))) ([]++pinsAt fp s7.heap) σ' H' s'->Weaker σ' (comp0 k fv σ) →
     Inv (compCxC X N scope x0 cl C fp s3 (upd H D (.lst []))) [] (comp0 k fv σ) H' s'/\tn (i+1) s'.heap/\∀ b∈fp,H' b=none:=fun {σ' H' s'} I' wk'=>by
    refine⟨I'.unpinned.weak wk'.1 wk'.2,T.keep _ _ _ st7 fun b hb o e=>(I'.pin (b,o) (List.mem_append_right _ (List.mem_append_right _ (Xq hb e)))).1,fun b hb=>?_⟩
    obtain⟨o,e,_⟩:=T.obj _ _ st7 b hb
    exact (I'.pin (b,o) (List.mem_append_right _ (List.mem_append_right _ (Xq hb e)))).2.1
   cases ok with
   | false =>
    rw[if_neg Bool.false_ne_true] at q9 ⊢
    obtain⟨hD9,w9⟩:=q9
    obtain⟨a1,a2,a3⟩:=back I9 wk
    exact⟨n+1 - (i+1),by omega,i+1,ys,H9,a1,a2,a3,hlt,rfl,Nat.le_succ_of_le hys,hD9,w9⟩
   | true =>
    rw[if_pos rfl] at q9 ⊢
    refine thn (he cl C fp s3 _ _ s9 σ8 H9 _ I9 q9) fun y s10 ⟨yv,H10,I10,r10,hD10,w10⟩=>?_
    refine thn (Ym _ s10 σ8 H10 (.ref D) [yv] (.ref D) [y] (fun _ H'=>H'=upd H10 D (.lst (ys++[yv]))) I10 rfl (.cons r10 .nil) ⟨D,ys,yv,rfl,rfl,hD10,Nat.lt_of_le_of_lt hys (Nat.lt_of_lt_of_le hlt hn),rfl⟩) fun _ s11 ⟨_,H11,I11,_,e11⟩=>?_
    subst e11
    obtain⟨a1,a2,a3⟩:=back I11 wk
    exact⟨n+1 - (i+1),by omega,i+1,ys++[yv],_,a1,a2,a3,hlt,rfl,by rw[List.length_append];show ys.length+1<=i+1;omega,Zb,w10⟩
  ·obtain rfl:i=n:=Nat.le_antisymm hi (Nat.not_lt.mp hlt)
   obtain⟨stop,q⟩:=fin ys H5 w5 hD5
   refine thn (T.done (compCxC X N scope x0 cl C fp s3 (upd H D (.lst []))) rfl rfl rfl rfl i [] s5 _ H5 noX I5 (stat fr5 (by simp)) st5 stop) fun r s6 ⟨er,I6⟩=>?_
   subst er
   refine hR D C H5 s6 ?_ (I3.fpOk (by rw[hC];exact Nat.le_refl _) I6.free) q fun h' hs'=>?_
   ·obtain⟨m,hm,_⟩:=I6.loc
    exact⟨m,hm⟩
   ·have hs2:∀ b,b≠C->h'.get? b=s6.heap.get? b:=fun b hb=>hs'.2 b hb
    refine I3.call' (s':={ s6 with heap:=h' }) (ch:=fp) ?_ (Fl I6.base hCn hs2) (Jn I6.hok I6.free hs2) I6.bare fun b hb=>?_
    ·exact I6.os
    ·exact⟨(f3 b hb).2.2.2.1,(f3 b hb).2.1,(f3 b hb).2.2.2.2.1,(f3 b hb).2.2.2.2.2⟩
 exact codeAny_compStart_list (loop _ rfl) (T.self _ 0 _ _ _ st4 (loop _ rfl))
theorem Du {elt iter tg:Expr}{ifs:List Expr}{scope:Scope}{pos:Pos}{wi:TI}{g:TG}{tt:TT}{te:TE}{N:List Str}{k:Nat}{fv:List Nat}{x0:Str}
  (hc:X.calm=true) (hi:PI X tg iter wi) (hg:∀ cl C fp s H,PG (compCxC X N scope x0 cl C fp s H) tg g) (ht:∀ cl C fp s H,PTs (compCxC X N scope x0 cl C fp s H) ifs tt) (he:∀ cl C fp s H,PE (compCxC X N scope x0 cl C fp s H) elt te)
  (hw:∀ r x H Q,g x (List.replicate k none++r) H Q->g x (List.replicate k none++r) H fun σ4 H4=>Q σ4 H4/\Weaker σ4 (List.replicate k none++r))
  (hN:N.length=k+fv.length:=by rfl) (hfv:fv.map (fun j=>X.N[j]?)=(N.drop k).map some:=by rfl) (hk:(N.drop k).map X.env.kindOf=(N.drop k).map (fun _=>some .cell):=by rfl)
  (hfl:∀ y∈N.drop k,scope.names.lookup y=some .free:=by decide +kernel) (hfr:∀ y∈scope.names,y.2=.free->y.1∈N.drop k:=by decide +kernel)
  (hone:(scope.names.filter fun y=>y.2 == .cell)=[(x0,.cell)]:=by decide +kernel) (hx0:scope.names.lookup x0=some .cell:=by decide +kernel) (hkind:scope.kind=.function:=by rfl) (hnames:∀ y∈scope.names,y.2=.local->scope.names.lookup y.1=some .local:=by decide +kernel)
  (hs:∀ x,foldedSetIterable iter X.env x=pure x:=by intro _;rfl):PE X (.ListComp elt [⟨tg,iter,ifs,0⟩] scope pos) (tComp wi g tt te k fv):=by
 intro pins s σ H Q I h
 have kc:∀ y∈N.drop k,X.env.kindOf y=some .cell:=fun y hy=>by
  obtain⟨j,hj⟩:=List.getElem?_of_mem hy
  have a:=congrArg (fun l=>l[j]?) hk
  simp only [List.getElem?_map,hj,Option.map_some] at a
  exact Option.some.inj a
 obtain⟨cl,hclos,h1,h2⟩:=Wx (env:=X.env) (scope:=scope) fun y hy hf=>I.ok.has y.1 (.inl (kc y.1 (hfr y hy hf)))
 rw[eval_ListComp]
 refine wpAny_comprehension_free (use:=none) rfl hs hclos hkind hnames (thn (hi pins s σ H _ I h) fun xv s1 h1'=>thn h1' fun itv s2 h2'=>?_)
 obtain⟨it,fp,tn,J,H2,e,I2,T,st2,f2,body⟩:=h2'
 subst e
 exact L0 (RR:=fun acc C=>compPost (model X.prog X.w) X.A X.xe none (EP X pins σ Q) acc C) hc hg ht he hw hN hfv hk hfl hone hx0 hkind h1 h2 I2 T st2 f2 body fun D C H' s' ⟨m,hm⟩ _ q iv=>⟨m,hm,fun h' hs'=>⟨.ref D,H',iv h' hs',rfl,q⟩⟩
end
section
variable {X:Cx}{K:W.Frag}{tg l:Expr}{tl:TE}
theorem Dp (hl:PE X l tl)(h:X.K=K:=by rfl):PI X tg l (iList K tl):=h ▸ Xs hl
end
end Sb
namespace Sb
open PySem L2
def top (i:Nat):Stmt:=PySem.Challenge.pw_surebook_k40_whole_joined.main.body.getD i (.Pass ⟨0,0,0,0⟩)
abbrev kS:Stmt:=top 7
abbrev j6:Stmt:=top 8
abbrev kY:Stmt:=top 9
abbrev kX:Stmt:=top 10
abbrev lS:Stmt:=top 11
abbrev lL:Stmt:=top 12
abbrev j7:Stmt:=top 13
abbrev kL:Stmt:=top 14
abbrev j9:Stmt:=top 16
abbrev kW:Stmt:=top 17
abbrev mD:Stmt:=top 18
abbrev mE:Stmt:=top 19
abbrev mK:Stmt:=top 20
abbrev kQ:Stmt:=top 21
abbrev mF:Stmt:=top 27
abbrev kK:Stmt:=top 28
abbrev lP:Stmt:=top 29
abbrev lX:Stmt:=top 30
abbrev kU:Stmt:=top 31
abbrev lI:Stmt:=top 32
abbrev kA:Stmt:=top 35
abbrev kZ:Stmt:=top 36
abbrev l6:Stmt:=top 37
abbrev kI:Stmt:=top 38
abbrev kT:Stmt:=top 39
abbrev kE:Stmt:=top 40
abbrev kJ:Stmt:=top 41
abbrev kH:Stmt:=top 42
abbrev lZ:Stmt:=top 43
abbrev kG:Stmt:=top 44
abbrev lH:Stmt:=top 45
abbrev kC:Stmt:=top 47
abbrev lM:Stmt:=top 48
abbrev j4:Stmt:=top 49
abbrev lN:Stmt:=top 50
abbrev kD:Stmt:=top 52
abbrev lE:Stmt:=top 53
abbrev lK:Stmt:=top 55
abbrev lT:Stmt:=top 56
abbrev lF:Stmt:=top 58
abbrev kP:Stmt:=top 59
abbrev mH:Stmt:=top 61
abbrev lJ:Stmt:=top 62
abbrev lQ:Stmt:=top 63
abbrev lU:Stmt:=top 64
abbrev lC:Stmt:=top 65
abbrev k9:Stmt:=top 66
abbrev sIs:Stmt:=top 67
abbrev mM:Stmt:=top 68
abbrev l7:Stmt:=top 69
abbrev mB:Stmt:=top 70
abbrev lO:Stmt:=top 71
abbrev mI:Stmt:=top 72
abbrev kO:Stmt:=top 73
abbrev lV:Stmt:=top 74
abbrev l5:Stmt:=top 75
abbrev lG:Stmt:=top 76
abbrev lR:Stmt:=top 77
abbrev mC:Stmt:=top 80
abbrev lD:Stmt:=top 81
abbrev mG:Stmt:=top 82
abbrev j5:Stmt:=top 83
abbrev j8:Stmt:=top 85
abbrev kR:Stmt:=top 86
abbrev mL:Stmt:=top 87
abbrev mJ:Stmt:=top 88
abbrev j3:Stmt:=inClass (top 34) 0
structure Blt (mg:Str->Option Value):Prop where
 len:mg "len"=none
 abs:mg "abs"=none
 isinstance:mg "isinstance"=none
 int:mg "int"=none
 bool:mg "bool"=none
 tuple:mg "tuple"=none
 range:mg "range"=none
 zip:mg "zip"=none
 enumerate:mg "enumerate"=none
 any:mg "any"=none
 sum:mg "sum"=none
 list:mg "list"=none
 min:mg "min"=none
theorem Jx {ns:List Int}{k:Int}(h0:0<=k)(h1:k<((ns.map V.int).length:Int)):∃ z,atI (ns.map V.int) k=some (.int z):=by
 obtain⟨j,rfl⟩:=Int.eq_ofNat_of_zero_le h0
 rw[List.length_map] at h1
 have hj:j<ns.length:=by omega
 exact⟨ns[j],Zg (by simp[hj])⟩
theorem B0 {n:Nat}{k:Int}(h0:0<=k)(h1:k<(n:Int)):ixN n k=some k.toNat:=by
 unfold ixN
 rw[if_pos h0,if_pos h1]
theorem Rp {j:Int}(h:(0:Int)<j):(0:Int)<j:=h
theorem Z1g {j:Int}(h0:0<=j)(h1:j<=1000):CPow 10 j:=⟨h0,by omega,by decide⟩
theorem Vv (t:Int):-(2 ^ 64)<t % 65537/\t % 65537<2 ^ 64:=by omega
theorem Z1d (p q:Int):Int.gcd (if p<0 then -p else p) (if q<0 then -q else q)=Int.gcd p q:=by
 split <;> split <;> simp
theorem p6:(10:Int) ^ (6:Int).toNat=1000000:=by decide +kernel
theorem lg6:(2*(10:Int) ^ (6:Int).toNat+1).natAbs.log2<9000:=by decide +kernel
theorem Qe {x:Int}(h1:-2000000<x)(h2:x<2000000):Bd 21 x:=by
 unfold Bd
 have e:(2:Nat) ^ 21=2097152:=by decide
 rw[e]
 omega
theorem Zp {n:Nat}(h:n<=1000):n<=sizeLine:=Nat.le_trans h (by decide)
theorem Me {r:Rat}(hp:0<r.2)(hc:Int.gcd r.1 r.2=1):nrm r.1 r.2=r:=by
 have e:=Yu r.1 r.2
 have hq:r.2≠0:=by omega
 refine Xf (Pr hq) hp (Cp hq) hc ?_
 exact e
def eX:Sp:=fun vs H Q _=>∃ (i:Int),vs=[.int i]/\Q (.bl true) H
section
variable {P:Program}{w:World}{K:W.Frag}{mg:Str->Option Value}{base:Heap}
def iT (K:W.Frag):Sp:=fun vs H Q _=>∃ (a:Addr) (k:Int) (ns:List Int),vs=[.ref a,.int k]/\SqL K H a (ns.map V.int)/\0<=k/\k<=100000/\∀ z:Int,Q (.int z) H
theorem D5:FnScope ["_law_script","_law_k","_law_seed","_law_some"] ["_law_script","_law_k"] (defScope mH):=fsc
theorem Z2o (D:Def K mg "_law_cell" mH ["_law_script","_law_k"])(T:Blt mg):Has P w K mg base 1 "_law_cell" ["_law_script","_law_k"] (iT K):=by
 refine D.has fun f fd F=>F.ok D5 (fun vs H Q E h=>?_) (fun cdv A outer s H vs Q E hr h=>?_)
 ·obtain⟨a,k,ns,rfl,_⟩:=h
  rfl
 ·obtain⟨a,k,ns,rfl,hS,hk,hk2,q⟩:=h
  have sc:=D5
  refine⟨_,(Z9 (Yd (Zn Tv (pv 1) (Zz Y4 rfl T.len boot_len (Z0 (pv 0) Z8)) (Zt _))
    (Zc (Zj (Zh Y2 (pv 0) (pv 1) (fun _ _=>rfl))))
    Zu)
   (Z9 (Zi (i:=2) sc.nd rfl (Or.inl rfl) (Zl Zx (pv 1) Za))
   (Z9 (Yd (Zn Rj (Zz Y4 rfl T.len boot_len (Z0 (pv 0) Z8)) Za (Zt _))
    (Zc (Zi (i:=2) sc.nd rfl (Or.inl rfl) (Zl Yt (pv 2) (Zl Vf (Zh Y2 (pv 0) (Zl Vf (pv 1) (Zz Y4 rfl T.len boot_len (Z0 (pv 0) Z8))) (fun _ _=>rfl)) Za))))
    Zu)
   (Z9 (Zi (i:=3) sc.nd rfl (Or.inl rfl) (Zl Vf (Zl Zx (pv 2) Za) Za))
   (Zc (Zj (Zl Vf (Zl W6 (Zl Zx (pv 3) (Zl Yt (Zl Yt (pv 3) (Zl Zx Za (pv 1))) Za)) Za) Za))))))),?_⟩
  refine⟨_,rfl,_,rfl,a,_,rfl,.inl hS,_,_,rfl,rfl,_,rfl,?_⟩
  refine Xd (fun h=>?_) (fun h=>?_)
  ·have h':=of_decide_eq_true h
   obtain⟨z,hz⟩:=Jx hk h'
   exact⟨_,rfl,_,rfl,a,_,_,_,rfl,rfl,hS,hz,q z⟩
  ·refine⟨_,rfl,_,_,rfl,rfl,Gq (by decide) (by decide),?_⟩
   refine⟨_,rfl,a,_,rfl,.inl hS,_,_,rfl,rfl,_,rfl,?_⟩
   refine Xd (fun h2=>?_) (fun h2=>?_)
   ·have h3:=of_decide_eq_true h2
    obtain⟨z,hz⟩:=Jx (ns:=ns) (k:=k % ((ns.map V.int).length:Int)) (Int.emod_nonneg _ (by omega)) (Int.emod_lt_of_pos _ h3)
    refine⟨_,rfl,_,rfl,_,rfl,_,rfl,a,_,rfl,.inl hS,_,_,rfl,rfl,h3,a,_,_,_,rfl,rfl,hS,hz,_,_,rfl,rfl,Rp (by decide),_,_,rfl,rfl,?_⟩
    refine⟨_,rfl,_,_,rfl,rfl,Gq (by decide) (by decide),_,_,rfl,rfl,Rp (by decide),?_⟩
    exact⟨_,rfl,_,rfl,_,rfl,_,_,rfl,rfl,Gr (by decide) (by decide),_,_,rfl,rfl,_,_,rfl,rfl,_,_,rfl,rfl,Gr (Vv _).1 (Vv _).2,_,_,rfl,rfl,⟨by decide,by decide +kernel⟩,_,_,rfl,rfl,Rp (by decide),q _⟩
   ·refine⟨_,rfl,_,_,rfl,rfl,Gq (by decide) (by decide),_,_,rfl,rfl,Rp (by decide),?_⟩
    exact⟨_,rfl,_,rfl,_,rfl,_,_,rfl,rfl,Gr (by decide) (by decide),_,_,rfl,rfl,_,_,rfl,rfl,_,_,rfl,rfl,Gr (Vv _).1 (Vv _).2,_,_,rfl,rfl,⟨by decide,by decide +kernel⟩,_,_,rfl,rfl,Rp (by decide),q _⟩
def jF:Sp:=fun vs H Q _=>∃ (p q:Int),vs=[.int p,.int q]/\q≠0/\q.natAbs.log2<9000/\∀ a H',H a=none->Same H H'->H' a=some (.tup [.int (nT p q),.int (nB p q)])->Q (.ref a) H'
theorem Pg {p q:Int}(h:q≠0)(k:q.natAbs.log2<9000):(sg p q).natAbs.log2<9000:=by
 have h1:=Z39 (p:=p) h
 have h0:=Qj (p:=p) h
 have h2:(sg p q).natAbs≠0:=by omega
 have h3:q.natAbs≠0:=by omega
 exact (Nat.log2_lt h2).mpr (Nat.lt_of_le_of_lt h1 ((Nat.log2_lt h3).mp k))
def muRat (σ:St)(_:Hp):Nat:=match σ with
 | [_,_,some (.int x),_,_]=>x.toNat
 | _=>0
theorem Ko:FnScope ["_law_top","_law_bottom","_law_one","_law_most","_law_rest"] ["_law_top","_law_bottom"] (defScope lQ):=fsc
abbrev Z2 (P:Program)(w:World)(K:W.Frag)(mg:Str->Option Value)(base:Heap):Prop:=Has P w K mg base 2 "_law_ratio" ["_law_top","_law_bottom"] jF
theorem Z0p (D:Def K mg "_law_ratio" lQ ["_law_top","_law_bottom"])(T:Blt mg):Z2 P w K mg base:=by
 refine D.has fun f fd F=>F.ok Ko (fun vs H Q E h=>?_) (fun cdv A outer s H vs Q E hr h=>?_)
 ·obtain⟨a,b,rfl,_⟩:=h
  rfl
 ·obtain⟨p,q,rfl,hq,hlog,k⟩:=h
  have sc:=Ko
  refine⟨_,(Z9 (Zi (i:=2) sc.nd rfl (Or.inl rfl) (Zz Q9 rfl T.abs PyProof.Rows.boot_abs (Z0 (pv 0) Z8)))
   (Z9 (Zi (i:=3) sc.nd rfl (Or.inl rfl) (Zz Q9 rfl T.abs PyProof.Rows.boot_abs (Z0 (pv 1) Z8)))
   (Z9 (Ra PassesOwn.never (Zn Rj (pv 2) Za (Zt _))
    (Z9 (Zi (i:=4) sc.nd rfl (Or.inl rfl) (Zl Vf (pv 3) (pv 2)))
    (Z9 (Zi (i:=3) sc.nd rfl (Or.inl rfl) (pv 2))
    (Zc (Zi (i:=2) sc.nd rfl (Or.inl rfl) (pv 4))))))
   (Z9 (X4 (Yd (Zn Tv (pv 1) Za (Zt _))
    (Zc (Zi (i:=3) sc.nd rfl (Or.inl rfl) (U0 Wp (pv 3))))
    Zu))
   (Zc (Zj (Yf (Z0 (Zl W6 (pv 0) (pv 3)) (Z0 (Zl W6 (pv 1) (pv 3)) Z8))))))))),?_⟩
  refine⟨_,rfl,_,rfl,_,rfl,_,rfl,?_⟩
  refine Nh (fun σ H'=>H'=H/\∃ (x y:Int) (r:Option V),σ=[some (.int p),some (.int q),some (.int x),some (.int y),r]/\0<=x/\0<=y/\Int.gcd y x=Int.gcd p q) muRat ⟨rfl,_,_,none,rfl,(by split <;> omega),(by split <;> omega),by rw[Int.gcd_comm];exact Z1d p q⟩ ?_
   (fun σ H Q Q' f ⟨v,e,i,j,e1,e2,k,e3,z⟩=>⟨v,e,i,j,e1,e2,k,e3,f _ _ z⟩)
  rintro σ H' ⟨rfl,x,y,r,rfl,hx,hy,hg⟩
  refine⟨_,rfl,_,_,rfl,rfl,_,rfl,?_⟩
  refine Xd (fun h=>?_) (fun h=>?_)
  ·have h':0<x:=of_decide_eq_true h
   refine⟨_,rfl,_,rfl,_,_,rfl,rfl,h',?_⟩
   refine⟨_,rfl,_,rfl,⟨rfl,y % x,x,_,rfl,Int.emod_nonneg _ (by omega),hx,gcd_step.trans hg⟩,?_⟩
   show (y % x).toNat<x.toNat
   have:=Int.emod_lt_of_pos y h'
   have:=Int.emod_nonneg y (show x≠0 by omega)
   omega
  ·have h':¬ 0<x:=fun z=>h (decide_eq_true z)
   have e:=Z30 y x hy (by omega)
   rw[hg] at e
   subst e
   refine⟨fun σ H''=>H''=H'/\σ=[some (.int p),some (.int q),some (.int x),some (.int (sg p q)),r],?_,?_⟩
   ·refine⟨_,rfl,_,_,rfl,rfl,_,rfl,?_⟩
    refine Xd (fun h=>?_) (fun h=>?_)
    ·have h':q<0:=of_decide_eq_true h
     refine⟨_,rfl,_,rfl,rfl,?_⟩
     have e:sg p q=-((Int.gcd p q:Nat):Int):=by unfold sg gI;rw[if_pos h']
     rw[e]
     rfl
    ·have h':¬ q<0:=fun z=>h (decide_eq_true z)
     refine⟨rfl,?_⟩
     have e:sg p q=((Int.gcd p q:Nat):Int):=by unfold sg gI;rw[if_neg h']
     rw[e]
   ·rintro σ H'' ⟨rfl,rfl⟩
    refine⟨_,rfl,_,rfl,_,_,rfl,rfl,⟨Qj hq,Pg hq hlog⟩,_,rfl,_,rfl,_,_,rfl,rfl,⟨Qj hq,Pg hq hlog⟩,sz2,fun a ha=>?_⟩
    exact k a _ ha (Same.new ha) Zb
def jO:Sp:=fun vs H Q _=>∃ (c:Int),vs=[.int c]/\∀ a H',H a=none->Same H H'->BagAt H' a 1->Q (.ref a) H'
theorem Z1s:FnScope ["_law_cell_here"] ["_law_cell_here"] (defScope mM):=fsc
theorem Z3j (D:Def K mg "_law_bag" mM ["_law_cell_here"]):Has P w K mg base 1 "_law_bag" ["_law_cell_here"] jO:=by
 refine D.has fun f fd F=>F.ok Z1s (fun vs H Q E h=>?_) (fun cdv A outer s H vs Q E hr h=>?_)
 ·obtain⟨c,rfl,_⟩:=h
  rfl
 ·obtain⟨c,rfl,q⟩:=h
  have sc:=Z1s
  refine⟨_,(Z9 (Yd (Zn Tv (pv 0) (Zl Po Za Za) (Zt _))
    (Zc (Zj (Xz (Z0 (pv 0) (Z0 Za Z8)))))
    Zu)
   (Zc (Zj (Xz (Z0 (pv 0) (Z0 Za Z8)))))),?_⟩
  refine⟨_,rfl,_,_,rfl,rfl,Z1g (by decide) (by decide),_,_,rfl,rfl,_,rfl,?_⟩
  refine Xd (fun _=>?_) (fun _=>?_)
  ·exact⟨_,rfl,sz2,fun a ha=>q a _ ha (Same.new ha) ⟨_,_,Zb,by decide,by decide⟩⟩
  ·exact⟨_,rfl,sz2,fun a ha=>q a _ ha (Same.new ha) ⟨_,_,Zb,by decide,by decide⟩⟩
def jP:Sp:=fun vs H Q _=>∃ (b:Addr) (m:Int) (n:Nat),vs=[.ref b,.int m]/\BagAt H b n/\n<=1000000000/\0<m/\m.natAbs.log2<9000 ∧
 ∀ (r:Int) (H':Hp),0<=r->r<m->BagAt H' b (n+1)->SameX b H H'->Q (.int r) H'
theorem Fv:FnScope ["_law_bag_here","_law_many","_law_told"] ["_law_bag_here","_law_many"] (defScope l7):=fsc
abbrev Z1 (P:Program)(w:World)(K:W.Frag)(mg:Str->Option Value)(base:Heap):Prop:=Has P w K mg base 1 "_law_take" ["_law_bag_here","_law_many"] jP
theorem Z2g (D:Def K mg "_law_take" l7 ["_law_bag_here","_law_many"]):Z1 P w K mg base:=by
 refine D.has fun f fd F=>F.ok Fv (fun vs H Q E h=>?_) (fun cdv A outer s H vs Q E hr h=>?_)
 ·obtain⟨b,m,n,rfl,_⟩:=h
  rfl
 ·obtain⟨b,m,n,rfl,⟨x,y,e,hy,hyn⟩,hn,hm,hlog,q⟩:=h
  have sc:=Fv
  have hL:SqL K H b [.int x,.int y]:=SqL.of e
  refine⟨_,(Z9 (Yd (Zn W0 (Zh Jh (pv 0) Za (fun _ _=>rfl)) Za (Zt _))
    (Z9 (Zi (i:=2) sc.nd rfl (Or.inl rfl) (Zl Vf (Zh Ji (pv 0) Za (fun _ _=>rfl)) (pv 1)))
    (Z9 (Ta (Zl W6 (Zh Ji (pv 0) Za (fun _ _=>rfl)) (pv 1)) (Rh (pv 0) Za Vj))
    (Zc (Zj (pv 2)))))
    Zu)
   (Z9 (Ta (Zl Vf (Zl Yt (Zl Yt (Zl Zx (Zh Ji (pv 0) Za (fun _ _=>rfl)) Za) (Zl Zx (Zl Zx Za (Zh Jh (pv 0) Za (fun _ _=>rfl))) (Zh Jh (pv 0) Za (fun _ _=>rfl)))) Za) Za) (Rh (pv 0) Za Vj))
   (Z9 (Ta (Zl Yt (Zh Jh (pv 0) Za (fun _ _=>rfl)) Za) (Rh (pv 0) Za Vj))
   (Zc (Zj (Zl Vf (Zl Vf (Zl Zx (Zh Ji (pv 0) Za (fun _ _=>rfl)) Za) Za) (pv 1))))))),?_⟩
  refine⟨_,rfl,b,_,_,rfl,rfl,hL,rfl,_,rfl,?_⟩
  refine Xd (fun h=>?_) (fun h=>?_)
  ·refine⟨_,rfl,b,_,_,rfl,rfl,hL,_,rfl,_,_,rfl,rfl,hm,?_⟩
   refine⟨_,rfl,b,_,_,rfl,rfl,hL,_,rfl,_,_,rfl,rfl,⟨by omega,hlog⟩,_,rfl,b,_,_,0,rfl,rfl,e,rfl,?_⟩
   refine⟨_,rfl,?_⟩
   exact q _ _ (Int.emod_nonneg _ (by omega)) (Int.emod_lt_of_pos _ hm) ⟨_,y,Zb,hy,by omega⟩ (SameX.upd b H _)
  ·refine⟨_,rfl,b,_,_,rfl,rfl,hL,_,_,rfl,rfl,Gq (by decide) (by decide),_,rfl,b,_,_,rfl,rfl,hL,_,_,rfl,rfl,Gr (by decide) (by decide),_,rfl,b,_,_,rfl,rfl,hL,_,_,rfl,rfl,Gq (by omega) (by omega),_,_,rfl,rfl,_,_,rfl,rfl,_,_,rfl,rfl,Rp (by decide),_,rfl,b,_,_,0,rfl,rfl,e,rfl,?_⟩
   refine⟨_,rfl,b,_,_,rfl,rfl,SqL.of Zb,_,_,rfl,rfl,_,rfl,b,_,_,1,rfl,rfl,Zb,rfl,?_⟩
   refine⟨_,rfl,b,_,_,rfl,rfl,SqL.of Zb,_,_,rfl,rfl,Gq (by decide) (by decide),_,_,rfl,rfl,Rp (by decide),_,rfl,_,_,rfl,rfl,hm,?_⟩
   exact q _ _ (Int.emod_nonneg _ (by omega)) (Int.emod_lt_of_pos _ hm) ⟨_,y+1,Zb,by omega,by omega⟩ ((SameX.upd b H _).trans (SameX.upd b _ _))
def iP:Sp:=fun vs H Q _=>∃ (a b:Int),vs=[.int a,.int b]/\Q (.int (Int.gcd a b:Nat)) H
theorem Z1p:FnScope ["one","other","rest"] ["one","other"] (defScope j6):=fsc
def muGcd (σ:St)(_:Hp):Nat:=match σ with
 | [_,some (.int y),_]=>y.natAbs
 | _=>0
theorem Z15 {y:Int}(h:(!decide (V.int y=V.int 0))=true):y≠0:=by
 intro z
 subst z
 simp at h
theorem Z1f {y:Int}(h:¬ (!decide (V.int y=V.int 0))=true):y=0:=by
 apply Classical.byContradiction
 intro z
 apply h
 have:¬ V.int y=V.int 0:=fun q=>z (V.int.inj q)
 simp[this]
theorem Z3g (D:Def K mg "common_divisor" j6 ["one","other"])(T:Blt mg):Has P w K mg base 1 "common_divisor" ["one","other"] iP:=by
 refine D.has fun f fd F=>F.ok Z1p (fun vs H Q E h=>?_) (fun cdv A outer s H vs Q E hr h=>?_)
 ·obtain⟨a,b,rfl,_⟩:=h
  rfl
 ·obtain⟨a,b,rfl,q⟩:=h
  have sc:=Z1p
  refine⟨_,(Z9 (Ra PassesOwn.never (Zn Qu (pv 1) Za (Zt _))
    (Z9 (Zi (i:=2) sc.nd rfl (Or.inl rfl) (Zl Z0g (pv 0) (pv 1)))
    (Z9 (Zi (i:=0) sc.nd rfl (Or.inl rfl) (pv 1))
    (Zc (Zi (i:=1) sc.nd rfl (Or.inl rfl) (pv 2))))))
   (Zc (Zj (Zz Q9 rfl T.abs PyProof.Rows.boot_abs (Z0 (pv 0) Z8))))),?_⟩
  refine Nh (fun σ H'=>H'=H/\∃ (x y:Int) (r:Option V),σ=[some (.int x),some (.int y),r]/\Int.gcd x y=Int.gcd a b) muGcd ⟨rfl,a,b,none,rfl,rfl⟩ ?_
   (fun σ H Q Q' f ⟨v,e,e1,k,e3,z⟩=>⟨v,e,e1,k,e3,f _ _ z⟩)
  rintro σ H' ⟨rfl,x,y,r,rfl,hg⟩
  refine⟨_,rfl,rfl,_,rfl,?_⟩
  refine Xd (fun h=>?_) (fun h=>?_)
  ·have h':y≠0:=Z15 h
   refine⟨_,rfl,_,rfl,_,_,rfl,rfl,h',?_⟩
   refine⟨_,rfl,_,rfl,⟨rfl,y,x.fmod y,_,rfl,(F8 x y).trans hg⟩,?_⟩
   exact Bg x h'
  ·have h':y=0:=Z1f h
   subst h'
   refine⟨_,rfl,_,rfl,?_⟩
   have e:(if x<0 then -x else x)=((Int.gcd a b:Nat):Int):=by
    rw[← hg]
    simp
    split <;> omega
   rw[e]
   exact q
def eG:Sp:=fun vs H Q _=>∃ (p q:Int),vs=[.int p,.int q]/\q≠0/\q.natAbs.log2<9000/\∀ a H',H a=none->Same H H'->H' a=some (.tup [.int (nT p q),.int (nB p q)])->Q (.ref a) H'
theorem No:FnScope ["top","bottom","divisor"] ["top","bottom"] (defScope kY):=fsc
theorem C5 (D:Def K mg "lowest" kY ["top","bottom"])(eL:Has P w K mg base 1 "common_divisor" ["one","other"] iP):Has P w K mg base 2 "lowest" ["top","bottom"] eG:=by
 refine D.has fun f fd F=>F.ok No (fun vs H Q E h=>?_) (fun cdv A outer s H vs Q E hr h=>?_)
 ·obtain⟨a,b,rfl,_⟩:=h
  rfl
 ·obtain⟨p,q,rfl,hq,hlog,k⟩:=h
  have sc:=No
  refine⟨_,(Z9 (Zi (i:=2) sc.nd rfl (Or.inl rfl) (Ze eL hr (Z0 (pv 0) (Z0 (pv 1) Z8))))
   (Z9 (X4 (Yd (Zn Tv (pv 1) Za (Zt _))
    (Zc (Zi (i:=2) sc.nd rfl (Or.inl rfl) (U0 Wp (pv 2))))
    Zu))
   (Zc (Zj (Yf (Z0 (Zl W6 (pv 0) (pv 2)) (Z0 (Zl W6 (pv 1) (pv 2)) Z8))))))),?_⟩
  refine⟨_,rfl,_,rfl,_,_,rfl,?_⟩
  refine⟨fun σ H'=>H'=H/\σ=[some (.int p),some (.int q),some (.int (sg p q))],?_,?_⟩
  ·refine⟨_,rfl,_,_,rfl,rfl,_,rfl,?_⟩
   refine Xd (fun h=>?_) (fun h=>?_)
   ·have h':q<0:=of_decide_eq_true h
    refine⟨_,rfl,_,rfl,rfl,?_⟩
    have e:sg p q=-((Int.gcd p q:Nat):Int):=by unfold sg gI;rw[if_pos h']
    rw[e]
    rfl
   ·have h':¬ q<0:=fun z=>h (decide_eq_true z)
    refine⟨rfl,?_⟩
    have e:sg p q=((Int.gcd p q:Nat):Int):=by unfold sg gI;rw[if_neg h']
    rw[e]
    rfl
  ·rintro σ H' ⟨rfl,rfl⟩
   refine⟨_,rfl,_,rfl,_,_,rfl,rfl,⟨Qj hq,Pg hq hlog⟩,_,rfl,_,rfl,_,_,rfl,rfl,⟨Qj hq,Pg hq hlog⟩,sz2,fun a ha=>?_⟩
   exact k a _ ha (Same.new ha) Zb
def fK (K:W.Frag)(op:Rat->Rat->Rat):Sp:=fun vs H Q _=>∃ (a b:Addr) (r s:Rat) (n:Nat),vs=[.ref a,.ref b]/\SqT K H a [.int r.1,.int r.2]/\SqT K H b [.int s.1,.int s.2]/\Good n r/\Good n s/\n<=4000 ∧
 ∀ c H',H c=none->Same H H'->H' c=some (.tup [.int (op r s).1,.int (op r s).2])->Q (.ref c) H'
theorem Uo {n:Nat}{x y:Int}(h:Bd n x)(k:Bd n y)(hn:n<=4000):(x*y).natAbs.log2<9000:=Bd.log (h.mul k) (by omega)
theorem Kv:FnScope ["_law_one","_law_other"] ["_law_one","_law_other"] (defScope lU):=fsc
abbrev Z3 (P:Program)(w:World)(K:W.Frag)(mg:Str->Option Value)(base:Heap):Prop:=Has P w K mg base 3 "_law_plus" ["_law_one","_law_other"] (fK K addR)
theorem Z0w (D:Def K mg "_law_plus" lU ["_law_one","_law_other"])(eE:Z2 P w K mg base):Z3 P w K mg base:=by
 refine D.has fun f fd F=>F.ok Kv (fun vs H Q E h=>?_) (fun cdv A outer s H vs Q E hr h=>?_)
 ·obtain⟨a,b,r,s,n,rfl,_⟩:=h
  rfl
 ·obtain⟨a,b,r,s,n,rfl,hA,hB,gr,gs,hn,k⟩:=h
  have sc:=Kv
  refine⟨_,(Zc (Zj (Ze eE hr (Z0 (Zl Yt (Zl Zx (Zh Xj (pv 0) Za (fun _ _=>rfl)) (Zh X7 (pv 1) Za (fun _ _=>rfl))) (Zl Zx (Zh Xj (pv 1) Za (fun _ _=>rfl)) (Zh X7 (pv 0) Za (fun _ _=>rfl)))) (Z0 (Zl Zx (Zh X7 (pv 0) Za (fun _ _=>rfl)) (Zh X7 (pv 1) Za (fun _ _=>rfl))) Z8))))),?_⟩
  exact⟨_,rfl,_,_,_,rfl,rfl,hA,_,rfl,_,_,_,rfl,rfl,hB,_,_,rfl,rfl,gr.b1.mulOk gs.b2 (by omega) (by omega),_,rfl,_,_,_,rfl,rfl,hB,_,rfl,_,_,_,rfl,rfl,hA,_,_,rfl,rfl,gs.b1.mulOk gr.b2 (by omega) (by omega),_,_,rfl,rfl,_,rfl,_,_,_,rfl,rfl,hA,_,rfl,_,_,_,rfl,rfl,hB,_,_,rfl,rfl,gr.b2.mulOk gs.b2 (by omega) (by omega),_,_,rfl,Xp gr.pos gs.pos,Uo gr.b2 gs.b2 hn,k⟩
theorem Nt:FnScope ["_law_one","_law_other"] ["_law_one","_law_other"] (defScope lC):=fsc
abbrev Z7 (P:Program)(w:World)(K:W.Frag)(mg:Str->Option Value)(base:Heap):Prop:=Has P w K mg base 3 "_law_minus" ["_law_one","_law_other"] (fK K subR)
theorem C9 (D:Def K mg "_law_minus" lC ["_law_one","_law_other"])(eE:Z2 P w K mg base):Z7 P w K mg base:=by
 refine D.has fun f fd F=>F.ok Nt (fun vs H Q E h=>?_) (fun cdv A outer s H vs Q E hr h=>?_)
 ·obtain⟨a,b,r,s,n,rfl,_⟩:=h
  rfl
 ·obtain⟨a,b,r,s,n,rfl,hA,hB,gr,gs,hn,k⟩:=h
  have sc:=Nt
  refine⟨_,(Zc (Zj (Ze eE hr (Z0 (Zl U5 (Zl Zx (Zh Xj (pv 0) Za (fun _ _=>rfl)) (Zh X7 (pv 1) Za (fun _ _=>rfl))) (Zl Zx (Zh Xj (pv 1) Za (fun _ _=>rfl)) (Zh X7 (pv 0) Za (fun _ _=>rfl)))) (Z0 (Zl Zx (Zh X7 (pv 0) Za (fun _ _=>rfl)) (Zh X7 (pv 1) Za (fun _ _=>rfl))) Z8))))),?_⟩
  exact⟨_,rfl,_,_,_,rfl,rfl,hA,_,rfl,_,_,_,rfl,rfl,hB,_,_,rfl,rfl,gr.b1.mulOk gs.b2 (by omega) (by omega),_,rfl,_,_,_,rfl,rfl,hB,_,rfl,_,_,_,rfl,rfl,hA,_,_,rfl,rfl,gs.b1.mulOk gr.b2 (by omega) (by omega),_,_,rfl,rfl,_,rfl,_,_,_,rfl,rfl,hA,_,rfl,_,_,_,rfl,rfl,hB,_,_,rfl,rfl,gr.b2.mulOk gs.b2 (by omega) (by omega),_,_,rfl,Xp gr.pos gs.pos,Uo gr.b2 gs.b2 hn,k⟩
theorem Nr:FnScope ["_law_one","_law_other"] ["_law_one","_law_other"] (defScope k9):=fsc
abbrev Z6 (P:Program)(w:World)(K:W.Frag)(mg:Str->Option Value)(base:Heap):Prop:=Has P w K mg base 3 "_law_times" ["_law_one","_law_other"] (fK K mulR')
theorem C8 (D:Def K mg "_law_times" k9 ["_law_one","_law_other"])(eE:Z2 P w K mg base):Z6 P w K mg base:=by
 refine D.has fun f fd F=>F.ok Nr (fun vs H Q E h=>?_) (fun cdv A outer s H vs Q E hr h=>?_)
 ·obtain⟨a,b,r,s,n,rfl,_⟩:=h
  rfl
 ·obtain⟨a,b,r,s,n,rfl,hA,hB,gr,gs,hn,k⟩:=h
  have sc:=Nr
  refine⟨_,(Zc (Zj (Ze eE hr (Z0 (Zl Zx (Zh Xj (pv 0) Za (fun _ _=>rfl)) (Zh Xj (pv 1) Za (fun _ _=>rfl))) (Z0 (Zl Zx (Zh X7 (pv 0) Za (fun _ _=>rfl)) (Zh X7 (pv 1) Za (fun _ _=>rfl))) Z8))))),?_⟩
  exact⟨_,rfl,_,_,_,rfl,rfl,hA,_,rfl,_,_,_,rfl,rfl,hB,_,_,rfl,rfl,gr.b1.mulOk gs.b1 (by omega) (by omega),_,rfl,_,_,_,rfl,rfl,hA,_,rfl,_,_,_,rfl,rfl,hB,_,_,rfl,rfl,gr.b2.mulOk gs.b2 (by omega) (by omega),_,_,rfl,Xp gr.pos gs.pos,Uo gr.b2 gs.b2 hn,k⟩
end
section
variable {K:W.Frag}{H:Hp}{Q:VK}{a b:Addr}{rs ss:List Rat}
theorem RowAt.same {H':Hp}(h:RowAt K H a rs)(S:Same H H'):RowAt K H' a rs:=h.ext (Ext.same S)
end
theorem Z3k {z m:Int}(h0:0<=z)(h1:z<m):∃ i:Nat,z=(i:Int)/\(i:Int)<m:=⟨z.toNat,by omega,by omega⟩
theorem Z18 {c:Nat}(h:c<=1000):(c:Int).natAbs.log2<9000:=by
 have e:(c:Int).natAbs=c:=by omega
 rw[e]
 rcases Nat.eq_zero_or_pos c with z | z
 ·subst z;decide
 ·exact Nat.lt_of_le_of_lt (Nat.log2_le_self c) (by omega)
theorem bdS {n:Nat}{x:Int}(h:x.natAbs<2 ^ n):Bd n x:=h
section
variable {P:Program}{w:World}{K:W.Frag}{mg:Str->Option Value}{base:Heap}
theorem Qm:FnScope ["value"] ["value"] (defScope kS):=fsc
theorem Gh (D:Def K mg "is_whole" kS ["value"])(T:Blt mg):Has P w K mg base 1 "is_whole" ["value"] eX:=by
 refine D.has fun f fd F=>F.ok Qm (fun vs H Q E h=>?_) (fun cdv A outer s H vs Q E hr h=>?_)
 ·obtain⟨i,rfl,_⟩:=h
  rfl
 ·obtain⟨i,rfl,q⟩:=h
  have sc:=Qm
  refine⟨_,(Zc (Zj (Lv (Zz Xy rfl T.isinstance PyProof.Rows.boot_isinstance (Z0 (pv 0) (Z0 (Qr T.int PyProof.Rows.boot_int) Z8))) (Pl (Dt (Zz Xy rfl T.isinstance PyProof.Rows.boot_isinstance (Z0 (pv 0) (Z0 (Qr T.bool PyProof.Rows.boot_bool) Z8)))))))),?_⟩
  refine⟨_,rfl,_,_,_,_,rfl,TyOf.int i,Uq,_,rfl,Ti ?_⟩
  exact⟨_,rfl,_,_,_,_,rfl,TyOf.int i,Ur,_,rfl,q⟩
theorem Nm:FnScope ["top","bottom"] ["top","bottom"] (defScope kX):=fsc
theorem C3 (D:Def K mg "ratio" kX ["top","bottom"])(fG:Has P w K mg base 1 "is_whole" ["value"] eX)(fD:Has P w K mg base 2 "lowest" ["top","bottom"] eG):Has P w K mg base 3 "ratio" ["top","bottom"] eG:=by
 refine D.has fun f fd F=>F.ok Nm (fun vs H Q E h=>?_) (fun cdv A outer s H vs Q E hr h=>?_)
 ·obtain⟨p,q,rfl,_⟩:=h
  rfl
 ·obtain⟨p,q,rfl,hq,hlog,k⟩:=h
  have sc:=Nm
  refine⟨_,(Z9 (Yd (PW.pt (Vl (Wv (Xm (Ze fG hr (Z0 (pv 0) Z8)))) (Vb (Wv (Xm (Ze fG hr (Z0 (pv 1) Z8)))))))
    (Zc Rb)
    Zu)
   (Z9 (Yd (Zn W0 (pv 1) Za (Zt _))
    (Zc Rb)
    Zu)
   (Zc (Zj (Ze fD hr (Z0 (pv 0) (Z0 (pv 1) Z8))))))),?_⟩
  refine⟨_,rfl,p,rfl,_,rfl,Wf ⟨_,rfl,q,rfl,_,rfl,Wf ?_⟩⟩
  refine⟨_,rfl,rfl,_,rfl,Qz (fun z=>hq (V.int.inj z)) ?_⟩
  exact⟨_,rfl,_,rfl,p,q,rfl,hq,hlog,k⟩
end
def fldsT (a b c d e:V):List (Str × V):=putF "lack" e (putF "bottom" d (putF "heads" c (putF "owners" b (putF "lines" a []))))
section
variable {a b c d e:V}
theorem Xx:(fldsT a b c d e).lookup ("lines":Str)=some a:=by
 unfold fldsT
 rw[Y3,if_neg (by decide +kernel),Y3,if_neg (by decide +kernel),Y3,if_neg (by decide +kernel),Y3,if_neg (by decide +kernel),Y3,if_pos rfl]
theorem X6:(fldsT a b c d e).lookup ("owners":Str)=some b:=by
 unfold fldsT
 rw[Y3,if_neg (by decide +kernel),Y3,if_neg (by decide +kernel),Y3,if_neg (by decide +kernel),Y3,if_pos rfl]
theorem V6:(fldsT a b c d e).lookup ("heads":Str)=some c:=by
 unfold fldsT
 rw[Y3,if_neg (by decide +kernel),Y3,if_neg (by decide +kernel),Y3,if_pos rfl]
theorem V7:(fldsT a b c d e).lookup ("bottom":Str)=some d:=by
 unfold fldsT
 rw[Y3,if_neg (by decide +kernel),Y3,if_pos rfl]
theorem N5:(fldsT a b c d e).lookup ("lack":Str)=some e:=by
 unfold fldsT
 rw[Y3,if_pos rfl]
end
def ownI (m:Nat)(T:Sv.Tab):List Int:=(List.range m).map fun i=>(T.own i:Int)
def hdI (n:Nat)(T:Sv.Tab):List Int:=(List.range n).map fun j=>(T.hd j:Int)
def lineI (n:Nat)(T:Sv.Tab)(i:Nat):List Int:=(List.range (n+1)).map fun j=>T.L i j
theorem Ve {m:Nat}{T:Sv.Tab}{i:Nat}(h:i<m):(ownI m T)[i]?=some (T.own i:Int):=by unfold ownI;simp[h]
theorem U8 {n:Nat}{T:Sv.Tab}{j:Nat}(h:j<n):(hdI n T)[j]?=some (T.hd j:Int):=by unfold hdI;simp[h]
theorem Xw {n:Nat}{T:Sv.Tab}{i j:Nat}(h:j<=n):(lineI n T i)[j]?=some (T.L i j):=by unfold lineI;simp[show j<n+1 by omega]
theorem Vn (m:Nat)(T:Sv.Tab):(ownI m T).length=m:=by unfold ownI;simp
theorem Vi (n:Nat)(T:Sv.Tab):(hdI n T).length=n:=by unfold hdI;simp
theorem Yn (n:Nat)(T:Sv.Tab)(i:Nat):(lineI n T i).length=n+1:=by unfold lineI;simp
theorem X8 {xs:List Int}{i:Nat}{z:Int}(h:xs[i]?=some z):(xs.map V.int)[i]?=some (V.int z):=by rw[List.getElem?_map,h];rfl
def TabAt (C:Addr)(H:Hp)(p:Addr)(m n lk:Nat)(T:Sv.Tab):Prop:=∃ (dx la oa ha:Addr) (las:List Addr),H p=some (.ins C dx (fldsT (.ref la) (.ref oa) (.ref ha) (.int T.b) (.int (lk:Int))))/\H la=some (.lst (las.map V.ref))/\las.length=m ∧
 (∀ (i:Nat) (a:Addr),las[i]?=some a->H a=some (.lst ((lineI n T i).map V.int)))/\H oa=some (.lst ((ownI m T).map V.int))/\H ha=some (.lst ((hdI n T).map V.int))
theorem TabAt.same {C:Addr}{H H':Hp}{p:Addr}{m n lk:Nat}{T:Sv.Tab}(h:TabAt C H p m n lk T)(S:Same H H'):TabAt C H' p m n lk T:=by
 obtain⟨dx,la,oa,ha,las,h1,h2,h3,h4,h5,h6⟩:=h
 exact⟨dx,la,oa,ha,las,S _ _ h1,S _ _ h2,h3,fun i a e=>S _ _ (h4 i a e),S _ _ h5,S _ _ h6⟩
structure TabOk (m n:Nat)(T:Sv.Tab):Prop where
 oi:∀ i k,i<m->k<m->T.own i=T.own k->i=k
 hi:∀ i k,i<n->k<n->T.hd i=T.hd k->i=k
 ne:∀ i j,i<m->j<n->T.own i≠T.hd j
theorem TabOk.of {m n:Nat}{col:Nat->Sv.Vec}{rhs:Sv.Vec}{T:Sv.Tab}(I:Sv.Inv m n col rhs T):TabOk m n T:=⟨fun _ _ h1 h2 e=>I.ownInj h1 h2 e,fun _ _ h1 h2 e=>I.hdInj h1 h2 e,fun _ _ h1 h2=>I.ne h1 h2⟩
structure TabC (K:W.Frag)(mg:Str->Option Value)(C:Addr):Prop where
 cl:Cls K C
 nL:NoAttr K C "lines"
 nO:NoAttr K C "owners"
 nH:NoAttr K C "heads"
 nB:NoAttr K C "bottom"
 nK:NoAttr K C "lack"
 mgC:mg "Table"=some (.ref C)
theorem Px {K:W.Frag}{H:Hp}{a:Addr}{ns:List Int}{z:Int}{Q:VK}(h:H a=some (.lst (ns.map V.int)))(q:Q (.bl (decide (z∈ns))) H):rIn K false (.int z) (.ref a) H Q:=by
 refine⟨a,_,rfl,.inl (SqL.of h),rfl,Tm _,?_⟩
 show Q (.bl (inV (.int z) (ns.map V.int))) H
 rw[Q1]
 exact q
theorem mem_ownI {m v:Nat}{T:Sv.Tab}:((v:Int)∈ownI m T) ↔ ∃ i,i<m/\T.own i=v:=by
 unfold ownI
 simp only [List.mem_map,List.mem_range]
 constructor
 ·rintro ⟨i,hi,e⟩
  exact⟨i,hi,by omega⟩
 ·rintro ⟨i,hi,e⟩
  exact⟨i,hi,by omega⟩
theorem mem_hdI {n v:Nat}{T:Sv.Tab}:((v:Int)∈hdI n T) ↔ ∃ i,i<n/\T.hd i=v:=by
 unfold hdI
 simp only [List.mem_map,List.mem_range]
 constructor
 ·rintro ⟨i,hi,e⟩
  exact⟨i,hi,by omega⟩
 ·rintro ⟨i,hi,e⟩
  exact⟨i,hi,by omega⟩
section
variable {P:Program}{w:World}{K:W.Frag}{mg:Str->Option Value}{base:Heap}{C:Addr}
def eZ (C:Addr):Sp:=fun vs H Q _=>∃ (p:Addr) (m n lk i:Nat) (T:Sv.Tab),vs=[.ref p,.int (T.own i:Int)]/\TabAt C H p m n lk T/\TabOk m n T/\i<m/\m<=1000/\∀ a,H a=some (.lst ((lineI n T i).map V.int))->Q (.ref a) H
theorem Nq:FnScope ["table","owner"] ["table","owner"] (defScope kZ):=fsc
theorem C7 (D:Def K mg "line_of" kZ ["table","owner"])(tc:TabC K mg C):Has P w K mg base 1 "line_of" ["table","owner"] (eZ C):=by
 refine D.has fun f fd F=>F.ok Nq (fun vs H Q E h=>?_) (fun cdv A outer s H vs Q E hr h=>?_)
 ·obtain⟨p,m,n,lk,i,T,rfl,_⟩:=h
  rfl
 ·obtain⟨p,m,n,lk,i,T,rfl,⟨dx,la,oa,ha,las,h1,h2,h3,h4,h5,h6⟩,ok,hi,hm,k⟩:=h
  have sc:=Nq
  refine⟨_,(Zc (Zj (Zh Y2 (Yh (pv 0) rfl) (Wj PySem.F.plainAttrs_list PySem.F.slot_list_index PySem.F.type_list_index (Rn (K:=K)) (Yh (pv 0) rfl) (Z0 (pv 1) Z8)) (fun _ _=>rfl)))),?_⟩
  have ea:las[i]?=some (las[i]'(by omega)):=by simp
  refine⟨_,rfl,p,C,dx,_,_,rfl,h1,tc.cl,tc.nL,Xx,_,rfl,p,C,dx,_,_,rfl,h1,tc.cl,tc.nO,X6,.inl ⟨rfl,_,SqL.of h5⟩,_,rfl,?_⟩
  refine⟨oa,ownI m T,_,i,rfl,rfl,SqL.of h5,Ve hi,fun k hk e=>?_,by rw[Vn];exact hm,?_⟩
  ·rw[Ve (by omega)] at e
   have:=ok.oi k i (by omega) hi (by have:=Option.some.inj e;omega)
   omega
  ·exact⟨la,_,_,_,rfl,rfl,SqL.of h2,Zg (by rw[List.getElem?_map,ea];rfl),k _ (h4 i _ ea)⟩
def iA (C:Addr):Sp:=fun vs H Q _=>∃ (p:Addr) (m n lk v:Nat) (T:Sv.Tab),vs=[.ref p,.int (v:Int)]/\TabAt C H p m n lk T/\TabOk m n T/\m<=1000/\n<=1000/\Q (.int (Sv.endOf m n T v)) H
theorem TabOk.endO {m n:Nat}{T:Sv.Tab}(h:TabOk m n T){i:Nat}(hi:i<m):Sv.endOf m n T (T.own i)=T.L i n:=by
 unfold Sv.endOf
 rw[Sv.sm_one (k:=i) hi fun k hk hne=>if_neg fun z=>hne (h.oi k i hk hi z),if_pos rfl]
theorem TabOk.numH {m n:Nat}{T:Sv.Tab}(h:TabOk m n T){i j:Nat}(hj:j<n):Sv.numAt n T i (T.hd j)=T.L i j:=by
 unfold Sv.numAt
 rw[Sv.sm_one (k:=j) hj fun k hk hne=>if_neg fun z=>hne (h.hi k j hk hj z),if_pos rfl]
theorem Nf {n:Nat}{T:Sv.Tab}{i:Nat}:atI ((lineI n T i).map V.int) (-1)=some (V.int (T.L i n)):=by
 unfold atI ixN
 rw[List.length_map,Yn,if_neg (by decide),if_pos (by omega)]
 show ((lineI n T i).map V.int)[(-1+((n+1:Nat):Int)).toNat]?=_
 have:(-1+((n+1:Nat):Int)).toNat=n:=by omega
 rw[this]
 exact X8 (Xw (Nat.le_refl n))
theorem J0:FnScope ["table","thing"] ["table","thing"] (defScope l6):=fsc
theorem Z11 (D:Def K mg "end_of" l6 ["table","thing"])(tc:TabC K mg C)(fE:Has P w K mg base 1 "line_of" ["table","owner"] (eZ C)):Has P w K mg base 2 "end_of" ["table","thing"] (iA C):=by
 refine D.has fun f fd F=>F.ok J0 (fun vs H Q E h=>?_) (fun cdv A outer s H vs Q E hr h=>?_)
 ·obtain⟨p,m,n,lk,v,T,rfl,_⟩:=h
  rfl
 ·obtain⟨p,m,n,lk,v,T,rfl,tab,ok,hm,hn,q⟩:=h
  obtain⟨dx,la,oa,ha,las,h1,h2,h3,h4,h5,h6⟩:=id tab
  have sc:=J0
  refine⟨_,(Zc (Zj (Vm (Zn W7 (pv 1) (Yh (pv 0) rfl) rfl) (Zh Y2 (Ze fE hr (Z0 (pv 0) (Z0 (pv 1) Z8))) (U0 Wp Za) (fun _ _=>rfl)) Za))),?_⟩
  refine⟨_,rfl,_,rfl,p,C,dx,_,_,rfl,h1,tc.cl,tc.nO,X6,Px h5 ⟨_,rfl,?_⟩⟩
  refine Xd (fun h=>?_) (fun h=>?_)
  ·obtain⟨i,hi,e⟩:=mem_ownI.mp (of_decide_eq_true h)
   subst e
   refine⟨_,rfl,_,rfl,p,m,n,lk,i,T,rfl,tab,ok,hi,hm,fun a ea=>⟨_,rfl,?_⟩⟩
   refine⟨a,_,_,_,rfl,rfl,SqL.of ea,Nf,?_⟩
   rw[ok.endO hi] at q
   exact q
  ·have:Sv.endOf m n T v=0:=Sv.sm_zero fun i hi=>if_neg fun z=>h (decide_eq_true (mem_ownI.mpr ⟨i,hi,z⟩))
   rw[this] at q
   exact q
def gX (C:Addr):Sp:=fun vs H Q _=>∃ (p:Addr) (m n lk i v:Nat) (T:Sv.Tab),vs=[.ref p,.int (T.own i:Int),.int (v:Int)]/\TabAt C H p m n lk T/\TabOk m n T/\i<m/\m<=1000/\n<=1000/\Q (.int (Sv.numAt n T i v)) H
theorem Kq:FnScope ["table","owner","thing"] ["table","owner","thing"] (defScope kI):=fsc
theorem Z0r (D:Def K mg "number_at" kI ["table","owner","thing"])(tc:TabC K mg C)(fE:Has P w K mg base 1 "line_of" ["table","owner"] (eZ C)):Has P w K mg base 2 "number_at" ["table","owner","thing"] (gX C):=by
 refine D.has fun f fd F=>F.ok Kq (fun vs H Q E h=>?_) (fun cdv A outer s H vs Q E hr h=>?_)
 ·obtain⟨p,m,n,lk,i,v,T,rfl,_⟩:=h
  rfl
 ·obtain⟨p,m,n,lk,i,v,T,rfl,tab,ok,hi,hm,hn,q⟩:=h
  obtain⟨dx,la,oa,ha,las,h1,h2,h3,h4,h5,h6⟩:=id tab
  have sc:=Kq
  refine⟨_,(Zc (Zj (Vm (Zn W7 (pv 2) (Yh (pv 0) rfl) rfl) (Zh Y2 (Ze fE hr (Z0 (pv 0) (Z0 (pv 1) Z8))) (Wj PySem.F.plainAttrs_list PySem.F.slot_list_index PySem.F.type_list_index (Rn (K:=K)) (Yh (pv 0) rfl) (Z0 (pv 2) Z8)) (fun _ _=>rfl)) Za))),?_⟩
  refine⟨_,rfl,_,rfl,p,C,dx,_,_,rfl,h1,tc.cl,tc.nH,V6,Px h6 ⟨_,rfl,?_⟩⟩
  refine Xd (fun h=>?_) (fun h=>?_)
  ·obtain⟨j,hj,e⟩:=mem_hdI.mp (of_decide_eq_true h)
   subst e
   refine⟨_,rfl,_,rfl,p,m,n,lk,i,T,rfl,tab,ok,hi,hm,fun a ea=>?_⟩
   refine⟨_,rfl,p,C,dx,_,_,rfl,h1,tc.cl,tc.nH,V6,.inl ⟨rfl,_,SqL.of h6⟩,_,rfl,ha,hdI n T,_,j,rfl,rfl,SqL.of h6,U8 hj,fun k hk e=>?_,by rw[Vi];exact hn,?_⟩
   ·rw[U8 (by omega)] at e
    have:=ok.hi k j (by omega) hj (by have:=Option.some.inj e;omega)
    omega
   ·refine⟨a,_,_,_,rfl,rfl,SqL.of ea,Zg (X8 (Xw (Nat.le_of_lt hj))),?_⟩
    rw[ok.numH hj] at q
    exact q
  ·have:Sv.numAt n T i v=0:=Sv.sm_zero fun j hj=>if_neg fun z=>h (decide_eq_true (mem_hdI.mpr ⟨j,hj,z⟩))
   rw[this] at q
   exact q
def helps (lk:Nat)(T:Sv.Tab)(i j:Nat):Bool:=decide (0<T.L i j) && !decide (T.hd j=lk)
def foundI (n lk:Nat)(T:Sv.Tab)(i:Nat):List Int:=((List.range n).filter fun j=>helps lk T i j).map fun j=>(T.hd j:Int)
theorem Tz (n lk:Nat)(T:Sv.Tab)(i:Nat):foundI (n+1) lk T i=foundI n lk T i++if helps lk T i n then [(T.hd n:Int)] else []:=by
 unfold foundI
 rw[List.range_succ,List.filter_append,List.map_append]
 congr 1
 cases h:helps lk T i n <;> simp[h]
def fV (C:Addr):Sp:=fun vs H Q _=>∃ (p:Addr) (m n lk i:Nat) (T:Sv.Tab),vs=[.ref p,.int (T.own i:Int)]/\TabAt C H p m n lk T/\TabOk m n T/\i<m/\m<=1000/\n<=1000 ∧
 ∀ H',Same H H'->(∀ c,c<n->helps lk T i c=true->(∀ j,j<n->helps lk T i j=true->T.hd c<=T.hd j)->Q (.int (c:Int)) H')/\((∀ j,j<n->helps lk T i j=false)->Q .non H')
theorem Qn:FnScope ["table","owner","found"] ["table","owner"] (defScope kT):=fsc
theorem Gi (D:Def K mg "helping" kT ["table","owner"])(T0:Blt mg)(tc:TabC K mg C)(fE:Has P w K mg base 1 "line_of" ["table","owner"] (eZ C)):Has P w K mg base 2 "helping" ["table","owner"] (fV C):=by
 refine D.has fun f fd F=>F.ok Qn (fun vs H Q E h=>?_) (fun cdv A outer s H vs Q E hr h=>?_)
 ·obtain⟨p,m,n,lk,i,T,rfl,_⟩:=h
  rfl
 ·obtain⟨p,m,n,lk,i,Tb,rfl,tab,ok,hi,hm,hn,k⟩:=h
  obtain⟨dx,la,oa,ha,las,h1,h2,h3,h4,h5,h6⟩:=id tab
  have sc:=Qn
  have T:=T0
  have nd1:(["head","number","table"]:List Str).Nodup:=by decide +kernel
  refine⟨_,(Z9 (W5 (i:=2) (N:=["head","number","table"]) (k:=2) (fv:=[0]) sc.nd rfl (Or.inl rfl) rfl (Pk rfl T.zip (Z0 (Yh (pv 0) rfl) (Z0 (Ze fE hr (Z0 (pv 0) (Z0 (pv 1) Z8))) Z8)))
   (fun _ _ _ _ _=>Ww (n:=2) rfl (Yb (Zk (i:=0) nd1 rfl (Or.inl rfl)) (Yb (Zk (i:=1) nd1 rfl (Or.inl rfl)) Xt))) (fun _ _ _ _ _=>J9 (PW.pt (Dm (Zn Rj (pv 1) Za (Zt _)) (J8 (Zn Qu (pv 0) (Pm (K:=K) (pv 2) rfl) (Zt _)))))) (fun _ _ _ _ _=>(pv 0)) Wy)
   (Zc (Zj (Vm (Dn (pv 2) (fun _=>rfl)) (Wj PySem.F.plainAttrs_list PySem.F.slot_list_index PySem.F.type_list_index (Rn (K:=K)) (Yh (pv 0) rfl) (Z0 (Zz (Fi (K:=K) rfl) rfl T.min PyProof.Rows.boot_min (Z0 (pv 2) Z8)) Z8)) Yr)))),?_⟩
  refine⟨_,rfl,p,C,dx,_,_,rfl,h1,tc.cl,tc.nH,V6,_,rfl,_,rfl,p,m,n,lk,i,Tb,rfl,tab,ok,hi,hm,fun a ea=>?_⟩
  refine⟨ha,a,rfl,⟨_,SqL.of h6⟩,⟨_,SqL.of ea⟩,fun d hd=>?_⟩
  refine⟨n,fun j ys H2=>Same H H2/\ys=(foundI j lk Tb i).map V.int,Zp hn,⟨Same.new hd,rfl⟩,?_,?_⟩
  ·rintro j ys H2 hj ⟨S2,rfl⟩ hd2
   refine⟨⟨_,_,SqL.of (S2 _ _ h6),SqL.of (S2 _ _ ea),by rw[List.length_map,Vi];exact hj,by rw[List.length_map,Yn];omega⟩,?_⟩
   rintro x H3 ⟨pp,x0,y0,rfl,hp,rfl,fx,fy⟩
   have ex:x0=V.int (Tb.hd j:Int):=by
    have:=fx _ (SqL.of (S2 _ _ h6))
    rw[X8 (U8 hj)] at this
    exact (Option.some.inj this).symm
   have ey:y0=V.int (Tb.L i j):=by
    have:=fy _ (SqL.of (S2 _ _ ea))
    rw[X8 (Xw (Nat.le_of_lt hj))] at this
    exact (Option.some.inj this).symm
   subst ex ey
   have S3:Same H2 (upd H2 pp (.tup [.int (Tb.hd j:Int),.int (Tb.L i j)])):=Same.new hp
   have hd3:=S3 _ _ hd2
   have up:∀ zs,Same H (upd (upd H2 pp (.tup [.int (Tb.hd j:Int),.int (Tb.L i j)])) d (.lst zs)):=fun zs q o e=>by
    rw[Zf (Zd e hd)]
    exact S3 _ _ (S2 _ _ e)
   refine Dw (SqT.of Zb) ?_
   have no:helps lk Tb i j=false->upd H2 pp (.tup [.int (Tb.hd j:Int),.int (Tb.L i j)]) d=some (.lst ((foundI j lk Tb i).map V.int))/\Same H (upd H2 pp (.tup [.int (Tb.hd j:Int),.int (Tb.L i j)]))/\(foundI j lk Tb i).map V.int=(foundI (j+1) lk Tb i).map V.int:=fun e=>by
    refine⟨hd3,S2.trans S3,?_⟩
    rw[Tz,e]
    simp
   refine⟨_,rfl,_,_,rfl,rfl,_,rfl,?_⟩
   refine Xd (fun h=>?_) (fun h=>?_)
   ·have hp1:0<Tb.L i j:=of_decide_eq_true h
    refine⟨_,rfl,_,rfl,p,C,dx,_,_,rfl,S3 _ _ (S2 _ _ h1),tc.cl,tc.nK,N5,rfl,_,rfl,?_⟩
    by_cases hl:Tb.hd j=lk
    ·refine Mo (by rw[hl]) ?_
     exact no (by unfold helps;simp[hl])
    ·refine Qy (fun z=>hl (by have:=V.int.inj z;omega)) ?_
     have e:helps lk Tb i j=true:=by unfold helps;simp[hl,hp1]
     refine⟨_,rfl,hd3,up _,?_⟩
     rw[Tz,e,List.map_append]
     rfl
   ·have hp1:¬ 0<Tb.L i j:=fun z=>h (decide_eq_true z)
    exact no (by unfold helps;simp[hp1])
  ·rintro ys H2 ⟨S2,rfl⟩ hd2
   refine⟨⟨_,_,SqL.of (S2 _ _ h6),SqL.of (S2 _ _ ea),by rw[List.length_map,Vi]⟩,?_⟩
   obtain⟨k1,k0⟩:=k H2 S2
   have memf:∀ z,z∈foundI n lk Tb i ↔ ∃ j,j<n/\helps lk Tb i j=true/\(Tb.hd j:Int)=z:=fun z=>by
    unfold foundI
    simp only [List.mem_map,List.mem_filter,List.mem_range]
    constructor
    ·rintro ⟨j,⟨hj,hh⟩,e⟩
     exact⟨j,hj,hh,e⟩
    ·rintro ⟨j,hj,hh,e⟩
     exact⟨j,⟨hj,hh⟩,e⟩
   refine⟨_,rfl,!((foundI n lk Tb i).map V.int).isEmpty,?_,?_⟩
   ·exact .inl ⟨_,SqL.of hd2,rfl⟩
   ·refine Xd (fun h=>?_) (fun h=>?_)
    ·have hne:foundI n lk Tb i≠[]:=fun z=>by rw[z] at h;simp at h
     refine⟨_,rfl,p,C,dx,_,_,rfl,S2 _ _ h1,tc.cl,tc.nH,V6,.inl ⟨rfl,_,SqL.of (S2 _ _ h6)⟩,_,rfl,d,_,rfl,SqL.of hd2,hne,fun M hM hle=>?_⟩
     obtain⟨c,hc,hh,rfl⟩:=(memf M).mp hM
     refine⟨ha,hdI n Tb,_,c,rfl,rfl,SqL.of (S2 _ _ h6),U8 hc,fun k hk e=>?_,by rw[Vi];exact hn,?_⟩
     ·rw[U8 (by omega)] at e
      have:=ok.hi k c (by omega) hc (by have:=Option.some.inj e;omega)
      omega
     ·exact k1 c hc hh fun j hj hj2=>by
       have:=hle _ ((memf _).mpr ⟨j,hj,hj2,rfl⟩)
       omega
    ·refine k0 fun j hj=>?_
     cases e:helps lk Tb i j with
     | false=>rfl
     | true =>
      exfalso
      have:=(memf _).mpr ⟨j,hj,e,rfl⟩
      apply h
      cases q:foundI n lk Tb i with
      | nil=>rw[q] at this;cases this
      | cons=>rfl
end
open Sv (sm Y5 Wq X2 sm_zero Ya Y1 Uc)
theorem Yz {n:Nat}{x:Int}(m:Nat)(h:x.natAbs<2 ^ m)(k:m<=n):Bd n x:=Bd.mono (m:=m) h k
theorem Py {n:Nat}{Zs:List Int}(h:∀ z∈Zs,Bd n z)(k:Nat):Bd n (Zs.getD k 0):=by
 simp only [List.getD]
 cases e:Zs[k]? with
 | none=>exact bd0 n
 | some z=>exact h z (List.mem_of_getElem? e)
end Sb
namespace Sb
open PySem L2
structure TabBd (N m n:Nat)(T:Sv.Tab):Prop where
 l:∀ i j,i<m->j<=n->Bd N (T.L i j)
 b:Bd N T.b
theorem Jo {a b c x y z:Int}(hy:0<y)(hx:0<x)(hz:0<z)(h1:a*y<=b*x)(h2:b*z<=c*y):a*z<=c*x:=by
 have e1:a*y*z<=b*x*z:=Int.mul_le_mul_of_nonneg_right h1 (by omega)
 have e2:b*z*x<=c*y*x:=Int.mul_le_mul_of_nonneg_right h2 (by omega)
 have:y*(a*z)<=y*(c*x):=by
  have f1:y*(a*z)=a*y*z:=by grind
  have f2:y*(c*x)=c*y*x:=by grind
  have f3:b*x*z=b*z*x:=by grind
  omega
 exact Int.le_of_mul_le_mul_left this hy
theorem Mq {a b c x y z:Int}(hy:0<y)(hx:0<x)(hz:0<z)(h1:a*y<b*x)(h2:b*z<=c*y):a*z<c*x:=by
 have e1:a*y*z<b*x*z:=Int.mul_lt_mul_of_pos_right h1 hz
 have e2:b*z*x<=c*y*x:=Int.mul_le_mul_of_nonneg_right h2 (by omega)
 have:y*(a*z)<y*(c*x):=by
  have f1:y*(a*z)=a*y*z:=by grind
  have f2:y*(c*x)=c*y*x:=by grind
  have f3:b*x*z=b*z*x:=by grind
  omega
 exact Int.lt_of_mul_lt_mul_left this (by omega)
theorem Bf {a b c x y z:Int}(hy:0<y)(hx:0<x)(hz:0<z)(h1:a*y<=b*x)(h2:b*z<c*y):a*z<c*x:=by
 have e1:a*y*z<=b*x*z:=Int.mul_le_mul_of_nonneg_right h1 (by omega)
 have e2:b*z*x<c*y*x:=Int.mul_lt_mul_of_pos_right h2 hx
 have:y*(a*z)<y*(c*x):=by
  have f1:y*(a*z)=a*y*z:=by grind
  have f2:y*(c*x)=c*y*x:=by grind
  have f3:b*x*z=b*z*x:=by grind
  omega
 exact Int.lt_of_mul_lt_mul_left this (by omega)
def Ahead (n c:Nat)(T:Sv.Tab)(a b:Nat):Prop:=T.L a n*T.L b c<T.L b n*T.L a c \/ (T.L a n*T.L b c=T.L b n*T.L a c/\T.own a<=T.own b)
theorem Ahead.trans {n c:Nat}{T:Sv.Tab}{a b k:Nat}(ha:0<T.L a c)(hb:0<T.L b c)(hk:0<T.L k c)(h1:Ahead n c T a b)(h2:Ahead n c T b k):Ahead n c T a k:=by
 rcases h1 with h1 | ⟨h1,o1⟩
 ·rcases h2 with h2 | ⟨h2,_⟩
  ·exact .inl (Mq hb ha hk h1 (by omega))
  ·exact .inl (Mq hb ha hk h1 (by omega))
 ·rcases h2 with h2 | ⟨h2,o2⟩
  ·exact .inl (Bf hb ha hk (by omega) h2)
  ·refine .inr ⟨?_,by omega⟩
   have e1:=Jo hb ha hk (show T.L a n*T.L b c<=T.L b n*T.L a c by omega) (show T.L b n*T.L k c<=T.L k n*T.L b c by omega)
   have e2:=Jo hb hk ha (show T.L k n*T.L b c<=T.L b n*T.L k c by omega) (show T.L b n*T.L a c<=T.L a n*T.L b c by omega)
   omega
def elig (lk c:Nat)(T:Sv.Tab)(k:Nat):Prop:=T.own k<=lk/\0<T.L k c
section
variable {P:Program}{w:World}{K:W.Frag}{mg:Str->Option Value}{base:Heap}{C:Addr}
def goB (n c:Nat)(T:Sv.Tab)(a b:Nat):Bool:=if T.L a n*T.L b c=T.L b n*T.L a c then decide (T.own a<T.own b) else decide (T.L a n*T.L b c<T.L b n*T.L a c)
def iO (C:Addr):Sp:=fun vs H Q _=>∃ (p:Addr) (m n lk c a b N:Nat) (T:Sv.Tab),vs=[.ref p,.int (c:Int),.int (a:Int),.int (b:Int)]/\TabAt C H p m n lk T/\a<m/\b<m/\c<n/\TabBd N m n T/\N<=8000/\Q (.bl (goB n c T a b)) H
theorem D0:FnScope ["table","column","one","other","mine","theirs"] ["table","column","one","other"] (defScope kE):=fsc
theorem Z2l (D:Def K mg "goes_ahead" kE ["table","column","one","other"])(tc:TabC K mg C):Has P w K mg base 1 "goes_ahead" ["table","column","one","other"] (iO C):=by
 refine D.has fun f fd F=>F.ok D0 (fun vs H Q E h=>?_) (fun cdv A outer s H vs Q E hr h=>?_)
 ·obtain⟨p,m,n,lk,c,a,b,N,T,rfl,_⟩:=h
  rfl
 ·obtain⟨p,m,n,lk,c,a,b,N,T,rfl,⟨dx,la,oa,ha,las,h1,h2,h3,h4,h5,h6⟩,hA,hB,hc,bd,hN,q⟩:=h
  have sc:=D0
  refine⟨_,(Z9 (Zi (i:=4) sc.nd rfl (Or.inl rfl) (Zl Zx (Zh Y2 (Zh Y2 (Yh (pv 0) rfl) (pv 2) (fun _ _=>rfl)) (U0 Wp Za) (fun _ _=>rfl)) (Zh Y2 (Zh Y2 (Yh (pv 0) rfl) (pv 3) (fun _ _=>rfl)) (pv 1) (fun _ _=>rfl))))
   (Z9 (Zi (i:=5) sc.nd rfl (Or.inl rfl) (Zl Zx (Zh Y2 (Zh Y2 (Yh (pv 0) rfl) (pv 3) (fun _ _=>rfl)) (U0 Wp Za) (fun _ _=>rfl)) (Zh Y2 (Zh Y2 (Yh (pv 0) rfl) (pv 2) (fun _ _=>rfl)) (pv 1) (fun _ _=>rfl))))
   (Z9 (Yd (Zn W0 (pv 4) (pv 5) (Zt _))
    (Zc (Zj (Vd Tv (Zh Y2 (Yh (pv 0) rfl) (pv 2) (fun _ _=>rfl)) (Zh Y2 (Yh (pv 0) rfl) (pv 3) (fun _ _=>rfl)) (Zt _))))
    Zu)
   (Zc (Zj (Vd Tv (pv 4) (pv 5) (Zt _))))))),?_⟩
  have ea:las[a]?=some (las[a]'(by omega)):=by simp
  have eb:las[b]?=some (las[b]'(by omega)):=by simp
  have la':=h4 a _ ea
  have lb':=h4 b _ eb
  have va:(las.map V.ref)[a]?=some (V.ref (las[a]'(by omega))):=by rw[List.getElem?_map,ea];rfl
  have vb:(las.map V.ref)[b]?=some (V.ref (las[b]'(by omega))):=by rw[List.getElem?_map,eb];rfl
  have atc:∀ i,atI ((lineI n T i).map V.int) (c:Int)=some (V.int (T.L i c)):=fun i=>Zg (X8 (Xw (Nat.le_of_lt hc)))
  refine⟨_,rfl,p,C,dx,_,_,rfl,h1,tc.cl,tc.nL,Xx,_,rfl,la,_,_,_,rfl,rfl,SqL.of h2,Zg va,_,rfl,_,_,_,_,rfl,rfl,SqL.of la',Nf,?_⟩
  refine⟨_,rfl,p,C,dx,_,_,rfl,h1,tc.cl,tc.nL,Xx,_,rfl,la,_,_,_,rfl,rfl,SqL.of h2,Zg vb,_,rfl,_,_,_,_,rfl,rfl,SqL.of lb',atc b,_,_,rfl,rfl,(bd.l a n hA (Nat.le_refl n)).mulOk (bd.l b c hB (Nat.le_of_lt hc)) (by omega) (by omega),?_⟩
  refine⟨_,rfl,p,C,dx,_,_,rfl,h1,tc.cl,tc.nL,Xx,_,rfl,la,_,_,_,rfl,rfl,SqL.of h2,Zg vb,_,rfl,_,_,_,_,rfl,rfl,SqL.of lb',Nf,?_⟩
  refine⟨_,rfl,p,C,dx,_,_,rfl,h1,tc.cl,tc.nL,Xx,_,rfl,la,_,_,_,rfl,rfl,SqL.of h2,Zg va,_,rfl,_,_,_,_,rfl,rfl,SqL.of la',atc a,_,_,rfl,rfl,(bd.l b n hB (Nat.le_refl n)).mulOk (bd.l a c hA (Nat.le_of_lt hc)) (by omega) (by omega),?_⟩
  refine⟨_,rfl,_,rfl,rfl,_,rfl,?_⟩
  unfold goB at q
  refine Xd (fun h=>?_) (fun h=>?_)
  ·have e:T.L a n*T.L b c=T.L b n*T.L a c:=V.int.inj (of_decide_eq_true h)
   rw[if_pos e] at q
   refine⟨_,rfl,p,C,dx,_,_,rfl,h1,tc.cl,tc.nO,X6,_,rfl,oa,_,_,_,rfl,rfl,SqL.of h5,Zg (X8 (Ve hA)),_,rfl,p,C,dx,_,_,rfl,h1,tc.cl,tc.nO,X6,_,rfl,oa,_,_,_,rfl,rfl,SqL.of h5,Zg (X8 (Ve hB)),_,_,rfl,rfl,?_⟩
   have e2:decide ((T.own a:Int)<(T.own b:Int))=decide (T.own a<T.own b):=by simp
   show Q (.bl (decide ((T.own a:Int)<(T.own b:Int)))) H
   rw[e2]
   exact q
  ·have e:¬ T.L a n*T.L b c=T.L b n*T.L a c:=fun z=>h (decide_eq_true (by show V.int _=V.int _;rw[z]))
   rw[if_neg e] at q
   exact⟨_,rfl,_,rfl,_,_,rfl,rfl,q⟩
def hG (C:Addr):Sp:=fun vs H Q _=>∃ (p:Addr) (m n lk c N:Nat) (T:Sv.Tab),vs=[.ref p,.int (c:Int)]/\TabAt C H p m n lk T/\c<n/\m<=1000/\TabBd N m n T/\N<=8000/\(∃ k,k<m/\elig lk c T k) ∧
 ∀ (H':Hp) (b:Nat),Same H H'->b<m->elig lk c T b->(∀ k,k<m->elig lk c T k->Ahead n c T b k)->Q (.int (b:Int)) H'
theorem Kw:FnScope ["table","column","first","place","owner"] ["table","column"] (defScope kJ):=fsc
theorem Z0x (D:Def K mg "going_out" kJ ["table","column"])(T0:Blt mg)(tc:TabC K mg C)(gO:Has P w K mg base 1 "goes_ahead" ["table","column","one","other"] (iO C)):Has P w K mg base 2 "going_out" ["table","column"] (hG C):=by
 refine D.has fun f fd F=>F.ok Kw (fun vs H Q E h=>?_) (fun cdv A outer s H vs Q E hr h=>?_)
 ·obtain⟨p,m,n,lk,c,N,T,rfl,_⟩:=h
  rfl
 ·obtain⟨p,m,n,lk,c,N,Tb,rfl,tab,hc,hm,bd,hN,hex,k⟩:=h
  obtain⟨dx,la,oa,ha,las,h1,h2,h3,h4,h5,h6⟩:=id tab
  have sc:=Kw
  have T:=T0
  refine⟨_,(Z9 (Zi (i:=2) sc.nd rfl (Or.inl rfl) Yr)
   (Z9 (Xn PassesOwn.never rfl (Rg rfl T.enumerate (Z0 (Yh (pv 0) rfl) Z8)) (Ww (n:=2) rfl (Yb (Zk (i:=3) sc.nd rfl (Or.inl rfl)) (Yb (Zk (i:=4) sc.nd rfl (Or.inl rfl)) Xt)))
    (Zc (Yd (PW.pt (Dm (Zn Z1u (pv 4) (Yh (pv 0) rfl) (Zt _)) (J8 (Zn Rj (Zh Y2 (Zh Y2 (Yh (pv 0) rfl) (pv 3) (fun _ _=>rfl)) (pv 1) (fun _ _=>rfl)) Za (Zt _)))))
     (Zc (Yd (PW.pt (Vl (Zn Ri (pv 2) Yr (Zt _)) (Vb (Xm (Ze gO hr (Z0 (pv 0) (Z0 (pv 1) (Z0 (pv 3) (Z0 (pv 2) Z8)))))))))
      (Zc (Zi (i:=2) sc.nd rfl (Or.inl rfl) (pv 3)))
      Zu))
     Zu)))
   (Zc (Zj (pv 2))))),?_⟩
  have ol:=Vn m Tb
  refine⟨_,rfl,p,C,dx,_,_,rfl,h1,tc.cl,tc.nO,X6,oa,rfl,⟨_,SqL.of h5⟩,Tl (K:=K) (a:=oa) (xs:=(ownI m Tb).map V.int) (fun i σ H'=>Same H H'/\∃ x y:Option V,((∀ k,k<i->¬ elig lk c Tb k)/\σ=[some (.ref p),some (.int (c:Int)),some .non,x,y]) \/ ∃ b,b<i/\b<m/\elig lk c Tb b/\(∀ k,k<i->elig lk c Tb k->Ahead n c Tb b k)/\σ=[some (.ref p),some (.int (c:Int)),some (.int (b:Int)),x,y]) ⟨Same.refl _,none,none,.inl ⟨fun k hk=>by omega,rfl⟩⟩ (fun i σ H' _ h=>SqL.of (h.1 _ _ h5)) ?_ ?_⟩
  ·rintro i v σ H1 pp hi ⟨S1,x,y,inv⟩ hp
   have him:i<m:=by
    have:=(List.getElem?_eq_some_iff.mp hi).1
    rw[List.length_map,ol] at this
    exact this
   rw[X8 (Ve him)] at hi
   cases hi
   have S2:Same H1 (upd H1 pp (.tup [.int (i:Int),.int (Tb.own i:Int)])):=Same.new hp
   have S02:=S1.trans S2
   have hst:∃ fv:V,σ=[some (.ref p),some (.int (c:Int)),some fv,x,y]:=by
    rcases inv with ⟨_,e⟩ | ⟨b,_,_,_,_,e⟩
    ·exact⟨_,e⟩
    ·exact⟨_,e⟩
   obtain⟨fv,hst⟩:=hst
   subst hst
   refine⟨pp,_,rfl,SqT.of Zb,rfl,_,_,rfl,_,_,rfl,rfl,?_⟩
   generalize upd H1 pp (.tup [.int (i:Int),.int (Tb.own i:Int)])=H2 at *
   have inv':((∀ k,k<i->¬ elig lk c Tb k)/\fv=.non) \/ ∃ b,b<i/\b<m/\elig lk c Tb b/\(∀ k,k<i->elig lk c Tb k->Ahead n c Tb b k)/\fv=.int (b:Int):=by
    rcases inv with ⟨h,e⟩ | ⟨b,g1,g2,g3,g4,e⟩
    ·injection e with _ e
     injection e with _ e
     injection e with e _
     injection e with e
     exact .inl ⟨h,e⟩
    ·injection e with _ e
     injection e with _ e
     injection e with e _
     injection e with e
     exact .inr ⟨b,g1,g2,g3,g4,e⟩
   have skip:¬ elig lk c Tb i->Same H H2/\∃ x y:Option V,((∀ k,k<i+1->¬ elig lk c Tb k)/\[some (V.ref p),some (V.int (c:Int)),some fv,some (V.int (i:Int)),some (V.int (Tb.own i:Int))]=[some (.ref p),some (.int (c:Int)),some .non,x,y]) \/ ∃ b,b<i+1/\b<m/\elig lk c Tb b/\(∀ k,k<i+1->elig lk c Tb k->Ahead n c Tb b k)/\[some (V.ref p),some (V.int (c:Int)),some fv,some (V.int (i:Int)),some (V.int (Tb.own i:Int))]=[some (.ref p),some (.int (c:Int)),some (.int (b:Int)),x,y]:=fun hne=>by
    refine⟨S02,some (.int (i:Int)),some (.int (Tb.own i:Int)),?_⟩
    rcases inv' with ⟨h,rfl⟩ | ⟨b,g1,g2,g3,g4,rfl⟩
    ·refine .inl ⟨fun k hk=>?_,rfl⟩
     by_cases q:k=i
     ·subst q;exact hne
     ·exact h k (by omega)
    ·refine .inr ⟨b,by omega,g2,g3,fun k hk hk2=>?_,rfl⟩
     by_cases q:k=i
     ·subst q;exact absurd hk2 hne
     ·exact g4 k (by omega) hk2
   refine⟨_,rfl,_,rfl,p,C,dx,_,_,rfl,S02 _ _ h1,tc.cl,tc.nK,N5,_,_,rfl,rfl,_,rfl,?_⟩
   refine Xd (fun h=>?_) (fun h=>?_)
   ·have hle:Tb.own i<=lk:=by have:=of_decide_eq_true h;omega
    have ei:las[i]?=some (las[i]'(by omega)):=by simp
    refine⟨_,rfl,p,C,dx,_,_,rfl,S02 _ _ h1,tc.cl,tc.nL,Xx,_,rfl,la,_,_,_,rfl,rfl,SqL.of (S02 _ _ h2),Zg (show (las.map V.ref)[i]?=_ by rw[List.getElem?_map,ei];rfl),_,rfl,_,_,_,_,rfl,rfl,SqL.of (S02 _ _ (h4 i _ ei)),Zg (X8 (Xw (Nat.le_of_lt hc))),_,_,rfl,rfl,_,rfl,?_⟩
    refine Xd (fun h'=>?_) (fun h'=>?_)
    ·have hpos:0<Tb.L i c:=of_decide_eq_true h'
     have hel:elig lk c Tb i:=⟨hle,hpos⟩
     rcases inv' with ⟨hno,rfl⟩ | ⟨b,g1,g2,g3,g4,rfl⟩
     ·refine⟨_,rfl,rfl,_,rfl,Jk rfl ⟨_,rfl,S02,_,_,.inr ⟨i,by omega,him,hel,fun k hk hk2=>?_,rfl⟩⟩⟩
      by_cases q:k=i
      ·subst q;exact .inr ⟨rfl,Nat.le_refl _⟩
      ·exact absurd hk2 (hno k (by omega))
     ·refine⟨_,rfl,rfl,_,rfl,Qz (fun z=>nomatch z) ?_⟩
      refine⟨_,rfl,_,rfl,_,rfl,_,rfl,p,m,n,lk,c,i,b,N,Tb,rfl,tab.same S02,him,g2,hc,bd,hN,_,rfl,?_⟩
      refine Z1b (fun hg=>?_) (fun hg=>?_)
      ·have hib:Ahead n c Tb i b:=by
        unfold goB at hg
        split at hg
        ·rename_i e
         have:=of_decide_eq_true hg
         exact .inr ⟨e,by omega⟩
        ·exact .inl (of_decide_eq_true hg)
       refine⟨_,rfl,S02,_,_,.inr ⟨i,by omega,him,hel,fun k hk hk2=>?_,rfl⟩⟩
       by_cases q:k=i
       ·subst q;exact .inr ⟨rfl,Nat.le_refl _⟩
       ·exact Ahead.trans hpos g3.2 hk2.2 hib (g4 k (by omega) hk2)
      ·have hbi:Ahead n c Tb b i:=by
        unfold goB at hg
        split at hg
        ·rename_i e
         have:=of_decide_eq_false hg
         exact .inr ⟨e.symm,by omega⟩
        ·rename_i e
         have:=of_decide_eq_false hg
         exact .inl (by omega)
       refine⟨S02,_,_,.inr ⟨b,by omega,g2,g3,fun k hk hk2=>?_,rfl⟩⟩
       by_cases q:k=i
       ·subst q;exact hbi
       ·exact g4 k (by omega) hk2
    ·exact skip fun z=>h' (decide_eq_true z.2)
   ·exact skip fun z=>h (decide_eq_true (by have:=z.1;omega))
  ·rintro σ H1 ⟨S1,x,y,inv⟩
   rw[List.length_map,ol] at inv
   rcases inv with ⟨hno,rfl⟩ | ⟨b,g1,g2,g3,g4,rfl⟩
   ·obtain⟨k',hk',he⟩:=hex
    exact absurd he (hno k' hk')
   ·exact⟨_,rfl,k H1 b S1 g2 g3 g4⟩
def eU:Sp:=fun vs H Q _=>∃ (a:Addr) (i:Nat) (v:V) (xs:List V),vs=[.ref a,.int (i:Int),v]/\H a=some (.lst xs)/\i<xs.length/\∀ (d:Addr) (H':Hp),H d=none->Same H H'->H' d=some (.lst (xs.set i v))->Q (.ref d) H'
theorem Sz:FnScope ["numbers","place","number","told"] ["numbers","place","number"] (defScope kH):=fsc
theorem Lx (D:Def K mg "replaced" kH ["numbers","place","number"])(T:Blt mg):Has P w K mg base 1 "replaced" ["numbers","place","number"] eU:=by
 refine D.has fun f fd F=>F.ok Sz (fun vs H Q E h=>?_) (fun cdv A outer s H vs Q E hr h=>?_)
 ·obtain⟨a,i,v,xs,rfl,_⟩:=h
  rfl
 ·obtain⟨a,i,v,xs,rfl,ha,hi,k⟩:=h
  have sc:=Sz
  refine⟨_,(Z9 (Zi (i:=3) sc.nd rfl (Or.inl rfl) (Zy Yv rfl T.list PyProof.Rows.boot_list (Z0 (pv 0) Z8)))
   (Z9 (Ta (pv 2) (Rh (pv 3) (pv 1) Vj))
   (Zc (Zj (pv 3))))),?_⟩
  refine⟨_,rfl,a,_,rfl,.inl (SqL.of ha),fun d hd=>?_⟩
  refine⟨_,rfl,_,rfl,_,rfl,d,_,_,i,rfl,rfl,Zb,B0 (by omega) (by omega),?_⟩
  refine⟨_,rfl,k d _ hd (fun q o e=>?_) Zb⟩
  rw[Zf (Zd e hd),Zf (Zd e hd)]
  exact e
def freedI (xs zs:List Int)(c:Nat)(b:Int):List Int:=((List.range xs.length).map fun j=>(xs.getD j 0*zs.getD c 0 - xs.getD c 0*zs.getD j 0).fdiv b).set c (-xs.getD c 0)
def hI:Sp:=fun vs H Q _=>∃ (a k:Addr) (c N:Nat) (b:Int) (xs zs:List Int),vs=[.ref a,.ref k,.int (c:Int),.int b]/\H a=some (.lst (xs.map V.int))/\H k=some (.lst (zs.map V.int))/\xs.length=zs.length/\c<xs.length/\xs.length<=1000/\(∀ z∈xs,Bd N z)/\(∀ z∈zs,Bd N z)/\Bd N b/\0<b/\N<=8000 ∧
 ∀ (d:Addr) (H':Hp),H d=none->Same H H'->H' d=some (.lst ((freedI xs zs c b).map V.int))->Q (.ref d) H'
theorem Kx:FnScope ["line","key_line","column","bottom","key","by","told"] ["line","key_line","column","bottom"] (defScope lZ):=fsc
theorem Z0y (D:Def K mg "freed" lZ ["line","key_line","column","bottom"])(T:Blt mg)(eH:Has P w K mg base 1 "replaced" ["numbers","place","number"] eU):Has P w K mg base 2 "freed" ["line","key_line","column","bottom"] hI:=by
 refine D.has fun f fd F=>F.ok Kx (fun vs H Q E h=>?_) (fun cdv A outer s H vs Q E hr h=>?_)
 ·obtain⟨a,k,c,N,b,xs,zs,rfl,_⟩:=h
  rfl
 ·obtain⟨a,k,c,N,b,xs,zs,rfl,ha,hk,hl,hc,h1000,bx,bz,bb,hb,hN,kk⟩:=h
  have sc:=Kx
  have nd1:(["number","other","bottom","key","by"]:List Str).Nodup:=by decide +kernel
  refine⟨_,(Z9 (Zi (i:=4) sc.nd rfl (Or.inr rfl) (Zh Y2 (pv 1) (pv 2) (fun _ _=>rfl)))
   (Z9 (Zi (i:=5) sc.nd rfl (Or.inr rfl) (Zh Y2 (pv 0) (pv 2) (fun _ _=>rfl)))
   (Z9 (W5 (i:=6) (N:=["number","other","bottom","key","by"]) (k:=2) (fv:=[3,4,5]) sc.nd rfl (Or.inl rfl) rfl (Pk rfl T.zip (Z0 (pv 0) (Z0 (pv 1) Z8)))
   (fun _ _ _ _ _=>Ww (n:=2) rfl (Yb (Zk (i:=0) nd1 rfl (Or.inl rfl)) (Yb (Zk (i:=1) nd1 rfl (Or.inl rfl)) Xt))) (fun _ _ _ _ _=>Y7) (fun _ _ _ _ _=>(Zl W6 (Zl U5 (Zl Zx (pv 0) (pv 3)) (Zl Zx (pv 4) (pv 1))) (pv 2))) Wy)
   (Zc (Zj (Ze eH hr (Z0 (pv 6) (Z0 (pv 2) (Z0 (U0 Wp (pv 5)) Z8))))))))),?_⟩
  have ex:∀ j,j<xs.length->xs[j]?=some (xs.getD j 0):=fun j hj=>by simp[List.getD,hj]
  have ez:∀ j,j<xs.length->zs[j]?=some (zs.getD j 0):=fun j hj=>by simp[List.getD,show j<zs.length by omega]
  have bxj:∀ j,Bd N (xs.getD j 0):=Py bx
  have bzj:∀ j,Bd N (zs.getD j 0):=Py bz
  refine⟨_,rfl,_,rfl,k,_,_,_,rfl,rfl,SqL.of hk,Zg (X8 (ez c hc)),?_⟩
  refine⟨_,rfl,_,rfl,a,_,_,_,rfl,rfl,SqL.of ha,Zg (X8 (ex c hc)),?_⟩
  refine⟨_,rfl,_,rfl,a,k,rfl,⟨_,SqL.of ha⟩,⟨_,SqL.of hk⟩,fun d hd=>?_⟩
  refine⟨xs.length,fun j ys H2=>Same H H2/\ys=(((List.range xs.length).map fun j=>(xs.getD j 0*zs.getD c 0 - xs.getD c 0*zs.getD j 0).fdiv b).take j).map V.int,Zp h1000,⟨Same.new hd,rfl⟩,?_,?_⟩
  ·rintro j ys H2 hj ⟨S2,rfl⟩ hd2
   refine⟨⟨_,_,SqL.of (S2 _ _ ha),SqL.of (S2 _ _ hk),by rw[List.length_map];exact hj,by rw[List.length_map];omega⟩,?_⟩
   rintro x H3 ⟨pp,x0,y0,rfl,hp,rfl,fx,fy⟩
   have e1:x0=V.int (xs.getD j 0):=by
    have:=fx _ (SqL.of (S2 _ _ ha))
    rw[X8 (ex j hj)] at this
    exact (Option.some.inj this).symm
   have e2:y0=V.int (zs.getD j 0):=by
    have:=fy _ (SqL.of (S2 _ _ hk))
    rw[X8 (ez j hj)] at this
    exact (Option.some.inj this).symm
   subst e1 e2
   have hpd:d≠pp:=Zd hd2 hp
   refine Sm (SqT.of Zb) ?_
   refine⟨_,rfl,_,rfl,_,_,rfl,rfl,(bxj j).mulOk (bzj c) (by omega) (by omega),_,rfl,_,rfl,_,_,rfl,rfl,(bxj c).mulOk (bzj j) (by omega) (by omega),_,_,rfl,rfl,_,rfl,_,_,rfl,rfl,⟨by omega,bb.log (by omega)⟩,by rw[Zf hpd];exact hd2,fun q o e=>?_,?_⟩
   ·have:=S2 _ _ e
    rw[Zf (Zd e hd),Zf (Zd this hp)]
    exact this
   ·rw[Wz _ (show (List.range xs.length)[j]?=some j by simp[hj]),List.map_append]
    rfl
  ·rintro ys H2 ⟨S2,rfl⟩ hd2
   rw[List.take_of_length_le (by simp)] at hd2
   refine⟨⟨_,_,SqL.of (S2 _ _ ha),SqL.of (S2 _ _ hk),by rw[List.length_map]⟩,?_⟩
   refine⟨_,rfl,_,rfl,_,rfl,_,rfl,d,c,_,_,rfl,hd2,by simp;exact hc,fun d2 H3 f3 S3 e3=>?_⟩
   refine kk d2 H3 ?_ (S2.trans S3) ?_
   ·cases q:H d2 with
    | none=>rfl
    | some o=>rw[S2 _ _ q] at f3;cases f3
   ·rw[e3]
    unfold freedI
    rw[List.map_set]
end
end Sb
namespace Sv
section
variable {m n lk i0:Nat}{col:Nat->Vec}{rhs:Vec}{K:Nat}{S:Nat->Tab}{P C:Nat->Nat}
theorem Run.more (R:Run m n lk i0 col rhs K S P C){p c:Nat}(s:Step m n lk i0 (S K) p c)(h:p≠i0) :
  ∃ S' P' C',Run m n lk i0 col rhs (K+1) S' P' C'/\S' (K+1)=piv (S K) p c:=by
 refine⟨fun t=>if t<=K then S t else piv (S K) p c,fun t=>if t<K then P t else p,fun t=>if t<K then C t else c,⟨R.h0,?_,?_,fun k hk=>?_,fun k hk=>?_,fun k hk=>?_⟩,?_⟩
 ·show Inv m n col rhs (if 0<=K then S 0 else _)
  rw[if_pos (by omega)]
  exact R.I0
 ·show Feas m n lk (if 0<=K then S 0 else _)
  rw[if_pos (by omega)]
  exact R.F0
 ·show Step m n lk i0 (if k<=K then S k else _) (if k<K then P k else p) (if k<K then C k else c)
  rw[if_pos (by omega)]
  by_cases q:k<K
  ·rw[if_pos q,if_pos q]
   exact R.st k q
  ·have:k=K:=by omega
   subst this
   rw[if_neg q,if_neg q]
   exact s
 ·show (if k<K then P k else p)≠i0
  by_cases q:k<K
  ·rw[if_pos q]
   exact R.stay k q
  ·rw[if_neg q]
   exact h
 ·show (if k+1<=K then S (k+1) else piv (S K) p c)=piv (if k<=K then S k else _) (if k<K then P k else p) (if k<K then C k else c)
  by_cases q:k<K
  ·rw[if_pos (by omega),if_pos (by omega),if_pos q,if_pos q]
   exact R.nx k q
  ·have:k=K:=by omega
   subst this
   rw[if_neg (by omega),if_pos (by omega),if_neg q,if_neg q]
 ·show (if K+1<=K then _ else _)=_
  rw[if_neg (by omega)]
theorem Run.start (h0:i0<m){T:Tab}(I:Inv m n col rhs T)(F:Feas m n lk T):Run m n lk i0 col rhs 0 (fun _=>T) (fun _=>0) (fun _=>0) :=
 ⟨h0,I,F,fun k hk=>by omega,fun k hk=>by omega,fun k hk=>by omega⟩
end
end Sv
namespace Sb
open PySem L2
section
variable {P:Program}{w:World}{K:W.Frag}{mg:Str->Option Value}{base:Heap}{C:Addr}
theorem Xb (f:Str)(v:V):∀ fs:List (Str × V),(putF f v fs).length<=fs.length+1
 | []=>Nat.le_refl _
 | (g,x)::r=>by
  have:=Xb f v r
  unfold putF
  split
  ·simp
  ·simp only [List.length_cons]
   omega
def g9 (C:Addr):Sp:=fun vs H Q _=>∃ (p dx:Addr) (a b c d e:V),vs=[.ref p,a,b,c,d,e]/\H p=some (.ins C dx [])/\∀ H',H' p=some (.ins C dx (fldsT a b c d e))->(∀ q o,H q=some o->q≠p->H' q=some o)->Q .non H'
theorem Z01:FnScope ["self","lines","owners","heads","bottom","lack"] ["self","lines","owners","heads","bottom","lack"] (defScope j3):=fsc
theorem Z0l {f:Addr}{fd:FuncData}(F:Fun K "__init__" "Table.__init__" j3 f fd)(tc:TabC K mg C):FnOk P w K mg base CX0 1 f fd ["self","lines","owners","heads","bottom","lack"] (g9 C):=by
 refine F.ok Z01 (fun vs H Q E h=>?_) (fun cdv A outer s H vs Q E hr h=>?_)
 ·obtain⟨p,dx,a,b,c,d,e,rfl,_⟩:=h
  rfl
 ·obtain⟨p,dx,a,b,c,d,e,rfl,hp,k⟩:=h
  refine⟨_,Z9 (Rf (pv 0) (pv 1) rfl) (Z9 (Rf (pv 0) (pv 2) rfl) (Z9 (Rf (pv 0) (pv 3) rfl) (Z9 (Rf (pv 0) (pv 4) rfl) (Zc (Rf (pv 0) (pv 5) rfl))))),?_⟩
  refine⟨_,rfl,_,rfl,p,C,dx,_,rfl,hp,tc.cl,tc.nL,(by show 0<1000;decide),?_⟩
  refine⟨_,rfl,_,rfl,p,C,dx,_,rfl,Zb,tc.cl,tc.nO,(by show 1<1000;decide),?_⟩
  refine⟨_,rfl,_,rfl,p,C,dx,_,rfl,Zb,tc.cl,tc.nH,?_,?_⟩
  ·have z1:=Xb "owners" b (putF "lines" a [])
   have z2:=Xb "lines" a []
   simp only [List.length_nil] at z2
   omega
  refine⟨_,rfl,_,rfl,p,C,dx,_,rfl,Zb,tc.cl,tc.nB,?_,?_⟩
  ·have z1:=Xb "owners" b (putF "lines" a [])
   have z2:=Xb "lines" a []
   have z3:=Xb "heads" c (putF "owners" b (putF "lines" a []))
   simp only [List.length_nil] at z2
   omega
  refine⟨_,rfl,_,rfl,p,C,dx,_,rfl,Zb,tc.cl,tc.nK,?_,?_⟩
  ·have z1:=Xb "owners" b (putF "lines" a [])
   have z2:=Xb "lines" a []
   have z3:=Xb "heads" c (putF "owners" b (putF "lines" a []))
   have z4:=Xb "bottom" d (putF "heads" c (putF "owners" b (putF "lines" a [])))
   simp only [List.length_nil] at z2
   omega
  refine k _ Zb fun q o e hq=>?_
  rw[Zf hq,Zf hq,Zf hq,Zf hq,Zf hq]
  exact e
def HasT (P:Program)(w:World)(K:W.Frag)(mg:Str->Option Value)(base:Heap)(C:Addr):Prop:=∃ (f:Addr) (fd:FuncData),Mk K C f/\FnOk P w K mg base CX0 1 f fd ["self","lines","owners","heads","bottom","lack"] (g9 C)/\Binds K fd ["self","lines","owners","heads","bottom","lack"] []
theorem V8 {n:Nat}{xs:List Int}{f:Nat->Int}(hl:xs.length=n)(h:∀ i,i<n->xs[i]?=some (f i)):xs=(List.range n).map f:=by
 apply List.ext_getElem?
 intro i
 by_cases q:i<n
 ·rw[h i q]
  simp[q]
 ·rw[List.getElem?_eq_none (by omega),List.getElem?_eq_none (by simp;omega)]
theorem Z0e {m p c:Nat}{T:Sv.Tab}(hp:p<m):(ownI m T).set p (T.hd c:Int)=ownI m (Sv.piv T p c):=by
 refine V8 (by rw[List.length_set,Vn]) fun i hi=>?_
 show _=some ((Sv.up T.own p (T.hd c) i:Nat):Int)
 unfold Sv.up
 by_cases e:i=p
 ·subst e
  rw[List.getElem?_set_self (by rw[Vn];exact hi),if_pos rfl]
 ·rw[List.getElem?_set_ne (Ne.symm e),Ve hi,if_neg e]
theorem Z2z {n p c:Nat}{T:Sv.Tab}(hc:c<n):(hdI n T).set c (T.own p:Int)=hdI n (Sv.piv T p c):=by
 refine V8 (by rw[List.length_set,Vi]) fun i hi=>?_
 show _=some ((Sv.up T.hd c (T.own p) i:Nat):Int)
 unfold Sv.up
 by_cases e:i=c
 ·subst e
  rw[List.getElem?_set_self (by rw[Vi];exact hi),if_pos rfl]
 ·rw[List.getElem?_set_ne (Ne.symm e),U8 hi,if_neg e]
theorem Z1a {n p c:Nat}{T:Sv.Tab}(hc:c<n):(lineI n T p).set c T.b=lineI n (Sv.piv T p c) p:=by
 refine V8 (by rw[List.length_set,Yn]) fun j hj=>?_
 show _=some (Sv.newL T p c p j)
 unfold Sv.newL
 rw[if_pos rfl]
 by_cases e:j=c
 ·subst e
  rw[List.getElem?_set_self (by rw[Yn];exact hj),if_pos rfl]
 ·rw[List.getElem?_set_ne (Ne.symm e),Xw (by omega),if_neg e]
theorem Wd {n i j:Nat}{T:Sv.Tab}(h:j<=n):(lineI n T i).getD j 0=T.L i j:=by
 simp only [List.getD,Xw h]
 rfl
theorem Cw {n p c i:Nat}{T:Sv.Tab}(hc:c<n)(h:i≠p):freedI (lineI n T i) (lineI n T p) c T.b=lineI n (Sv.piv T p c) i:=by
 unfold freedI
 refine V8 (by rw[List.length_set];simp[Yn]) fun j hj=>?_
 show _=some (Sv.newL T p c i j)
 unfold Sv.newL
 rw[if_neg h,Yn]
 by_cases e:j=c
 ·subst e
  rw[List.getElem?_set_self (by simpa using hj),if_pos rfl,Wd (by omega)]
 ·rw[List.getElem?_set_ne (Ne.symm e),if_neg e]
  simp only [List.getElem?_map,show (List.range (n+1))[j]?=some j by simp[hj],Option.map_some]
  rw[Wd (by omega),Wd (by omega),Wd (by omega),Wd (by omega)]
theorem Ml {N m n i:Nat}{T:Sv.Tab}(h:TabBd N m n T)(hi:i<m):∀ z∈lineI n T i,Bd N z:=fun z hz=>by
 unfold lineI at hz
 obtain⟨j,hj,rfl⟩:=List.mem_map.mp hz
 exact h.l i j hi (by have:=List.mem_range.mp hj;omega)
def iR (C:Addr):Sp:=fun vs H Q _=>∃ (p:Addr) (m n lk pl c N:Nat) (T:Sv.Tab),vs=[.ref p,.int (pl:Int),.int (c:Int)]/\TabAt C H p m n lk T/\pl<m/\c<n/\m<=900/\n<=900/\TabBd N m n T/\N<=8000/\0<T.b ∧
 ∀ (q:Addr) (H':Hp),Same H H'->TabAt C H' q m n lk (Sv.piv T pl c)->Q (.ref q) H'
theorem D4:FnScope ["table","place","column","key_line","lines"] ["table","place","column"] (defScope kG):=fsc
set_option maxHeartbeats 800000 in
theorem Z2n (D:Def K mg "exchanged" kG ["table","place","column"])(tc:TabC K mg C)(hT:HasT P w K mg base C)(jU:Has P w K mg base 2 "freed" ["line","key_line","column","bottom"] hI)(eH:Has P w K mg base 1 "replaced" ["numbers","place","number"] eU):Has P w K mg base 3 "exchanged" ["table","place","column"] (iR C):=by
 refine D.has fun f fd F=>F.ok D4 (fun vs H Q E h=>?_) (fun cdv A outer s H vs Q E hr h=>?_)
 ·obtain⟨p,m,n,lk,pl,c,N,T,rfl,_⟩:=h
  rfl
 ·obtain⟨p,m,n,lk,pl,c,N,T,rfl,tab,hp,hc,hm,hn,bd,hN,hb,k⟩:=h
  obtain⟨dx,la,oa,ha,las,h1,h2,h3,h4,h5,h6⟩:=id tab
  obtain⟨fI,fdI,tTableM,tTableG,tTableB⟩:=hT
  have tTableC:=tc.mgC
  have sc:=D4
  have nd1:(["line","table","column","key_line"]:List Str).Nodup:=by decide +kernel
  refine⟨_,(Z9 (Zi (i:=3) sc.nd rfl (Or.inr rfl) (Zh Y2 (Yh (pv 0) rfl) (pv 1) (fun _ _=>rfl)))
   (Z9 (W5 (i:=4) (N:=["line","table","column","key_line"]) (k:=1) (fv:=[0,2,3]) sc.nd rfl (Or.inl rfl) rfl (Xs (Yh (pv 0) rfl))
   (fun _ _ _ _ _=>Zk (i:=0) nd1 rfl (Or.inl rfl)) (fun _ _ _ _ _=>Y7) (fun _ _ _ _ _=>(Ze jU hr (Z0 (pv 0) (Z0 (pv 3) (Z0 (pv 2) (Z0 (Pm (K:=K) (pv 1) rfl) Z8)))))) Zw)
   (Zc (Zj (Ja tTableM tTableG (hr.mono (by decide)) rfl tTableC tTableB .nil Dv (Z0 (Ze eH hr (Z0 (pv 4) (Z0 (pv 1) (Z0 (Ze eH hr (Z0 (pv 3) (Z0 (pv 2) (Z0 (Yh (pv 0) rfl) Z8)))) Z8)))) (Z0 (Ze eH hr (Z0 (Yh (pv 0) rfl) (Z0 (pv 1) (Z0 (Zh Y2 (Yh (pv 0) rfl) (pv 2) (fun _ _=>rfl)) Z8)))) (Z0 (Ze eH hr (Z0 (Yh (pv 0) rfl) (Z0 (pv 2) (Z0 (Zh Y2 (Yh (pv 0) rfl) (pv 1) (fun _ _=>rfl)) Z8)))) (Z0 (Zh Y2 (pv 3) (pv 2) (fun _ _=>rfl)) (Z0 (Yh (pv 0) rfl) Z8)))))))))),?_⟩
  have ep:las[pl]?=some (las[pl]'(by omega)):=by simp
  have hkl:=h4 pl _ ep
  generalize las[pl]'(by omega)=kl at *
  refine⟨_,rfl,p,C,dx,_,_,rfl,h1,tc.cl,tc.nL,Xx,_,rfl,la,_,_,_,rfl,rfl,SqL.of h2,Zg (show (las.map V.ref)[pl]?=some (V.ref kl) by rw[List.getElem?_map,ep];rfl),?_⟩
  refine⟨_,rfl,p,C,dx,_,_,rfl,h1,tc.cl,tc.nL,Xx,la,rfl,⟨_,SqL.of h2⟩,fun d hd=>?_⟩
  refine⟨m,fun i ys H2=>Same H H2/\∃ ns:List Addr,ys=ns.map V.ref/\ns.length=i/\∀ (t:Nat) (a:Addr),ns[t]?=some a->a≠d/\H2 a=some (.lst ((freedI (lineI n T t) (lineI n T pl) c T.b).map V.int)),Zp (by omega),⟨Same.new hd,[],rfl,rfl,fun t a e=>by simp at e⟩,?_,?_⟩
  ·rintro i ys H2 hi ⟨S2,ns,rfl,l2,q2⟩ hd2
   have ei:las[i]?=some (las[i]'(by omega)):=by simp
   refine⟨⟨_,V.ref (las[i]'(by omega)),SqL.of (S2 _ _ h2),by simp⟩,?_⟩
   rintro x H3 ⟨rfl,fx⟩
   have ex:x=V.ref (las[i]'(by omega)):=by
    have:=fx _ (SqL.of (S2 _ _ h2))
    rw[List.getElem?_map,ei] at this
    exact (Option.some.inj this).symm
   subst ex
   refine Ye ?_
   refine⟨_,rfl,_,rfl,_,rfl,_,rfl,p,C,dx,_,_,rfl,S2 _ _ h1,tc.cl,tc.nB,V7,?_⟩
   refine⟨_,kl,c,N,T.b,lineI n T i,lineI n T pl,rfl,S2 _ _ (h4 i _ ei),S2 _ _ hkl,by rw[Yn,Yn],by rw[Yn];omega,by rw[Yn];omega,Ml bd hi,Ml bd hp,bd.b,hb,hN,fun a4 H4 f4 S4 e4=>?_⟩
   have hd4:=S4 _ _ hd2
   refine⟨hd4,fun q o e=>?_,ns++[a4],by rw[List.map_append];rfl,by rw[List.length_append,l2];rfl,fun t a e=>?_⟩
   ·rw[Zf (Zd e hd)]
    exact S4 _ _ (S2 _ _ e)
   ·by_cases q:t<ns.length
    ·rw[List.getElem?_append_left q] at e
     have:=q2 t a e
     refine⟨this.1,?_⟩
     rw[Zf this.1]
     exact S4 _ _ this.2
    ·rw[List.getElem?_append_right (by omega)] at e
     have hk0:t - ns.length=0:=by
      have:=(List.getElem?_eq_some_iff.mp e).1
      simp at this
      omega
     rw[hk0] at e
     cases e
     have hti:t=i:=by omega
     subst hti
     have hne:a4≠d:=fun z=>by rw[z] at f4;rw[f4] at hd2;cases hd2
     refine⟨hne,?_⟩
     rw[Zf hne]
     exact e4
  ·rintro ys H2 ⟨S2,ns,rfl,l2,q2⟩ hd2
   refine⟨⟨_,SqL.of (S2 _ _ h2),by simp[h3]⟩,?_⟩
   refine⟨_,rfl,_,rfl,_,rfl,_,rfl,_,rfl,p,C,dx,_,_,rfl,S2 _ _ h1,tc.cl,tc.nB,V7,kl,c,_,_,rfl,S2 _ _ hkl,by rw[List.length_map,Yn];omega,fun d1 H3 f3 S3 e3=>?_⟩
   refine⟨d,pl,_,_,rfl,S3 _ _ hd2,by rw[List.length_map];omega,fun d2 H4 f4 S4 e4=>?_⟩
   have S04:=(S2.trans S3).trans S4
   refine⟨_,rfl,p,C,dx,_,_,rfl,S04 _ _ h1,tc.cl,tc.nO,X6,_,rfl,_,rfl,p,C,dx,_,_,rfl,S04 _ _ h1,tc.cl,tc.nH,V6,_,rfl,ha,_,_,_,rfl,rfl,SqL.of (S04 _ _ h6),Zg (X8 (U8 hc)),oa,pl,_,_,rfl,S04 _ _ h5,by rw[List.length_map,Vn];omega,fun d3 H5 f5 S5 e5=>?_⟩
   have S05:=S04.trans S5
   refine⟨_,rfl,p,C,dx,_,_,rfl,S05 _ _ h1,tc.cl,tc.nH,V6,_,rfl,_,rfl,p,C,dx,_,_,rfl,S05 _ _ h1,tc.cl,tc.nO,X6,_,rfl,oa,_,_,_,rfl,rfl,SqL.of (S05 _ _ h5),Zg (X8 (Ve hp)),ha,c,_,_,rfl,S05 _ _ h6,by rw[List.length_map,Vi];omega,fun d6 H6 f6 S6 e6=>?_⟩
   have S06:=S05.trans S6
   refine⟨_,rfl,_,rfl,kl,_,_,_,rfl,rfl,SqL.of (S06 _ _ hkl),Zg (X8 (Xw (Nat.le_of_lt hc))),_,rfl,p,C,dx,_,_,rfl,S06 _ _ h1,tc.cl,tc.nK,N5,fun x dx2 hx hdx hne=>?_⟩
   have SU:Same H6 (upd (upd H6 dx2 (.own x)) x (.ins C dx2 [])):=fun q o e=>by
    rw[Zf (Zd e hx),Zf (Zd e hdx)]
    exact e
   refine⟨x,dx2,_,_,_,_,_,rfl,Zb,fun H7 e7 S7=>⟨rfl,?_⟩⟩
   have SV:Same H6 H7:=fun q o e=>S7 q o (SU q o e) (Zd e hx)
   refine k x H7 (S06.trans SV) ⟨dx2,d2,d3,d6,ns.set pl d1,e7,SV _ _ (S6 _ _ (S5 _ _ (by rw[e4,List.map_set]))),by rw[List.length_set];exact l2,fun i a e=>?_,SV _ _ (S6 _ _ (by rw[e5,← Z0e hp,List.map_set])),SV _ _ (by rw[e6,← Z2z hc,List.map_set])⟩
   by_cases q:i=pl
   ·subst q
    rw[List.getElem?_set_self (by omega)] at e
    cases e
    refine SV _ _ (S6 _ _ (S5 _ _ (S4 _ _ ?_)))
    rw[e3,← Z1a hc,List.map_set]
   ·rw[List.getElem?_set_ne (Ne.symm q)] at e
    refine SV _ _ (S6 _ _ (S5 _ _ (S4 _ _ (S3 _ _ ?_))))
    rw[(q2 i a e).2,Cw hc q]
end
section
variable {P:Program}{w:World}{K:W.Frag}{mg:Str->Option Value}{base:Heap}{C:Addr}
def hZ (C:Addr):Sp:=fun vs H Q _=>∃ (la:Addr) (m n:Nat) (las:List Addr) (T:Sv.Tab),vs=[.ref la]/\H la=some (.lst (las.map V.ref))/\las.length=m+2/\(∀ (i:Nat) (a:Addr),las[i]?=some a->H a=some (.lst ((lineI n T i).map V.int)))/\m<=900/\n<=900/\T.b=1/\(∀ i,T.own i=n+i)/\(∀ j,T.hd j=j) ∧
 ∀ (q:Addr) (H':Hp),Same H H'->TabAt C H' q (m+2) n (n+m) T->Q (.ref q) H'
theorem Ky:FnScope ["lines","width","owners"] ["lines"] (defScope kA):=fsc
theorem Z0z (D:Def K mg "first_table" kA ["lines"])(T0:Blt mg)(tc:TabC K mg C)(hT:HasT P w K mg base C):Has P w K mg base 3 "first_table" ["lines"] (hZ C):=by
 refine D.has fun f fd F=>F.ok Ky (fun vs H Q E h=>?_) (fun cdv A outer s H vs Q E hr h=>?_)
 ·obtain⟨la,m,n,las,T,rfl,_⟩:=h
  rfl
 ·obtain⟨la,m,n,las,Tb,rfl,h2,h3,h4,hm,hn,hb,ho,hh,k⟩:=h
  obtain⟨fI,fdI,tTableM,tTableG,tTableB⟩:=hT
  have tTableC:=tc.mgC
  have sc:=Ky
  have T:=T0
  refine⟨_,(Z9 (Zi (i:=1) sc.nd rfl (Or.inl rfl) (Zl U5 (Zz Y4 rfl T.len boot_len (Z0 (Zh Y2 (pv 0) Za (fun _ _=>rfl)) Z8)) Za))
   (Z9 (Zi (i:=2) sc.nd rfl (Or.inl rfl) (Ga rfl rfl T.list rfl T.range (Z0 (pv 1) (Z0 (Zl Yt (pv 1) (Zz Y4 rfl T.len boot_len (Z0 (pv 0) Z8))) Z8))))
   (Zc (Zj (Ja tTableM tTableG (hr.mono (by decide)) rfl tTableC tTableB .nil Dv (Z0 (pv 0) (Z0 (pv 2) (Z0 (Gb rfl rfl T.list rfl T.range (Z0 (pv 1) Z8)) (Z0 Za (Z0 (Zh Y2 (pv 2) (U0 Wp Za) (fun _ _=>rfl)) Z8)))))))))),?_⟩
  have e0:las[0]?=some (las[0]'(by omega)):=by simp
  have hl0:=h4 0 _ e0
  generalize las[0]'(by omega)=l0 at *
  have ew:((((lineI n Tb 0).map V.int).length:Nat):Int) - 1=(n:Int):=by rw[List.length_map,Yn];omega
  refine⟨_,rfl,la,_,_,_,rfl,rfl,SqL.of h2,Zg (show (las.map V.ref)[0]?=some (V.ref l0) by rw[List.getElem?_map,e0];rfl),l0,_,rfl,.inl (SqL.of hl0),?_⟩
  refine⟨_,_,rfl,rfl,_,rfl,_,rfl,_,rfl,la,_,rfl,.inl (SqL.of h2),_,_,rfl,rfl,n,m+2,?_,by omega,by omega,fun o ho2=>?_⟩
  ·show [V.int _,V.int (_+_)]=_
   rw[ew,List.length_map,h3]
   rfl
  refine⟨_,rfl,_,rfl,_,rfl,n,(by show [V.int _]=_;rw[ew]),by omega,fun e he=>?_⟩
  have hoe:o≠e:=fun z=>by rw[← z,Zb] at he;cases he
  have xl:(List.map (fun k=>V.int ((n+k:Nat):Int)) (List.range (m+2))).length=m+2:=by simp
  refine⟨_,rfl,_,rfl,o,_,_,_,rfl,rfl,SqL.of ((Zf hoe).trans Zb),(show atI _ (-2)=some (V.int ((n+m:Nat):Int)) from ?_),fun x dx2 hx hdx hne=>?_⟩
  ·unfold atI ixN
   rw[xl,if_neg (by decide),if_pos (by omega)]
   show (List.map (fun k=>V.int ((n+k:Nat):Int)) (List.range (m+2)))[(-2+((m+2:Nat):Int)).toNat]?=_
   have:(-2+((m+2:Nat):Int)).toNat=m:=by omega
   rw[this]
   simp
  ·have S2:Same H (upd (upd H o (.lst ((List.range (m+2)).map fun k=>V.int ((n+k:Nat):Int)))) e (.lst ((List.range n).map fun (k:Nat)=>V.int (k:Int)))):=fun q z y=>by
    rw[Zf (Zd (show upd H o _ q=some z by rw[Zf (Zd y ho2)];exact y) he),Zf (Zd y ho2)]
    exact y
   have ho3:upd (upd H o (.lst ((List.range (m+2)).map fun k=>V.int ((n+k:Nat):Int)))) e (.lst ((List.range n).map fun (k:Nat)=>V.int (k:Int))) o=some (.lst ((ownI (m+2) Tb).map V.int)):=by
    rw[Zf hoe,Zb]
    unfold ownI
    simp[ho,Function.comp_def]
   have he3:upd (upd H o (.lst ((List.range (m+2)).map fun k=>V.int ((n+k:Nat):Int)))) e (.lst ((List.range n).map fun (k:Nat)=>V.int (k:Int))) e=some (.lst ((hdI n Tb).map V.int)):=by
    rw[Zb]
    unfold hdI
    simp[hh,Function.comp_def]
   generalize upd (upd H o (.lst ((List.range (m+2)).map fun k=>V.int ((n+k:Nat):Int)))) e (.lst ((List.range n).map fun (k:Nat)=>V.int (k:Int)))=H6 at *
   have SU:Same H6 (upd (upd H6 dx2 (.own x)) x (.ins C dx2 [])):=fun q o e=>by
    rw[Zf (Zd e hx),Zf (Zd e hdx)]
    exact e
   refine⟨x,dx2,_,_,_,_,_,rfl,Zb,fun H7 e7 S7=>⟨rfl,?_⟩⟩
   have SV:Same H6 H7:=fun q o e=>S7 q o (SU q o e) (Zd e hx)
   have S7':=S2.trans SV
   exact k x H7 S7' ⟨dx2,la,o,e,las,by rw[hb];exact e7,S7' _ _ h2,h3,fun i a y=>S7' _ _ (h4 i a y),SV _ _ ho3,SV _ _ he3⟩
end
section
variable {P:Program}{w:World}{K:W.Frag}{mg:Str->Option Value}{base:Heap}{C:Addr}
def DrEnd (m n lk i0 v:Nat)(col:Nat->Sv.Vec)(rhs:Sv.Vec)(Ex:Sv.Tab->Prop)(T:Sv.Tab):Prop :=
 Sv.Inv m n col rhs T/\Sv.Feas m n lk T/\Ex T/\((T.own i0=v/\∀ j,j<n->T.hd j≠lk->T.L i0 j<=0) \/ ∃ T1 c,T1.own i0=v/\Sv.Inv m n col rhs T1/\Sv.Step m n lk i0 T1 i0 c/\T=Sv.piv T1 i0 c)
def gF (C:Addr):Sp:=fun vs H Q _=>∃ (p:Addr) (m n lk i0 N v:Nat) (col:Nat->Sv.Vec) (rhs:Sv.Vec) (Ex:Sv.Tab->Prop) (T:Sv.Tab),vs=[.ref p,.int (v:Int)]/\TabAt C H p m n lk T/\i0<m/\m<=900/\n<=900/\N<=8000/\Sv.Inv m n col rhs T/\Sv.Feas m n lk T/\Ex T/\T.own i0=v ∧
 (∀ T',Sv.Inv m n col rhs T'->TabBd N m n T') ∧
 (∀ T' c,Sv.Inv m n col rhs T'->Sv.Feas m n lk T'->Ex T'->T'.own i0=v->c<n->T'.hd c≠lk->0<T'.L i0 c->∃ k,k<m/\elig lk c T' k) ∧
 (∀ T' pl c,Sv.Inv m n col rhs T'->Ex T'->Sv.Step m n lk i0 T' pl c->Ex (Sv.piv T' pl c)) ∧
 ∀ (q:Addr) (H':Hp) (T':Sv.Tab),Same H H'->TabAt C H' q m n lk T'->DrEnd m n lk i0 v col rhs Ex T'->Q (.ref q) H'
theorem Nz:FnScope ["table","owner","column"] ["table","owner"] (defScope lH):=fsc
set_option maxHeartbeats 800000 in
theorem Cf (D:Def K mg "driven" lH ["table","owner"])(tc:TabC K mg C)(jB:Has P w K mg base 2 "helping" ["table","owner"] (fV C))(gQ:Has P w K mg base 3 "exchanged" ["table","place","column"] (iR C))(iG:Has P w K mg base 2 "going_out" ["table","column"] (hG C)):Has P w K mg base 4 "driven" ["table","owner"] (gF C):=by
 refine D.has fun f fd F=>F.ok Nz (fun vs H Q E h=>?_) (fun cdv A outer s H vs Q E hr h=>?_)
 ·obtain⟨p,m,n,lk,i0,N,v,col,rhs,Ex,T,rfl,_⟩:=h
  rfl
 ·obtain⟨p,m,n,lk,i0,N,v,col,rhs,Ex,T,rfl,tab,hi0,hm,hn,hN,I0,F0,X0,hv,hbd,hle,hkp,kk⟩:=h
  have sc:=Nz
  refine⟨_,(Z9 (Ra PassesOwn.never (Zn W7 (pv 1) (Yh (pv 0) rfl) rfl)
    (Z9 (Zi (i:=2) sc.nd rfl (Or.inl rfl) (Ze jB hr (Z0 (pv 0) (Z0 (pv 1) Z8))))
    (Z9 (Yd (Zn Ri (pv 2) Yr (Zt _))
     (Zc (Zj (pv 0)))
     Zu)
    (Zc (Zi (i:=0) sc.nd rfl (Or.inl rfl) (Ze gQ hr (Z0 (pv 0) (Z0 (Ze iG hr (Z0 (pv 0) (Z0 (pv 2) Z8))) (Z0 (pv 2) Z8)))))))))
   (Zc (Zj (pv 0)))),?_⟩
  refine⟨fun mm σ H'=>Same H H'/\∃ (q:Addr) (T':Sv.Tab) (x:Option V),σ=[some (.ref q),some (.int (v:Int)),x]/\TabAt C H' q m n lk T'/\((∃ k S P Cc,Sv.Run m n lk i0 col rhs k S P Cc/\T'=S k/\T'.own i0=v/\Ex T'/\mm=(n+m) ^ m - k) \/ (mm=0/\T'.own i0≠v/\(∃ c,c<n/\T'.hd c=v)/\DrEnd m n lk i0 v col rhs Ex T')),⟨_,Same.refl _,p,T,none,rfl,tab,.inl ⟨0,_,_,_,Sv.Run.start hi0 I0 F0,rfl,hv,X0,rfl⟩⟩,?_⟩
  rintro mm σ H1 ⟨S1,q,T',x,rfl,tab1,inv⟩
  obtain⟨dx,la,oa,ha,las,h1,h2,h3,h4,h5,h6⟩:=id tab1
  refine⟨_,rfl,_,rfl,q,C,dx,_,_,rfl,h1,tc.cl,tc.nO,X6,Px h5 ?_⟩
  refine⟨_,rfl,?_⟩
  rcases inv with ⟨k,S,PP,Cc,R,rfl,hv',X',hmm⟩ | ⟨hmm,hv',⟨c,hc,hcv⟩,hend⟩
  ·have hsh:=R.short
   obtain⟨I',F'⟩:=R.inv k (Nat.le_refl k)
   refine Xd (fun _=>?_) (fun h=>absurd (decide_eq_true (mem_ownI.mpr ⟨i0,hi0,hv'⟩)) h)
   refine⟨fun σ' H'=>_,fun σ' H' h=>h,?_⟩
   refine⟨_,rfl,_,rfl,q,m,n,lk,i0,S k,by rw[hv'];rfl,tab1,TabOk.of I',hi0,by omega,by omega,fun H2 S2=>⟨fun c hc hh hf=>?_,fun hno=>?_⟩⟩
   ·have tab2:=tab1.same S2
    have hd:∀ j,helps lk (S k) i0 j=true ↔ 0<(S k).L i0 j/\(S k).hd j≠lk:=fun j=>by unfold helps;simp
    obtain⟨hpos,hnl⟩:=(hd c).mp hh
    refine⟨_,rfl,rfl,_,rfl,Qz (by intro z;cases z) ?_⟩
    refine⟨_,rfl,_,rfl,_,rfl,q,m,n,lk,c,N,S k,rfl,tab2,hc,by omega,hbd _ I',hN,hle _ c I' F' X' hv' hc hnl hpos,fun H3 b S3 hb hel hah=>?_⟩
    refine⟨_,rfl,q,m,n,lk,b,c,N,S k,rfl,tab2.same S3,hb,hc,hm,hn,hbd _ I',hN,I'.pos,fun q2 H4 S4 tab4=>?_⟩
    have st:Sv.Step m n lk i0 (S k) b c:=⟨hb,hc,hnl,hpos,fun j hj hjl hjp=>hf j hj ((hd j).mpr ⟨hjp,hjl⟩),hel.1,hel.2,fun i hi h1 h2=>hah i hi ⟨h1,h2⟩⟩
    have SS:=((S1.trans S2).trans S3).trans S4
    by_cases e:b=i0
    ·subst e
     refine⟨0,by omega,SS,q2,_,_,rfl,tab4,.inr ⟨rfl,fun z=>?_,⟨c,hc,?_⟩,I'.piv hb hc hel.2,st.feas I' F',hkp _ _ _ I' X' st,.inr ⟨S k,c,hv',I',st,rfl⟩⟩⟩
     ·rw[Sv.own_p] at z
      exact I'.ne hb hc (hv'.trans z.symm)
     ·show Sv.up (S k).hd c ((S k).own b) c=v
      unfold Sv.up
      rw[if_pos rfl]
      exact hv'
    ·obtain⟨S',P',C',R',e'⟩:=R.more st e
     have hsh':=R'.short
     refine⟨(n+m) ^ m - (k+1),by omega,SS,q2,_,_,rfl,tab4,.inl ⟨k+1,S',P',C',R',e'.symm,?_,hkp _ _ _ I' X' st,rfl⟩⟩
     rw[Sv.own_ne (Ne.symm e)]
     exact hv'
   ·refine⟨_,rfl,rfl,_,rfl,Jk rfl ⟨_,rfl,kk q H2 (S k) (S1.trans S2) (tab1.same S2) ⟨I',F',X',.inl ⟨hv',fun j hj hl=>?_⟩⟩⟩⟩
    have:=hno j hj
    unfold helps at this
    simp[hl] at this
    exact this
  ·refine Xd (fun h=>?_) (fun h=>?_)
   ·obtain⟨i,hi,e⟩:=mem_ownI.mp (of_decide_eq_true h)
    exact absurd (e.trans hcv.symm) (hend.1.ne hi hc)
   ·exact⟨_,rfl,kk q H1 T' S1 tab1 hend⟩
end
section
variable {P:Program}{w:World}{K:W.Frag}{mg:Str->Option Value}{base:Heap}
def iM (K:W.Frag):Sp:=fun vs H Q _=>∃ (i c:Nat) (o:Option (Nat->Bool)) (v:V),vs=[.int i,v]/\EvAt K H c o v/\i<c/\Q (.bl (inE o i)) H
theorem Z3o {H:Hp}{c i:Nat}{o:Option (Nat->Bool)}{v:V}{Q:VK}(h:EvAt K H c o v)(hi:i<c)(q:Q (.bl (inE o i)) H) :
  if decide (v=V.non)=true then Q (.bl true) H else rIn K false (.int i) v H Q:=by
 cases o with
 | none =>
  have e:v=.non:=h
  exact Jk e q
 | some p =>
  obtain⟨a,rfl,h⟩:=h
  refine Qz (by intro z;cases z) ⟨a,_,rfl,.inr h,rfl,Tm _,?_⟩
  show Q (.bl (inV (.int (i:Int)) ((evI c p).map V.int))) H
  rw[Q1]
  have e:decide ((i:Int)∈evI c p)=p i:=by
   rw[Bool.eq_iff_iff,decide_eq_true_eq,Je]
   simp[hi]
  rw[e]
  exact q
theorem Fz:FnScope ["world","event"] ["world","event"] (defScope mE):=fsc
theorem Z2k (D:Def K mg "is_in" mE ["world","event"]):Has P w K mg base 1 "is_in" ["world","event"] (iM K):=by
 refine D.has fun f fd F=>F.ok Fz (fun vs H Q E h=>?_) (fun cdv A outer s H vs Q E hr h=>?_)
 ·obtain⟨i,c,o,v,rfl,_⟩:=h
  rfl
 ·obtain⟨i,c,o,v,rfl,hv,hi,q⟩:=h
  have sc:=Fz
  refine⟨_,(Zc (Zj (Z3b (Vd Ri (pv 1) Yr (Zt _)) (Pl (Vd W7 (pv 0) (pv 1) rfl))))),?_⟩
  refine⟨_,rfl,rfl,_,rfl,?_⟩
  have:=Z3o (Q:=Q) hv hi q
  refine Z1b (fun e=>?_) (fun e=>?_)
  ·rw[e] at this
   rw[if_pos rfl] at this
   exact this
  ·rw[e] at this
   rw[if_neg Bool.false_ne_true] at this
   exact⟨_,rfl,_,rfl,this⟩
def iB (K:W.Frag):Sp:=fun vs H Q _=>∃ (a:Addr) (v:V) (rs:List Rat) (o:Option (Nat->Bool)),vs=[.ref a,v]/\RowAt K H a rs/\EvAt K H rs.length o v/\rs.length<=1000 ∧
 ∀ p H',Same H H'->RowAt K H' p (cutR o rs)->Q (.ref p) H'
theorem Z1q:FnScope ["row","event"] ["row","event"] (defScope mK):=fsc
theorem Z3h (D:Def K mg "cut" mK ["row","event"])(T:Blt mg)(jZ:Has P w K mg base 1 "is_in" ["world","event"] (iM K))(fC:Con K mg "NOUGHT" (0,1)):Has P w K mg base 2 "cut" ["row","event"] (iB K):=by
 refine D.has fun f fd F=>F.ok Z1q (fun vs H Q E h=>?_) (fun cdv A outer s H vs Q E hr h=>?_)
 ·obtain⟨a,v,rs,o,rfl,_⟩:=h
  rfl
 ·obtain⟨a,v,rs,o,rfl,⟨xs,hA,hRs⟩,hv,hl,k⟩:=h
  obtain⟨c_NOUGHT,m_NOUGHT,s_NOUGHT⟩:=fC
  have sc:=Z1q
  have nd1:(["world","worth","event"]:List Str).Nodup:=by decide +kernel
  refine⟨_,(Zc (Zj (Zy Zv rfl T.tuple PyProof.Rows.boot_tuple (Z0 (Yk (N:=["world","worth","event"]) (k:=2) (fv:=[1]) rfl (Z09 rfl T.enumerate (Z0 (pv 0) Z8))
   (fun _ _ _ _ _=>Ww (n:=2) rfl (Yb (Zk (i:=0) nd1 rfl (Or.inl rfl)) (Yb (Zk (i:=1) nd1 rfl (Or.inl rfl)) Xt))) (fun _ _ _ _ _=>Y7) (fun _ _ _ _ _=>(Vm (Xm (Ze jZ hr (Z0 (pv 0) (Z0 (pv 2) Z8)))) (pv 1) (Xi (v:=.ref c_NOUGHT) rfl m_NOUGHT rfl))) Wy) Z8)))),?_⟩
  refine⟨_,rfl,a,rfl,⟨_,hA⟩,fun d hd=>?_⟩
  have lx:=hRs.len
  refine⟨rs.length,fun i ys H2=>Same H H2/\Rs K H2 ((cutR o rs).take i) ys,Zp hl,⟨Same.new hd,.nil⟩,?_,?_⟩
  ·rintro i ys H2 hi ⟨S2,R2⟩ hd2
   refine⟨⟨xs,Zq S2 hA,by omega⟩,?_⟩
   rintro x H3 ⟨p,x0,rfl,hp,rfl,fx⟩
   obtain⟨r,er,ix⟩:=hRs.back (fx xs (Zq S2 hA))
   have S3:Same H2 (upd H2 p (.tup [.int (i:Int),x0])):=Same.new hp
   have ix3:=ix.ext ((Ext.same S2).trans (Ext.same S3))
   refine Sm (SqT.of Zb) ?_
   refine⟨_,rfl,_,rfl,i,rs.length,o,v,rfl,(hv.same S2).same S3,hi,_,rfl,?_⟩
   have hpd:d≠p:=Zd hd2 hp
   have hd3:upd H2 p (.tup [.int (i:Int),x0]) d=some (.lst ys):=S3 _ _ hd2
   have fin:∀ y,IsR K (upd H2 p (.tup [.int (i:Int),x0])) (if inE o i then r else (0,1)) y →
     upd H2 p (.tup [.int (i:Int),x0]) d=some (.lst ys)/\Same H (upd (upd H2 p (.tup [.int (i:Int),x0])) d (.lst (ys++[y])))/\Rs K (upd (upd H2 p (.tup [.int (i:Int),x0])) d (.lst (ys++[y]))) ((cutR o rs).take (i+1)) (ys++[y]):=fun y hy=>by
    refine⟨hd3,fun q o' e=>?_,?_⟩
    ·rw[Zf (Zd e hd)]
     exact S3 _ _ (S2 _ _ e)
    ·rw[Y9 (Wo er)]
     have E5:Ext (upd H2 p (.tup [.int (i:Int),x0])) (upd (upd H2 p (.tup [.int (i:Int),x0])) d (.lst (ys++[y]))):=Ext.upd hd3
     exact (R2.ext ((Ext.same S3).trans E5)).snoc (hy.ext E5)
   refine Z1b (fun e=>?_) (fun e=>?_)
   ·exact⟨_,rfl,fin _ (by rw[e,if_pos rfl];exact ix3)⟩
   ·exact fin _ (by rw[e,if_neg Bool.false_ne_true];exact⟨_,rfl,s_NOUGHT _⟩)
  ·rintro ys H2 ⟨S2,R2⟩ hd2
   refine⟨⟨xs,Zq S2 hA,by omega⟩,d,ys,rfl,.inl ⟨SqL.of hd2,fun l hl'=>?_⟩⟩
   rw[List.take_of_length_le (by rw[Yl];omega)] at R2
   exact k l _ (S2.trans (Same.new hl')) ⟨ys,SqT.of Zb,R2.ext (Ext.new hl')⟩
theorem Q6 (rs:List Rat):cutR none rs=rs:=by
 apply List.ext_getElem?
 intro i
 cases e:rs[i]? with
 | none=>rw[List.getElem?_eq_none (by rw[Yl];exact (List.getElem?_eq_none_iff.mp e))]
 | some r=>rw[Wo e];rfl
def gW (K:W.Frag):Sp:=fun vs H Q _=>∃ (c:Nat) (v:V) (o:Option (Nat->Bool)),vs=[.int c,v]/\EvAt K H c o v/\1<=c/\c<=1000/\∀ p H',Same H H'->RowAt K H' p (cutR o (List.replicate c (1,1)))->Q (.ref p) H'
theorem Kp:FnScope ["count","event"] ["count","event"] (defScope kQ):=fsc
theorem Rs.rep {H:Hp}{r:Rat}{v:V}(h:IsR K H r v):∀ n:Nat,Rs K H (List.replicate n r) (List.replicate n v)
 | 0=>.nil
 | n+1=>.cons h (Rs.rep h n)
theorem Z0q (D:Def K mg "paper_of" kQ ["count","event"])(jD:Has P w K mg base 2 "cut" ["row","event"] (iB K))(j2:Con K mg "ONE" (1,1)):Has P w K mg base 3 "paper_of" ["count","event"] (gW K):=by
 refine D.has fun f fd F=>F.ok Kp (fun vs H Q E h=>?_) (fun cdv A outer s H vs Q E hr h=>?_)
 ·obtain⟨c,v,o,rfl,_⟩:=h
  rfl
 ·obtain⟨c,v,o,rfl,hv,h2,hl,k⟩:=h
  obtain⟨c_ONE,m_ONE,s_ONE⟩:=j2
  have sc:=Kp
  refine⟨_,(Zc (Zj (Ze jD hr (Z0 (Zl Z0f (Yf (Z0 (Xi (v:=.ref c_ONE) rfl m_ONE rfl) Z8)) (pv 0)) (Z0 (pv 1) Z8))))),?_⟩
  refine⟨sz1,fun t ht=>⟨_,rfl,t,c,[.ref c_ONE],rfl,rfl,SqT.of Zb,by omega,by simp,by simpa using hl,fun p H1 S1' sq=>?_⟩⟩
  have S1:Same H (upd H t (.tup [.ref c_ONE])):=Same.new ht
  have et:(c:Int).toNat=c:=by omega
  have ef:(List.replicate (c:Int).toNat [V.ref c_ONE]).flatten=List.replicate c (V.ref c_ONE):=by rw[et];simp
  rw[ef] at sq
  have S2:=S1.trans S1'
  refine⟨_,rfl,p,v,List.replicate c (1,1),o,rfl,⟨_,sq,Rs.rep ⟨c_ONE,rfl,s_ONE _⟩ c⟩,?_,by simpa using hl,fun p' H' S' R'=>k p' H' (S2.trans S') R'⟩
  rw[List.length_replicate]
  exact hv.same S2
def iS (K:W.Frag):Sp:=fun vs H Q _=>∃ (a:Addr) (xs:List V) (rs:List Rat) (n:Nat) (D:Int) (Ws:List Int),vs=[.ref a]/\(SqL K H a xs \/ SqT K H a xs)/\Rs K H rs xs/\RepL n D Ws rs/\n<=4000/\Q (.int (lcmB rs)) H
theorem M0:FnScope ["several","least","one"] ["several"] (defScope j7):=fsc
abbrev Z4 (P:Program)(w:World)(K:W.Frag)(mg:Str->Option Value)(base:Heap):Prop:=Has P w K mg base 2 "common_bottom" ["several"] (iS K)
theorem Cg (D:Def K mg "common_bottom" j7 ["several"])(eL:Has P w K mg base 1 "common_divisor" ["one","other"] iP):Z4 P w K mg base:=by
 refine D.has fun f fd F=>F.ok M0 (fun vs H Q E h=>?_) (fun cdv A outer s H vs Q E hr h=>?_)
 ·obtain⟨a,xs,rs,n,D,Ws,rfl,_⟩:=h
  rfl
 ·obtain⟨a,xs,rs,n,D,Ws,rfl,hA,hRs,rep,hn,q⟩:=h
  have sc:=M0
  refine⟨_,(Z9 (Zi (i:=1) sc.nd rfl (Or.inl rfl) Za)
   (Z9 (Xn PassesOwn.never rfl (Z2a (pv 0)) (Zk (i:=2) sc.nd rfl (Or.inl rfl))
    (Zc (Zi (i:=1) sc.nd rfl (Or.inl rfl) (Zl W6 (Zl Zx (pv 1) (Zh X7 (pv 2) Za (fun _ _=>rfl))) (Ze eL hr (Z0 (pv 1) (Z0 (Zh X7 (pv 2) Za (fun _ _=>rfl)) Z8)))))))
   (Zc (Zj (pv 1))))),?_⟩
  have lx:=hRs.len
  refine⟨_,rfl,Z1e (K:=K) (a:=a) (xs:=xs) (fun i σ H'=>H'=H/\∃ x:Option V,σ=[some (.ref a),some (.int (lcmB (rs.take i))),x]) hA ⟨rfl,none,rfl⟩ (fun i σ H' _ h=>by rw[h.1];exact Same.refl _) ?_ ?_⟩
  ·rintro i x σ H1 hi ⟨rfl,x0,rfl⟩
   obtain⟨r,er,b,rfl,hb⟩:=hRs.back hi
   have g:=rep.good r (List.mem_of_getElem? er)
   have lo:=(rep.take i).least
   have hg:((Int.gcd (lcmB (rs.take i)) r.2:Nat):Int)≠0:=by
    have:=Int.gcd_pos_of_ne_zero_left r.2 (show lcmB (rs.take i)≠0 by have:=lo.pos;omega)
    omega
   have hgb:Bd n ((Int.gcd (lcmB (rs.take i)) r.2:Nat):Int):=g.b2.of_le' (Xc g.pos (Int.gcd_dvd_right _ _))
   refine⟨_,rfl,_,rfl,b,_,_,rfl,rfl,hb,_,_,rfl,rfl,lo.bD.mulOk g.b2 (by omega) (by omega),_,rfl,_,rfl,b,_,_,rfl,rfl,hb,_,_,rfl,_,_,rfl,rfl,⟨hg,hgb.log (by omega)⟩,?_⟩
   refine⟨rfl,some (.ref b),?_⟩
   rw[Gw er]
   rfl
  ·rintro σ H1 ⟨rfl,x0,rfl⟩
   rw[← lx,List.take_of_length_le (Nat.le_refl _)]
   exact⟨_,rfl,q⟩
def eR (K:W.Frag):Sp:=fun vs H Q _=>∃ (a:Addr) (D:Int) (xs:List V) (rs:List Rat) (n:Nat),vs=[.ref a,.int D]/\(SqL K H a xs \/ SqT K H a xs)/\Rs K H rs xs/\(∀ r∈rs,Good n r)/\Bd n D/\0<D/\n<=4000/\rs.length<=1000 ∧
 ∀ (d:Addr) (H':Hp),H d=none->Same H H'->H' d=some (.lst ((wholeB rs D).map V.int))->Q (.ref d) H'
theorem Qk:FnScope ["several","bottom"] ["several","bottom"] (defScope kL):=fsc
theorem Ge (D:Def K mg "whole_by" kL ["several","bottom"]):Has P w K mg base 1 "whole_by" ["several","bottom"] (eR K):=by
 refine D.has fun f fd F=>F.ok Qk (fun vs H Q E h=>?_) (fun cdv A outer s H vs Q E hr h=>?_)
 ·obtain⟨a,D,xs,rs,n,rfl,_⟩:=h
  rfl
 ·obtain⟨a,D,xs,rs,n,rfl,hA,hRs,g,bD,hD,hn,hl,k⟩:=h
  have sc:=Qk
  have nd1:(["one","bottom"]:List Str).Nodup:=by decide +kernel
  refine⟨_,(Zc (Zj (Yk (N:=["one","bottom"]) (k:=1) (fv:=[1]) rfl (Z2b (pv 0))
   (fun _ _ _ _ _=>Zk (i:=0) nd1 rfl (Or.inl rfl)) (fun _ _ _ _ _=>Y7) (fun _ _ _ _ _=>(Zl Zx (Zh (Z2y (K:=K)) (pv 0) Za (fun _ _=>rfl)) (Zl W6 (pv 1) (Zh (Z2x (K:=K)) (pv 0) Za (fun _ _=>rfl))))) Zw))),?_⟩
  have lx:=hRs.len
  refine⟨_,rfl,a,xs,rfl,hA,fun J G d hd=>?_⟩
  refine⟨xs.length,fun i ys H2=>Same H H2/\ys=((wholeB rs D).take i).map V.int,Zp (by omega),⟨Same.new hd,rfl⟩,?_,?_⟩
  ·rintro i ys H2 hi ⟨S2,rfl⟩ hd2
   refine⟨G.go i H2 S2 hi,?_⟩
   intro x H3 hy
   obtain⟨rfl,ex⟩:=G.yld i H2 x H3 S2 hy
   obtain⟨r,er,ix⟩:=hRs.back ex
   obtain⟨b,rfl,hb⟩:=ix.ext (Ext.same S2)
   have gr:=g r (List.mem_of_getElem? er)
   refine Ye ?_
   refine⟨_,rfl,b,_,_,rfl,rfl,hb,_,rfl,_,rfl,b,_,_,rfl,rfl,hb,_,_,rfl,rfl,⟨by have:=gr.pos;omega,gr.b2.log (by omega)⟩,_,_,rfl,rfl,gr.b1.mulOk (bD.of_le' (N4 hD gr.pos)) (by omega) (by omega),hd2,fun q o' e=>?_,?_⟩
   ·rw[Zf (Zd e hd)]
    exact S2 _ _ e
   ·have:(wholeB rs D)[i]?=some (r.1*D.fdiv r.2):=by unfold wholeB;rw[List.getElem?_map,er];rfl
    rw[Y9 this,List.map_append]
    rfl
  ·rintro ys H2 ⟨S2,rfl⟩ hd2
   refine⟨G.stop H2 S2,?_⟩
   rw[List.take_of_length_le (by unfold wholeB;rw[List.length_map];omega)] at hd2
   exact k d H2 hd S2 hd2
end
section
variable {P:Program}{w:World}{K:W.Frag}{mg:Str->Option Value}{base:Heap}{C:Addr}
def rowZ (rs:List Rat):List Int:=wholeB rs (lcmB rs)
theorem V0 (rs:List Rat):(rowZ rs).length=rs.length:=by unfold rowZ wholeB;rw[List.length_map]
def fJ (K:W.Frag):Sp:=fun vs H Q _=>∃ (a:Addr) (e:Int) (xs:List V) (rs:List Rat) (n:Nat) (D:Int) (Ws:List Int),vs=[.ref a,.int e]/\(SqL K H a xs \/ SqT K H a xs)/\Rs K H rs xs/\RepL n D Ws rs/\n<=4000/\rs.length<=900 ∧
 ∀ (d:Addr) (H':Hp),H d=none->Same H H'->H' d=some (.lst ((rowZ rs++[e]).map V.int))->Q (.ref d) H'
theorem Ts:FnScope ["row","end"] ["row","end"] (defScope kC):=fsc
theorem Mc (D:Def K mg "whole_line" kC ["row","end"])(eD:Z4 P w K mg base)(eO:Has P w K mg base 1 "whole_by" ["several","bottom"] (eR K)):Has P w K mg base 3 "whole_line" ["row","end"] (fJ K):=by
 refine D.has fun f fd F=>F.ok Ts (fun vs H Q E h=>?_) (fun cdv A outer s H vs Q E hr h=>?_)
 ·obtain⟨a,e,xs,rs,n,D,Ws,rfl,_⟩:=h
  rfl
 ·obtain⟨a,e,xs,rs,n,D,Ws,rfl,hA,hRs,rep,hn,hl,k⟩:=h
  have sc:=Ts
  refine⟨_,(Zc (Zj (Zl Rk (Ze eO hr (Z0 (pv 0) (Z0 (Ze eD hr (Z0 (pv 0) Z8)) Z8))) (Xz (Z0 (pv 1) Z8))))),?_⟩
  have le:=rep.least
  refine⟨_,rfl,_,rfl,a,xs,rs,n,D,Ws,rfl,hA,hRs,rep,hn,a,lcmB rs,xs,rs,n,rfl,hA,hRs,rep.good,le.bD,le.pos,hn,by omega,fun d H1 fd1 S1 e1=>?_⟩
  refine⟨_,rfl,sz1,fun p hp=>?_⟩
  have e1':upd H1 p (.lst [.int e]) d=some (.lst ((rowZ rs).map V.int)):=by rw[Zf (Zd e1 hp)];exact e1
  refine⟨d,p,_,_,rfl,rfl,e1',Zb,?_,fun q hq=>?_⟩
  ·rw[List.length_map,V0]
   exact Zp (show rs.length+1<=1000 by omega)
  have hqH:H q=none:=by
   cases z:H q with
   | none=>rfl
   | some o =>
    have z2:=S1 _ _ z
    rw[Zf (Zd z2 hp)] at hq
    rw[z2] at hq
    cases hq
  refine k q _ hqH (fun x o z=>?_) ?_
  ·have z2:=S1 _ _ z
   rw[Zf (Zd (show upd H1 p (.lst [.int e]) x=some o by rw[Zf (Zd z2 hp)];exact z2) hq),Zf (Zd z2 hp)]
   exact z2
  ·rw[Zb,List.map_append]
   rfl
end
section
variable {P:Program}{w:World}{K:W.Frag}{mg:Str->Option Value}{base:Heap}{C:Addr}
def AOf (rss:List (List Rat))(k v:Nat):Int:=(rowZ (rss.getD k [])).getD v 0
def rowF (rs:List Rat)(v:Nat):Int:=(rowZ rs).getD v 0
def papR (c:Nat)(o:Option (Nat->Bool)):List Rat:=cutR o (List.replicate c (1,1))
def T0S (c:Nat)(rss:List (List Rat))(o:Option (Nat->Bool))(gs:List Rat):Sv.Tab:=Sv.T0 c rss.length (AOf rss) (rowF (papR c o)) (rowF gs)
def gS (K:W.Frag)(C:Addr):Sp:=fun vs H Q _=>∃ (l g:Addr) (ve:V) (c n:Nat) (rss:List (List Rat)) (o:Option (Nat->Bool)) (gs:List Rat),vs=[.int (c:Int),.ref l,ve,.ref g]/\RowsAt K H l rss/\EvAt K H c o ve/\RowAt K H g gs/\gs.length=c/\(∀ rs∈rss,rs.length=c/\∃ D Ws,RepL n D Ws rs)/\(∃ D Ws,RepL n D Ws gs)/\1<=n/\n<=4000/\1<=c/\c<=800/\rss.length<=800 ∧
 ∀ (q:Addr) (H':Hp),Same H H'->TabAt C H' q (rss.length+2) c (c+rss.length) (T0S c rss o gs)->Q (.ref q) H'
theorem Vp {c:Nat}{rs:List Rat}{e:Int}{F:Nat->Int}(hl:rs.length=c)(h:∀ j,j<c->F j=(rowZ rs).getD j 0)(he:F c=e):rowZ rs++[e]=(List.range (c+1)).map F:=by
 refine V8 (by simp[V0,hl]) fun i hi=>?_
 by_cases q:i<c
 ·rw[List.getElem?_append_left (by rw[V0];omega),h i q]
  simp[List.getD,show i<(rowZ rs).length by rw[V0];omega]
 ·have:i=c:=by omega
  subst this
  rw[List.getElem?_append_right (by rw[V0];omega),he]
  simp[V0,hl]
theorem Kk:FnScope ["count","rows","event","goal","lines"] ["count","rows","event","goal"] (defScope lM):=fsc
theorem Z0m (D:Def K mg "start" lM ["count","rows","event","goal"])(eV:Has P w K mg base 3 "whole_line" ["row","end"] (fJ K))(iX:Has P w K mg base 3 "paper_of" ["count","event"] (gW K))(gH:Has P w K mg base 3 "first_table" ["lines"] (hZ C)):Has P w K mg base 4 "start" ["count","rows","event","goal"] (gS K C):=by
 refine D.has fun f fd F=>F.ok Kk (fun vs H Q E h=>?_) (fun cdv A outer s H vs Q E hr h=>?_)
 ·obtain⟨l,g,ve,c,n,rss,o,gs,rfl,_⟩:=h
  rfl
 ·obtain⟨l,g,ve,c,n,rss,o,gs,rfl,⟨as,hl,hp⟩,hv,hg,gl,hrs,⟨Dg,Wg,rg⟩,hn1,hn,hc2,hc,hm,k⟩:=h
  have sc:=Kk
  have nd1:(["row"]:List Str).Nodup:=by decide +kernel
  refine⟨_,(Z9 (W5 (i:=4) (N:=["row"]) (k:=1) (fv:=[]) sc.nd rfl (Or.inl rfl) rfl (Xs (pv 1))
   (fun _ _ _ _ _=>Zk (i:=0) nd1 rfl (Or.inl rfl)) (fun _ _ _ _ _=>Y7) (fun _ _ _ _ _=>(Ze eV hr (Z0 (pv 0) (Z0 Za Z8)))) Zw)
   (Z9 (Xh (Wj PySem.F.plainAttrs_list PySem.F.slot_list_append PySem.F.type_list_append Ym (pv 4) (Z0 (Ze eV hr (Z0 (Ze iX hr (Z0 (pv 0) (Z0 (pv 2) Z8))) (Z0 Za Z8))) Z8)))
   (Z9 (Xh (Wj PySem.F.plainAttrs_list PySem.F.slot_list_append PySem.F.type_list_append Ym (pv 4) (Z0 (Ze eV hr (Z0 (pv 3) (Z0 Za Z8))) Z8)))
   (Zc (Zj (Ze gH hr (Z0 (pv 4) Z8))))))),?_⟩
  have lx:=Paired.length hp
  refine⟨_,rfl,l,rfl,⟨_,SqL.of hl⟩,fun d hd=>?_⟩
  refine⟨as.length,fun i ys H2=>Same H H2/\∃ ns:List Addr,ys=ns.map V.ref/\ns.length=i/\∀ (t:Nat) (a:Addr),ns[t]?=some a->a≠d/\H2 a=some (.lst ((rowZ (rss.getD t [])++[0]).map V.int)),Zp (by omega),⟨Same.new hd,[],rfl,rfl,fun t a e=>by simp at e⟩,?_,?_⟩
  ·rintro i ys H2 hi ⟨S2,ns,rfl,l2,q2⟩ hd2
   have ei:as[i]?=some (as[i]'hi):=by simp
   have er:rss[i]?=some (rss[i]'(by omega)):=by simp
   refine⟨⟨_,V.ref (as[i]'hi),SqL.of (S2 _ _ hl),by simp⟩,?_⟩
   rintro x H3 ⟨rfl,fx⟩
   have ex:x=V.ref (as[i]'hi):=by
    have:=fx _ (SqL.of (S2 _ _ hl))
    rw[List.getElem?_map,ei] at this
    exact (Option.some.inj this).symm
   subst ex
   refine Ye ?_
   obtain⟨xs,h1,h2⟩:=(Paired.getB hp ei er).same S2
   obtain⟨hrl,Dr,Wr,rr⟩:=hrs _ (List.mem_of_getElem? er)
   refine⟨_,rfl,_,_,xs,_,n,Dr,Wr,rfl,.inr h1,h2,rr,hn,by omega,fun a4 H4 f4 S4 e4=>?_⟩
   have hd4:=S4 _ _ hd2
   have hne:a4≠d:=fun z=>by rw[z] at f4;rw[f4] at hd2;cases hd2
   refine⟨hd4,fun q o e=>?_,ns++[a4],by rw[List.map_append];rfl,by rw[List.length_append,l2];rfl,fun t a e=>?_⟩
   ·rw[Zf (Zd e hd)]
    exact S4 _ _ (S2 _ _ e)
   ·by_cases q:t<ns.length
    ·rw[List.getElem?_append_left q] at e
     have:=q2 t a e
     refine⟨this.1,?_⟩
     rw[Zf this.1]
     exact S4 _ _ this.2
    ·rw[List.getElem?_append_right (by omega)] at e
     have hk0:t - ns.length=0:=by
      have:=(List.getElem?_eq_some_iff.mp e).1
      simp at this
      omega
     rw[hk0] at e
     cases e
     have hti:t=i:=by omega
     subst hti
     refine⟨hne,?_⟩
     rw[Zf hne]
     have eg:rss.getD t []=rss[t]'(by omega):=by simp[List.getD,show t<rss.length by omega]
     rw[eg]
     exact e4
  ·rintro ys H2 ⟨S2,ns,rfl,l2,q2⟩ hd2
   refine⟨⟨_,SqL.of (S2 _ _ hl),by simp⟩,?_⟩
   have rpap:RepL n 1 (cutZ o (List.replicate c 1)) (papR c o):=((RepL.ones c).cut o).mono hn1
   have lpap:(papR c o).length=c:=by
    have:=rpap.len
    rw[Mx] at this
    simpa using this.symm
   refine⟨_,rfl,.inl ⟨rfl,_,SqL.of hd2⟩,_,rfl,_,rfl,c,ve,o,rfl,hv.same S2,hc2,by omega,fun p H3 S3 rp=>?_⟩
   obtain⟨xp,rp1,rp2⟩:=rp
   refine⟨p,1,xp,papR c o,n,_,_,rfl,.inr rp1,rp2,rpap,hn,by omega,fun a4 H4 f4 S4 e4=>?_⟩
   have hd4:=S4 _ _ (S3 _ _ hd2)
   have hne4:a4≠d:=fun z=>by rw[z] at f4;rw[S3 _ _ hd2] at f4;cases f4
   refine⟨d,_,_,rfl,rfl,hd4,?_,?_⟩
   ·rw[List.length_map]
    exact Zp (show ns.length+1<=1000 by omega)
   have S14:Same H (upd H4 d (.lst (ns.map V.ref++[.ref a4]))):=fun q z y=>by
    rw[Zf (Zd y hd)]
    exact S4 _ _ (S3 _ _ (S2 _ _ y))
   have q4:∀ (t:Nat) (a:Addr),(ns++[a4])[t]?=some a->a≠d/\upd H4 d (.lst (ns.map V.ref++[.ref a4])) a=some (.lst ((if t<as.length then rowZ (rss.getD t [])++[0] else rowZ (papR c o)++[1]).map V.int)):=fun t a e=>by
    by_cases q:t<ns.length
    ·rw[List.getElem?_append_left q] at e
     have:=q2 t a e
     refine⟨this.1,?_⟩
     rw[Zf this.1,if_pos (by omega)]
     exact S4 _ _ (S3 _ _ this.2)
    ·rw[List.getElem?_append_right (by omega)] at e
     have hk0:t - ns.length=0:=by
      have:=(List.getElem?_eq_some_iff.mp e).1
      simp at this
      omega
     rw[hk0] at e
     cases e
     refine⟨hne4,?_⟩
     rw[Zf hne4,if_neg (by omega)]
     exact e4
   have hd5:upd H4 d (.lst (ns.map V.ref++[.ref a4])) d=some (.lst ((ns++[a4]).map V.ref)):=by rw[Zb,List.map_append];rfl
   generalize upd H4 d (.lst (ns.map V.ref++[.ref a4]))=H5 at *
   obtain⟨xg,hg1,hg2⟩:=hg.same S14
   refine⟨_,rfl,.inl ⟨rfl,_,SqL.of hd5⟩,_,rfl,g,0,xg,gs,n,_,_,rfl,.inr hg1,hg2,rg,hn,by omega,fun a6 H6 f6 S6 e6=>?_⟩
   have hd6:=S6 _ _ hd5
   have hne6:a6≠d:=fun z=>by rw[z] at f6;rw[hd5] at f6;cases f6
   refine⟨d,_,_,rfl,rfl,hd6,?_,?_⟩
   ·rw[List.length_map,List.length_append]
    exact Zp (show ns.length+1+1<=1000 by omega)
   have S17:Same H (upd H6 d (.lst ((ns++[a4]).map V.ref++[.ref a6]))):=fun q z y=>by
    rw[Zf (Zd y hd)]
    exact S6 _ _ (S14 _ _ y)
   have hd7:upd H6 d (.lst ((ns++[a4]).map V.ref++[.ref a6])) d=some (.lst ((ns++[a4]++[a6]).map V.ref)):=by rw[Zb,List.map_append (l₁:=ns++[a4])];rfl
   refine⟨_,rfl,d,rss.length,c,ns++[a4]++[a6],T0S c rss o gs,rfl,hd7,by simp;omega,fun t a e=>?_,by omega,by omega,rfl,fun _=>rfl,fun _=>rfl,fun q H8 S8 tab=>k q H8 (S17.trans S8) tab⟩
   have key:∀ (t:Nat) (a:Addr),(ns++[a4]++[a6])[t]?=some a->a≠d/\upd H6 d (.lst ((ns++[a4]).map V.ref++[.ref a6])) a=some (.lst ((if t<rss.length then rowZ (rss.getD t [])++[0] else if t=rss.length then rowZ (papR c o)++[1] else rowZ gs++[0]).map V.int))/\t<rss.length+2:=fun t a e=>by
    by_cases q:t<(ns++[a4]).length
    ·rw[List.getElem?_append_left q] at e
     have:=q4 t a e
     rw[List.length_append] at q
     simp at q
     refine⟨this.1,?_,by omega⟩
     rw[Zf this.1,S6 _ _ this.2]
     by_cases q':t<rss.length
     ·rw[if_pos q',if_pos (by omega)]
     ·rw[if_neg q',if_neg (by omega),if_pos (by omega)]
    ·rw[List.getElem?_append_right (by omega)] at e
     have hk0:t - (ns++[a4]).length=0:=by
      have:=(List.getElem?_eq_some_iff.mp e).1
      simp at this
      simp
      omega
     rw[hk0] at e
     cases e
     simp at q hk0
     refine⟨hne6,?_,by omega⟩
     rw[Zf hne6,if_neg (by omega),if_neg (by omega)]
     exact e6
   obtain⟨_,e7,ht⟩:=key t a e
   rw[e7]
   congr 2
   unfold lineI
   by_cases q:t<rss.length
   ·rw[if_pos q]
    have er:rss[t]?=some (rss[t]'q):=by simp
    have eg:rss.getD t []=rss[t]'q:=by simp[List.getD,q]
    refine congrArg _ (Vp ?_ (fun j hj=>?_) ?_)
    ·rw[eg]
     exact (hrs _ (List.mem_of_getElem? er)).1
    ·show (if j<c then Sv.colS c rss.length (AOf rss) (rowF (papR c o)) (rowF gs) j t else _)=_
     rw[if_pos hj]
     unfold Sv.colS
     rw[if_pos hj,if_pos q]
     rfl
    ·show (if c<c then _ else Sv.rhsS rss.length t)=_
     rw[if_neg (by omega)]
     unfold Sv.rhsS
     rw[if_neg (by omega)]
   ·rw[if_neg q]
    by_cases q':t=rss.length
    ·rw[if_pos q']
     refine congrArg _ (Vp lpap (fun j hj=>?_) ?_)
     ·show (if j<c then Sv.colS c rss.length (AOf rss) (rowF (papR c o)) (rowF gs) j t else _)=_
      rw[if_pos hj]
      unfold Sv.colS
      rw[if_pos hj,if_neg q,if_pos q']
      rfl
     ·show (if c<c then _ else Sv.rhsS rss.length t)=_
      rw[if_neg (by omega)]
      unfold Sv.rhsS
      rw[if_pos q']
    ·rw[if_neg q']
     refine congrArg _ (Vp gl (fun j hj=>?_) ?_)
     ·show (if j<c then Sv.colS c rss.length (AOf rss) (rowF (papR c o)) (rowF gs) j t else _)=_
      rw[if_pos hj]
      unfold Sv.colS
      rw[if_pos hj,if_neg q,if_neg q']
      rfl
     ·show (if c<c then _ else Sv.rhsS rss.length t)=_
      rw[if_neg (by omega)]
      unfold Sv.rhsS
      rw[if_neg q']
end
section
variable {P:Program}{w:World}{K:W.Frag}{mg:Str->Option Value}{base:Heap}{C:Addr}
def multR (c:Nat)(rss:List (List Rat))(T:Sv.Tab)(i:Nat)(b:Int):List Rat:=(List.range rss.length).map fun k=>nrm (-(Sv.numAt c T i (c+k))*lcmB (rss.getD k [])) (b*T.b)
theorem Bd.zero (n:Nat):Bd n 0:=Nat.two_pow_pos n
theorem TabOk.numBd {m n N i:Nat}{T:Sv.Tab}(h:TabOk m n T)(bd:TabBd N m n T)(hi:i<m)(v:Nat):Bd N (Sv.numAt n T i v):=by
 by_cases q:∃ j,j<n/\T.hd j=v
 ·obtain⟨j,hj,rfl⟩:=q
  rw[h.numH hj]
  exact bd.l i j hi (by omega)
 ·have:Sv.numAt n T i v=0:=Sv.sm_zero fun j hj=>if_neg fun z=>q ⟨j,hj,z⟩
  rw[this]
  exact Bd.zero N
def gU (K:W.Frag)(C:Addr):Sp:=fun vs H Q _=>∃ (l p:Addr) (c m lk i n N:Nat) (b:Int) (rss:List (List Rat)) (T:Sv.Tab),vs=[.int (c:Int),.ref l,.ref p,.int (T.own i:Int),.int b]/\RowsAt K H l rss/\TabAt C H p m c lk T/\TabOk m c T/\TabBd N m c T/\0<T.b/\i<m/\m<=900/\c<=900/\rss.length<=900/\(∀ rs∈rss,∃ D Ws,RepL n D Ws rs)/\0<b/\Bd n b/\n<=4000/\n+N<=8800 ∧
 ∀ (q:Addr) (xs:List V) (H':Hp),H q=none->Same H H'->H' q=some (.lst xs)->Rs K H' (multR c rss T i b) xs->Q (.ref q) H'
theorem Kn:FnScope ["count","rows","table","owner","bottom","told","number","row","top"] ["count","rows","table","owner","bottom"] (defScope j4):=fsc
theorem Z0o (D:Def K mg "shown_multiples" j4 ["count","rows","table","owner","bottom"])(T0:Blt mg)(tc:TabC K mg C)(iE:Has P w K mg base 2 "number_at" ["table","owner","thing"] (gX C))(eD:Z4 P w K mg base)(fH:Has P w K mg base 3 "ratio" ["top","bottom"] eG):Has P w K mg base 4 "shown_multiples" ["count","rows","table","owner","bottom"] (gU K C):=by
 refine D.has fun f fd F=>F.ok Kn (fun vs H Q E h=>?_) (fun cdv A outer s H vs Q E hr h=>?_)
 ·obtain⟨l,p,c,m,lk,i,n,N,b,rss,T,rfl,_⟩:=h
  rfl
 ·obtain⟨l,p,c,m,lk,i0,n,N,b,rss,Tb,rfl,⟨as,hl,hp⟩,tab,ok,bd,hb,hi0,hm,hc,hrl,hrs,hb0,bb,hn,hN,kk⟩:=h
  obtain⟨dx,la,oa,ha,las,h1,h2,h3,h4,h5,h6⟩:=id tab
  have sc:=Kn
  have T:=T0
  have lx:=Paired.length hp
  refine⟨_,(Z9 (Zi (i:=5) sc.nd rfl (Or.inl rfl) (Xz Z8))
   (Z9 (Xn PassesOwn.never rfl (Rg rfl T.enumerate (Z0 (pv 1) Z8)) (Ww (n:=2) rfl (Yb (Zk (i:=6) sc.nd rfl (Or.inl rfl)) (Yb (Zk (i:=7) sc.nd rfl (Or.inl rfl)) Xt)))
    (Z9 (Zi (i:=8) sc.nd rfl (Or.inl rfl) (Zl Zx (U0 Wp (Ze iE hr (Z0 (pv 2) (Z0 (pv 3) (Z0 (Zl Yt (pv 0) (pv 6)) Z8))))) (Ze eD hr (Z0 (pv 7) Z8))))
    (Zc (Xh (Wj PySem.F.plainAttrs_list PySem.F.slot_list_append PySem.F.type_list_append Ym (pv 5) (Z0 (Ze fH hr (Z0 (pv 8) (Z0 (Zl Zx (pv 4) (Yh (pv 2) rfl)) Z8))) Z8))))))
   (Zc (Zj (pv 5))))),?_⟩
  refine⟨sz0,fun d hd=>?_⟩
  refine⟨_,rfl,l,rfl,⟨_,SqL.of ((Same.new hd) _ _ hl)⟩,Tl (K:=K) (a:=l) (xs:=as.map V.ref) (fun i σ H'=>Same H H'/\∃ (xs:List V) (x y z:Option V),H' d=some (.lst xs)/\Rs K H' ((multR c rss Tb i0 b).take i) xs/\σ=[some (.int (c:Int)),some (.ref l),some (.ref p),some (.int (Tb.own i0:Int)),some (.int b),some (.ref d),x,y,z]) ⟨Same.new hd,[],none,none,none,Zb,.nil,rfl⟩ (fun i σ H' _ h=>SqL.of (h.1 _ _ hl)) ?_ ?_⟩
  ·rintro i v σ H1 pp hi ⟨S1,xs,x,y,z,hd1,rs1,rfl⟩ hpp
   have him:i<as.length:=by
    have:=(List.getElem?_eq_some_iff.mp hi).1
    rw[List.length_map] at this
    exact this
   have ei:as[i]?=some (as[i]'him):=by simp
   have er:rss[i]?=some (rss[i]'(by omega)):=by simp
   have eg:rss.getD i []=rss[i]'(by omega):=by simp[List.getD,show i<rss.length by omega]
   rw[List.getElem?_map,ei] at hi
   cases hi
   refine⟨pp,_,rfl,SqT.of Zb,rfl,_,_,rfl,_,_,rfl,rfl,?_⟩
   have S2:Same H1 (upd H1 pp (.tup [.int (i:Int),.ref (as[i]'him)])):=Same.new hpp
   generalize upd H1 pp (.tup [.int (i:Int),.ref (as[i]'him)])=H2 at *
   have S02:=S1.trans S2
   obtain⟨us,hu1,hu2⟩:=(Paired.getB hp ei er).same S02
   obtain⟨Dr,Wr,rr⟩:=hrs _ (List.mem_of_getElem? er)
   have lcb:=rr.least
   refine⟨_,rfl,_,rfl,_,rfl,_,rfl,_,_,rfl,rfl,p,m,c,lk,i0,c+i,Tb,rfl,tab.same S02,ok,hi0,by omega,by omega,_,rfl,_,rfl,_,us,_,n,Dr,Wr,rfl,.inr hu1,hu2,rr,by omega,_,_,rfl,rfl,((ok.numBd bd hi0 (c+i)).neg).mulOk lcb.bD (by omega) (by omega),?_⟩
   refine⟨_,rfl,.inl ⟨rfl,_,SqL.of (S2 _ _ hd1)⟩,_,rfl,_,rfl,_,rfl,p,C,dx,_,_,rfl,S02 _ _ h1,tc.cl,tc.nB,V7,_,_,rfl,rfl,bb.mulOk bd.b (by omega) (by omega),?_⟩
   have hq0:b*Tb.b≠0:=by
    have:=Int.mul_pos hb0 hb
    omega
   refine⟨_,_,rfl,hq0,(bb.mul bd.b).log (by omega),fun a H3 f3 S3 e3=>?_⟩
   have hd3:=S3 _ _ (S2 _ _ hd1)
   refine⟨d,xs,_,rfl,rfl,hd3,?_,?_⟩
   ·have:=rs1.len
    rw[List.length_take] at this
    exact Zp (show xs.length+1<=1000 by omega)
   refine⟨fun q o e=>?_,xs++[.ref a],_,_,_,Zb,?_,rfl⟩
   ·rw[Zf (Zd e hd)]
    exact S3 _ _ (S02 _ _ e)
   ·have e4:(multR c rss Tb i0 b)[i]?=some (nrm (-(Sv.numAt c Tb i0 (c+i))*lcmB (rss.getD i [])) (b*Tb.b)):=by
     unfold multR
     rw[List.getElem?_map,List.getElem?_range (show i<rss.length by omega)]
     rfl
    rw[Y9 e4]
    refine Paired.appP ((rs1.ext (Ext.same (S2.trans S3))).ext (Ext.upd hd3)) (.cons ⟨a,rfl,?_⟩ .nil)
    refine SqT.of ?_
    rw[Zf (fun z=>by rw[z] at e3;rw[e3] at hd3;cases hd3),eg]
    exact e3
  ·rintro σ H1 ⟨S1,xs,x,y,z,hd1,rs1,rfl⟩
   rw[List.take_of_length_le (by unfold multR;simp[lx])] at rs1
   exact⟨_,rfl,kk d xs H1 hd S1 hd1 rs1⟩
end
end Sb
namespace Sv
def sN:Nat->(Nat->Nat)->Nat
 | 0,_=>0
 | n+1,f=>sN n f+f n
def pN:Nat->(Nat->Nat)->Nat
 | 0,_=>1
 | n+1,f=>pN n f*f n
theorem M7 (f:Nat->Nat):∀ n,sN (n+1) f=f 0+sN n (fun r=>f (r+1))
 | 0=>by show 0+f 0=f 0+0;omega
 | n+1=>by
  show sN (n+1) f+f (n+1)=f 0+(sN n (fun r=>f (r+1))+f (n+1))
  rw[M7 f n]
  omega
theorem J3 {f g:Nat->Nat}:∀ {n:Nat},(∀ k,k<n->f k<=g k)->sN n f<=sN n g
 | 0,_=>Nat.le_refl _
 | n+1,h=>Nat.add_le_add (J3 fun k hk=>h k (by omega)) (h n (by omega))
theorem pN_le {f g:Nat->Nat}:∀ {n:Nat},(∀ k,k<n->f k<=g k)->pN n f<=pN n g
 | 0,_=>Nat.le_refl _
 | n+1,h=>Nat.mul_le_mul (pN_le fun k hk=>h k (by omega)) (h n (by omega))
theorem Mb {f g:Nat->Nat}:∀ {n:Nat},(∀ k,k<n->f k=g k)->pN n f=pN n g
 | 0,_=>rfl
 | n+1,h=>by
  show pN n f*f n=pN n g*g n
  rw[Mb (n:=n) fun k hk=>h k (by omega),h n (by omega)]
theorem sN_congr {f g:Nat->Nat}:∀ {n:Nat},(∀ k,k<n->f k=g k)->sN n f=sN n g
 | 0,_=>rfl
 | n+1,h=>by
  show sN n f+f n=sN n g+g n
  rw[sN_congr (n:=n) fun k hk=>h k (by omega),h n (by omega)]
theorem Ll (f:Nat->Nat)(b:Nat):∀ n,sN n (fun k=>f k*b)=sN n f*b
 | 0=>by show 0=0*b;rw[Nat.zero_mul]
 | n+1=>by
  show sN n (fun k=>f k*b)+f n*b=(sN n f+f n)*b
  rw[Ll f b n,Nat.add_mul]
theorem Pe {f:Nat->Int}:∀ {n:Nat},(sm n f).natAbs<=sN n (fun k=>(f k).natAbs)
 | 0=>by show (0:Int).natAbs<=0;decide
 | n+1=>by
  show (sm n f+f n).natAbs<=sN n (fun k=>(f k).natAbs)+(f n).natAbs
  have:=Pe (f:=f) (n:=n)
  have:=Int.natAbs_add_le (sm n f) (f n)
  omega
theorem Se {x:Nat->Nat}:∀ {n:Nat},sm n (fun k=>((x k:Nat):Int))=((sN n x:Nat):Int)
 | 0=>rfl
 | n+1=>by
  show sm n (fun k=>((x k:Nat):Int))+(x n:Int)=((sN n x+x n:Nat):Int)
  rw[Se (n:=n),Int.natCast_add]
theorem Bi (a b:Nat->Nat):∀ m,sN (m+1) (fun k=>a k*pN m (fun i=>b (skip k i)))<=pN (m+1) (fun k=>a k+b k)
 | 0=>by
  show 0+a 0*1<=1*(a 0+b 0)
  omega
 | m+1=>by
  have ih:=Bi a b m
  have e1:sN (m+1) (fun k=>a k*pN (m+1) (fun i=>b (skip k i)))=sN (m+1) (fun k=>a k*pN m (fun i=>b (skip k i)))*b (m+1):=by
   rw[← Ll]
   refine sN_congr fun k hk=>?_
   show a k*(pN m (fun i=>b (skip k i))*b (skip k m))=_
   have:skip k m=m+1:=by unfold skip;split <;> omega
   rw[this,Nat.mul_assoc]
  have e2:pN (m+1) (fun i=>b (skip (m+1) i))=pN (m+1) b:=Mb fun i hi=>by
   have:skip (m+1) i=i:=by unfold skip;split <;> omega
   rw[this]
  show sN (m+1) (fun k=>a k*pN (m+1) (fun i=>b (skip k i)))+a (m+1)*pN (m+1) (fun i=>b (skip (m+1) i))<=pN (m+1) (fun k=>a k+b k)*(a (m+1)+b (m+1))
  rw[e1,e2]
  have h1:=Nat.mul_le_mul_right (b (m+1)) ih
  have h2:pN (m+1) b<=pN (m+1) (fun k=>a k+b k):=pN_le fun k _=>by omega
  have h3:=Nat.mul_le_mul_left (a (m+1)) h2
  rw[Nat.mul_add,Nat.mul_comm (pN (m+1) fun k=>a k+b k) (a (m+1))]
  omega
theorem Jp:∀ {m:Nat} {v:Mat} {w:Nat->Nat},(∀ k,k<m->sN m (fun r=>(v k r).natAbs)<=w k)->(det m v).natAbs<=pN m w
 | 0,_,_,_=>by show (1:Int).natAbs<=1;decide
 | m+1,v,w,h=>by
  have key:(sm (m+1) (fun k=>sgn k*v k 0*det m (minor v k))).natAbs<=sN (m+1) (fun k=>(v k 0).natAbs*pN m (fun i=>sN m (fun r=>(v (skip k i) (r+1)).natAbs))):=by
   refine Nat.le_trans Pe (J3 fun k hk=>?_)
   show (sgn k*v k 0*det m (minor v k)).natAbs<=_
   rw[Int.natAbs_mul,Int.natAbs_mul,Sf,Nat.one_mul]
   exact Nat.mul_le_mul_left _ (Jp (m:=m) fun i hi=>Nat.le_refl _)
  refine Nat.le_trans key (Nat.le_trans (Bi (fun k=>(v k 0).natAbs) (fun k=>sN m (fun r=>(v k (r+1)).natAbs)) m) (pN_le fun k hk=>?_))
  have:=h k hk
  rw[M7] at this
  exact this
theorem Pn (B:Nat)(x:Nat->Nat):∀ m,pN m (fun k=>B ^ x k)=B ^ sN m x
 | 0=>rfl
 | m+1=>by
  show pN m (fun k=>B ^ x k)*B ^ x m=B ^ (sN m x+x m)
  rw[Pn B x m,Nat.pow_add]
theorem sN_const {f:Nat->Nat}{M:Nat}:∀ {n:Nat},(∀ k,k<n->f k<=M)->sN n f<=n*M
 | 0,_=>Nat.zero_le _
 | n+1,h=>by
  have h1:=sN_const (n:=n) (f:=f) (M:=M) fun k hk=>h k (by omega)
  have h2:=h n (by omega)
  show sN n f+f n<=(n+1)*M
  rw[Nat.succ_mul]
  omega
theorem sN_unit {i:Nat}:∀ {m:Nat},sN m (fun r=>(if i=r then (1:Int) else 0).natAbs)<=1
 | 0=>Nat.zero_le _
 | m+1=>by
  show sN m (fun r=>(if i=r then (1:Int) else 0).natAbs)+(if i=m then (1:Int) else 0).natAbs<=1
  by_cases h:i=m
  ·subst h
   have:sN i (fun r=>(if i=r then (1:Int) else 0).natAbs)<=i*0:=sN_const fun k hk=>by rw[if_neg (by omega)];decide
   rw[if_pos rfl]
   show _+1<=1
   omega
  ·rw[if_neg h]
   exact sN_unit (m:=m)
theorem D9 {x:Nat->Nat}{j:Nat}:∀ {n:Nat},j<n->x j<=sN n x
 | 0,h=>by omega
 | n+1,h=>by
  show x j<=sN n x+x n
  by_cases e:j=n
  ·rw[e];omega
  ·have:=D9 (x:=x) (n:=n) (j:=j) (by omega)
   omega
theorem Lk {x:Nat->Nat}{i y:Nat}:∀ {m:Nat},sN m (fun k=>if k=i then y else x k)<=sN m x+y
 | 0=>Nat.zero_le _
 | m+1=>by
  show sN m (fun k=>if k=i then y else x k)+(if m=i then y else x m)<=sN m x+x m+y
  by_cases e:m=i
  ·rw[if_pos e]
   have:sN m (fun k=>if k=i then y else x k)=sN m x:=sN_congr fun k hk=>if_neg (by omega)
   omega
  ·rw[if_neg e]
   have:=Lk (x:=x) (i:=i) (y:=y) (m:=m)
   omega
section
variable {m n:Nat}{col:Nat->Vec}{rhs:Vec}{T:Tab}
def isW (n v:Nat):Nat:=if v<n then 1 else 0
theorem Jl:∀ k,sN (n+k) (isW n)=n
 | 0=>by
  have:∀ j,j<=n->sN j (isW n)=j:=fun j=>by
   induction j with
   | zero=>intro _;rfl
   | succ j ih =>
    intro hj
    show sN j (isW n)+isW n j=j+1
    rw[ih (by omega)]
    unfold isW
    rw[if_pos (by omega)]
  exact this n (Nat.le_refl _)
 | k+1=>by
  show sN (n+k) (isW n)+isW n (n+k)=n
  rw[Jl k]
  unfold isW
  rw[if_neg (by omega)]
  rfl
theorem Inv.worlds (I:Inv m n col rhs T):sN m (fun i=>isW n (T.own i))+sN n (fun j=>isW n (T.hd j))=n:=by
 have:=I.part (fun v=>((isW n v:Nat):Int))
 rw[Se,Se,Se,Jl] at this
 omega
theorem Inv.sizeW (I:Inv m n col rhs T){B:Nat}(hc:∀ v,v<n+m->sN m (fun r=>(col v r).natAbs)<=B ^ isW n v)(hr:sN m (fun r=>(rhs r).natAbs)<=1)(hB:1<=B){i j:Nat}(hi:i<m)(hj:j<=n):(T.L i j).natAbs<=B ^ n:=by
 have wd:=I.worlds
 rw[← I.phi hi hj]
 by_cases hjn:j<n
 ·have key:(det m (put (bas col T) i (colOf n col rhs T j))).natAbs<=pN m (fun k=>B ^ (if k=i then isW n (T.hd j) else isW n (T.own k))):=Jp fun k hk=>by
   by_cases e:k=i
   ·subst e
    rw[Y6,if_pos rfl,Xk hjn]
    exact hc _ (I.hdLt hjn)
   ·rw[Y0 e,if_neg e]
    exact hc _ (I.ownLt hk)
  refine Nat.le_trans key ?_
  rw[Pn]
  refine Nat.pow_le_pow_right hB ?_
  have h1:=Lk (x:=fun k=>isW n (T.own k)) (i:=i) (y:=isW n (T.hd j)) (m:=m)
  have h2:=D9 (x:=fun j=>isW n (T.hd j)) (n:=n) hjn
  omega
 ·have key:(det m (put (bas col T) i (colOf n col rhs T j))).natAbs<=pN m (fun k=>B ^ (if k=i then 0 else isW n (T.own k))):=Jp fun k hk=>by
   by_cases e:k=i
   ·subst e
    rw[Y6,if_pos rfl]
    unfold colOf
    rw[if_neg hjn]
    exact hr
   ·rw[Y0 e,if_neg e]
    exact hc _ (I.ownLt hk)
  refine Nat.le_trans key ?_
  rw[Pn]
  refine Nat.pow_le_pow_right hB ?_
  have h1:=Lk (x:=fun k=>isW n (T.own k)) (i:=i) (y:=0) (m:=m)
  omega
theorem Inv.sizeBW (I:Inv m n col rhs T){B:Nat}(hc:∀ v,v<n+m->sN m (fun r=>(col v r).natAbs)<=B ^ isW n v)(hB:1<=B):T.b.natAbs<=B ^ n:=by
 have wd:=I.worlds
 rw[← I.dt]
 have key:(det m (bas col T)).natAbs<=pN m (fun k=>B ^ isW n (T.own k)):=Jp fun k hk=>hc _ (I.ownLt hk)
 refine Nat.le_trans key ?_
 rw[Pn]
 exact Nat.pow_le_pow_right hB (by omega)
end
end Sv
namespace Sb
open PySem L2
theorem Si {rs:List Rat}{v:Nat}{r:Rat}(h:rs[v]?=some r):rowF rs v=r.1*(lcmB rs).fdiv r.2:=by
 unfold rowF rowZ wholeB
 simp[List.getD,h]
theorem W3 {n:Nat}{D:Int}{Ws:List Int}{rs:List Rat}(h:RepL n D Ws rs)(v:Nat):Bd n (rowF rs v):=by
 unfold rowF
 exact Py (fun z hz=>(h.least).bdW z hz) v
theorem V2 (c:Nat)(o:Option (Nat->Bool)):(papR c o).length=c:=by unfold papR;rw[Yl];simp
theorem Xv (c:Nat)(o:Option (Nat->Bool)):RepL 1 1 (cutZ o (List.replicate c 1)) (papR c o):=(RepL.ones c).cut o
theorem Z2d {c v:Nat}{o:Option (Nat->Bool)}(hv:v<c):rowF (papR c o) v=if inE o v then lcmB (papR c o) else 0:=by
 rw[Si (show (papR c o)[v]?=some (if inE o v then (1,1) else (0,1)) from Wo (by simp[hv]))]
 cases inE o v <;> simp
theorem Z0d {c v:Nat}{o:Option (Nat->Bool)}(hv:v<c):0<=rowF (papR c o) v:=by
 rw[Z2d hv]
 have:=(Xv c o).least.pos
 split <;> omega
theorem Gd {c v:Nat}{o:Option (Nat->Bool)}{rs:List Rat}(hv:v<c)(hl:rs.length=c)(h:rowF (papR c o) v=0):rowF (cutR o rs) v=0:=by
 rw[Z2d hv] at h
 have:=(Xv c o).least.pos
 have e:inE o v=false:=by
  cases q:inE o v with
  | false=>rfl
  | true=>rw[q,if_pos rfl] at h;omega
 rw[Si (Wo (show rs[v]?=some (rs[v]'(by omega)) by simp)),e]
 simp
abbrev InvR (c:Nat)(rss:List (List Rat))(o:Option (Nat->Bool))(gs:List Rat)(T:Sv.Tab):Prop:=Sv.InvS c rss.length (AOf rss) (rowF (papR c o)) (rowF gs) T
def bitsOf (n c g:Nat):Nat:=(n+5)*min c (g+2)+1
theorem Fn {c n:Nat}{rss:List (List Rat)}{o:Option (Nat->Bool)}{gs:List Rat}{T:Sv.Tab}(hrs:∀ rs∈rss,rs.length=c/\∃ D Ws,RepL n D Ws rs)(hgs:∃ D Ws,RepL n D Ws gs)(hn:1<=n)(hm:rss.length+2<=32)(I:InvR c rss o gs T):TabBd (bitsOf n c rss.length) (rss.length+2) c T:=by
 have p1:1<=2 ^ n:=Nat.two_pow_pos n
 have hcol:∀ v r,v<c+(rss.length+2)->r<rss.length+2->(Sv.colS c rss.length (AOf rss) (rowF (papR c o)) (rowF gs) v r).natAbs<=2 ^ n:=fun v r _ _=>by
  unfold Sv.colS
  split
  ·split
   ·rename_i h
    have er:rss[r]?=some (rss[r]'h):=by simp
    have eg:rss.getD r []=rss[r]'h:=by simp[List.getD,h]
    obtain⟨_,D,Ws,rp⟩:=hrs _ (List.mem_of_getElem? er)
    have:=W3 rp v
    unfold AOf
    rw[eg]
    exact Nat.le_of_lt this
   ·split
    ·exact Nat.le_of_lt ((W3 (Xv c o) v).mono hn)
    ·obtain⟨D,Ws,rp⟩:=hgs
     exact Nat.le_of_lt (W3 rp v)
  ·split
   ·exact p1
   ·exact Nat.zero_le _
 have hrhs:∀ r,r<rss.length+2->(Sv.rhsS rss.length r).natAbs<=2 ^ n:=fun r _=>by
  unfold Sv.rhsS
  split
  ·exact p1
  ·exact Nat.zero_le _
 have h5:(rss.length+2)*2 ^ n<=2 ^ (n+5):=by
  rw[Nat.pow_add,Nat.mul_comm]
  exact Nat.mul_le_mul_left _ (show rss.length+2<=2 ^ 5 by omega)
 have fin:∀ (x k:Nat),x<=(2 ^ (n+5)) ^ k->k<=min c (rss.length+2)->x<2 ^ bitsOf n c rss.length:=fun x k h hk=>by
  rw[← Nat.pow_mul] at h
  refine Nat.lt_of_le_of_lt h (Nat.pow_lt_pow_right (by decide) ?_)
  unfold bitsOf
  have:=Nat.mul_le_mul_left (n+5) hk
  omega
 by_cases hcm:c<=rss.length+2
 ·have hcw:∀ v,v<c+(rss.length+2)->Sv.sN (rss.length+2) (fun r=>(Sv.colS c rss.length (AOf rss) (rowF (papR c o)) (rowF gs) v r).natAbs)<=(2 ^ (n+5)) ^ Sv.isW c v:=fun v hv=>by
   by_cases q:v<c
   ·have e:Sv.isW c v=1:=if_pos q
    rw[e,Nat.pow_one]
    exact Nat.le_trans (Sv.sN_const fun r hr=>hcol v r hv hr) h5
   ·have e:Sv.isW c v=0:=if_neg q
    rw[e,Nat.pow_zero]
    refine Nat.le_trans (Nat.le_of_eq (Sv.sN_congr fun r _=>?_)) (Sv.sN_unit (i:=v - c))
    unfold Sv.colS
    rw[if_neg q]
  have hrw:Sv.sN (rss.length+2) (fun r=>(Sv.rhsS rss.length r).natAbs)<=1:=by
   refine Nat.le_trans (Nat.le_of_eq (Sv.sN_congr fun r _=>?_)) (Sv.sN_unit (i:=rss.length))
   unfold Sv.rhsS
   by_cases q:r=rss.length
   ·rw[if_pos q,if_pos q.symm]
   ·rw[if_neg q,if_neg (Ne.symm q)]
  exact⟨fun i j hi hj=>fin _ c (I.sizeW hcw hrw (Nat.two_pow_pos _) hi hj) (by omega),fin _ c (I.sizeBW hcw (Nat.two_pow_pos _)) (by omega)⟩
 ·have low:∀ x,x<=((rss.length+2)*2 ^ n) ^ (rss.length+2)->x<2 ^ bitsOf n c rss.length:=fun x h=>fin x (rss.length+2) (Nat.le_trans h (Nat.pow_le_pow_left h5 _)) (by omega)
  exact⟨fun i j hi hj=>low _ (I.size hcol hrhs hi hj),low _ (I.sizeB hcol)⟩
end Sb
namespace Sv
theorem Ma (f:Nat->Nat):∀ n,pN (n+1) f=f 0*pN n (fun r=>f (r+1))
 | 0=>by show 1*f 0=f 0*1;omega
 | n+1=>by
  show pN (n+1) f*f (n+1)=f 0*(pN n (fun r=>f (r+1))*f (n+1))
  rw[Ma f n,Nat.mul_assoc]
theorem J2 (f:Nat->Nat)(k:Nat):∀ m,sN m (fun i=>f (skip k i))<=sN (m+1) f
 | 0=>Nat.zero_le _
 | m+1=>by
  show sN m (fun i=>f (skip k i))+f (skip k m)<=sN (m+1) f+f (m+1)
  by_cases h:m<k
  ·have e:skip k m=m:=by unfold skip;split <;> omega
   have e2:sN m (fun i=>f (skip k i))=sN m f:=sN_congr fun i hi=>by
    have:skip k i=i:=by unfold skip;split <;> omega
    rw[this]
   rw[e,e2]
   show sN m f+f m<=sN m f+f m+f (m+1)
   omega
  ·have e:skip k m=m+1:=by unfold skip;split <;> omega
   have:=J2 f k m
   rw[e]
   omega
theorem Jr:∀ {m:Nat} {v:Mat} {w:Nat->Nat},(∀ r,r<m->sN m (fun k=>(v k r).natAbs)<=w r)->(det m v).natAbs<=pN m w
 | 0,_,_,_=>by show (1:Int).natAbs<=1;decide
 | m+1,v,w,h=>by
  have key:(sm (m+1) (fun k=>sgn k*v k 0*det m (minor v k))).natAbs<=sN (m+1) (fun k=>(v k 0).natAbs*pN m (fun r=>w (r+1))):=by
   refine Nat.le_trans Pe (J3 fun k hk=>?_)
   show (sgn k*v k 0*det m (minor v k)).natAbs<=_
   rw[Int.natAbs_mul,Int.natAbs_mul,Sf,Nat.one_mul]
   refine Nat.mul_le_mul_left _ (Jr (m:=m) fun r hr=>?_)
   exact Nat.le_trans (J2 (fun i=>(v i (r+1)).natAbs) k m) (h (r+1) (by omega))
  refine Nat.le_trans key ?_
  rw[Ll,Ma]
  exact Nat.mul_le_mul_right _ (h 0 (by omega))
section
variable {m n:Nat}{col:Nat->Vec}{rhs:Vec}{T:Tab}
theorem Inv.sizeR (I:Inv m n col rhs T){B:Nat->Nat}(hc:∀ v r,v<n+m->r<m->(col v r).natAbs<=B r)(hr:∀ r,r<m->(rhs r).natAbs<=B r){i j:Nat}(hi:i<m)(hj:j<=n):(T.L i j).natAbs<=pN m (fun r=>m*B r):=by
 rw[← I.phi hi hj]
 refine Jr fun r hr'=>sN_const fun k hk=>?_
 by_cases e:k=i
 ·subst e
  rw[Y6]
  by_cases hjn:j<n
  ·rw[Xk hjn]
   exact hc _ _ (I.hdLt hjn) hr'
  ·unfold colOf
   rw[if_neg hjn]
   exact hr r hr'
 ·rw[Y0 e]
  exact hc _ _ (I.ownLt hk) hr'
theorem Inv.sizeBR (I:Inv m n col rhs T){B:Nat->Nat}(hc:∀ v r,v<n+m->r<m->(col v r).natAbs<=B r):T.b.natAbs<=pN m (fun r=>m*B r):=by
 rw[← I.dt]
 exact Jr fun r hr'=>sN_const fun k hk=>hc _ _ (I.ownLt hk) hr'
theorem pN_two (x:Nat->Nat):∀ m,pN m (fun r=>2 ^ x r)=2 ^ sN m x
 | 0=>rfl
 | m+1=>by
  show pN m (fun r=>2 ^ x r)*2 ^ x m=2 ^ (sN m x+x m)
  rw[pN_two x m,Nat.pow_add]
end
end Sv
namespace Sb
open PySem L2
theorem Ke {c ng:Nat}{nb:Nat->Nat}{rss:List (List Rat)}{o:Option (Nat->Bool)}{gs:List Rat}{T:Sv.Tab}(hrs:∀ (r:Nat) (rs:List Rat),rss[r]?=some rs->∃ D Ws,RepL (nb r) D Ws rs)(hgs:∃ D Ws,RepL ng D Ws gs)(hm:rss.length+2<=32)(I:InvR c rss o gs T):TabBd (Sv.sN rss.length (fun r=>nb r+5)+ng+12) (rss.length+2) c T:=by
 have hcol:∀ v r,v<c+(rss.length+2)->r<rss.length+2->(Sv.colS c rss.length (AOf rss) (rowF (papR c o)) (rowF gs) v r).natAbs<=2 ^ (if r<rss.length then nb r else if r=rss.length then 1 else ng):=fun v r _ _=>by
  have p1:1<=2 ^ (if r<rss.length then nb r else if r=rss.length then 1 else ng):=Nat.two_pow_pos _
  unfold Sv.colS
  split
  ·split
   ·rename_i h
    have er:rss[r]?=some (rss[r]'h):=by simp
    have eg:rss.getD r []=rss[r]'h:=by simp[List.getD,h]
    obtain⟨D,Ws,rp⟩:=hrs r _ er
    have:=W3 rp v
    unfold AOf
    rw[eg]
    exact Nat.le_of_lt this
   ·split
    ·exact Nat.le_of_lt (W3 (Xv c o) v)
    ·obtain⟨D,Ws,rp⟩:=hgs
     exact Nat.le_of_lt (W3 rp v)
  ·split
   ·exact p1
   ·exact Nat.zero_le _
 have hrhs:∀ r,r<rss.length+2->(Sv.rhsS rss.length r).natAbs<=2 ^ (if r<rss.length then nb r else if r=rss.length then 1 else ng):=fun r _=>by
  have p1:1<=2 ^ (if r<rss.length then nb r else if r=rss.length then 1 else ng):=Nat.two_pow_pos _
  unfold Sv.rhsS
  split
  ·exact Nat.two_pow_pos _
  ·exact Nat.zero_le _
 have fin:∀ x,x<=Sv.pN (rss.length+2) (fun r=>(rss.length+2)*2 ^ (if r<rss.length then nb r else if r=rss.length then 1 else ng))->x<2 ^ (Sv.sN rss.length (fun r=>nb r+5)+ng+12):=fun x h=>by
  have h2:Sv.pN (rss.length+2) (fun r=>(rss.length+2)*2 ^ (if r<rss.length then nb r else if r=rss.length then 1 else ng))<=Sv.pN (rss.length+2) (fun r=>2 ^ ((if r<rss.length then nb r else if r=rss.length then 1 else ng)+5)):=Sv.pN_le fun r _=>by
   show (rss.length+2)*2 ^ _<=2 ^ (_+5)
   rw[Nat.pow_add,Nat.mul_comm]
   exact Nat.mul_le_mul_left _ (show rss.length+2<=2 ^ 5 by omega)
  rw[Sv.pN_two] at h2
  refine Nat.lt_of_le_of_lt (Nat.le_trans h h2) (Nat.pow_lt_pow_right (by decide) ?_)
  show Sv.sN rss.length (fun r=>(if r<rss.length then nb r else if r=rss.length then 1 else ng)+5)+((if rss.length<rss.length then nb rss.length else if rss.length=rss.length then 1 else ng)+5)+((if rss.length+1<rss.length then nb (rss.length+1) else if rss.length+1=rss.length then 1 else ng)+5)<_
  have e:Sv.sN rss.length (fun r=>(if r<rss.length then nb r else if r=rss.length then 1 else ng)+5)=Sv.sN rss.length (fun r=>nb r+5):=Sv.sN_congr fun k hk=>by rw[if_pos hk]
  rw[e,if_neg (Nat.lt_irrefl _),if_pos rfl,if_neg (by omega),if_neg (by omega)]
  omega
 exact⟨fun i j hi hj=>fin _ (I.sizeR hcol hrhs hi hj),fin _ (I.sizeBR hcol)⟩
end Sb
namespace Sv
def redU (v:Mat)(p q t:Nat):Mat:=fun k r=>if k=p then v p r else if k<t then v k r - v k q*v p r else v k r
theorem Jq {m:Nat}{v:Mat}{p q:Nat}(hp:p<m):∀ t,t<=m->det m (redU v p q t)=det m v
 | 0,_=>Ys fun k r _ _=>by
  unfold redU
  by_cases e:k=p
  ·rw[if_pos e,e]
  ·rw[if_neg e,if_neg (by omega)]
 | t+1,ht=>by
  refine Eq.trans ?_ (Jq (q:=q) hp t (by omega))
  by_cases e:t=p
  ·refine Ys fun k r _ _=>?_
   unfold redU
   by_cases e2:k=p
   ·rw[if_pos e2,if_pos e2]
   ·rw[if_neg e2,if_neg e2]
    by_cases e3:k<t
    ·rw[if_pos e3,if_pos (by omega)]
    ·rw[if_neg e3,if_neg (by omega)]
  ·have e1:det m (redU v p q (t+1))=det m (put (redU v p q t) t (fun r=>1*redU v p q t t r + -(v t q)*redU v p q t p r)):=Ys fun k r _ _=>by
    by_cases e2:k=t
    ·subst e2
     rw[Y6]
     unfold redU
     rw[if_neg e,if_pos (by omega),if_neg e,if_neg (by omega),if_pos rfl]
     grind
    ·rw[Y0 e2]
     unfold redU
     by_cases e3:k=p
     ·rw[if_pos e3,if_pos e3]
     ·rw[if_neg e3,if_neg e3]
      by_cases e4:k<t
      ·rw[if_pos e4,if_pos (by omega)]
      ·rw[if_neg e4,if_neg (by omega)]
   have z:det m (put (redU v p q t) t (redU v p q t p))=0:=Uw (p:=t) (q:=p) (by omega) hp e (by rw[Y6,Y0 (Ne.symm e)])
   rw[e1,Vy (by omega),z,V1]
   grind
theorem M6 (p:Nat):∀ m,sN m (fun k=>if k=p then 1 else 0)=if p<m then 1 else 0
 | 0=>by rw[if_neg (by omega)];rfl
 | m+1=>by
  show sN m (fun k=>if k=p then 1 else 0)+(if m=p then 1 else 0)=_
  rw[M6 p m]
  by_cases h:p<m
  ·rw[if_pos h,if_neg (show ¬ m=p by omega),if_pos (by omega)]
  ·rw[if_neg h]
   by_cases e:m=p
   ·rw[if_pos e,if_pos (by omega)]
   ·rw[if_neg e,if_neg (by omega)]
theorem Z1z {m:Nat}{v:Mat}{p q:Nat}{w:Nat->Nat}(hp:p<m)(hq:q<m)(hu:∀ r,r<m->v p r=if r=q then 1 else 0)(h:∀ r,r<m->r≠q->sN m (fun k=>(v k r).natAbs)<=w r)(w1:1<=w q):(det m v).natAbs<=pN m w:=by
 rw[← Jq (q:=q) hp m (Nat.le_refl _)]
 refine Jr fun r hr=>?_
 by_cases e:r=q
 ·subst e
  refine Nat.le_trans ?_ w1
  have:sN m (fun k=>(redU v p r m k r).natAbs)=sN m (fun k=>if k=p then 1 else 0):=sN_congr fun k hk=>by
   unfold redU
   by_cases e2:k=p
   ·rw[if_pos e2,if_pos e2,hu r hr,if_pos rfl]
    rfl
   ·rw[if_neg e2,if_neg e2,if_pos hk,hu r hr,if_pos rfl,Int.mul_one,Int.sub_self]
    rfl
  rw[this,M6]
  split <;> omega
 ·refine Nat.le_trans (J3 fun k hk=>?_) (h r hr e)
  unfold redU
  by_cases e2:k=p
  ·rw[if_pos e2,e2]
   exact Nat.le_refl _
  ·rw[if_neg e2,if_pos hk,hu r hr,if_neg e,Int.mul_zero,Int.sub_zero]
   exact Nat.le_refl _
end Sv
namespace Sv
section
variable {m n:Nat}{col:Nat->Vec}{rhs:Vec}{T:Tab}
theorem Inv.sizeU (I:Inv m n col rhs T){B:Nat->Nat}{p:Nat}(hp:p<m)(hu:∀ r,r<m->col (T.own p) r=if r=p then 1 else 0)(hc:∀ v r,v<n+m->r<m->r≠p->(col v r).natAbs<=B r)(hr:∀ r,r<m->r≠p->(rhs r).natAbs<=B r){i j:Nat}(hi:i<m)(hip:i≠p)(hj:j<=n):(T.L i j).natAbs<=pN m (fun r=>if r=p then 1 else m*B r):=by
 rw[← I.phi hi hj]
 refine Z1z hp hp (fun r hr'=>?_) (fun r hr' e=>?_) (by rw[if_pos rfl];exact Nat.le_refl _)
 ·rw[Y0 (Ne.symm hip)]
  exact hu r hr'
 ·rw[if_neg e]
  refine sN_const fun k hk=>?_
  by_cases ek:k=i
  ·subst ek
   rw[Y6]
   by_cases hjn:j<n
   ·rw[Xk hjn]
    exact hc _ _ (I.hdLt hjn) hr' e
   ·unfold colOf
    rw[if_neg hjn]
    exact hr r hr' e
  ·rw[Y0 ek]
   exact hc _ _ (I.ownLt hk) hr' e
theorem Inv.sizeBU (I:Inv m n col rhs T){B:Nat->Nat}{p:Nat}(hp:p<m)(hu:∀ r,r<m->col (T.own p) r=if r=p then 1 else 0)(hc:∀ v r,v<n+m->r<m->r≠p->(col v r).natAbs<=B r):T.b.natAbs<=pN m (fun r=>if r=p then 1 else m*B r):=by
 rw[← I.dt]
 refine Z1z hp hp (fun r hr'=>hu r hr') (fun r hr' e=>?_) (by rw[if_pos rfl];exact Nat.le_refl _)
 rw[if_neg e]
 exact sN_const fun k hk=>hc _ _ (I.ownLt hk) hr' e
end
end Sv
namespace Sb
open PySem L2
theorem By {c n:Nat}{rss:List (List Rat)}{o:Option (Nat->Bool)}{gs:List Rat}{T:Sv.Tab}(hrs:∀ rs∈rss,∃ D Ws,RepL n D Ws rs)(hm:rss.length+2<=32)(I:InvR c rss o gs T)(aim:T.own (rss.length+1)=c+rss.length+1):Bd ((n+5)*rss.length+7) T.b/\∀ i j,i<rss.length+1->j<=c->Bd ((n+5)*rss.length+7) (T.L i j):=by
 have hcol:∀ v r,v<c+(rss.length+2)->r<rss.length+2->r≠rss.length+1->(Sv.colS c rss.length (AOf rss) (rowF (papR c o)) (rowF gs) v r).natAbs<=2 ^ (if r<rss.length then n else 1):=fun v r _ hr ne=>by
  have p1:1<=2 ^ (if r<rss.length then n else 1):=Nat.two_pow_pos _
  unfold Sv.colS
  split
  ·split
   ·rename_i h
    have eg:rss.getD r []=rss[r]'h:=by simp[List.getD,h]
    obtain⟨D,Ws,rp⟩:=hrs _ (List.getElem_mem h)
    have:=W3 rp v
    unfold AOf
    rw[eg]
    exact Nat.le_of_lt this
   ·split
    ·exact Nat.le_of_lt (W3 (Xv c o) v)
    ·omega
  ·split
   ·exact p1
   ·exact Nat.zero_le _
 have hrhs:∀ r,r<rss.length+2->r≠rss.length+1->(Sv.rhsS rss.length r).natAbs<=2 ^ (if r<rss.length then n else 1):=fun r _ _=>by
  unfold Sv.rhsS
  split
  ·exact Nat.two_pow_pos _
  ·exact Nat.zero_le _
 have hu:∀ r,r<rss.length+2->Sv.colS c rss.length (AOf rss) (rowF (papR c o)) (rowF gs) (T.own (rss.length+1)) r=if r=rss.length+1 then 1 else 0:=fun r _=>by
  rw[aim,Nat.add_assoc,Sv.colS_id]
  by_cases e:r=rss.length+1
  ·rw[if_pos e,if_pos e.symm]
  ·rw[if_neg e,if_neg (Ne.symm e)]
 have fin:∀ x,x<=Sv.pN (rss.length+2) (fun r=>if r=rss.length+1 then 1 else (rss.length+2)*2 ^ (if r<rss.length then n else 1))->x<2 ^ ((n+5)*rss.length+7):=fun x h=>by
  have h2:Sv.pN (rss.length+2) (fun r=>if r=rss.length+1 then 1 else (rss.length+2)*2 ^ (if r<rss.length then n else 1))<=Sv.pN (rss.length+2) (fun r=>2 ^ (if r=rss.length+1 then 0 else (if r<rss.length then n else 1)+5)):=Sv.pN_le fun r _=>by
   show (if r=rss.length+1 then 1 else (rss.length+2)*2 ^ (if r<rss.length then n else 1))<=2 ^ (if r=rss.length+1 then 0 else (if r<rss.length then n else 1)+5)
   by_cases e:r=rss.length+1
   ·rw[if_pos e,if_pos e]
    exact Nat.le_refl _
   ·rw[if_neg e,if_neg e,Nat.pow_add,Nat.mul_comm]
    exact Nat.mul_le_mul_left _ (show rss.length+2<=2 ^ 5 by omega)
  rw[Sv.pN_two] at h2
  refine Nat.lt_of_le_of_lt (Nat.le_trans h h2) (Nat.pow_lt_pow_right (by decide) ?_)
  show Sv.sN rss.length (fun r=>if r=rss.length+1 then 0 else (if r<rss.length then n else 1)+5)+(if rss.length=rss.length+1 then 0 else (if rss.length<rss.length then n else 1)+5)+(if rss.length+1=rss.length+1 then 0 else (if rss.length+1<rss.length then n else 1)+5)<_
  have e:=Sv.sN_const (f:=fun r=>if r=rss.length+1 then 0 else (if r<rss.length then n else 1)+5) (M:=n+5) (n:=rss.length) fun k hk=>by
   rw[if_neg (by omega),if_pos hk]
   exact Nat.le_refl _
  rw[if_neg (by omega),if_neg (Nat.lt_irrefl _),if_pos rfl]
  have:=Nat.mul_comm (n+5) rss.length
  omega
 exact⟨fin _ (Sv.Inv.sizeBU I (by omega) hu hcol),fun i j hi hj=>fin _ (Sv.Inv.sizeU I (by omega) hu hcol hrhs (by omega) (by omega) hj)⟩
section
variable {P:Program}{w:World}{K:W.Frag}{mg:Str->Option Value}{base:Heap}{C:Addr}
structure NoneT (c:Nat)(rss:List (List Rat))(o:Option (Nat->Bool))(gs:List Rat)(T:Sv.Tab):Prop where
 inv:InvR c rss o gs T
 lk:T.own rss.length=c+rss.length
 aim:T.own (rss.length+1)=c+rss.length+1
 no:∀ j,j<c->T.hd j≠c+rss.length->T.L rss.length j<=0
structure MostT (c:Nat)(rss:List (List Rat))(o:Option (Nat->Bool))(gs:List Rat)(T:Sv.Tab):Prop where
 inv:InvR c rss o gs T
 feas:Sv.Feas (rss.length+2) c (c+rss.length) T
 aim:T.own (rss.length+1)=c+rss.length+1
 lk:∃ jl,jl<c/\T.hd jl=c+rss.length
 no:∀ j,j<c->T.hd j≠c+rss.length->T.L (rss.length+1) j<=0
def loadsR (c g:Nat)(T:Sv.Tab):List Rat:=(List.range c).map fun v=>nrm (Sv.endOf (g+2) c T v) T.b
def valueR (c g:Nat)(gs:List Rat)(T:Sv.Tab):Rat:=nrm (-Sv.endOf (g+2) c T (c+g+1)) (lcmB gs*T.b)
theorem Qv {H H':Hp}{q:Addr}(S:Same H H')(h:H' q=none):H q=none:=by
 cases z:H q with
 | none=>rfl
 | some o =>
  have:=S _ _ z
  rw[h] at this
  cases this
def iI (K:W.Frag):Sp:=fun vs H Q _=>∃ (l g:Addr) (ve:V) (c n N:Nat) (rss:List (List Rat)) (o:Option (Nat->Bool)) (as:List Rat),vs=[.int (c:Int),.ref l,ve,.ref g]/\RowsAt K H l rss/\EvAt K H c o ve/\RowAt K H g as/\as.length=c/\(∀ rs∈rss,rs.length=c/\∃ D Ws,RepL n D Ws rs)/\(∃ D Ws,RepL n D Ws as)/\1<=n/\n<=4000/\N<=8000/\n+N<=8800/\(∀ T':Sv.Tab,InvR c rss o (cutR o as) T'->TabBd N (rss.length+2) c T')/\1<=c/\c<=800/\rss.length+2<=32 ∧
 (∀ (T:Sv.Tab) (q t:Addr) (xs:List V) (H':Hp),H q=none->Same H H'->NoneT c rss o (cutR o as) T->H' q=some (.lst xs)->Rs K H' (multR c rss T rss.length 1) xs->SqT K H' t [.str "none",.ref q]->Q (.ref t) H') ∧
 (∀ (T:Sv.Tab) (q t va lo:Addr) (xs:List V) (H':Hp),H q=none->Same H H'->MostT c rss o (cutR o as) T->H' q=some (.lst xs)->Rs K H' (multR c rss T (rss.length+1) (lcmB (cutR o as))) xs->IsR K H' (valueR c rss.length (cutR o as) T) (.ref va)->RowAt K H' lo (loadsR c rss.length T)->SqT K H' t [.str "most",.ref va,.ref lo,.ref q]->Q (.ref t) H')
theorem Kl:FnScope ["count","rows","event","aim","goal","lack","table","bottom","value","loads"] ["count","rows","event","aim"] (defScope lN):=fsc
abbrev Z5 (P:Program)(w:World)(K:W.Frag)(mg:Str->Option Value)(base:Heap):Prop:=Has P w K mg base 5 "solve" ["count","rows","event","aim"] (iI K)
set_option maxHeartbeats 1600000 in
theorem C1 (D:Def K mg "solve" lN ["count","rows","event","aim"])(T0:Blt mg)(tc:TabC K mg C)(jD:Has P w K mg base 2 "cut" ["row","event"] (iB K))(jR:Has P w K mg base 4 "start" ["count","rows","event","goal"] (gS K C))(iD:Has P w K mg base 4 "driven" ["table","owner"] (gF C))(eP:Has P w K mg base 4 "shown_multiples" ["count","rows","table","owner","bottom"] (gU K C))(eD:Z4 P w K mg base)(fH:Has P w K mg base 3 "ratio" ["top","bottom"] eG)(jC:Has P w K mg base 2 "end_of" ["table","thing"] (iA C)):Z5 P w K mg base:=by
 refine D.has fun f fd F=>F.ok Kl (fun vs H Q E h=>?_) (fun cdv A outer s H vs Q E hr h=>?_)
 ·obtain⟨l,g,ve,c,n,N,rss,o,as,rfl,_⟩:=h
  rfl
 ·obtain⟨l,g,ve,c,n,N,rss,o,as,rfl,hR,hv,hg,gl,hrs,⟨Da,Wa,ra⟩,hn1,hn,hbits,hnN,hbd,hc2,hc,hm,kN,kM⟩:=h
  have sc:=Kl
  have T:=T0
  have nd1:(["world","table"]:List Str).Nodup:=by decide +kernel
  refine⟨_,(Z9 (Zi (i:=4) sc.nd rfl (Or.inl rfl) (Ze jD hr (Z0 (pv 3) (Z0 (pv 2) Z8))))
   (Z9 (Zi (i:=5) sc.nd rfl (Or.inl rfl) (Zl Yt (pv 0) (Zz Y4 rfl T.len boot_len (Z0 (pv 1) Z8))))
   (Z9 (Zi (i:=6) sc.nd rfl (Or.inr rfl) (Ze iD hr (Z0 (Ze jR hr (Z0 (pv 0) (Z0 (pv 1) (Z0 (pv 2) (Z0 (pv 4) Z8))))) (Z0 (pv 5) Z8))))
   (Z9 (Yd (Zn W7 (pv 5) (Yh (pv 6) rfl) rfl)
    (Zc (Zj (Yf (Z0 Xo (Z0 (Ze eP hr (Z0 (pv 0) (Z0 (pv 1) (Z0 (pv 6) (Z0 (pv 5) (Z0 Za Z8)))))) Z8)))))
    Zu)
   (Z9 (Zi (i:=6) sc.nd rfl (Or.inr rfl) (Ze iD hr (Z0 (pv 6) (Z0 (Zl Yt (pv 5) Za) Z8))))
   (Z9 (Zi (i:=7) sc.nd rfl (Or.inl rfl) (Ze eD hr (Z0 (pv 4) Z8)))
   (Z9 (Zi (i:=8) sc.nd rfl (Or.inl rfl) (Ze fH hr (Z0 (U0 Wp (Ze jC hr (Z0 (pv 6) (Z0 (Zl Yt (pv 5) Za) Z8)))) (Z0 (Zl Zx (pv 7) (Yh (pv 6) rfl)) Z8))))
   (Z9 (Zi (i:=9) sc.nd rfl (Or.inl rfl) (Zy Zv rfl T.tuple PyProof.Rows.boot_tuple (Z0 (Yk (N:=["world","table"]) (k:=1) (fv:=[6]) rfl (Yj rfl T.range (Z0 (pv 0) Z8))
   (fun _ _ _ _ _=>Zk (i:=0) nd1 rfl (Or.inl rfl)) (fun _ _ _ _ _=>Y7) (fun _ _ _ _ _=>(Ze fH hr (Z0 (Ze jC hr (Z0 (pv 1) (Z0 (pv 0) Z8))) (Z0 (Pm (K:=K) (pv 1) rfl) Z8)))) Zw) Z8)))
   (Zc (Zj (Yf (Z0 Xo (Z0 (pv 8) (Z0 (pv 9) (Z0 (Ze eP hr (Z0 (pv 0) (Z0 (pv 1) (Z0 (pv 6) (Z0 (Zl Yt (pv 5) Za) (Z0 (pv 7) Z8)))))) Z8))))))))))))))),?_⟩
  have o1:rss.length<rss.length+2:=Nat.lt_add_of_pos_right (by decide)
  have o2:rss.length+1<rss.length+2:=Nat.lt_succ_self _
  have o3:rss.length+2<=900:=Nat.le_trans hm (by decide)
  have o4:c<=900:=Nat.le_trans hc (by decide)
  have o5:rss.length<=900:=Nat.le_trans (Nat.le_add_right _ 2) o3
  have o6:rss.length+2<=1000:=Nat.le_trans o3 (by decide)
  have o8:c<=1000:=Nat.le_trans o4 (by decide)
  have o9:rss.length<=800:=Nat.le_trans (Nat.le_add_right _ 2) (Nat.le_trans hm (by decide))
  have ev':EvAt K H as.length o ve:=by rw[gl];exact hv
  refine⟨_,rfl,_,rfl,g,ve,as,o,rfl,hg,ev',by rw[gl];exact o8,fun pg H1 S1 rg=>?_⟩
  obtain⟨ads,hl,hp⟩:=id hR
  have elen:(ads.map V.ref).length=rss.length:=by rw[List.length_map];exact Paired.length hp
  have gl':(cutR o as).length=c:=by rw[Yl];exact gl
  refine⟨_,rfl,_,rfl,l,_,rfl,.inl (SqL.of (S1 _ _ hl)),?_⟩
  rw[elen]
  refine⟨_,_,rfl,rfl,?_⟩
  refine⟨_,rfl,_,rfl,_,rfl,_,rfl,l,pg,ve,c,n,rss,o,cutR o as,rfl,⟨ads,S1 _ _ hl,Yg hp (Ext.same S1)⟩,hv.same S1,rg,gl',hrs,⟨_,_,ra.cut o⟩,hn1,hn,hc2,hc,o9,fun q2 H2 S2 tab2=>?_⟩
  refine⟨_,rfl,q2,rss.length+2,c,c+rss.length,rss.length,N,c+rss.length,Sv.colS c rss.length (AOf rss) (rowF (papR c o)) (rowF (cutR o as)),Sv.rhsS rss.length,(fun T'=>T'.own (rss.length+1)=c+rss.length+1),_,rfl,tab2,o1,o3,o4,hbits,Sv.inv0,Sv.feas0,rfl,rfl,hbd,fun T' c' I' F' X' ho hc' hnl hpos=>⟨rss.length,o1,by rw[ho];exact Nat.le_refl _,hpos⟩,fun T' pl c' I' X' st=>?_,fun q3 H3 T3 S3 tab3 ⟨I3,F3,X3,alt⟩=>?_⟩
  ·have:pl≠rss.length+1:=fun z=>by
    have:=st.el
    rw[z,X'] at this
    omega
   show (Sv.piv T' pl c').own (rss.length+1)=_
   rw[Sv.own_ne (Ne.symm this)]
   exact X'
  have S03:=(S1.trans S2).trans S3
  obtain⟨dx,la,oa,ha,las,h1,h2,h3,h4,h5,h6⟩:=id tab3
  refine⟨_,rfl,_,rfl,q3,C,dx,_,_,rfl,h1,tc.cl,tc.nO,X6,Px h5 ⟨_,rfl,?_⟩⟩
  rcases alt with ⟨ho,hno⟩ | ⟨T1,c1,ho,I1,st,e3⟩
  ·refine Xd (fun _=>?_) (fun h=>absurd (decide_eq_true (mem_ownI.mpr ⟨rss.length,o1,ho⟩)) h)
   refine⟨_,rfl,_,rfl,_,rfl,_,rfl,l,q3,c,rss.length+2,c+rss.length,rss.length,n,N,1,rss,T3,by rw[ho];rfl,⟨ads,S03 _ _ hl,Yg hp (Ext.same S03)⟩,tab3,TabOk.of I3,hbd _ I3,I3.pos,o1,o3,o4,o5,fun rs hr=>(hrs rs hr).2,by decide,(show Bd n 1 from Nat.lt_of_lt_of_le (show (1:Int).natAbs<2 ^ 1 by decide) (Nat.pow_le_pow_right (by decide) hn1)),hn,hnN,fun q4 xs H4 f4 S4 e4 r4=>?_⟩
   refine⟨sz2,fun t ht=>?_⟩
   have S5:=Same.new (o:=.tup [.str "none",.ref q4]) ht
   exact kN T3 q4 t xs _ (Qv S03 f4) ((S03.trans S4).trans S5) ⟨I3,ho,X3,hno⟩ (S5 _ _ e4) (r4.ext (Ext.same S5)) (SqT.of Zb)
  ·subst e3
   have hlk:∃ jl,jl<c/\(Sv.piv T1 rss.length c1).hd jl=c+rss.length:=⟨c1,st.hc,by
    show Sv.up T1.hd c1 (T1.own rss.length) c1=_
    unfold Sv.up
    rw[if_pos rfl]
    exact ho⟩
   generalize Sv.piv T1 rss.length c1=T3 at *
   refine Xd (fun h=>?_) (fun _=>?_)
   ·obtain⟨i,hi,e⟩:=mem_ownI.mp (of_decide_eq_true h)
    obtain⟨jl,hjl,ej⟩:=hlk
    exact absurd (e.trans ej.symm) (I3.ne hi hjl)
   ·have ok3:=TabOk.of I3
    refine⟨_,rfl,_,rfl,_,_,rfl,rfl,q3,rss.length+2,c,c+rss.length,rss.length+1,N,c+rss.length+1,Sv.colS c rss.length (AOf rss) (rowF (papR c o)) (rowF (cutR o as)),Sv.rhsS rss.length,(fun T'=>∃ jl,jl<c/\T'.hd jl=c+rss.length),T3,rfl,tab3,o2,o3,o4,hbits,I3,F3,hlk,X3,hbd,fun T' c' I' F' X' ho' hc' hnl hpos=>?_,fun T' pl c' I' X' st'=>?_,fun q5 H5 T5 S5 tab5 ⟨I5,F5,X5,alt⟩=>?_⟩
    ·obtain⟨jl,hjl,ej⟩:=X'
     obtain⟨k,hk,h7,h8⟩:=Sv.InvS.bounded I' (fun v hv=>Z0d hv) (fun v hv z=>Gd hv gl z) (i:=rss.length+1) (o2) ho' hjl ej hc' hnl hpos
     exact⟨k,hk,h7,h8⟩
    ·obtain⟨jl,hjl,ej⟩:=X'
     refine⟨jl,hjl,?_⟩
     show Sv.up T'.hd c' (T'.own pl) jl=_
     unfold Sv.up
     rw[if_neg (fun z=>st'.nl (by rw[← z];exact ej))]
     exact ej
    have ho5:T5.own (rss.length+1)=c+rss.length+1/\∀ j,j<c->T5.hd j≠c+rss.length->T5.L (rss.length+1) j<=0:=by
     rcases alt with h | ⟨T6,c6,h7,_,st6,_⟩
     ·exact h
     ·have:=st6.el
      omega
    have S05:=S03.trans S5
    have bd5:=hbd _ I5
    have ok5:=TabOk.of I5
    have gr:=(ra.cut o).least
    obtain⟨xg,hg1,hg2⟩:=rg.same ((S2.trans S3).trans S5)
    obtain⟨dx5,la5,oa5,ha5,las5,t1,t2,t3,t4,t5,t6⟩:=id tab5
    refine⟨_,rfl,pg,xg,cutR o as,n,_,_,rfl,.inr hg1,hg2,ra.cut o,hn,?_⟩
    have hq0:lcmB (cutR o as)*T5.b≠0:=by
     have:=Int.mul_pos gr.pos I5.pos
     omega
    refine⟨_,rfl,_,rfl,_,_,rfl,rfl,q5,rss.length+2,c,c+rss.length,c+rss.length+1,T5,rfl,tab5,ok5,o6,o8,_,rfl,_,rfl,_,rfl,q5,C,dx5,_,_,rfl,t1,tc.cl,tc.nB,V7,_,_,rfl,rfl,gr.bD.mulOk bd5.b (Nat.le_trans hn (by decide)) (Nat.le_trans hbits (by decide)),_,_,rfl,hq0,(gr.bD.mul bd5.b).log (Nat.lt_of_le_of_lt hnN (by decide)),fun va H6 f6 S6 e6=>?_⟩
    have S06:=S05.trans S6
    have t1':=S6 _ _ t1
    refine⟨_,rfl,(c:Int),rfl,(by omega),(by omega),fun d hd=>?_⟩
    have et:(c:Int).toNat=c:=by omega
    rw[et]
    refine⟨c,fun i ys H2=>Same H6 H2/\Rs K H2 ((loadsR c rss.length T5).take i) ys,Zp (o8),⟨Same.new hd,.nil⟩,?_,?_⟩
    ·rintro i ys H7 hi ⟨S7,r7⟩ hd7
     refine⟨hi,?_⟩
     rintro x H8 ⟨rfl,rfl⟩
     refine Ye ?_
     have S57:=S6.trans S7
     refine⟨_,rfl,_,rfl,q5,rss.length+2,c,c+rss.length,i,T5,by rw[Int.zero_add];rfl,tab5.same S57,ok5,o6,o8,_,rfl,q5,C,dx5,_,_,rfl,S57 _ _ t1,tc.cl,tc.nB,V7,_,_,rfl,by have:=I5.pos;omega,bd5.b.log (Nat.lt_of_le_of_lt hbits (by decide)),fun a8 H8 f8 S8 e8=>?_⟩
     have hd8:=S8 _ _ hd7
     refine⟨hd8,fun q z e=>?_,?_⟩
     ·rw[Zf (Zd e hd)]
      exact S8 _ _ (S7 _ _ e)
     ·have e4:(loadsR c rss.length T5)[i]?=some (nrm (Sv.endOf (rss.length+2) c T5 i) T5.b):=by
       unfold loadsR
       rw[List.getElem?_map,List.getElem?_range hi]
       rfl
      rw[Y9 e4]
      refine ((r7.ext (Ext.same S8)).ext (Ext.upd hd8)).snoc ⟨a8,rfl,SqT.of ?_⟩
      rw[Zf (fun z=>by rw[z] at e8;rw[e8] at hd8;cases hd8)]
      exact e8
    ·rintro ys H7 ⟨S7,r7⟩ hd7
     rw[List.take_of_length_le (by unfold loadsR;simp)] at r7
     refine⟨Nat.le_refl _,d,ys,rfl,.inl ⟨SqL.of hd7,fun lo hlo=>?_⟩⟩
     have S8:=S7.trans (Same.new (o:=.tup ys) hlo)
     have row8:RowAt K (upd H7 lo (.tup ys)) lo (loadsR c rss.length T5):=⟨ys,SqT.of Zb,r7.ext (Ext.new hlo)⟩
     generalize upd H7 lo (.tup ys)=H8 at *
     have S08:=S06.trans S8
     have S58:=S6.trans S8
     refine⟨_,rfl,_,rfl,_,rfl,_,rfl,_,rfl,_,rfl,_,_,rfl,rfl,_,rfl,l,q5,c,rss.length+2,c+rss.length,rss.length+1,n,N,lcmB (cutR o as),rss,T5,by rw[ho5.1];rfl,⟨ads,S08 _ _ hl,Yg hp (Ext.same S08)⟩,tab5.same S58,ok5,bd5,I5.pos,o2,o3,o4,o5,fun rs hr=>(hrs rs hr).2,gr.pos,gr.bD,hn,hnN,fun q9 xs H9 f9 S9 e9 r9=>?_⟩
     refine⟨sz4,fun t ht=>?_⟩
     have SX:=Same.new (o:=.tup [.str "most",.ref va,.ref lo,.ref q9]) ht
     refine kM T5 q9 t va lo xs _ (Qv S08 f9) ((S08.trans S9).trans SX) ⟨I5,F5,ho5.1,X5,ho5.2⟩ (SX _ _ e9) (r9.ext (Ext.same SX)) ⟨va,rfl,SqT.of (SX _ _ (S9 _ _ (S8 _ _ e6)))⟩ ((row8.same S9).same SX) (SqT.of Zb)
end
open Sv (sm Y5 Wq X2 sm_zero Ya Y1 Uc)
theorem Mm {c:Nat}{o:Option (Nat->Bool)}:lcmB (papR c o)=1:=by
 have h:∀ r∈papR c o,0<r.2:=fun r hr=>((Xv c o).good r hr).pos
 obtain⟨h1,_,h3⟩:=W8 h
 have h4:=h3 1 fun r hr=>by
  obtain⟨i,hi⟩:=List.getElem?_of_mem hr
  have hc:i<c:=by
   have:=(List.getElem?_eq_some_iff.mp hi).1
   rw[V2] at this
   exact this
  have e:(papR c o)[i]?=some (if inE o i then (1,1) else (0,1)):=Wo (by simp[hc])
  rw[e] at hi
  cases hi
  cases inE o i <;> exact Int.one_dvd 1
 have:=Xc (by decide) h4
 omega
theorem TabOk.endBd {m n N:Nat}{T:Sv.Tab}(h:TabOk m n T)(bd:TabBd N m n T)(v:Nat):Bd N (Sv.endOf m n T v):=by
 by_cases q:∃ i,i<m/\T.own i=v
 ·obtain⟨i,hi,rfl⟩:=q
  rw[h.endO hi]
  exact bd.l i n hi (Nat.le_refl _)
 ·have:Sv.endOf m n T v=0:=Sv.sm_zero fun i hi=>if_neg fun z=>q ⟨i,hi,z⟩
  rw[this]
  exact Bd.zero N
def endZ (c g:Nat)(T:Sv.Tab):List Int:=(List.range c).map fun v=>Sv.endOf (g+2) c T v
theorem Fc {c g v:Nat}{T:Sv.Tab}(hv:v<c):(endZ c g T).getD v 0=Sv.endOf (g+2) c T v:=by
 unfold endZ
 simp[List.getD,hv]
theorem Tf {c g N:Nat}{T:Sv.Tab}(pos:0<T.b)(ok:TabOk (g+2) c T)(bd:TabBd N (g+2) c T):RepL N T.b (endZ c g T) (loadsR c g T) :=
 RepL.of_map pos bd.b (List.range c) _ _ fun v _=>⟨Yu _ _,ok.endBd bd v,Yp (by omega)⟩
theorem V5 {r:Rat}{D W:Int}(hD:0<D)(hr:0<r.2)(h:r.1*D=W*r.2):(0<=r.1 ↔ 0<=W)/\(r.1<=0 ↔ W<=0)/\(r.1=0 ↔ W=0):=by
 have a1:0<r.1->0<W:=fun z=>by
  have h1:=Int.mul_pos z hD
  rw[h] at h1
  apply Classical.byContradiction
  intro q
  have:=Int.mul_nonpos_of_nonpos_of_nonneg (show W<=0 by omega) (show 0<=r.2 by omega)
  omega
 have a2:r.1<0->W<0:=fun z=>by
  have h1:=Int.mul_pos (show 0 < -r.1 by omega) hD
  rw[Int.neg_mul,h] at h1
  apply Classical.byContradiction
  intro q
  have:=Int.mul_nonneg (show 0<=W by omega) (show 0<=r.2 by omega)
  omega
 have a3:r.1=0->W=0:=fun z=>by
  rw[z,Int.zero_mul] at h
  rcases Int.mul_eq_zero.mp h.symm with q | q <;> omega
 omega
structure LoadsOk (c:Nat)(rss:List (List Rat))(o:Option (Nat->Bool))(as:List Rat)(N:Nat)(ls:List Rat)(va:Rat):Prop where
 len:ls.length=c
 rep:∃ D Ls,RepL N D Ls ls
 nn:∀ r∈ls,0<=r.1
 fit:∀ rs∈rss,(sumR (List.zipWith mulR' ls rs)).1<=0
 lie:sumR (List.zipWith mulR' ls (papR c o))=(1,1)
 val:va=sumR (List.zipWith mulR' ls (cutR o as))
theorem MostT.sv {c:Nat}{rss:List (List Rat)}{o:Option (Nat->Bool)}{gs:List Rat}{T:Sv.Tab}(h:MostT c rss o gs T):Sv.Most c rss.length (AOf rss) (rowF (papR c o)) (rowF gs) T (rss.length+1):=by
 obtain⟨jl,hjl,ej⟩:=h.lk
 exact Sv.InvS.most h.inv h.feas (by omega) h.aim hjl ej h.no
theorem NoneT.sv {c:Nat}{rss:List (List Rat)}{o:Option (Nat->Bool)}{gs:List Rat}{T:Sv.Tab}(h:NoneT c rss o gs T):(∀ k,k<rss.length->Sv.numAt c T rss.length (c+k)<=0)/\∀ w,w<c->rowF (papR c o) w*T.b<=sm rss.length (fun k=>AOf rss k w * -Sv.numAt c T rss.length (c+k)) :=
 Sv.InvS.none h.inv (by omega) h.lk (ia:=rss.length+1) (by omega) h.aim h.no
theorem Qw {c g:Nat}{T:Sv.Tab}:(loadsR c g T).length=c:=by unfold loadsR;simp
theorem Bl {c g:Nat}{T:Sv.Tab}:(endZ c g T).length=c:=by unfold endZ;simp
theorem L7 {rs:List Rat}{v:Nat}:(wholeB rs (lcmB rs)).getD v 0=rowF rs v:=rfl
theorem U7 {c g N n:Nat}{D:Int}{Zs:List Int}{rs:List Rat}{T:Sv.Tab}(pos:0<T.b)(ok:TabOk (g+2) c T)(bd:TabBd N (g+2) c T)(h:RepL n D Zs rs)(hl:rs.length=c) :
  (sumR (List.zipWith mulR' (loadsR c g T) rs)).1*(T.b*lcmB rs)=sm c (fun w=>rowF rs w*Sv.endOf (g+2) c T w)*(sumR (List.zipWith mulR' (loadsR c g T) rs)).2/\Low (sumR (List.zipWith mulR' (loadsR c g T) rs)):=by
 have hw:=h.least
 obtain⟨e,lo⟩:=((Tf pos ok bd).mul hw (by rw[Qw];omega)).sum
 refine⟨?_,lo⟩
 have e2:(List.zipWith (·*·) (endZ c g T) (wholeB rs (lcmB rs))).sum=sm c (fun w=>rowF rs w*Sv.endOf (g+2) c T w):=by
  rw[Kb c _ _ Bl (by rw[hw.len];exact hl)]
  refine Y5 fun i hi=>?_
  rw[Fc hi,L7,Int.mul_comm]
 rw[← e2]
 exact e
theorem MostT.loads {c n:Nat}{rss:List (List Rat)}{o:Option (Nat->Bool)}{as:List Rat}{T:Sv.Tab}(h:MostT c rss o (cutR o as) T)(hrs:∀ rs∈rss,rs.length=c/\∃ D Ws,RepL n D Ws rs)(ha:∃ D Ws,RepL n D Ws as)(la:as.length=c)(hn:1<=n)(hm:rss.length+2<=32) :
  LoadsOk c rss o as (bitsOf n c rss.length) (loadsR c rss.length T) (valueR c rss.length (cutR o as) T):=by
 have I:=h.inv
 have pos:=I.pos
 have ok:=TabOk.of I
 obtain⟨Da,Wa,ra⟩:=ha
 have bd:=Fn hrs ⟨_,_,ra.cut o⟩ hn hm I
 have M:=h.sv
 have lr:=Tf pos ok bd
 refine⟨Qw,⟨_,_,lr⟩,fun r hr=>?_,fun rs hr=>?_,?_,?_⟩
 ·unfold loadsR at hr
  obtain⟨v,hv,rfl⟩:=List.mem_map.mp hr
  have hv':v<c:=by simpa using hv
  exact ((V5 (r:=nrm (Sv.endOf (rss.length+2) c T v) T.b) pos (Yp (by omega)).pos (Yu _ _)).1).mpr (M.x0 v hv')
 ·obtain⟨hl,D,Ws,rp⟩:=hrs rs hr
  obtain⟨e,lo⟩:=U7 pos ok bd rp hl
  obtain⟨k,hk,ek⟩:=List.getElem_of_mem hr
  have ea:AOf rss k=rowF rs:=by
   funext v
   unfold AOf rowF
   simp[List.getD,hk,ek]
  have:=M.fit k hk
  rw[ea] at this
  have p2:=Int.mul_pos pos rp.least.pos
  exact ((V5 p2 lo.pos e).2.1).mpr this
 ·obtain⟨e,lo⟩:=U7 pos ok bd (Xv c o) (V2 c o)
  rw[M.lie,Mm,Int.mul_one,Int.mul_comm] at e
  have e1:=Int.eq_of_mul_eq_mul_left (show T.b≠0 by omega) e
  refine Xf lo.pos low11.pos lo.cop low11.cop ?_
  show _*1=1*_
  rw[e1]
  omega
 ·have lc:(cutR o as).length=c:=by rw[Yl];exact la
  obtain⟨e,lo⟩:=U7 pos ok bd (ra.cut o) lc
  rw[M.val] at e
  have p2:=Int.mul_pos (ra.cut o).least.pos pos
  have lv:Low (valueR c rss.length (cutR o as) T):=Yp (by omega)
  have ev:(valueR c rss.length (cutR o as) T).1*(lcmB (cutR o as)*T.b)=-Sv.endOf (rss.length+2) c T (c+rss.length+1)*(valueR c rss.length (cutR o as) T).2:=Yu _ _
  rw[← h.aim,ok.endO (by omega)] at ev
  generalize valueR c rss.length (cutR o as) T=va at *
  generalize sumR (List.zipWith mulR' (loadsR c rss.length T) (cutR o as))=s at *
  refine Xf lv.pos lo.pos lv.cop lo.cop ?_
  have q0:lcmB (cutR o as)*T.b≠0:=by omega
  generalize hE:-T.L (rss.length+1) c=E at *
  generalize hL:lcmB (cutR o as)=L at *
  apply Int.eq_of_mul_eq_mul_right q0
  have h1:va.1*s.2*(L*T.b)=(va.1*(L*T.b))*s.2:=by grind
  have h2:s.1*va.2*(L*T.b)=(s.1*(T.b*L))*va.2:=by grind
  rw[h1,h2,ev,e]
  grind
end Sb
namespace Sb
open PySem L2
def TabHere (K:W.Frag)(mg:Str->Option Value):Prop:=∃ (C f:Addr) (fd:FuncData),TabC K mg C/\Mk K C f/\Fun K "__init__" "Table.__init__" j3 f fd/\Binds K fd ["self","lines","owners","heads","bottom","lack"] []
theorem Z22 {K:W.Frag}{h:Heap}{mg:Str->Option Value}{C f:Addr}{oc:Value}{od an:Option Addr}{sl:Array (Option Value)}{kV dc pm cd ct:Value}(X:K.In h)(G:h.Ns mainGlobals mg)
  (aC:W.nsIn K mainGlobals "Table"=some (some (.ref C)))
  (a1:W.findIn K (.ref C) "__init__"=some (some (.ref f))) (i1:W.isFn K (.ref f)=true) (l1:K.lookup f=some ⟨oc,od,.func (W.fnOf "__init__" "Table.__init__" (defArgs j3) (defBody j3) (defScope j3) .none kV dc pm an cd ct),sl⟩) (c1:W.codeIn K cd "Table.__init__"=true) (k1:W.keepIn K (.ref f)=true)
  (pg:W.plainGet K C Str.empty=true) (hd:W.hasDictIn K C=true) (po:W.plainOver K C=true) (sa:W.findIn K (.ref C) "__setattr__"=some (some (.builtin "object.__setattr__"))) (mk:W.makesIn K C=true) (kc:W.keepIn K (.ref C)=true)
  (nL:W.findIn K (.ref C) "lines"=some none) (nO:W.findIn K (.ref C) "owners"=some none) (nH:W.findIn K (.ref C) "heads"=some none) (nB:W.findIn K (.ref C) "bottom"=some none) (nK:W.findIn K (.ref C) "lack"=some none):TabHere K mg :=
 ⟨C,f,_,⟨⟨pg,hd,po,sa⟩,nL,nO,nH,nB,nK,W.mg_of X G aC⟩,⟨mk,a1,i1,kc⟩,Q3 l1 c1 k1,(Q3 l1 c1 k1).binds fun _ _ _ _ _ _ us hl=>match us,hl with | [_,_,_,_,_,_],_=>rfl⟩
def fZ (K:W.Frag):Sp:=fun vs H Q _=>∃ (a b:Addr) (xs us:List V) (ws rs:List Rat) (n n':Nat) (D D':Int) (Ws Zs:List Int),vs=[.ref a,.ref b]/\(SqL K H a xs \/ SqT K H a xs)/\Rs K H ws xs/\(SqL K H b us \/ SqT K H b us)/\Rs K H rs us/\ws.length=rs.length/\rs.length<=1000/\RepL n D Ws ws/\RepL n' D' Zs rs/\n+n'+10<=4000 ∧
 ∀ c H',Same H H'->SqT K H' c [.int (sumR (List.zipWith mulR' ws rs)).1,.int (sumR (List.zipWith mulR' ws rs)).2]->Q (.ref c) H'
section
variable {P:Program}{w:World}{K:W.Frag}{mg:Str->Option Value}{base:Heap}
theorem Nu:FnScope ["_law_weights_here","_law_row_here","_law_some","_law_k"] ["_law_weights_here","_law_row_here"] (defScope lV):=fsc
theorem Ca (D:Def K mg "_law_mean" lV ["_law_weights_here","_law_row_here"])(T:Blt mg)(eF:Z3 P w K mg base)(eI:Z6 P w K mg base) :
  Has P w K mg base 4 "_law_mean" ["_law_weights_here","_law_row_here"] (fZ K):=by
 refine D.has fun f fd F=>F.ok Nu (fun vs H Q E h=>?_) (fun cdv A outer s H vs Q E hr h=>?_)
 ·obtain⟨a,b,xs,us,ws,rs,n,n',D,D',Ws,Zs,rfl,_⟩:=h
  rfl
 ·obtain⟨a,b,xs,us,ws,rs,n,n',D,D',Ws,Zs,rfl,hA,hWs,hB,hRs,hl,hl2,rw_,rr,hnn,k⟩:=h
  have sc:=Nu
  refine⟨_,(Z9 (Zi (i:=2) sc.nd rfl (Or.inl rfl) (Yf (Z0 Za (Z0 Za Z8))))
   (Z9 (Xn PassesOwn.never rfl (Yj rfl T.range (Z0 (Zz Y4 rfl T.len boot_len (Z0 (pv 1) Z8)) Z8)) (Zk (i:=3) sc.nd rfl (Or.inl rfl))
    (Zc (Zi (i:=2) sc.nd rfl (Or.inl rfl) (Ze eF hr (Z0 (pv 2) (Z0 (Ze eI hr (Z0 (Zh Cz (pv 0) (pv 3) (fun _ _=>rfl)) (Z0 (Zh Cz (pv 1) (pv 3) (fun _ _=>rfl)) Z8))) Z8))))))
   (Zc (Zj (pv 2))))),?_⟩
  refine⟨sz2,fun p hp=>?_⟩
  have lx:=hWs.len
  have lu:=hRs.len
  have S0:Same H (upd H p (.tup [.int 0,.int 1])):=Same.new hp
  have rm:=rw_.mul rr hl
  have lz:(List.zipWith mulR' ws rs).length=rs.length:=by rw[List.length_zipWith];omega
  have anyS:∀ {c:Addr} {ys:List V} {H1:Hp},Same H H1->(SqL K H c ys \/ SqT K H c ys)->(SqL K H1 c ys \/ SqT K H1 c ys):=fun S h=>h.elim (fun z=>.inl (M3 S z)) fun z=>.inr (Zq S z)
  refine⟨_,rfl,b,us,rfl,anyS S0 hB,(us.length:Int),rfl,(by omega),(by omega),?_⟩
  have et:(us.length:Int).toNat=us.length:=by omega
  rw[et]
  refine Vx (lo:=0) (n:=us.length) (fun i σ H'=>Same H H'/\∃ (c:Addr) (x:Option V),σ=[some (.ref a),some (.ref b),some (.ref c),x]/\SqT K H' c [.int (sumR ((List.zipWith mulR' ws rs).take i)).1,.int (sumR ((List.zipWith mulR' ws rs).take i)).2]) ⟨S0,p,none,rfl,SqT.of Zb⟩ ?_ ?_
  ·rintro i σ H1 hi ⟨S1,c,x0,rfl,hc⟩
   have e0:(0+(i:Int))=((i:Nat):Int):=by omega
   rw[e0]
   have hir:i<ws.length:=by omega
   have his:i<rs.length:=by omega
   have er:ws[i]?=some ws[i]:=by simp[hir]
   have es:rs[i]?=some rs[i]:=by simp[his]
   obtain⟨x1,ex,ix⟩:=hWs.at er
   obtain⟨y1,ey,iy⟩:=hRs.at es
   obtain⟨a1,rfl,sq1⟩:=ix.ext (Ext.same S1)
   obtain⟨b1,rfl,sq2⟩:=iy.ext (Ext.same S1)
   refine⟨_,rfl,_,rfl,_,rfl,a,xs,_,_,rfl,rfl,anyS S1 hA,Zg ex,_,rfl,_,rfl,b,us,_,_,rfl,rfl,anyS S1 hB,Zg ey,?_⟩
   refine⟨a1,b1,ws[i],rs[i],n+n'+10,rfl,sq1,sq2,(rw_.good _ (List.getElem_mem hir)).mono (by omega),(rr.good _ (List.getElem_mem his)).mono (by omega),by omega,fun c2 H2 f2 S2 e2=>?_⟩
   have ez:(List.zipWith mulR' ws rs)[i]?=some (mulR' ws[i] rs[i]):=by rw[List.getElem?_zipWith,er,es]
   refine⟨c,c2,_,mulR' ws[i] rs[i],n+n'+10,rfl,Zq S2 hc,SqT.of e2,(rm.take i).sumGood (k:=10) (by rw[List.length_take];omega),(rm.good _ (List.mem_of_getElem? ez)).mono (by omega),hnn,fun c3 H3 f3 S3 e3=>?_⟩
   refine⟨(S1.trans S2).trans S3,c3,_,rfl,?_⟩
   rw[Qh ez]
   exact SqT.of e3
  ·rintro σ H1 ⟨S1,c,x0,rfl,hc⟩
   rw[List.take_of_length_le (by omega)] at hc
   exact⟨_,rfl,k c H1 S1 hc⟩
end
open Sv (sm Y5 Wq X2 sm_zero Ya Y1 Uc)
theorem Z1l {rss:List (List Rat)}{k:Nat}(hk:k<rss.length):AOf rss k=rowF rss[k]:=by
 funext v
 unfold AOf rowF
 simp[List.getD,hk]
end Sb
namespace Sb
open PySem L2
open Sv (sm Y5 Wq X2 sm_zero Ya Y1 Uc)
theorem Z38 {N i:Nat}{f:Nat->Int}(h:∀ j,j<i->Bd N (f j))(hi:i<=1000):Bd (N+10) (sm i f):=by
 have h1:=Sv.sm_abs (n:=i) (M:=2 ^ N) (f:=f) fun j hj=>Nat.le_of_lt (h j hj)
 have h2:i*2 ^ N<=1000*2 ^ N:=Nat.mul_le_mul_right _ hi
 have h3:2 ^ (N+10)=1024*2 ^ N:=by rw[Nat.pow_add,Nat.mul_comm]
 have h4:=Nat.two_pow_pos N
 show (sm i f).natAbs<2 ^ (N+10)
 omega
structure ComeR (c n N:Nat)(rss:List (List Rat))(ms:List Rat)(D:Int)(E:Nat->Nat->Int):Prop where
 pos:0<D
 bD:Bd N D
 len:∀ rs∈rss,rs.length=c
 lm:ms.length=rss.length
 gr:∀ rs∈rss,∀ r∈rs,Good n r
 gm:∀ m∈ms,Good n m
 at_:∀ (j k:Nat) (rs:List Rat) (r m:Rat),rss[j]?=some rs->rs[k]?=some r->ms[j]?=some m->(mulR' r m).1*D=E j k*(mulR' r m).2/\Bd N (E j k)
def comeE (c g:Nat)(E:Nat->Nat->Int):List Int:=(List.range c).map fun k=>sm g (fun j=>E j k)
theorem Ux {c g k:Nat}{E:Nat->Nat->Int}(hk:k<c):(comeE c g E)[k]?=some (sm g (fun j=>E j k)):=by
 unfold comeE
 simp[hk]
theorem Z3s {c N:Nat}{D:Int}{E:Nat->Nat->Int}(pos:0<D)(bD:Bd N D):RepL (N+10) D (comeE c 0 E) (List.replicate c (0,1)):=by
 refine⟨pos,bD.mono (by omega),by unfold comeE;simp,fun i W r hW hr=>?_⟩
 have h2:=List.eq_of_mem_replicate (List.mem_of_getElem? hr)
 subst h2
 have hi:i<c:=by have:=(List.getElem?_eq_some_iff.mp hr).1;simpa using this
 rw[Ux hi] at hW
 cases hW
 refine⟨?_,bd0 _,Um⟩
 show (0:Int)*D=0*1
 omega
theorem Ff {c n N g:Nat}{rss:List (List Rat)}{ms:List Rat}{D:Int}{E:Nat->Nat->Int}{cs ns:List Rat}{rs:List Rat}{m:Rat}(h:ComeR c n N rss ms D E)(hg:g<rss.length)(hg2:rss.length<=1000)(er:rss[g]?=some rs)(em:ms[g]?=some m)(rc:RepL (N+10) D (comeE c g E) cs)(ln:ns.length=c)(hn:∀ (k:Nat) (r x:Rat),cs[k]?=some x->rs[k]?=some r->ns[k]?=some (addR x (mulR' r m))):RepL (N+10) D (comeE c (g+1) E) ns:=by
 refine⟨h.pos,h.bD.mono (by omega),by unfold comeE;simp[ln],fun k W z hW hz=>?_⟩
 have hk:k<c:=by have:=(List.getElem?_eq_some_iff.mp hz).1;omega
 have lc:cs.length=c:=by rw[← rc.len];unfold comeE;simp
 have lr:=h.len rs (List.mem_of_getElem? er)
 have ex:cs[k]?=some (cs[k]'(by omega)):=by simp
 have ey:rs[k]?=some (rs[k]'(by omega)):=by simp
 have e:=hn k _ _ ex ey
 rw[e] at hz
 cases hz
 rw[Ux hk] at hW
 cases hW
 obtain⟨a1,_,a3⟩:=rc.at_ k _ _ (Ux hk) ex
 obtain⟨b1,_⟩:=h.at_ g k rs _ m er ey em
 have gr:=h.gr rs (List.mem_of_getElem? er) _ (List.mem_of_getElem? ey)
 have gm:=h.gm m (List.mem_of_getElem? em)
 have lm:=Xe gr.low gm.low
 refine⟨?_,Z38 (fun j hj=>?_) (by omega),Wn a3 lm⟩
 ·exact Sl a3.pos lm.pos a1 b1
 ·have hj':j<rss.length:=by omega
  have e1:rss[j]?=some rss[j]:=by simp[hj']
  have l1:=h.len rss[j] (List.getElem_mem hj')
  have e2:rss[j][k]?=some (rss[j][k]'(by omega)):=by simp
  have e3:ms[j]?=some (ms[j]'(by have:=h.lm;omega)):=by simp
  exact (h.at_ j k _ _ _ e1 e2 e3).2
theorem Ps {c:Nat}{rss:List (List Rat)}{T:Sv.Tab}{i j:Nat}{b:Int}(hj:j<rss.length):(multR c rss T i b)[j]?=some (nrm (-(Sv.numAt c T i (c+j))*lcmB rss[j]) (b*T.b)):=by
 unfold multR
 simp[List.getD,hj]
theorem Vo {c:Nat}{rss:List (List Rat)}{T:Sv.Tab}{i:Nat}{b:Int}:(multR c rss T i b).length=rss.length:=by unfold multR;simp
theorem Jd {c i n:Nat}{rss:List (List Rat)}{T:Sv.Tab}{b:Int}(hrs:∀ rs∈rss,rs.length=c/\∃ D Ws,RepL n D Ws rs)(pos:0<T.b)(hb:0<b)(h:∀ k,k<rss.length->Sv.numAt c T i (c+k)<=0):∀ m∈multR c rss T i b,0<=m.1:=fun m hm=>by
 have p2:=Int.mul_pos hb pos
 obtain⟨j,hj⟩:=List.getElem?_of_mem hm
 have hjl:j<rss.length:=by have:=(List.getElem?_eq_some_iff.mp hj).1;rw[Vo] at this;exact this
 rw[Ps hjl] at hj
 cases hj
 obtain⟨_,D,Ws,rp⟩:=hrs _ (List.getElem_mem hjl)
 have lp:=rp.least.pos
 have y:=h j hjl
 refine ((V5 p2 (Yp (by omega)).pos (Yu (-(Sv.numAt c T i (c+j))*lcmB rss[j]) (b*T.b))).1).mpr ?_
 exact Int.mul_nonneg (by omega) (by omega)
end Sb
namespace Sb
open PySem L2
open Sv (sm Y5 Wq X2 sm_zero Ya Y1 Uc)
def multY (c:Nat)(rss:List (List Rat))(T:Sv.Tab)(i:Nat):List Int:=(List.range rss.length).map fun k=>-(Sv.numAt c T i (c+k))*lcmB (rss.getD k [])
theorem Cr {c n N i:Nat}{rss:List (List Rat)}{T:Sv.Tab}{b:Int}(hrs:∀ rs∈rss,rs.length=c/\∃ D Ws,RepL n D Ws rs)(pos:0<T.b)(ok:TabOk (rss.length+2) c T)(bd:TabBd N (rss.length+2) c T)(hi:i<rss.length+2)(hb:0<b)(bb:Bd n b):RepL (n+N) (b*T.b) (multY c rss T i) (multR c rss T i b):=by
 have p2:=Int.mul_pos hb pos
 refine RepL.of_map p2 (bb.mul bd.b) (List.range rss.length) _ _ fun k hk=>⟨Yu _ _,?_,Yp (by omega)⟩
 have hk':k<rss.length:=by simpa using hk
 have eg:rss.getD k []=rss[k]:=by simp[List.getD,hk']
 obtain⟨_,D,Ws,rp⟩:=hrs _ (List.getElem_mem hk')
 have b1:=((ok.numBd bd hi (c+k)).neg).mul rp.least.bD
 rw[Nat.add_comm] at b1
 rw[eg]
 exact b1
def wholeM (ms:List Rat):List Int:=wholeB ms (lcmB ms)
theorem L8 (ms:List Rat):(wholeM ms).length=ms.length:=by unfold wholeM wholeB;simp
theorem LoadsOk.total {c N:Nat}{rss:List (List Rat)}{as ls:List Rat}{va:Rat}(h:LoadsOk c rss none as N ls va):sumR ls=(1,1):=by
 have e:=h.lie
 have e2:List.zipWith mulR' ls (papR c none)=ls:=by
  obtain⟨D,Ls,rL⟩:=h.rep
  apply List.ext_getElem?
  intro i
  rw[List.getElem?_zipWith]
  by_cases hi:i<ls.length
  ·have h1:ls[i]?=some ls[i]:=by simp[hi]
   have h2:(papR c none)[i]?=some (1,1):=by
    have:(papR c none)[i]?=some (if inE none i then (1,1) else (0,1)):=Wo (by rw[List.getElem?_replicate,if_pos (by have:=h.len;omega)])
    rw[this]
    rfl
   rw[h1,h2]
   have lo:=(rL.good _ (List.getElem_mem hi)).low
   have e:=Yu (ls[i].1*1) (ls[i].2*1)
   have l:Low (mulR' ls[i] (1,1)):=Xe lo low11
   show some (mulR' ls[i] (1,1))=some ls[i]
   congr 1
   refine Xf l.pos lo.pos l.cop lo.cop ?_
   have:(mulR' ls[i] (1,1)).1*(ls[i].2*1)=(ls[i].1*1)*(mulR' ls[i] (1,1)).2:=e
   rw[Int.mul_one,Int.mul_one] at this
   exact this
  ·have h1:ls[i]?=none:=by simp;omega
   rw[h1]
 rw[e2] at e
 exact e
end Sb
namespace Sb
open PySem PySem.Spec PyProof.Rows L2
section
variable {X:Cx}{K:W.Frag}
end
end Sb
namespace Sb
open PySem L2
section
variable {P:Program}{w:World}{K:W.Frag}{mg:Str->Option Value}{base:Heap}
theorem Ks:FnScope ["one","other"] ["one","other"] (defScope lS):=fsc
theorem Z0t (D:Def K mg "minus" lS ["one","other"])(fD:Has P w K mg base 2 "lowest" ["top","bottom"] eG):Has P w K mg base 3 "minus" ["one","other"] (fK K subR):=by
 refine D.has fun f fd F=>F.ok Ks (fun vs H Q E h=>?_) (fun cdv A outer s H vs Q E hr h=>?_)
 ·obtain⟨a,b,r,s,n,rfl,_⟩:=h
  rfl
 ·obtain⟨a,b,r,s,n,rfl,hA,hB,gr,gs,hn,k⟩:=h
  have sc:=Ks
  refine⟨_,(Zc (Zj (Ze fD hr (Z0 (Zl U5 (Zl Zx (Zh Xj (pv 0) Za (fun _ _=>rfl)) (Zh X7 (pv 1) Za (fun _ _=>rfl))) (Zl Zx (Zh Xj (pv 1) Za (fun _ _=>rfl)) (Zh X7 (pv 0) Za (fun _ _=>rfl)))) (Z0 (Zl Zx (Zh X7 (pv 0) Za (fun _ _=>rfl)) (Zh X7 (pv 1) Za (fun _ _=>rfl))) Z8))))),?_⟩
  exact⟨_,rfl,_,_,_,rfl,rfl,hA,_,rfl,_,_,_,rfl,rfl,hB,_,_,rfl,rfl,gr.b1.mulOk gs.b2 (by omega) (by omega),_,rfl,_,_,_,rfl,rfl,hB,_,rfl,_,_,_,rfl,rfl,hA,_,_,rfl,rfl,gs.b1.mulOk gr.b2 (by omega) (by omega),_,_,rfl,rfl,_,rfl,_,_,_,rfl,rfl,hA,_,rfl,_,_,_,rfl,rfl,hB,_,_,rfl,rfl,gr.b2.mulOk gs.b2 (by omega) (by omega),_,_,rfl,Xp gr.pos gs.pos,Uo gr.b2 gs.b2 hn,k⟩
end
def ConI (mg:Str->Option Value)(x:Str)(i:Int):Prop:=∃ t,mg x=some (Value.int i t)
theorem Sq {K:W.Frag}{h:Heap}{mg:Str->Option Value}{x:Str}{i:Int}{t:Tok}(X:K.In h)(G:h.Ns mainGlobals mg)(e:W.nsIn K mainGlobals x=some (some (.int i t))):ConI mg x i:=⟨t,W.mg_of X G e⟩
structure Offr where
 row:List Rat
 ask:Option Rat
 bid:Option Rat
 ev:Option (Nat->Bool)
def MayAt (K:W.Frag)(H:Hp)(o:Option Rat)(v:V):Prop:=match o with
 | none=>v=.non
 | some r=>IsR K H r v
theorem MayAt.ext {K:W.Frag}{H H':Hp}{o:Option Rat}{v:V}(h:MayAt K H o v)(e:Ext H H'):MayAt K H' o v:=by
 cases o with
 | none=>exact h
 | some r=>exact IsR.ext h e
def OffAt (K:W.Frag)(H:Hp)(c:Nat)(o:Offr)(v:V):Prop:=∃ (p a:Addr) (va vb ve:V),v=.ref p/\SqT K H p [.ref a,va,vb,ve]/\RowAt K H a o.row/\o.row.length=c/\MayAt K H o.ask va/\MayAt K H o.bid vb/\EvAt K H c o.ev ve
theorem OffAt.ext {K:W.Frag}{H H':Hp}{c:Nat}{o:Offr}{v:V}(h:OffAt K H c o v)(e:Ext H H'):OffAt K H' c o v:=by
 obtain⟨p,a,va,vb,ve,h0,h1,h2,h3,h4,h5,h6⟩:=h
 exact⟨p,a,va,vb,ve,h0,e.sq h1,h2.ext e,h3,h4.ext e,h5.ext e,h6.ext e⟩
theorem OffAt.same {K:W.Frag}{H H':Hp}{c:Nat}{o:Offr}{v:V}(h:OffAt K H c o v)(e:Same H H'):OffAt K H' c o v:=h.ext (Ext.same e)
structure GoodO (n:Nat)(o:Offr):Prop where
 row:∀ r∈o.row,Good n r
 ask:∀ r,o.ask=some r->Good n r
 bid:∀ r,o.bid=some r->Good n r
def gainR (o:Offr)(buy:Bool):List Rat:=cutR o.ev (o.row.map fun r=>if buy then subR r (o.ask.getD (0,1)) else subR (o.bid.getD (0,1)) r)
def priceO (o:Offr)(buy:Bool):Option Rat:=if buy then o.ask else o.bid
def wordO (buy:Bool):Str:=if buy then "buy" else "sell"
theorem F9 (o:Offr)(buy:Bool):(gainR o buy).length=o.row.length:=by unfold gainR;rw[Yl,List.length_map]
section
variable {P:Program}{w:World}{K:W.Frag}{mg:Str->Option Value}{base:Heap}
def iQ (K:W.Frag):Sp:=fun vs H Q _=>∃ (v:V) (c n:Nat) (o:Offr) (buy:Bool) (pr:Rat),vs=[v,.str (wordO buy)]/\OffAt K H c o v/\c<=1000/\GoodO n o/\n<=4000/\priceO o buy=some pr ∧
 ∀ p H',Same H H'->RowAt K H' p (gainR o buy)->Q (.ref p) H'
theorem D3:FnScope ["offer","word","worths"] ["offer","word"] (defScope mF):=fsc
theorem Z2m (D:Def K mg "gain" mF ["offer","word"])(T:Blt mg)(gA:Has P w K mg base 3 "minus" ["one","other"] (fK K subR))(jD:Has P w K mg base 2 "cut" ["row","event"] (iB K))(j1:ConI mg "ROW" 0)(jX:ConI mg "ASK" 1)(jW:ConI mg "BID" 2)(jV:ConI mg "EVENT" 3) :
  Has P w K mg base 4 "gain" ["offer","word"] (iQ K):=by
 refine D.has fun f fd F=>F.ok D3 (fun vs H Q E h=>?_) (fun cdv A outer s H vs Q E hr h=>?_)
 ·obtain⟨v,c,n,o,buy,pr,rfl,_⟩:=h
  rfl
 ·obtain⟨v,c,n,o,buy,pr,rfl,⟨p,a,va,vb,ve,rfl,hp,hR,hl,hA,hB,hE⟩,hc,g,hn,hpr,k⟩:=h
  obtain⟨t0,m_ROW⟩:=j1
  obtain⟨t1,m_ASK⟩:=jX
  obtain⟨t2,m_BID⟩:=jW
  obtain⟨t3,m_EVENT⟩:=jV
  obtain⟨xs,hxs,hrs⟩:=hR
  have lx:=hrs.len
  have sc:=D3
  have nd1:(["worth","offer"]:List Str).Nodup:=by decide +kernel
  have nd2:(["worth","offer"]:List Str).Nodup:=by decide +kernel
  refine⟨_,(Z9 (Yd (Zn W0 (pv 1) Xo (Zt _))
    (Zc (W5 (i:=2) (N:=["worth","offer"]) (k:=1) (fv:=[0]) sc.nd rfl (Or.inl rfl) rfl (Vc (Zh Y8 (pv 0) (Xi (v:=.int 0) rfl m_ROW ⟨_,rfl⟩) (fun _ _=>rfl)))
   (fun _ _ _ _ _=>Zk (i:=0) nd1 rfl (Or.inl rfl)) (fun _ _ _ _ _=>Y7) (fun _ _ _ _ _=>(Ze gA hr (Z0 (pv 0) (Z0 (Zh (Mn (K:=K)) (pv 1) (Xi (v:=.int 1) rfl m_ASK ⟨_,rfl⟩) (fun _ _=>rfl)) Z8)))) Zw))
    (Zc (W5 (i:=2) (N:=["worth","offer"]) (k:=1) (fv:=[0]) sc.nd rfl (Or.inl rfl) rfl (Vc (Zh Y8 (pv 0) (Xi (v:=.int 0) rfl m_ROW ⟨_,rfl⟩) (fun _ _=>rfl)))
   (fun _ _ _ _ _=>Zk (i:=0) nd2 rfl (Or.inl rfl)) (fun _ _ _ _ _=>Y7) (fun _ _ _ _ _=>(Ze gA hr (Z0 (Zh (Mn (K:=K)) (pv 1) (Xi (v:=.int 2) rfl m_BID ⟨_,rfl⟩) (fun _ _=>rfl)) (Z0 (pv 0) Z8)))) Zw)))
   (Zc (Zj (Ze jD hr (Z0 (Zy Zv rfl T.tuple PyProof.Rows.boot_tuple (Z0 (pv 2) Z8)) (Z0 (Zh Y8 (pv 0) (Xi (v:=.int 3) rfl m_EVENT ⟨_,rfl⟩) (fun _ _=>rfl)) Z8)))))),?_⟩
  cases buy with
  | true =>
   replace hpr:o.ask=some pr:=hpr
   have kk:=k
   unfold gainR at kk
   rw[hpr] at hA kk
   obtain⟨b,rfl,hb⟩:=hA
   refine⟨_,rfl,rfl,_,rfl,Jk rfl ?_⟩
   refine⟨_,rfl,p,_,_,_,rfl,rfl,hp,Zg (j:=0) rfl,a,rfl,⟨_,hxs⟩,fun d hd=>?_⟩
   refine⟨o.row.length,fun i ys H2=>Same H H2/\Rs K H2 ((o.row.map fun r=>subR r pr).take i) ys,Zp (by omega),⟨Same.new hd,.nil⟩,?_,?_⟩
   ·rintro i ys H2 hi ⟨S2,R2⟩ hd2
    refine⟨⟨xs,xs[i]'(by omega),Zq S2 hxs,by simp⟩,?_⟩
    rintro x H3 ⟨rfl,fx⟩
    obtain⟨r,er,ix⟩:=hrs.back (fx xs (Zq S2 hxs))
    obtain⟨a1,rfl,sq1⟩:=ix.ext (Ext.same S2)
    refine Ye ?_
    refine⟨_,rfl,_,rfl,p,_,_,_,rfl,rfl,Zq S2 hp,Zg (j:=1) rfl,a1,b,r,pr,n,rfl,sq1,Zq S2 hb,g.row r (List.mem_of_getElem? er),g.ask pr hpr,hn,fun c4 H4 f4 S4 e4=>?_⟩
    have hd4:=S4 _ _ hd2
    refine⟨hd4,fun q o' e=>?_,?_⟩
    ·rw[Zf (Zd e hd)]
     exact S4 _ _ (S2 _ _ e)
    ·rw[Wz _ er]
     exact (R2.ext ((Ext.same S4).trans (Ext.upd hd4))).snoc ⟨c4,rfl,(Ext.upd hd4).sq (SqT.of e4)⟩
   ·rintro ys H2 ⟨S2,R2⟩ hd2
    rw[List.take_of_length_le (by rw[List.length_map];omega)] at R2
    refine⟨⟨xs,Zq S2 hxs,by omega⟩,_,rfl,d,ys,rfl,.inl ⟨SqL.of hd2,fun l hl'=>?_⟩⟩
    have S3:Same H2 (upd H2 l (.tup ys)):=Same.new hl'
    refine⟨_,rfl,p,_,_,_,rfl,rfl,Zq (S2.trans S3) hp,Zg (j:=3) rfl,l,ve,_,o.ev,rfl,⟨ys,SqT.of Zb,R2.ext (Ext.same S3)⟩,?_,by rw[List.length_map];omega,fun p' H' S' R'=>kk p' H' ((S2.trans S3).trans S') R'⟩
    rw[List.length_map,hl]
    exact hE.same (S2.trans S3)
  | false =>
   replace hpr:o.bid=some pr:=hpr
   have kk:=k
   unfold gainR at kk
   rw[hpr] at hB kk
   obtain⟨b,rfl,hb⟩:=hB
   refine⟨_,rfl,rfl,_,rfl,Qz (by decide) ?_⟩
   refine⟨_,rfl,p,_,_,_,rfl,rfl,hp,Zg (j:=0) rfl,a,rfl,⟨_,hxs⟩,fun d hd=>?_⟩
   refine⟨o.row.length,fun i ys H2=>Same H H2/\Rs K H2 ((o.row.map fun r=>subR pr r).take i) ys,Zp (by omega),⟨Same.new hd,.nil⟩,?_,?_⟩
   ·rintro i ys H2 hi ⟨S2,R2⟩ hd2
    refine⟨⟨xs,xs[i]'(by omega),Zq S2 hxs,by simp⟩,?_⟩
    rintro x H3 ⟨rfl,fx⟩
    obtain⟨r,er,ix⟩:=hrs.back (fx xs (Zq S2 hxs))
    obtain⟨a1,rfl,sq1⟩:=ix.ext (Ext.same S2)
    refine Ye ?_
    refine⟨_,rfl,p,_,_,_,rfl,rfl,Zq S2 hp,Zg (j:=2) rfl,_,rfl,b,a1,pr,r,n,rfl,Zq S2 hb,sq1,g.bid pr hpr,g.row r (List.mem_of_getElem? er),hn,fun c4 H4 f4 S4 e4=>?_⟩
    have hd4:=S4 _ _ hd2
    refine⟨hd4,fun q o' e=>?_,?_⟩
    ·rw[Zf (Zd e hd)]
     exact S4 _ _ (S2 _ _ e)
    ·rw[Wz _ er]
     exact (R2.ext ((Ext.same S4).trans (Ext.upd hd4))).snoc ⟨c4,rfl,(Ext.upd hd4).sq (SqT.of e4)⟩
   ·rintro ys H2 ⟨S2,R2⟩ hd2
    rw[List.take_of_length_le (by rw[List.length_map];omega)] at R2
    refine⟨⟨xs,Zq S2 hxs,by omega⟩,_,rfl,d,ys,rfl,.inl ⟨SqL.of hd2,fun l hl'=>?_⟩⟩
    have S3:Same H2 (upd H2 l (.tup ys)):=Same.new hl'
    refine⟨_,rfl,p,_,_,_,rfl,rfl,Zq (S2.trans S3) hp,Zg (j:=3) rfl,l,ve,_,o.ev,rfl,⟨ys,SqT.of Zb,R2.ext (Ext.same S3)⟩,?_,by rw[List.length_map];omega,fun p' H' S' R'=>kk p' H' ((S2.trans S3).trans S') R'⟩
    rw[List.length_map,hl]
    exact hE.same (S2.trans S3)
end
def wordsO (o:Offr):List Bool:=(if o.ask.isSome then [true] else [])++if o.bid.isSome then [false] else []
def offD:Offr:=⟨[],none,none,none⟩
def sidesP (os:List Offr)(n:Nat):List (Nat × Bool):=(List.range n).flatMap fun i=>(wordsO (os.getD i offD)).map fun b=>(i,b)
def gainsP (os:List Offr)(n:Nat):List (List Rat):=(List.range n).flatMap fun i=>(wordsO (os.getD i offD)).map fun b=>gainR (os.getD i offD) b
theorem Tr (os:List Offr)(n:Nat):sidesP os (n+1)=sidesP os n++(wordsO (os.getD n offD)).map fun b=>(n,b):=by
 unfold sidesP
 rw[List.range_succ,List.flatMap_append]
 simp
theorem Ty (os:List Offr)(n:Nat):gainsP os (n+1)=gainsP os n++(wordsO (os.getD n offD)).map fun b=>gainR (os.getD n offD) b:=by
 unfold gainsP
 rw[List.range_succ,List.flatMap_append]
 simp
theorem Vr (os:List Offr)(n:Nat):(sidesP os n).map (fun s=>gainR (os.getD s.1 offD) s.2)=gainsP os n:=by
 unfold sidesP gainsP
 rw[List.map_flatMap]
 congr 1
 funext i
 rw[List.map_map]
 rfl
theorem Sx {os:List Offr}{n i:Nat}{b:Bool}(h:(i,b)∈sidesP os n):i<n/\∃ r,priceO (os.getD i offD) b=some r:=by
 unfold sidesP at h
 rw[List.mem_flatMap] at h
 obtain⟨j,hj,hm⟩:=h
 rw[List.mem_map] at hm
 obtain⟨b',hb,e⟩:=hm
 cases e
 refine⟨List.mem_range.mp hj,?_⟩
 unfold wordsO at hb
 rcases List.mem_append.mp hb with z | z
 ·split at z
  ·rename_i hs
   rw[List.mem_singleton.mp z]
   exact Option.isSome_iff_exists.mp hs
  ·cases z
 ·split at z
  ·rename_i hs
   rw[List.mem_singleton.mp z]
   exact Option.isSome_iff_exists.mp hs
  ·cases z
theorem U3 (o:Offr):(wordsO o).length<=2:=by
 unfold wordsO
 split <;> split <;> decide
theorem V9 (os:List Offr):∀ n,(sidesP os n).length<=2*n
 | 0=>by unfold sidesP;simp
 | n+1=>by
  rw[Tr,List.length_append,List.length_map]
  have:=V9 os n
  have:=U3 (os.getD n offD)
  omega
section
variable {P:Program}{w:World}{K:W.Frag}{mg:Str->Option Value}{base:Heap}
def OffsAt (K:W.Frag)(H:Hp)(l:Addr)(c:Nat)(os:List Offr):Prop:=∃ vs:List V,H l=some (.lst vs)/\Paired (fun v o=>OffAt K H c o v) vs os
theorem Yo {H H':Hp}{c:Nat}{vs:List V}{os:List Offr}(h:Paired (fun v o=>OffAt K H c o v) vs os)(x:Ext H H'):Paired (fun v o=>OffAt K H' c o v) vs os:=Paired.mapP h fun _ _ q=>q.ext x
theorem OffAt.asks {H:Hp}{c:Nat}{o:Offr}{v:V}(h:OffAt K H c o v):∃ (p a:Addr) (va vb ve:V),v=.ref p/\SqT K H p [.ref a,va,vb,ve]/\(va=.non ↔ o.ask=none)/\(vb=.non ↔ o.bid=none):=by
 obtain⟨p,a,va,vb,ve,rfl,hp,_,_,hA,hB,_⟩:=h
 refine⟨p,a,va,vb,ve,rfl,hp,?_,?_⟩
 ·cases e:o.ask with
  | none=>rw[e] at hA;exact⟨fun _=>rfl,fun _=>hA⟩
  | some r=>rw[e] at hA;obtain⟨b,rfl,_⟩:=hA;exact⟨(fun z=>nomatch z),fun z=>nomatch z⟩
 ·cases e:o.bid with
  | none=>rw[e] at hB;exact⟨fun _=>rfl,fun _=>hB⟩
  | some r=>rw[e] at hB;obtain⟨b,rfl,_⟩:=hB;exact⟨(fun z=>nomatch z),fun z=>nomatch z⟩
def gR (K:W.Frag):Sp:=fun vs H Q _=>∃ (v:V) (c:Nat) (o:Offr),vs=[v]/\OffAt K H c o v/\∀ l H',H l=none->Same H H'->H' l=some (.lst ((wordsO o).map fun b=>V.str (wordO b)))->Q (.ref l) H'
theorem Kh:FnScope ["offer","told"] ["offer"] (defScope kK):=fsc
theorem Z0i (D:Def K mg "words_of" kK ["offer"])(jX:ConI mg "ASK" 1)(jW:ConI mg "BID" 2):Has P w K mg base 1 "words_of" ["offer"] (gR K):=by
 refine D.has fun f fd F=>F.ok Kh (fun vs H Q E h=>?_) (fun cdv A outer s H vs Q E hr h=>?_)
 ·obtain⟨v,c,o,rfl,_⟩:=h
  rfl
 ·obtain⟨v,c,o,rfl,hO,k⟩:=h
  obtain⟨t1,m_ASK⟩:=jX
  obtain⟨t2,m_BID⟩:=jW
  obtain⟨p,a,va,vb,ve,rfl,hp,ha,hb⟩:=hO.asks
  have sc:=Kh
  refine⟨_,(Z9 (Zi (i:=1) sc.nd rfl (Or.inl rfl) (Xz Z8))
   (Z9 (X4 (Yd (Zn Uj (Zh Y8 (pv 0) (Xi (v:=.int 1) rfl m_ASK ⟨_,rfl⟩) (fun _ _=>rfl)) Yr (Zt _))
    (Zc (Xh (Wj PySem.F.plainAttrs_list PySem.F.slot_list_append PySem.F.type_list_append Ym (pv 1) (Z0 Xo Z8))))
    Zu))
   (Z9 (Yd (Zn Uj (Zh Y8 (pv 0) (Xi (v:=.int 2) rfl m_BID ⟨_,rfl⟩) (fun _ _=>rfl)) Yr (Zt _))
    (Zc (Xh (Wj PySem.F.plainAttrs_list PySem.F.slot_list_append PySem.F.type_list_append Ym (pv 1) (Z0 Xo Z8))))
    Zu)
   (Zc (Zj (pv 1)))))),?_⟩
  refine⟨sz0,fun l hl=>?_⟩
  have S0:Same H (upd H l (.lst [])):=Same.new hl
  have up:∀ (zs:List V) (H1:Hp),Same H H1->Same H (upd H1 l (.lst zs)):=fun zs H1 S1 q o e=>by
   rw[Zf (Zd e hl)]
   exact S1 _ _ e
  refine⟨fun σ H'=>Same H H'/\σ=[some (.ref p),some (.ref l)]/\H' l=some (.lst ((if o.ask.isSome then [true] else []).map fun b=>V.str (wordO b))),?_,?_⟩
  ·refine⟨_,rfl,p,_,_,_,rfl,rfl,Zq S0 hp,Zg (j:=1) rfl,rfl,_,rfl,?_⟩
   cases e:o.ask with
   | none =>
    have:=ha.mpr e
    subst this
    exact Wf ⟨S0,rfl,Zb⟩
   | some r =>
    have hne:va≠V.non:=fun z=>by rw[ha.mp z] at e;cases e
    refine Qy hne ?_
    exact⟨_,rfl,.inl ⟨rfl,_,SqL.of Zb⟩,l,_,_,rfl,rfl,Zb,(by show 0<sizeLine;decide),up _ _ S0,rfl,Zb⟩
  ·rintro σ H1 ⟨S1,rfl,h1⟩
   refine⟨_,rfl,p,_,_,_,rfl,rfl,Zq S1 hp,Zg (j:=2) rfl,rfl,_,rfl,?_⟩
   cases e:o.bid with
   | none =>
    have:=hb.mpr e
    subst this
    refine Wf ⟨_,rfl,k l H1 hl S1 ?_⟩
    rw[h1]
    unfold wordsO
    rw[e]
    simp
   | some r =>
    have hne:vb≠V.non:=fun z=>by rw[hb.mp z] at e;cases e
    refine Qy hne ⟨_,rfl,.inl ⟨rfl,_,SqL.of h1⟩,l,_,_,rfl,rfl,h1,?_,_,rfl,k l _ hl (up _ _ S1) ?_⟩
    ·refine Xl ?_
     rw[List.length_map]
     split <;> decide
    ·rw[Zb]
     unfold wordsO
     rw[e]
     simp
     rfl
def SideV (K:W.Frag)(H:Hp)(v:V)(s:Nat × Bool):Prop:=∃ t:Addr,v=.ref t/\SqT K H t [.int (s.1:Int),.str (wordO s.2)]
theorem SideV.ext {H H':Hp}{v:V}{s:Nat × Bool}(h:SideV K H v s)(x:Ext H H'):SideV K H' v s:=by
 obtain⟨t,e,q⟩:=h
 exact⟨t,e,x.sq q⟩
def gT (K:W.Frag):Sp:=fun vs H Q _=>∃ (l:Addr) (c:Nat) (os:List Offr),vs=[.ref l]/\OffsAt K H l c os/\os.length<=100/\∀ (d:Addr) (ws:List V) (H':Hp),H d=none->Same H H'->H' d=some (.lst ws)->Paired (SideV K H') ws (sidesP os os.length)->Q (.ref d) H'
theorem Km:FnScope ["offers","told","number","offer"] ["offers"] (defScope lP):=fsc
theorem Z0n (D:Def K mg "sides" lP ["offers"])(T:Blt mg)(iV:Has P w K mg base 1 "words_of" ["offer"] (gR K)):Has P w K mg base 2 "sides" ["offers"] (gT K):=by
 refine D.has fun f fd F=>F.ok Km (fun vs H Q E h=>?_) (fun cdv A outer s H vs Q E hr h=>?_)
 ·obtain⟨l,c,os,rfl,_⟩:=h
  rfl
 ·obtain⟨l,c,os,rfl,⟨vs,hl,hO⟩,hlen,k⟩:=h
  have sc:=Km
  have nd1:(["word","number"]:List Str).Nodup:=by decide +kernel
  refine⟨_,(Z9 (Zi (i:=1) sc.nd rfl (Or.inl rfl) (Xz Z8))
   (Z9 (Xn PassesOwn.never rfl (Rg rfl T.enumerate (Z0 (pv 0) Z8)) (Ww (n:=2) rfl (Yb (Zk (i:=2) sc.nd rfl (Or.inr rfl)) (Yb (Zk (i:=3) sc.nd rfl (Or.inl rfl)) Xt)))
    (Zc (Xh (Wj PySem.F.plainAttrs_list PySem.F.slot_list_extend PySem.F.type_list_extend Gs (pv 1) (Z0 (Yk (N:=["word","number"]) (k:=1) (fv:=[2]) rfl (Xs (Ze iV hr (Z0 (pv 3) Z8)))
   (fun _ _ _ _ _=>Zk (i:=0) nd1 rfl (Or.inl rfl)) (fun _ _ _ _ _=>Y7) (fun _ _ _ _ _=>(Yf (Z0 (pv 1) (Z0 (pv 0) Z8)))) Zw) Z8)))))
   (Zc (Zj (pv 1))))),?_⟩
  have lo:=Paired.length hO
  refine⟨sz0,fun d hd=>?_⟩
  have S0:Same H (upd H d (.lst [])):=Same.new hd
  have up:∀ (zs:List V) (H1:Hp),Same H H1->Same H (upd H1 d (.lst zs)):=fun zs H1 S1 q o e=>by
   rw[Zf (Zd e hd)]
   exact S1 _ _ e
  refine⟨_,rfl,l,rfl,⟨_,SqL.of (S0 _ _ hl)⟩,Tl (K:=K) (a:=l) (xs:=vs) (fun i σ H'=>Same H H'/\∃ (ws:List V) (x y:Option V),σ=[some (.ref l),some (.ref d),x,y]/\H' d=some (.lst ws)/\Paired (SideV K H') ws (sidesP os i)) ⟨S0,[],none,none,rfl,Zb,.nil⟩ (fun i σ H' _ h=>SqL.of (h.1 _ _ hl)) ?_ ?_⟩
  ·rintro i v σ H1 p hi ⟨S1,ws,x,y,rfl,hd1,P1⟩ hp
   have S2:Same H1 (upd H1 p (.tup [.int (i:Int),v])):=Same.new hp
   have hd2:=S2 _ _ hd1
   have hiv:i<vs.length:=(List.getElem?_eq_some_iff.mp hi).1
   have hio:i<os.length:=by omega
   have eo:os[i]?=some (os.getD i offD):=by simp[List.getD,hio]
   have hv:=((Paired.getB hO hi eo).same S1).same S2
   refine⟨p,_,rfl,SqT.of Zb,rfl,_,_,rfl,_,_,rfl,rfl,?_⟩
   refine⟨_,rfl,.inl ⟨rfl,_,SqL.of hd2⟩,_,rfl,v,c,os.getD i offD,rfl,hv,fun lw H3 f3 S3 e3=>?_⟩
   generalize hw:wordsO (os.getD i offD)=wo at *
   have lwo:wo.length<=2:=by rw[← hw];exact U3 _
   refine⟨lw,rfl,⟨_,SqL.of e3⟩,fun dc hdc=>?_⟩
   refine⟨wo.length,fun j ys H4=>Same H3 H4/\Paired (SideV K H4) ys ((wo.map fun b=>(i,b)).take j),Zp (by omega),⟨Same.new hdc,.nil⟩,?_,?_⟩
   ·rintro j ys H4 hj ⟨S4,P4⟩ hd4
    have ew:wo[j]?=some wo[j]:=by simp[hj]
    refine⟨⟨_,V.str (wordO wo[j]),SqL.of (S4 _ _ e3),by simp[hj]⟩,?_⟩
    rintro x' H5 ⟨rfl,fx⟩
    have ex:x'=V.str (wordO wo[j]):=by
     have:=fx _ (SqL.of (S4 _ _ e3))
     rw[List.getElem?_map,ew] at this
     exact (Option.some.inj this).symm
    subst ex
    refine Ye ?_
    refine⟨_,rfl,_,rfl,sz2,fun t ht=>?_⟩
    have S6:Same H5 (upd H5 t (.tup [.int (i:Int),.str (wordO wo[j])])):=Same.new ht
    have hd6:=S6 _ _ hd4
    refine⟨hd6,fun q o' e=>?_,?_⟩
    ·rw[Zf (Zd e hdc)]
     exact S6 _ _ (S4 _ _ e)
    ·rw[Wz _ ew]
     have x7:=(Ext.same S6).trans (Ext.upd (o:=.lst (ys++[.ref t])) hd6)
     exact Paired.snoc (Paired.mapP P4 fun _ _ q=>q.ext x7) ⟨t,rfl,(Ext.upd hd6).sq (SqT.of Zb)⟩
   ·rintro ys H4 ⟨S4,P4⟩ hd4
    rw[List.take_of_length_le (by rw[List.length_map];omega)] at P4
    refine⟨⟨_,SqL.of (S4 _ _ e3),by rw[List.length_map];omega⟩,?_⟩
    have hd5:=S4 _ _ (S3 _ _ hd2)
    have lw1:=Paired.length P1
    have lw4:=Paired.length P4
    have sl:=V9 os i
    rw[List.length_map] at lw4
    refine⟨d,dc,ws,ys,rfl,rfl,hd5,hd4,Zp (by omega),?_⟩
    have S15:Same H1 H4:=(S2.trans S3).trans S4
    refine⟨up _ _ (S1.trans S15),ws++ys,_,_,rfl,Zb,?_⟩
    rw[Tr,hw]
    have xx:=Ext.upd (o:=.lst (ws++ys)) hd5
    exact Paired.appP (Paired.mapP P1 fun _ _ q=>q.ext ((Ext.same S15).trans xx)) (Paired.mapP P4 fun _ _ q=>q.ext xx)
  ·rintro σ H1 ⟨S1,ws,x,y,rfl,hd1,P1⟩
   rw[lo] at P1
   exact⟨_,rfl,k d ws H1 hd S1 hd1 P1⟩
def eN (K:W.Frag):Sp:=fun vs H Q _=>∃ (l:Addr) (c n:Nat) (os:List Offr),vs=[.ref l]/\OffsAt K H l c os/\os.length<=100/\c<=1000/\n<=4000/\(∀ o∈os,GoodO n o)/\∀ (d:Addr) (H':Hp),H d=none->Same H H'->RowsAt K H' d (gainsP os os.length)->Q (.ref d) H'
theorem Ny:FnScope ["offers"] ["offers"] (defScope lX):=fsc
theorem Ce (D:Def K mg "gains" lX ["offers"])(jS:Has P w K mg base 2 "sides" ["offers"] (gT K))(j0:Has P w K mg base 4 "gain" ["offer","word"] (iQ K)):Has P w K mg base 5 "gains" ["offers"] (eN K):=by
 refine D.has fun f fd F=>F.ok Ny (fun vs H Q E h=>?_) (fun cdv A outer s H vs Q E hr h=>?_)
 ·obtain⟨l,c,n,os,rfl,_⟩:=h
  rfl
 ·obtain⟨l,c,n,os,rfl,⟨vs,hl,hO⟩,hlen,hc,hn,g,k⟩:=h
  have sc:=Ny
  have nd1:(["number","word","offers"]:List Str).Nodup:=by decide +kernel
  refine⟨_,(Zc (Zj (Yk (N:=["number","word","offers"]) (k:=2) (fv:=[0]) rfl (Xs (Ze jS hr (Z0 (pv 0) Z8)))
   (fun _ _ _ _ _=>Ww (n:=2) rfl (Yb (Zk (i:=0) nd1 rfl (Or.inl rfl)) (Yb (Zk (i:=1) nd1 rfl (Or.inl rfl)) Xt))) (fun _ _ _ _ _=>Y7) (fun _ _ _ _ _=>(Ze j0 hr (Z0 (Zh (Jg (K:=K)) (pv 2) (pv 0) (fun _ _=>rfl)) (Z0 (pv 1) Z8)))) Wy))),?_⟩
  have lo:=Paired.length hO
  refine⟨_,rfl,l,c,os,rfl,⟨vs,hl,hO⟩,hlen,fun ds ws H1 f1 S1 e1 P1=>?_⟩
  have lp:=Paired.length P1
  have sl:=V9 os os.length
  refine⟨ds,rfl,⟨_,SqL.of e1⟩,fun d hd=>?_⟩
  have hd0:H d=none:=by
   cases q:H d with
   | none=>rfl
   | some o=>rw[S1 _ _ q] at hd;cases hd
  refine⟨ws.length,fun i ys H2=>Same H1 H2/\∃ as:List Addr,ys=as.map V.ref/\Paired (RowAt K H2) as ((gainsP os os.length).take i),Zp (by omega),⟨Same.new hd,[],rfl,.nil⟩,?_,?_⟩
  ·rintro i ys H2 hi ⟨S2,as,rfl,P2⟩ hd2
   have ew:ws[i]?=some ws[i]:=by simp[hi]
   refine⟨⟨_,ws[i],SqL.of (S2 _ _ e1),by simp⟩,?_⟩
   rintro x' H3 ⟨rfl,fx⟩
   have ex:x'=ws[i]:=by
    have:=fx _ (SqL.of (S2 _ _ e1))
    rw[ew] at this
    exact (Option.some.inj this).symm
   subst ex
   have his:i<(sidesP os os.length).length:=by omega
   have es:(sidesP os os.length)[i]?=some ((sidesP os os.length)[i]):=by simp[his]
   obtain⟨t,et,sqt⟩:=(Paired.getB P1 ew es).ext (Ext.same S2)
   have hmem:=List.getElem_mem his
   generalize hsd:(sidesP os os.length)[i]=sd at *
   obtain⟨j,b⟩:=sd
   obtain⟨hj,r,hr'⟩:=Sx hmem
   rw[et]
   refine Sm sqt ?_
   have ej:os[j]?=some (os.getD j offD):=by simp[List.getD,hj]
   have hjv:j<vs.length:=by omega
   have ev:vs[j]?=some vs[j]:=by simp[hjv]
   have hov:=((Paired.getB hO ev ej).same S1).same S2
   refine⟨_,rfl,_,rfl,l,vs,_,_,rfl,rfl,SqL.of (S2 _ _ (S1 _ _ hl)),Zg ev,_,rfl,?_⟩
   refine⟨vs[j],c,n,os.getD j offD,b,r,rfl,hov,hc,g _ (List.mem_of_getElem? ej),hn,hr',fun p H4 S4 R4=>?_⟩
   have hd4:=S4 _ _ hd2
   refine⟨hd4,fun q o' e=>?_,as++[p],by rw[List.map_append];rfl,?_⟩
   ·rw[Zf (Zd e hd)]
    exact S4 _ _ (S2 _ _ e)
   ·have eg:(gainsP os os.length)[i]?=some (gainR (os.getD j offD) b):=by rw[← Vr,List.getElem?_map,es];rfl
    rw[Y9 eg]
    exact Paired.snoc (Yg P2 ((Ext.same S4).trans (Ext.upd hd4))) (R4.ext (Ext.upd hd4))
  ·rintro ys H2 ⟨S2,as,rfl,P2⟩ hd2
   have lg:(gainsP os os.length).length=ws.length:=by rw[← Vr,List.length_map,lp]
   rw[List.take_of_length_le (by omega)] at P2
   exact⟨⟨_,SqL.of (S2 _ _ e1),Nat.le_refl _⟩,k d H2 hd0 (S1.trans S2) ⟨as,hd2,P2⟩⟩
end
open Sv (sm Y5 Wq X2 sm_zero Ya Y1 Uc)
end Sb
namespace Sb
open PySem L2
open Sv (sm Y5 Wq X2 sm_zero Ya Y1 Uc)
structure Wts (c:Nat)(rss:List (List Rat))(ls:List Rat):Prop where
 len:ls.length=c
 rep:∃ N D Ls,RepL N D Ls ls
 nn:∀ r∈ls,0<=r.1
 fit:∀ rs∈rss,(sumR (List.zipWith mulR' ls rs)).1<=0
 lie:sumR (List.zipWith mulR' ls (papR c none))=(1,1)
theorem LoadsOk.wts {c N:Nat}{rss:List (List Rat)}{as ls:List Rat}{va:Rat}(h:LoadsOk c rss none as N ls va):Wts c rss ls:=⟨h.len,h.rep.elim fun D z=>z.elim fun L r=>⟨N,D,L,r⟩,h.nn,h.fit,h.lie⟩
def mn (ls as:List Rat):Rat:=sumR (List.zipWith mulR' ls as)
def leR (r s:Rat):Prop:=r.1*s.2<=s.1*r.2
def negR (r:Rat):Rat:=(-r.1,r.2)
theorem negR.low {r:Rat}(h:Low r):Low (negR r):=⟨h.pos,by show Int.gcd (-r.1) r.2=1;rw[Int.neg_gcd];exact h.cop⟩
theorem mul_neg {r:Rat}(h:Low r):mulR' r (-1,1)=negR r:=by
 show nrm (r.1 * -1) (r.2*1)=negR r
 rw[Int.mul_one,Int.mul_neg,Int.mul_one]
 exact Me (r:=negR r) h.pos (negR.low h).cop
theorem Ld {r:Rat}(h:Low r):subR (0,1) r=negR r:=by
 show nrm (0*r.2 - r.1*1) (1*r.2)=negR r
 rw[Int.zero_mul,Int.mul_one,Int.one_mul,Int.zero_sub]
 exact Me (r:=negR r) h.pos (negR.low h).cop
def RowR (c:Nat)(as:List Rat):Prop:=as.length=c/\∃ n D Zs,RepL n D Zs as
section
variable {c:Nat}{rss:List (List Rat)}{ls as bs:List Rat}
end
structure MostV (c:Nat)(rss:List (List Rat))(as:List Rat)(va:Rat):Prop where
 low:Low va
 hit:∃ ls,Wts c rss ls/\mn ls as=va
 top:∀ ls,Wts c rss ls->leR (mn ls as) va
structure LeastV (c:Nat)(rss:List (List Rat))(as:List Rat)(va:Rat):Prop where
 low:Low va
 hit:∃ ls,Wts c rss ls/\mn ls as=va
 bot:∀ ls,Wts c rss ls->leR va (mn ls as)
section
variable {c:Nat}{rss:List (List Rat)}{as bs cs:List Rat}{u v x y z:Rat}
def IsNeg (as bs:List Rat):Prop:=∀ (k:Nat) (x y:Rat),as[k]?=some x->bs[k]?=some y->y=negR x
end
end Sb
namespace Sb
open PySem L2
section
variable {P:Program}{w:World}{K:W.Frag}{mg:Str->Option Value}{base:Heap}
theorem Kj:FnScope ["one","other"] ["one","other"] (defScope lL):=fsc
theorem Z0k (D:Def K mg "times" lL ["one","other"])(fD:Has P w K mg base 2 "lowest" ["top","bottom"] eG):Has P w K mg base 3 "times" ["one","other"] (fK K mulR'):=by
 refine D.has fun f fd F=>F.ok Kj (fun vs H Q E h=>?_) (fun cdv A outer s H vs Q E hr h=>?_)
 ·obtain⟨a,b,r,s,n,rfl,_⟩:=h
  rfl
 ·obtain⟨a,b,r,s,n,rfl,hA,hB,gr,gs,hn,k⟩:=h
  have sc:=Kj
  refine⟨_,(Zc (Zj (Ze fD hr (Z0 (Zl Zx (Zh Xj (pv 0) Za (fun _ _=>rfl)) (Zh Xj (pv 1) Za (fun _ _=>rfl))) (Z0 (Zl Zx (Zh X7 (pv 0) Za (fun _ _=>rfl)) (Zh X7 (pv 1) Za (fun _ _=>rfl))) Z8))))),?_⟩
  exact⟨_,rfl,_,_,_,rfl,rfl,hA,_,rfl,_,_,_,rfl,rfl,hB,_,_,rfl,rfl,gr.b1.mulOk gs.b1 (by omega) (by omega),_,rfl,_,_,_,rfl,rfl,hA,_,rfl,_,_,_,rfl,rfl,hB,_,_,rfl,rfl,gr.b2.mulOk gs.b2 (by omega) (by omega),_,_,rfl,Xp gr.pos gs.pos,Uo gr.b2 gs.b2 hn,k⟩
def eY (K:W.Frag):Sp:=fun vs H Q _=>∃ (a b:Addr) (rs:List Rat) (s:Rat) (n:Nat),vs=[.ref a,.ref b]/\RowAt K H a rs/\SqT K H b [.int s.1,.int s.2]/\rs.length<=1000/\(∀ r∈rs,Good n r)/\Good n s/\n<=4000 ∧
 ∀ c H' ys,Same H H'->H' c=some (.tup ys)->Rs K H' (rs.map fun r=>mulR' r s) ys->Q (.ref c) H'
theorem Ud:FnScope ["row","by"] ["row","by"] (defScope j9):=fsc
theorem Pp (D:Def K mg "multiplied" j9 ["row","by"])(T:Blt mg)(jQ:Has P w K mg base 3 "times" ["one","other"] (fK K mulR')):Has P w K mg base 4 "multiplied" ["row","by"] (eY K):=by
 refine D.has fun f fd F=>F.ok Ud (fun vs H Q E h=>?_) (fun cdv A outer s H vs Q E hr h=>?_)
 ·obtain⟨a,b,rs,s,n,rfl,_⟩:=h
  rfl
 ·obtain⟨a,b,rs,s,n,rfl,⟨xs,hA,hRs⟩,hB,hl2,gr,gs,hn,k⟩:=h
  have sc:=Ud
  have nd:(["worth","by"]:List Str).Nodup:=by decide +kernel
  refine⟨_,(Zc (Zj (Zy Zv rfl T.tuple PyProof.Rows.boot_tuple (Z0 (Yk (N:=["worth","by"]) (k:=1) (fv:=[1]) rfl (Vc (pv 0))
   (fun _ _ _ _ _=>Zk (i:=0) nd rfl (Or.inl rfl)) (fun _ _ _ _ _=>Y7) (fun _ _ _ _ _=>Dq jQ (hr.mono (by decide)) rfl (Z0 (pv 0) (Z0 (pv 1) Z8))) Zw) Z8)))),?_⟩
  refine⟨_,rfl,a,rfl,⟨_,hA⟩,fun d hd=>?_⟩
  have lx:=hRs.len
  refine⟨rs.length,fun i ys H2=>Same H H2/\Rs K H2 (mapR (fun r=>mulR' r s) rs i) ys,Zp hl2,⟨Same.new hd,.nil⟩,?_,?_⟩
  ·rintro i ys H2 hi ⟨S2,R2⟩ hd2
   refine⟨⟨xs,xs[i]'(by omega),Zq S2 hA,by simp⟩,?_⟩
   rintro x H3 ⟨rfl,fx⟩
   obtain⟨r,er,ix⟩:=hRs.back (fx xs (Zq S2 hA))
   obtain⟨a1,rfl,sq1⟩:=ix.ext (Ext.same S2)
   refine Ye ?_
   refine⟨_,rfl,_,rfl,a1,b,r,s,n,rfl,sq1,Zq S2 hB,gr r (List.mem_of_getElem? er),gs,hn,fun c H4 fc S4 e4=>?_⟩
   have hd4:H4 d=some (.lst ys):=S4 _ _ hd2
   have E5:Ext H4 (upd H4 d (.lst (ys++[.ref c]))):=Ext.upd hd4
   refine⟨hd4,fun q o e=>?_,?_⟩
   ·rw[Zf (Zd e hd)]
    exact S4 _ _ (S2 _ _ e)
   ·rw[Gu _ er]
    exact (R2.ext ((Ext.same S4).trans E5)).snoc ⟨c,rfl,E5.sq (SqT.of e4)⟩
  ·rintro ys H2 ⟨S2,R2⟩ hd2
   refine⟨⟨xs,Zq S2 hA,by omega⟩,d,ys,rfl,.inl ⟨SqL.of hd2,fun l hl'=>?_⟩⟩
   rw[Ct _ rfl] at R2
   exact k l _ ys (S2.trans (Same.new hl')) Zb (R2.ext (Ext.new hl'))
end
theorem Z14 {n:Nat}{D:Int}{Zs:List Int}{as:List Rat}(h:RepL n D Zs as):RepL n D (Zs.map fun z=>-z) (as.map fun r=>mulR' r (-1,1)):=by
 refine⟨h.pos,h.bD,by rw[List.length_map,List.length_map,h.len],fun i W r hW hr=>?_⟩
 rw[List.getElem?_map] at hW hr
 cases e1:Zs[i]? with
 | none=>rw[e1] at hW;cases hW
 | some z =>
  cases e2:as[i]? with
  | none=>rw[e2] at hr;cases hr
  | some x =>
   rw[e1] at hW
   rw[e2] at hr
   cases hW
   cases hr
   obtain⟨a1,a2,a3⟩:=h.at_ i z x e1 e2
   show (mulR' x (-1,1)).1*D=-z*(mulR' x (-1,1)).2/\Bd n (-z)/\Low (mulR' x (-1,1))
   rw[mul_neg a3]
   refine⟨?_,?_,negR.low a3⟩
   ·show -x.1*D=-z*x.2
    rw[Int.neg_mul,Int.neg_mul,a1]
   ·show (-z).natAbs<2 ^ n
    rw[Int.natAbs_neg]
    exact a2
section
variable {P:Program}{w:World}{K:W.Frag}{mg:Str->Option Value}{base:Heap}
def gB (K:W.Frag):Sp:=fun vs H Q _=>∃ (a:Addr) (rs:List Rat) (n:Nat),vs=[.ref a]/\RowAt K H a rs/\rs.length<=1000/\(∀ r∈rs,Good n r)/\1<=n/\n<=4000/\∀ c H',Same H H'->RowAt K H' c (rs.map fun r=>mulR' r (-1,1))->Q (.ref c) H'
theorem Nk:FnScope ["row"] ["row"] (defScope kW):=fsc
theorem C0 (D:Def K mg "turned" kW ["row"])(gG:Has P w K mg base 4 "multiplied" ["row","by"] (eY K)):Has P w K mg base 5 "turned" ["row"] (gB K):=by
 refine D.has fun f fd F=>F.ok Nk (fun vs H Q E h=>?_) (fun cdv A outer s H vs Q E hr h=>?_)
 ·obtain⟨a,rs,n,rfl,_⟩:=h
  rfl
 ·obtain⟨a,rs,n,rfl,hA,hl,gr,n1,hn,k⟩:=h
  have sc:=Nk
  refine⟨_,(Zc (Zj (Ze gG hr (Z0 (pv 0) (Z0 (Yf (Z0 (U0 Wp Za) (Z0 Za Z8))) Z8))))),?_⟩
  refine⟨_,rfl,_,rfl,sz2,fun p hp=>?_⟩
  have S1:Same H (upd H p (.tup [.int (-1),.int 1])):=Same.new hp
  have g1:Good n (-1,1):=⟨Yz 1 (by decide) n1,Yz 1 (by decide) n1,by decide,by decide⟩
  exact⟨a,p,rs,(-1,1),n,rfl,hA.same S1,SqT.of Zb,hl,gr,g1,hn,fun c H' ys S e R=>k c H' (S1.trans S) ⟨ys,SqT.of e,R⟩⟩
end
section
variable {c:Nat}{rss:List (List Rat)}{ls:List Rat}{o:Option (Nat->Bool)}{u v:Rat}
theorem MostT.meets {n:Nat}{T:Sv.Tab}{as:List Rat}(h:MostT c rss none (cutR none as) T)(hrs:∀ rs∈rss,rs.length=c/\∃ D Ws,RepL n D Ws rs)(ha:∃ D Ws,RepL n D Ws as)(la:as.length=c)(hn:1<=n)(hm:rss.length+2<=32):Wts c rss (loadsR c rss.length T)/\mn (loadsR c rss.length T) as=valueR c rss.length (cutR none as) T/\∃ D Us,RepL (bitsOf n c rss.length) D Us (loadsR c rss.length T):=by
 have ok:=h.loads hrs ha la hn hm
 refine⟨ok.wts,?_,ok.rep⟩
 have:=ok.val
 rw[Q6] at this
 rw[Q6]
 exact this.symm
end
def gainsO (o:Offr):List (List Rat):=(wordsO o).map fun b=>gainR o b
theorem Tx (os:List Offr):∀ n,n<=os.length->gainsP os n=(os.take n).flatMap gainsO
 | 0,_=>rfl
 | n+1,h=>by
  have e:os[n]?=some (os.getD n offD):=by simp[List.getD,show n<os.length by omega]
  rw[Ty,Tx os n (by omega),Y9 e,List.flatMap_append]
  simp[gainsO]
theorem Xr (os:List Offr):gainsP os os.length=os.flatMap gainsO:=by rw[Tx os _ (Nat.le_refl _),List.take_of_length_le (Nat.le_refl _)]
theorem Q2 {o:Offr}{rs:List Rat}(h:rs∈gainsO o):∃ b r,priceO o b=some r/\rs=gainR o b:=by
 unfold gainsO at h
 obtain⟨b,hb,e⟩:=List.mem_map.mp h
 have:(0,b)∈sidesP [o] 1:=by
  unfold sidesP
  simp
  exact hb
 obtain⟨_,r,hr⟩:=Sx this
 exact⟨b,r,hr,e.symm⟩
theorem K7 (o:Offr):(gainsO o).length<=2:=by unfold gainsO;rw[List.length_map];exact U3 o
theorem Ms:∀ os:List Offr,(os.flatMap gainsO).length<=2*os.length
 | []=>by simp
 | o::t=>by
  rw[List.flatMap_cons,List.length_append,List.length_cons]
  have:=Ms t
  have:=K7 o
  omega
structure Fd (n:Nat)(r:Rat):Prop where
 g:Good n r
 d:r.2 ∣ 420
theorem Cq (p q:Int):nB p q ∣ q:=⟨sg p q,(Tc p q).symm⟩
theorem Bh {p q:Int}(h1:-2000000<p)(h2:p<2000000)(q1:1<=q)(q7:q<=7):Fd 21 (nrm p q):=by
 refine⟨V3 (Qe h1 h2) (Qe (by omega) (by omega)) (by omega),Int.dvd_trans (Cq p q) ?_⟩
 have h:q=1 \/ q=2 \/ q=3 \/ q=4 \/ q=5 \/ q=6 \/ q=7:=by omega
 rcases h with rfl | rfl | rfl | rfl | rfl | rfl | rfl
 ·exact⟨420,rfl⟩
 ·exact⟨210,rfl⟩
 ·exact⟨140,rfl⟩
 ·exact⟨105,rfl⟩
 ·exact⟨84,rfl⟩
 ·exact⟨70,rfl⟩
 ·exact⟨60,rfl⟩
theorem Fd.rep {n:Nat}{r:Rat}(h:Fd n r):r.1*420=(r.1*(420:Int).fdiv r.2)*r.2/\Bd (n+9) (r.1*(420:Int).fdiv r.2):=by
 refine⟨W9 h.d,?_⟩
 have:Bd 9 ((420:Int).fdiv r.2):=by
  refine Bd.of_le (N4 (by decide) h.g.pos) ?_
  show (420:Int).natAbs<2 ^ 9
  decide
 exact h.g.b1.mul this
theorem RepL.fd {n:Nat}{rs:List Rat}(h:∀ r∈rs,Fd n r):RepL (n+9) 420 (wholeB rs 420) rs:=by
 refine⟨by decide,Yz 9 (by decide) (by omega),by unfold wholeB;rw[List.length_map],fun i W r hW hr=>?_⟩
 unfold wholeB at hW
 rw[List.getElem?_map,hr] at hW
 cases hW
 have:=h r (List.mem_of_getElem? hr)
 exact⟨this.rep.1,this.rep.2,this.g.low⟩
section
variable {P:Program}{w:World}{K:W.Frag}{mg:Str->Option Value}{base:Heap}
def fP (K:W.Frag):Sp:=fun vs H Q _=>∃ (b:Addr) (n:Nat),vs=[.ref b]/\BagAt H b n/\n<=1000000 ∧
 ∀ (a:Addr) (H':Hp) (r:Rat),BagAt H' b (n+3)->SameX b H H'->H' a=some (.tup [.int r.1,.int r.2])->Fd 21 r->Q (.ref a) H'
theorem Nl:FnScope ["_law_bag_here"] ["_law_bag_here"] (defScope lO):=fsc
theorem C2 (D:Def K mg "_law_small" lO ["_law_bag_here"])(eC:Z1 P w K mg base)(eE:Z2 P w K mg base) :
  Has P w K mg base 3 "_law_small" ["_law_bag_here"] (fP K):=by
 refine D.has fun f fd F=>F.ok Nl (fun vs H Q E h=>?_) (fun cdv A outer s H vs Q E hr h=>?_)
 ·obtain⟨b,n,rfl,_⟩:=h
  rfl
 ·obtain⟨b,n,rfl,hB,hn,k⟩:=h
  have sc:=Nl
  refine⟨_,(Z9 (Yd (Zn W0 (Ze eC hr (Z0 (pv 0) (Z0 Za Z8))) Za (Zt _))
    (Zc (Zj (Ze eE hr (Z0 (Zl U5 (Ze eC hr (Z0 (pv 0) (Z0 (Zl Yt (Zl Zx Za (Zl Po Za Za)) Za) Z8))) (Zl Po Za Za)) (Z0 (Zl Yt Za (Ze eC hr (Z0 (pv 0) (Z0 Za Z8)))) Z8)))))
    Zu)
   (Zc (Zj (Ze eE hr (Z0 (Zl U5 (Ze eC hr (Z0 (pv 0) (Z0 Za Z8))) Za) (Z0 (Zl Yt Za (Ze eC hr (Z0 (pv 0) (Z0 Za Z8)))) Z8)))))),?_⟩
  refine⟨_,rfl,b,_,n,rfl,hB,by omega,by decide,by decide +kernel,fun r2 H2 r20 r21 B2 S2=>⟨rfl,_,rfl,?_⟩⟩
  refine Xd (fun h=>?_) (fun h=>?_)
  ·refine⟨_,rfl,_,_,rfl,rfl,Z1g (by decide) (by decide),_,_,rfl,rfl,Gr (by decide) (by decide),_,_,rfl,rfl,b,_,n+1,rfl,B2,by omega,by rw[p6];decide,lg6,fun r3 H3 r30 r31 B3 S3=>?_⟩
   rw[p6] at r31
   refine⟨_,_,rfl,rfl,Z1g (by decide) (by decide),_,_,rfl,rfl,?_⟩
   refine⟨_,rfl,b,_,n+1+1,rfl,B3,by omega,by decide,by decide +kernel,fun r4 H4 r40 r41 B4 S4=>⟨_,_,rfl,rfl,?_⟩⟩
   refine⟨_,_,rfl,by omega,(Qe (x:=1+r4) (by omega) (by omega)).log (by decide),fun a H5 fa S5 e=>?_⟩
   rw[p6] at e
   exact k a H5 (nrm (r3 - 1000000) (1+r4)) (B4.same S5) (((S2.trans S3).trans S4).trans (SameX.of S5)) e (Bh (by omega) (by omega) (by omega) (by omega))
  ·refine⟨_,rfl,b,_,n+1,rfl,B2,by omega,by decide,by decide +kernel,fun r3 H3 r30 r31 B3 S3=>⟨_,_,rfl,rfl,?_⟩⟩
   refine⟨_,rfl,b,_,n+1+1,rfl,B3,by omega,by decide,by decide +kernel,fun r4 H4 r40 r41 B4 S4=>⟨_,_,rfl,rfl,?_⟩⟩
   refine⟨_,_,rfl,by omega,(Qe (x:=1+r4) (by omega) (by omega)).log (by decide),fun a H5 fa S5 e=>?_⟩
   exact k a H5 (nrm (r3 - 4) (1+r4)) (B4.same S5) (((S2.trans S3).trans S4).trans (SameX.of S5)) e (Bh (by omega) (by omega) (by omega) (by omega))
def iK (K:W.Frag):Sp:=fun vs H Q _=>∃ (b:Addr) (c n:Nat),vs=[.ref b,.int c]/\BagAt H b n/\n<=100000/\c<=1000 ∧
 ∀ (a:Addr) (H':Hp) (rs:List Rat),BagAt H' b (n+3*c)->SameX b H H'->RowAt K H' a rs->rs.length=c->(∀ r∈rs,Fd 21 r)->Q (.ref a) H'
theorem Fx:FnScope ["_law_bag_here","_law_count"] ["_law_bag_here","_law_count"] (defScope mI):=fsc
theorem Z2i (D:Def K mg "_law_row" mI ["_law_bag_here","_law_count"])(T:Blt mg)(eS:Has P w K mg base 3 "_law_small" ["_law_bag_here"] (fP K)):Has P w K mg base 4 "_law_row" ["_law_bag_here","_law_count"] (iK K):=by
 refine D.has fun f fd F=>F.ok Fx (fun vs H Q E h=>?_) (fun cdv A outer s H vs Q E hr h=>?_)
 ·obtain⟨b,c,n,rfl,_⟩:=h
  rfl
 ·obtain⟨b,c,n,rfl,hB,hn,hc,k⟩:=h
  have sc:=Fx
  have nd1:(["_law_world","_law_bag_here"]:List Str).Nodup:=by decide +kernel
  refine⟨_,(Zc (Zj (Zy Zv rfl T.tuple PyProof.Rows.boot_tuple (Z0 (Yk (N:=["_law_world","_law_bag_here"]) (k:=1) (fv:=[0]) rfl (Yj rfl T.range (Z0 (pv 1) Z8))
   (fun _ _ _ _ _=>Zk (i:=0) nd1 rfl (Or.inl rfl)) (fun _ _ _ _ _=>Y7) (fun _ _ _ _ _=>(Ze eS hr (Z0 (pv 1) Z8))) Zw) Z8)))),?_⟩
  have hBl:=hB.lst
  refine⟨_,rfl,(c:Int),rfl,(by omega),(by omega),fun d hd=>?_⟩
  have hdb:d≠b:=by
   obtain⟨ys,e⟩:=hBl
   exact (Zd e hd).symm
  have et:(c:Int).toNat=c:=by omega
  rw[et]
  refine⟨c,fun i ys H2=>∃ rs,Rs K H2 rs ys/\rs.length=i/\(∀ r∈rs,Fd 21 r)/\BagAt H2 b (n+3*i)/\SameX b H H2,Zp hc,?_,?_,?_⟩
  ·exact⟨[],.nil,rfl,(fun _ h=>nomatch h),hB.upd (Ne.symm hdb),SameX.of (Same.new hd)⟩
  ·rintro i ys H2 hi ⟨rs,h1,h2,h3,h4,h5⟩ hd2
   refine⟨hi,?_⟩
   rintro x H3 ⟨rfl,rfl⟩
   refine Ye ?_
   refine⟨_,rfl,b,n+3*i,rfl,h4,by omega,fun a H4 r B4 S4 e4 g4=>?_⟩
   have E4:=Ext.bag S4 h4
   have hd4:H4 d=some (.lst ys):=S4 _ _ hd2 hdb
   have E5:Ext H4 (upd H4 d (.lst (ys++[.ref a]))):=Ext.upd hd4
   refine⟨hd4,rs++[r],(h1.ext (E4.trans E5)).snoc ⟨a,rfl,E5.sq (SqT.of e4)⟩,by rw[List.length_append,h2];rfl,fun r' hr'=>?_,(B4.upd (Ne.symm hdb)).mono (by omega),?_⟩
   ·rcases List.mem_append.mp hr' with z | z
    ·exact h3 r' z
    ·rw[List.mem_singleton.mp z];exact g4
   ·exact fun q o e ne=>by
     have e2:=S4 q o (h5 q o e ne) ne
     rw[Zf (Zd e hd)]
     exact e2
  ·rintro ys H2 ⟨rs,h1,h2,h3,h4,h5⟩ hd2
   refine⟨Nat.le_refl _,d,ys,rfl,.inl ⟨SqL.of hd2,fun l hl=>?_⟩⟩
   have E:=Ext.new (o:=.tup ys) hl
   exact k l _ rs (h4.same (Same.new hl)) (h5.trans (SameX.of (Same.new hl))) ⟨ys,SqT.of Zb,h1.ext E⟩ h2 h3
structure WtsR (c:Nat)(Ws:List Int)(rs:List Rat):Prop where
 len:rs.length=c
 nn:∀ W∈Ws,0<=W
 pos:0<Ws.sum
 rep:RepL 10 Ws.sum Ws rs
def fN (K:W.Frag):Sp:=fun vs H Q _=>∃ (b:Addr) (c n:Nat),vs=[.ref b,.int c]/\BagAt H b n/\n<=100000/\1<=c/\c<=100 ∧
 ∀ (a:Addr) (H':Hp) (Ws:List Int) (rs:List Rat),BagAt H' b (n+c+1)->SameX b H H'->RowAt K H' a rs->WtsR c Ws rs->Q (.ref a) H'
theorem Sy:FnScope ["_law_bag_here","_law_count","_law_parts","_law_at"] ["_law_bag_here","_law_count"] (defScope kO):=fsc
theorem Lw (D:Def K mg "_law_weights" kO ["_law_bag_here","_law_count"])(T:Blt mg)(eC:Z1 P w K mg base)(eE:Z2 P w K mg base) :
  Has P w K mg base 3 "_law_weights" ["_law_bag_here","_law_count"] (fN K):=by
 refine D.has fun f fd F=>F.ok Sy (fun vs H Q E h=>?_) (fun cdv A outer s H vs Q E hr h=>?_)
 ·obtain⟨b,c,n,rfl,_⟩:=h
  rfl
 ·obtain⟨b,c,n,rfl,hB,hn,hc1,hc,k⟩:=h
  have sc:=Sy
  have nd1:(["_law_world","_law_bag_here"]:List Str).Nodup:=by decide +kernel
  have nd2:(["_law_part","_law_parts"]:List Str).Nodup:=by decide +kernel
  refine⟨_,(Z9 (Zi (i:=2) sc.nd rfl (Or.inr rfl) (Yk (N:=["_law_world","_law_bag_here"]) (k:=1) (fv:=[0]) rfl (Yj rfl T.range (Z0 (pv 1) Z8))
   (fun _ _ _ _ _=>Zk (i:=0) nd1 rfl (Or.inl rfl)) (fun _ _ _ _ _=>Y7) (fun _ _ _ _ _=>(Ze eC hr (Z0 (pv 1) (Z0 Za Z8)))) Zw))
   (Z9 (Zi (i:=3) sc.nd rfl (Or.inl rfl) (Ze eC hr (Z0 (pv 0) (Z0 (pv 1) Z8))))
   (Z9 (X4 (Yd (Zn W0 (Zz (Tp (K:=K) rfl) rfl T.sum PyProof.Rows.boot_sum (Z0 (pv 2) Z8)) Za (Zt _))
    (Zc (Ta Za (Rh (pv 2) (pv 3) Vj)))
    Zu))
   (Zc (Zj (Zy Zv rfl T.tuple PyProof.Rows.boot_tuple (Z0 (Yk (N:=["_law_part","_law_parts"]) (k:=1) (fv:=[2]) rfl (Xs (pv 2))
   (fun _ _ _ _ _=>Zk (i:=0) nd2 rfl (Or.inl rfl)) (fun _ _ _ _ _=>Y7) (fun _ _ _ _ _=>(Ze eE hr (Z0 (pv 0) (Z0 (Zz (Tp (K:=K) rfl) rfl T.sum PyProof.Rows.boot_sum (Z0 (pv 1) Z8)) Z8)))) Zw) Z8))))))),?_⟩
  have hBl:=hB.lst
  refine⟨_,rfl,(c:Int),rfl,(by omega),(by omega),fun d hd=>?_⟩
  have hdb:d≠b:=by
   obtain⟨ys,e⟩:=hBl
   exact (Zd e hd).symm
  have et:(c:Int).toNat=c:=by omega
  rw[et]
  refine⟨c,fun i ys H2=>∃ ns:List Int,ys=ns.map V.int/\ns.length=i/\(∀ z∈ns,0<=z/\z<=4)/\BagAt H2 b (n+i)/\SameX b H H2,Zp (by omega),?_,?_,?_⟩
  ·exact⟨[],rfl,rfl,(fun _ h=>nomatch h),hB.upd (Ne.symm hdb),SameX.of (Same.new hd)⟩
  ·rintro i ys H2 hi ⟨ns,rfl,h2,h3,B2,S2⟩ hd2
   refine⟨hi,?_⟩
   rintro x H3 ⟨rfl,rfl⟩
   refine Ye ?_
   refine⟨_,rfl,b,_,_,rfl,B2,by omega,by decide,by decide +kernel,fun r H4 r0 r1 B4 S4=>?_⟩
   have hd4:H4 d=some (.lst (ns.map V.int)):=S4 _ _ hd2 hdb
   refine⟨hd4,ns++[r],by rw[List.map_append];rfl,by rw[List.length_append,h2];rfl,fun z hz=>?_,(B4.upd (Ne.symm hdb)).mono (by omega),?_⟩
   ·rcases List.mem_append.mp hz with z' | z'
    ·exact h3 z z'
    ·rw[List.mem_singleton.mp z'];omega
   ·exact fun q o e ne=>by
     have e2:=S4 q o (S2 q o e ne) ne
     rw[Zf (Zd e hd)]
     exact e2
  ·rintro ys H2 ⟨ns,rfl,h2,h3,B2,S2⟩ hd2
   refine⟨Nat.le_refl _,?_⟩
   refine⟨_,rfl,_,rfl,b,_,_,rfl,B2,by omega,by omega,Z18 (by omega),fun r H4 r0 r1 B4 S4=>?_⟩
   obtain⟨j,rfl,hj⟩:=Z3k r0 r1
   have hd4:H4 d=some (.lst (ns.map V.int)):=S4 _ _ hd2 hdb
   have S04:=S2.trans S4
   refine⟨fun σ H'=>σ=[some (.ref b),some (.int c),some (.ref d),some (.int (j:Int))]/\∃ ms:List Int,ms.length=c/\(∀ z∈ms,0<=z/\z<=4)/\1<=ms.sum/\H' d=some (.lst (ms.map V.int))/\BagAt H' b (n+c+1)/\SameX b H H',?_,?_⟩
   ·refine⟨_,rfl,d,ns,rfl,SqL.of hd4,rfl,_,rfl,?_⟩
    refine Xd (fun h=>?_) (fun h=>?_)
    ·have hjn:j<ns.length:=by omega
     refine⟨_,rfl,_,rfl,d,_,_,j,rfl,rfl,hd4,?_,?_⟩
     ·rw[List.length_map]
      exact B0 (by omega) (by omega)
     have em:(ns.map V.int).set j (V.int 1)=(ns.set j 1).map V.int:=by rw[List.map_set]
     rw[em]
     have h4:∀ z∈ns.set j 1,0<=z/\z<=4:=fun z hz=>by
      rcases List.mem_or_eq_of_mem_set hz with e | e
      ·exact h3 z e
      ·omega
     refine⟨rfl,ns.set j 1,by rw[List.length_set];exact h2,h4,?_,Zb,(B4.upd (Ne.symm hdb)).mono (by omega),fun q o e ne=>?_⟩
     ·exact Kf _ (fun z hz=>(h4 z hz).1) ⟨1,by
       refine List.mem_iff_getElem?.mpr ⟨j,?_⟩
       rw[List.getElem?_set_self (by simpa using hjn)],by omega⟩
     ·rw[Zf (Zd e hd)]
      exact S04 q o e ne
    ·have h0:ns.sum≠0:=fun z=>h (decide_eq_true (by rw[z]))
     have:=(Lc ns 4 h3).1
     exact⟨rfl,ns,h2,h3,by omega,hd4,B4.mono (by omega),S04⟩
   ·rintro σ H5 ⟨rfl,ms,l4,h4,s1,hd5,B5,S5⟩
    have s2:ms.sum<=4*(c:Int):=by
     have:=(Lc _ 4 h4).2
     rw[l4] at this
     exact this
    refine⟨_,rfl,d,rfl,⟨_,SqL.of hd5⟩,fun e he=>?_⟩
    have hed:d≠e:=Zd hd5 he
    refine⟨c,fun i ys H2=>Same H5 H2/\Rs K H2 ((ms.map fun m=>nrm m ms.sum).take i) ys,Zp (by omega),⟨Same.new he,.nil⟩,?_,?_⟩
    ·rintro i ys H6 hi ⟨S6,R6⟩ he6
     have him:i<ms.length:=by omega
     refine⟨⟨_,V.int ms[i],SqL.of (S6 _ _ hd5),by simp[him]⟩,?_⟩
     rintro x H7 ⟨rfl,fx⟩
     have ex:x=V.int ms[i]:=by
      have:=fx _ (SqL.of (S6 _ _ hd5))
      rw[List.getElem?_map,show ms[i]?=some ms[i] by simp[him]] at this
      exact (Option.some.inj this).symm
     subst ex
     refine Ye ?_
     have b2:Bd 10 ms.sum:=bdS (by omega)
     refine⟨_,rfl,_,rfl,d,ms,rfl,SqL.of (S6 _ _ hd5),ms[i],ms.sum,rfl,by omega,b2.log (by decide),fun a8 H8 f8 S8 e8=>?_⟩
     have he8:=S8 _ _ he6
     refine⟨he8,fun q o' e'=>?_,?_⟩
     ·rw[Zf (Zd e' he)]
      exact S8 _ _ (S6 _ _ e')
     ·rw[Y9 (show (ms.map fun m=>nrm m ms.sum)[i]?=some (nrm ms[i] ms.sum) by rw[List.getElem?_map,show ms[i]?=some ms[i] by simp[him]];rfl)]
      exact (R6.ext ((Ext.same S8).trans (Ext.upd he8))).snoc ⟨a8,rfl,(Ext.upd he8).sq (SqT.of e8)⟩
    ·rintro ys H6 ⟨S6,R6⟩ he6
     refine⟨⟨_,SqL.of (S6 _ _ hd5),by rw[List.length_map];omega⟩,e,ys,rfl,.inl ⟨SqL.of he6,fun l hl'=>?_⟩⟩
     rw[List.take_of_length_le (by rw[List.length_map];omega)] at R6
     refine k l _ ms _ (((B5.same S6).same (Same.new hl')).mono (by omega)) ((S5.trans (SameX.of S6)).trans (SameX.of (Same.new hl'))) ⟨ys,SqT.of Zb,R6.ext (Ext.new hl')⟩ ⟨by rw[List.length_map];exact l4,fun W hW=>(h4 W hW).1,by omega,⟨by omega,bdS (by omega),by rw[List.length_map],fun i W r hW hr=>?_⟩⟩
     rw[List.getElem?_map,hW] at hr
     cases hr
     have:=h4 W (List.mem_of_getElem? hW)
     exact⟨J5 (by omega),bdS (by omega),Yp (by omega)⟩
def h9 (K:W.Frag):Sp:=fun vs H Q _=>∃ (b:Addr) (c n:Nat),vs=[.ref b,.int c]/\BagAt H b n/\n<=100000/\c<=1000 ∧
 ∀ (v:V) (H':Hp) (o:Option (Nat->Bool)),BagAt H' b (n+c+1)->SameX b H H'->EvAt K H' c o v->Q v H'
theorem Kz:FnScope ["_law_bag_here","_law_count","_law_bits"] ["_law_bag_here","_law_count"] (defScope l5):=fsc
theorem Z10 (D:Def K mg "_law_event" l5 ["_law_bag_here","_law_count"])(T:Blt mg)(eC:Z1 P w K mg base):Has P w K mg base 2 "_law_event" ["_law_bag_here","_law_count"] (h9 K):=by
 refine D.has fun f fd F=>F.ok Kz (fun vs H Q E h=>?_) (fun cdv A outer s H vs Q E hr h=>?_)
 ·obtain⟨b,c,n,rfl,_⟩:=h
  rfl
 ·obtain⟨b,c,n,rfl,hB,hn,hl,k⟩:=h
  have sc:=Kz
  have nd1:(["_law_world","_law_bag_here"]:List Str).Nodup:=by decide +kernel
  have nd2:(["_law_world","_law_bits"]:List Str).Nodup:=by decide +kernel
  refine⟨_,(Z9 (Yd (Zn Rj (Ze eC hr (Z0 (pv 0) (Z0 Za Z8))) Za (Zt _))
    (Zc (Zj Yr))
    Zu)
   (Z9 (Zi (i:=2) sc.nd rfl (Or.inr rfl) (Yk (N:=["_law_world","_law_bag_here"]) (k:=1) (fv:=[0]) rfl (Yj rfl T.range (Z0 (pv 1) Z8))
   (fun _ _ _ _ _=>Zk (i:=0) nd1 rfl (Or.inl rfl)) (fun _ _ _ _ _=>Y7) (fun _ _ _ _ _=>(Ze eC hr (Z0 (pv 1) (Z0 Za Z8)))) Zw))
   (Zc (Zj (Zy Zv rfl T.tuple PyProof.Rows.boot_tuple (Z0 (Yk (N:=["_law_world","_law_bits"]) (k:=1) (fv:=[2]) rfl (Yj rfl T.range (Z0 (pv 1) Z8))
   (fun _ _ _ _ _=>Zk (i:=0) nd2 rfl (Or.inl rfl)) (fun _ _ _ _ _=>J9 (Zn W0 (Zh (Jg (K:=K)) (pv 1) (pv 0) (fun _ _=>rfl)) Za (Zt _))) (fun _ _ _ _ _=>(pv 0)) Zw) Z8)))))),?_⟩
  refine⟨_,rfl,b,_,_,rfl,hB,by omega,by decide,by decide +kernel,fun z H1 z0 z1 B1 S1=>⟨_,_,rfl,rfl,_,rfl,?_⟩⟩
  refine Xd (fun h=>?_) (fun h=>?_)
  ·exact k _ _ none (B1.mono (by omega)) S1 rfl
  have hBl:=B1.lst
  refine⟨_,rfl,(c:Int),rfl,(by omega),(by omega),fun d hd=>?_⟩
  have hdb:d≠b:=by
   obtain⟨ys,e⟩:=hBl
   exact (Zd e hd).symm
  have et:(c:Int).toNat=c:=by omega
  rw[et]
  refine⟨c,fun i ys H2=>∃ ns:List Int,ys=ns.map V.int/\ns.length=i/\BagAt H2 b (n+1+i)/\SameX b H H2,Zp hl,?_,?_,?_⟩
  ·exact⟨[],rfl,rfl,B1.upd (Ne.symm hdb),S1.trans (SameX.of (Same.new hd))⟩
  ·rintro i ys H2 hi ⟨ns,rfl,ln,B2,S2⟩ hd2
   refine⟨hi,?_⟩
   rintro x H3 ⟨rfl,rfl⟩
   refine Ye ?_
   refine⟨_,rfl,b,_,_,rfl,B2,by omega,by decide,by decide +kernel,fun r H4 r0 r1 B4 S4=>?_⟩
   have hd4:H4 d=some (.lst (ns.map V.int)):=S4 _ _ hd2 hdb
   refine⟨hd4,ns++[r],by rw[List.map_append];rfl,by rw[List.length_append,ln];rfl,(B4.upd (Ne.symm hdb)).mono (by omega),fun q o e ne=>?_⟩
   have e2:=S4 q o (S2 q o e ne) ne
   rw[Zf (Zd (S1 q o e ne) hd)]
   exact e2
  ·rintro ys H2 ⟨ns,rfl,ln,B2,S2⟩ hd2
   refine⟨Nat.le_refl _,?_⟩
   refine⟨_,rfl,(c:Int),rfl,(by omega),(by omega),fun d5 hd5=>?_⟩
   rw[et]
   refine⟨c,fun i ys H3=>ys=(evI i fun j=>decide (ns.getD j 0=1)).map V.int/\Same H2 H3,Zp hl,⟨rfl,Same.new hd5⟩,?_,?_⟩
   ·rintro i ys H3 hi ⟨rfl,S3⟩ hd3
    refine⟨hi,?_⟩
    rintro x H4 ⟨rfl,rfl⟩
    have e0:(0+(i:Int))=((i:Nat):Int):=by omega
    rw[e0]
    refine Co ?_
    have hin:i<ns.length:=by omega
    have en:(ns.map V.int)[i]?=some (V.int (ns.getD i 0)):=by rw[List.getElem?_map];simp[List.getD,hin]
    refine⟨_,rfl,_,rfl,d,_,_,_,rfl,rfl,SqL.of (S3 _ _ hd2),Zg en,rfl,_,rfl,?_⟩
    have ss:=Bj i fun j=>decide (ns.getD j 0=1)
    refine Xd (fun h=>?_) (fun h=>?_)
    ·have h0:ns.getD i 0=1:=V.int.inj (of_decide_eq_true h)
     refine⟨_,rfl,hd3,?_,fun q o e=>?_⟩
     ·rw[ss,if_pos (decide_eq_true h0),List.map_append]
      rfl
     ·rw[Zf (Zd e hd5)]
      exact S3 _ _ e
    ·have h0:¬ ns.getD i 0=1:=fun z=>h (decide_eq_true (by rw[z]))
     refine⟨hd3,?_,S3⟩
     rw[ss,if_neg (by rw[decide_eq_true_eq];exact h0),List.append_nil]
   ·rintro ys H3 ⟨rfl,S3⟩ hd3
    refine⟨Nat.le_refl _,d5,_,rfl,.inl ⟨SqL.of hd3,fun l hl'=>?_⟩⟩
    have S4:=S3.trans (Same.new (o:=.tup ((evI c fun j=>decide (ns.getD j 0=1)).map V.int)) hl')
    exact k _ _ (some fun j=>decide (ns.getD j 0=1)) ((B2.same S4).mono (by omega)) (S2.trans (SameX.of S4)) ⟨l,rfl,SqT.of Zb⟩
def fQ (K:W.Frag):Sp:=fun vs H Q _=>∃ (a:Addr) (v:V) (rs:List Rat) (o:Option (Nat->Bool)),vs=[.ref a,v]/\RowAt K H a rs/\EvAt K H rs.length o v/\rs.length<=1000 ∧
 ∀ p H',Same H H'->RowAt K H' p (cutR o rs)->Q (.ref p) H'
theorem Nx:FnScope ["_law_row_here","_law_event_here","_law_inside_here","_law_world"] ["_law_row_here","_law_event_here"] (defScope lG):=fsc
theorem Cd (D:Def K mg "_law_inside" lG ["_law_row_here","_law_event_here"])(T:Blt mg):Has P w K mg base 1 "_law_inside" ["_law_row_here","_law_event_here"] (fQ K):=by
 refine D.has fun f fd F=>F.ok Nx (fun vs H Q E h=>?_) (fun cdv A outer s H vs Q E hr h=>?_)
 ·obtain⟨a,v,rs,o,rfl,_⟩:=h
  rfl
 ·obtain⟨a,v,rs,o,rfl,⟨us,hus,hrs⟩,hv,hl,k⟩:=h
  have sc:=Nx
  refine⟨_,(Z9 (Zi (i:=2) sc.nd rfl (Or.inl rfl) (Xz Z8))
   (Z9 (Xn PassesOwn.never rfl (Yj rfl T.range (Z0 (Zz Y4 rfl T.len boot_len (Z0 (pv 0) Z8)) Z8)) (Zk (i:=3) sc.nd rfl (Or.inl rfl))
    (Zc (Yd (PW.pt (Vl (Zn Ri (pv 1) Yr (Zt _)) (Vb (Zn W7 (pv 3) (pv 1) rfl))))
     (Zc (Xh (Wj PySem.F.plainAttrs_list PySem.F.slot_list_append PySem.F.type_list_append Ym (pv 2) (Z0 (Zh Y8 (pv 0) (pv 3) (fun _ _=>rfl)) Z8))))
     (Zc (Xh (Wj PySem.F.plainAttrs_list PySem.F.slot_list_append PySem.F.type_list_append Ym (pv 2) (Z0 (Yf (Z0 Za (Z0 Za Z8))) Z8)))))))
   (Zc (Zj (Zy Zv rfl T.tuple PyProof.Rows.boot_tuple (Z0 (pv 2) Z8)))))),?_⟩
  have lu:=hrs.len
  refine⟨sz0,fun d hd=>?_⟩
  have S0:Same H (upd H d (.lst [])):=Same.new hd
  have e0:upd H d (.lst []) d=some (.lst []):=Zb
  generalize upd H d (.lst [])=H0 at *
  refine⟨_,rfl,a,us,rfl,.inr (Zq S0 hus),(us.length:Int),rfl,(by omega),(by omega),?_⟩
  have et:(us.length:Int).toNat=us.length:=by omega
  rw[et]
  refine Vx (lo:=0) (n:=us.length) (fun i σ H'=>Same H H'/\∃ (ys:List V) (x:Option V),σ=[some (.ref a),some v,some (.ref d),x]/\H' d=some (.lst ys)/\Rs K H' ((cutR o rs).take i) ys) ⟨S0,[],none,rfl,e0,.nil⟩ ?_ ?_
  ·rintro i σ H1 hi ⟨S1,ys,x,rfl,hd1,R1⟩
   have e1:(0+(i:Int))=((i:Nat):Int):=by omega
   rw[e1]
   have hir:i<rs.length:=by omega
   have er:rs[i]?=some rs[i]:=by simp[hir]
   obtain⟨x0,ex,ix⟩:=hrs.at er
   have ly:=R1.len
   rw[List.length_take,Yl] at ly
   have snoc:∀ (vv:V) (H2:Hp),Same H1 H2->IsR K H2 (if inE o i then rs[i] else (0,1)) vv->Same H (upd H2 d (.lst (ys++[vv])))/\∃ (zs:List V) (x:Option V),[some (.ref a),some v,some (.ref d),some (V.int (i:Int))]=[some (.ref a),some v,some (.ref d),x]/\upd H2 d (.lst (ys++[vv])) d=some (.lst zs)/\Rs K (upd H2 d (.lst (ys++[vv]))) ((cutR o rs).take (i+1)) zs:=fun vv H2 S2 iv=>by
    have hd2:=S2 _ _ hd1
    refine⟨fun q o' e=>?_,ys++[vv],_,rfl,Zb,?_⟩
    ·rw[Zf (Zd e hd)]
     exact S2 _ _ (S1 _ _ e)
    ·rw[Y9 (Wo er)]
     exact (R1.ext ((Ext.same S2).trans (Ext.upd hd2))).snoc (iv.ext (Ext.upd hd2))
   have yes:inE o i=true->(rIn K false (.int (i:Int)) v H1 fun _ _=>True) \/ True:=fun _=>.inr trivial
   have app1:inE o i=true->∃ x,some (V.ref d)=x/\True:=fun _=>⟨_,rfl,trivial⟩
   clear yes app1
   refine⟨_,rfl,rfl,_,rfl,?_⟩
   have done1:inE o i=true->∀ (R:Prop),R->R:=fun _ R z=>z
   clear done1
   cases o with
   | none =>
    have z:v=.non:=hv
    subst z
    refine Ti ?_
    refine⟨_,rfl,.inl ⟨rfl,_,SqL.of hd1⟩,_,rfl,_,rfl,a,us,_,_,rfl,rfl,Zq S1 hus,Zg ex,d,_,_,rfl,rfl,hd1,Xl (by omega),?_⟩
    exact snoc x0 H1 (Same.refl _) (ix.ext (Ext.same S1))
   | some p =>
    obtain⟨e9,rfl,he9⟩:=hv.same S1
    refine Qz (by intro z;cases z) ?_
    refine⟨_,rfl,_,rfl,e9,_,rfl,.inr he9,rfl,Tm _,_,rfl,?_⟩
    have ev:inV (.int (i:Int)) ((evI rs.length p).map V.int)=inE (some p) i:=by
     rw[Q1,Bool.eq_iff_iff,decide_eq_true_eq,Je]
     show _ ↔ p i=true
     simp[hir]
    show if inV (.int (i:Int)) ((evI rs.length p).map V.int)=true then _ else _
    rw[ev]
    refine Z1b (fun e=>?_) (fun e=>?_)
    ·refine⟨_,rfl,.inl ⟨rfl,_,SqL.of hd1⟩,_,rfl,_,rfl,a,us,_,_,rfl,rfl,Zq S1 hus,Zg ex,d,_,_,rfl,rfl,hd1,Xl (by omega),?_⟩
     refine snoc x0 H1 (Same.refl _) ?_
     rw[e,if_pos rfl]
     exact ix.ext (Ext.same S1)
    ·refine⟨_,rfl,.inl ⟨rfl,_,SqL.of hd1⟩,sz2,fun p' hp=>?_⟩
     have S3:Same H1 (upd H1 p' (.tup [.int 0,.int 1])):=Same.new hp
     refine⟨d,_,_,rfl,rfl,S3 _ _ hd1,Xl (by omega),?_⟩
     refine snoc (.ref p') _ S3 ?_
     rw[e]
     exact⟨p',rfl,SqT.of Zb⟩
  ·rintro σ H1 ⟨S1,ys,x,rfl,hd1,R1⟩
   rw[List.take_of_length_le (by rw[Yl];omega)] at R1
   refine⟨_,rfl,d,ys,rfl,.inl ⟨SqL.of hd1,fun lt hlt=>?_⟩⟩
   exact k lt _ (S1.trans (Same.new hlt)) ⟨ys,SqT.of Zb,R1.ext (Ext.new hlt)⟩
end
def shR (c:Nat)(ev:Option (Nat->Bool))(ws:List Rat):Rat:=mn ws (cutR ev (List.replicate c (1,1)))
theorem RowR.low8 {c:Nat}{as:List Rat}(ra:RowR c as){x:Rat}(h:x∈as):Low x:=by
 obtain⟨_,n,D,Z,r⟩:=ra
 exact (r.good x h).low
theorem RowR.cut {c:Nat}{as:List Rat}(ra:RowR c as)(ev:Option (Nat->Bool)):RowR c (cutR ev as):=by
 obtain⟨l,n,D,Z,r⟩:=ra
 exact⟨by rw[Yl];exact l,n,_,_,r.cut ev⟩
def gP (o:Option (Nat->Bool))(as:List Rat)(p:Rat):List Rat:=cutR o (as.map fun x=>subR x p)
structure ConV (c:Nat)(rss:List (List Rat))(o:Option (Nat->Bool))(as:List Rat)(v:Rat):Prop where
 low:Low v
 hit:∃ W,Wts c rss W/\(mn W (gP o as v)).1=0/\0<(shR c o W).1
 top:∀ W,Wts c rss W->(mn W (gP o as v)).1<=0
theorem Qf (c:Nat){n:Nat}(hn:1<=n):RepL n 1 (List.replicate c 0) (List.replicate c (0,1)):=by
 refine⟨by decide,Nat.lt_of_lt_of_le (show (1:Int).natAbs<2 ^ 1 by decide) (Nat.pow_le_pow_right (by decide) hn),by simp,fun i W r hW hr=>?_⟩
 have h1:=List.eq_of_mem_replicate (List.mem_of_getElem? hW)
 have h2:=List.eq_of_mem_replicate (List.mem_of_getElem? hr)
 subst h1
 subst h2
 exact⟨rfl,bd0 n,Um⟩
theorem Cv {r:Rat}(l:Low r):∃ m,Good m r:=⟨r.1.natAbs+r.2.natAbs,Nat.lt_of_lt_of_le Nat.lt_two_pow_self (Nat.pow_le_pow_right (by decide) (by omega)),Nat.lt_of_lt_of_le Nat.lt_two_pow_self (Nat.pow_le_pow_right (by decide) (by omega)),l.pos,l.cop⟩
abbrev ngR (as:List Rat):List Rat:=as.map fun r=>mulR' r (-1,1)
abbrev QQ:=_root_.Rat
def qv (r:Rat):QQ:=(r.1:QQ) / (r.2:QQ)
theorem Xa {z:Int}(h:0<z):(z:QQ)≠0:=fun e=>by
 have:z=0:=_root_.Rat.intCast_inj.mp (e.trans _root_.Rat.intCast_zero.symm)
 omega
theorem Yx {z:Int}(h:0<z):0<(z:QQ):=_root_.Rat.intCast_pos.mpr h
theorem Lr {a b:QQ}(h:0<=a*b)(p:0<b):0<=a:=by
 by_cases q:0<=a
 ·exact q
 ·have:=_root_.Rat.mul_pos (show 0 < -a by grind) p
  grind
theorem Di {r:Rat}{p q:Int}(hr:0<r.2)(hq:0<q)(e:r.1*q=p*r.2):qv r=(p:QQ) / q:=by
 unfold qv
 have h1:=Xa hr
 have h2:=Xa hq
 have e':(r.1:QQ)*q=p*r.2:=by rw[← _root_.Rat.intCast_mul,← _root_.Rat.intCast_mul,e]
 grind
theorem Wu {p q:Int}(h:0<q):qv (nrm p q)=(p:QQ) / q:=Di (Yp (by omega)).pos h (Yu p q)
theorem Lp {r s:Rat}(lr:Low r)(ls:Low s):qv (addR r s)=qv r+qv s:=by
 have h1:=Xa lr.pos
 have h2:=Xa ls.pos
 rw[show addR r s=nrm (r.1*s.2+s.1*r.2) (r.2*s.2) from rfl,Wu (Int.mul_pos lr.pos ls.pos)]
 unfold qv
 rw[_root_.Rat.intCast_add,_root_.Rat.intCast_mul,_root_.Rat.intCast_mul,_root_.Rat.intCast_mul]
 grind
theorem Ph {r s:Rat}(lr:Low r)(ls:Low s):qv (subR r s)=qv r - qv s:=by
 have h1:=Xa lr.pos
 have h2:=Xa ls.pos
 rw[show subR r s=nrm (r.1*s.2 - s.1*r.2) (r.2*s.2) from rfl,Wu (Int.mul_pos lr.pos ls.pos)]
 unfold qv
 rw[_root_.Rat.intCast_sub,_root_.Rat.intCast_mul,_root_.Rat.intCast_mul,_root_.Rat.intCast_mul]
 grind
theorem Pi {r s:Rat}(lr:Low r)(ls:Low s):qv (mulR' r s)=qv r*qv s:=by
 have h1:=Xa lr.pos
 have h2:=Xa ls.pos
 rw[show mulR' r s=nrm (r.1*s.1) (r.2*s.2) from rfl,Wu (Int.mul_pos lr.pos ls.pos)]
 unfold qv
 rw[_root_.Rat.intCast_mul,_root_.Rat.intCast_mul]
 grind
theorem T9 {r:Rat}(h:0<r.2):qv r*(r.2:QQ)=r.1:=by
 have:=Xa h
 unfold qv
 grind
theorem Ui {r:Rat}(h:0<r.2):0<=r.1 ↔ 0<=qv r:=by
 have e:=T9 h
 have p:=Yx h
 constructor
 ·intro q
  have:(0:QQ)<=(r.1:QQ):=_root_.Rat.intCast_nonneg.mpr q
  rw[← e] at this
  exact Lr this p
 ·intro q
  have:=_root_.Rat.mul_nonneg q (_root_.Rat.le_of_lt p)
  rw[e] at this
  exact _root_.Rat.intCast_nonneg.mp this
theorem Wh {r:Rat}(h:0<r.2):r.1<=0 ↔ qv r<=0:=by
 have a:=Ui (r:=(-r.1,r.2)) h
 have e:qv (-r.1,r.2)=- qv r:=by
  unfold qv
  rw[show ((-r.1,r.2):Rat).1=-r.1 from rfl,_root_.Rat.intCast_neg]
  grind
 rw[e] at a
 constructor
 ·intro q
  have:=a.mp (show 0<=-r.1 by omega)
  grind
 ·intro q
  have:0<=-r.1:=a.mpr (by grind)
  omega
theorem Z25 {r:Rat}(h:0<r.2):0<r.1 ↔ 0<qv r:=by
 have:=Wh h
 constructor
 ·intro q
  by_cases z:qv r<=0
  ·have:=this.mpr z;omega
  ·grind
 ·intro q
  by_cases z:r.1<=0
  ·have:=this.mp z;grind
  ·omega
theorem Lo {r s:Rat}(lr:Low r)(ls:Low s)(h:qv r=qv s):r=s:=by
 refine Xf lr.pos ls.pos lr.cop ls.cop ?_
 have h1:=T9 lr.pos
 have h2:=T9 ls.pos
 have:(r.1:QQ)*s.2=s.1*r.2:=by rw[← h1,← h2,h];grind
 rw[← _root_.Rat.intCast_mul,← _root_.Rat.intCast_mul] at this
 exact _root_.Rat.intCast_inj.mp this
theorem Z03:qv (0,1)=0:=by
 show ((0:Int):QQ) / ((1:Int):QQ)=0
 rw[_root_.Rat.intCast_zero,_root_.Rat.intCast_one]
 grind
theorem Z02:qv (1,1)=1:=by
 show ((1:Int):QQ) / ((1:Int):QQ)=1
 rw[_root_.Rat.intCast_one]
 grind
def sQ:Nat->(Nat->QQ)->QQ
 | 0,_=>0
 | n+1,f=>sQ n f+f n
theorem Zo {f g:Nat->QQ}:∀ {n:Nat},(∀ k,k<n->f k=g k)->sQ n f=sQ n g
 | 0,_=>rfl
 | n+1,h=>by
  show sQ n f+f n=sQ n g+g n
  rw[Zo fun k hk=>h k (by omega),h n (by omega)]
theorem Wt (f g:Nat->QQ):∀ (n:Nat),sQ n (fun k=>f k+g k)=sQ n f+sQ n g
 | 0=>by show (0:QQ)=0+0;grind
 | n+1=>by
  show sQ n (fun k=>f k+g k)+(f n+g n)=(sQ n f+f n)+(sQ n g+g n)
  rw[Wt f g n]
  grind
theorem Yi (a:QQ)(f:Nat->QQ):∀ (n:Nat),sQ n (fun k=>a*f k)=a*sQ n f
 | 0=>by show 0=a*0;grind
 | n+1=>by
  show sQ n (fun k=>a*f k)+a*f n=a*(sQ n f+f n)
  rw[Yi a f n]
  grind
theorem Uf {f:Nat->QQ}{n:Nat}(h:∀ k,k<n->f k=0):sQ n f=0:=by
 rw[Zo h]
 have:∀ n,sQ n (fun _=>0)=0:=fun n=>by
  induction n with
  | zero=>rfl
  | succ n ih=>show sQ n _+0=0;rw[ih];grind
 exact this n
theorem R8 {f:Nat->QQ}:∀ {n:Nat},(∀ k,k<n->0<=f k)->0<=sQ n f
 | 0,_=>by show (0:QQ)<=0;grind
 | n+1,h=>by
  show 0<=sQ n f+f n
  have h1:=R8 (f:=f) fun k (hk:k<n)=>h k (by omega)
  have h2:=h n (by omega)
  grind
theorem D8 {f g:Nat->QQ}{n:Nat}(h:∀ k,k<n->f k<=g k):sQ n f<=sQ n g:=by
 have:=R8 (f:=fun k=>g k + -1*f k) fun k (hk:k<n)=>by have:=h k hk;grind
 rw[Wt,Yi] at this
 grind
theorem Sg (f:Nat->Nat->QQ)(m:Nat):∀ (n:Nat),sQ n (fun i=>sQ m (fun j=>f i j))=sQ m (fun j=>sQ n (fun i=>f i j))
 | 0=>(Uf fun _ _=>rfl).symm
 | n+1=>by
  show sQ n (fun i=>sQ m (fun j=>f i j))+sQ m (fun j=>f n j)=sQ m (fun j=>sQ n (fun i=>f i j)+f n j)
  rw[Sg f m n,Wt]
theorem M5 (f:Nat->QQ):∀ (n:Nat),sQ (n+1) f=f 0+sQ n (fun k=>f (k+1))
 | 0=>by show 0+f 0=f 0+0;grind
 | n+1=>by
  show sQ (n+1) f+f (n+1)=f 0+(sQ n (fun k=>f (k+1))+f (n+1))
  rw[M5 f n]
  grind
def qr (l:List Rat)(k:Nat):QQ:=qv (l.getD k (0,1))
def Lows (l:List Rat):Prop:=∀ r∈l,Low r
theorem RowR.lows {c:Nat}{l:List Rat}(h:RowR c l):Lows l:=fun r hr=>h.low8 hr
theorem Lows.row {l:List Rat}(h:Lows l):RowR l.length l:=by
 have:∃ n,∀ r∈l,Good n r:=by
  induction l with
  | nil=>exact⟨0,fun r hr=>nomatch hr⟩
  | cons a t ih =>
   obtain⟨n,hn⟩:=ih fun r hr=>h r (List.mem_cons_of_mem _ hr)
   obtain⟨m,hm⟩:=Cv (h a List.mem_cons_self)
   refine⟨n+m,fun r hr=>?_⟩
   rcases List.mem_cons.mp hr with rfl | hr
   ·exact hm.mono (by omega)
   ·exact (hn r hr).mono (by omega)
 obtain⟨n,hn⟩:=this
 exact⟨rfl,_,_,_,RepL.of_good hn⟩
theorem Su:∀ {l:List Rat} {x:Rat},Low x->Lows l->Low (l.foldl addR x)/\qv (l.foldl addR x)=qv x+sQ l.length (qr l)
 | [],x,lx,_=>⟨lx,by show qv x=qv x+0;grind⟩
 | a::t,x,lx,h=>by
  have la:=h a List.mem_cons_self
  obtain⟨h1,h2⟩:=Su (x:=addR x a) (Wn lx la) fun r hr=>h r (List.mem_cons_of_mem _ hr)
  refine⟨h1,?_⟩
  show qv (t.foldl addR (addR x a))=qv x+sQ (t.length+1) (qr (a::t))
  rw[h2,M5,Lp lx la]
  have e:sQ t.length (fun k=>qr (a::t) (k+1))=sQ t.length (qr t):=Zo fun k _=>rfl
  rw[e]
  show qv x+qv a+_=qv x+(qv a+_)
  grind
theorem Kg {l:List Rat}(h:Lows l):Low (sumR l):=(Su Um h).1
theorem Z24 {l:List Rat}(h:Lows l):qv (sumR l)=sQ l.length (qr l):=by
 have:=(Su Um h).2
 rw[Z03] at this
 show qv (l.foldl addR (0,1))=_
 rw[this]
 grind
theorem Wk {l:List Rat}(h:Lows l)(k:Nat):Low (l.getD k (0,1)):=by
 rw[List.getD_eq_getElem?_getD]
 cases e:l[k]? with
 | none=>exact Um
 | some x=>exact h x (List.mem_of_getElem? e)
theorem Rv {l m:List Rat}(h:Lows l)(h':Lows m):Lows (List.zipWith mulR' l m):=fun r hr=>by
 obtain⟨i,hi⟩:=List.getElem?_of_mem hr
 rw[List.getElem?_zipWith] at hi
 cases e1:l[i]? with
 | none=>rw[e1] at hi;simp at hi
 | some x =>
  cases e2:m[i]? with
  | none=>rw[e1,e2] at hi;simp at hi
  | some y =>
   rw[e1,e2] at hi
   cases hi
   exact Xe (h x (List.mem_of_getElem? e1)) (h' y (List.mem_of_getElem? e2))
theorem Z27 {l m:List Rat}(h:Lows l)(h':Lows m){k:Nat}(h1:k<l.length)(h2:k<m.length):qr (List.zipWith mulR' l m) k=qr l k*qr m k:=by
 unfold qr
 have e:(List.zipWith mulR' l m).getD k (0,1)=mulR' (l.getD k (0,1)) (m.getD k (0,1)):=by
  rw[List.getD_eq_getElem?_getD,List.getElem?_zipWith,List.getD_eq_getElem?_getD,List.getD_eq_getElem?_getD,List.getElem?_eq_getElem h1,List.getElem?_eq_getElem h2]
  rfl
 rw[e,Pi (Wk h k) (Wk h' k)]
theorem Yy {l m:List Rat}(h:Lows l)(h':Lows m):Low (mn l m):=Kg (Rv h h')
theorem Wi {l m:List Rat}{c:Nat}(h:Lows l)(h':Lows m)(h1:l.length=c)(h2:m.length=c):qv (mn l m)=sQ c (fun k=>qr l k*qr m k):=by
 show qv (sumR _)=_
 rw[Z24 (Rv h h')]
 have:(List.zipWith mulR' l m).length=c:=by rw[List.length_zipWith,h1,h2];omega
 rw[this]
 exact Zo fun k hk=>Z27 h h' (by omega) (by omega)
theorem Wb {o:Option (Nat->Bool)}{l:List Rat}(h:Lows l):Lows (cutR o l):=(h.row.cut o).lows
theorem Vk {o:Option (Nat->Bool)}{l:List Rat}{k:Nat}:qr (cutR o l) k=if inE o k then qr l k else 0:=by
 unfold qr cutR
 rw[List.getD_eq_getElem?_getD,List.getElem?_mapIdx,List.getD_eq_getElem?_getD]
 cases l[k]? with
 | none=>show qv (0,1)=if inE o k then qv (0,1) else 0;rw[Z03];cases inE o k <;> rfl
 | some x =>
  show qv (if inE o k then x else (0,1))=if inE o k then qv x else 0
  cases inE o k
  ·exact Z03
  ·rfl
theorem Z05 {c k:Nat}(h:k<c):qr (List.replicate c (1,1)) k=1:=by
 unfold qr
 rw[List.getD_eq_getElem?_getD,List.getElem?_replicate,if_pos h]
 exact Z02
theorem Vw (c:Nat):Lows (List.replicate c (1,1)):=fun r hr=>by rw[List.eq_of_mem_replicate hr];exact low11
theorem Lq {c k:Nat}{o:Option (Nat->Bool)}(h:k<c):qr (papR c o) k=if inE o k then 1 else 0:=by
 unfold papR
 rw[Vk,Z05 h]
theorem Ul (c:Nat)(o:Option (Nat->Bool)):Lows (papR c o):=Wb (Vw c)
structure WtsQ (c:Nat)(rss:List (List Rat))(l:List Rat):Prop where
 len:l.length=c
 low:Lows l
 nn:∀ k,k<c->0<=qr l k
 fit:∀ rs∈rss,sQ c (fun k=>qr l k*qr rs k)<=0
 lie:sQ c (qr l)=1
theorem Wts.toQ {c:Nat}{rss:List (List Rat)}{l:List Rat}(w:Wts c rss l)(hrs:∀ rs∈rss,RowR c rs):WtsQ c rss l:=by
 have lw:Lows l:=w.rep.elim fun n z=>z.elim fun D z=>z.elim fun L r=>fun x hx=>(r.good x hx).low
 refine⟨w.len,lw,fun k hk=>?_,fun rs hr=>?_,?_⟩
 ·refine (Ui (Wk lw k).pos).mp ?_
  rw[List.getD_eq_getElem?_getD,List.getElem?_eq_getElem (by rw[w.len];exact hk)]
  exact w.nn _ (List.getElem_mem _)
 ·have h2:=(hrs rs hr).lows
  rw[← Wi lw h2 w.len (hrs rs hr).1]
  exact (Wh (Yy lw h2).pos).mp (w.fit rs hr)
 ·have h:=congrArg qv w.lie
  have e:qv (mn l (papR c none))=1:=by rw[← Z02];exact h
  rw[Wi lw (Ul c none) w.len (V2 c none)] at e
  rw[← e]
  exact Zo fun k hk=>by rw[Lq hk];show _=_*1;grind
theorem WtsQ.wts {c:Nat}{rss:List (List Rat)}{l:List Rat}(w:WtsQ c rss l)(hrs:∀ rs∈rss,RowR c rs):Wts c rss l:=by
 have rr:=w.low.row
 rw[w.len] at rr
 refine⟨w.len,rr.2,fun r hr=>?_,fun rs hr=>?_,?_⟩
 ·obtain⟨k,hk⟩:=List.getElem?_of_mem hr
  have lk:k<c:=by have:=(List.getElem?_eq_some_iff.mp hk).1;rw[w.len] at this;exact this
  have:=w.nn k lk
  unfold qr at this
  rw[List.getD_eq_getElem?_getD,hk] at this
  exact (Ui (w.low r hr).pos).mpr this
 ·have h2:=(hrs rs hr).lows
  refine (Wh (Yy w.low h2).pos).mpr ?_
  rw[Wi w.low h2 w.len (hrs rs hr).1]
  exact w.fit rs hr
 ·refine Lo (Yy w.low (Ul c none)) low11 ?_
  show qv (mn l (papR c none))=_
  rw[Wi w.low (Ul c none) w.len (V2 c none),Z02,← w.lie]
  exact Zo fun k hk=>by rw[Lq hk];show _*1=_;grind
theorem Yw {c:Nat}{o:Option (Nat->Bool)}{l:List Rat}(h:Lows l)(hl:l.length=c):qv (shR c o l)=sQ c (fun k=>if inE o k then qr l k else 0):=by
 show qv (mn l (papR c o))=_
 rw[Wi h (Ul c o) hl (V2 c o)]
 exact Zo fun k hk=>by rw[Lq hk];cases inE o k <;> simp <;> grind
open Sv (sm)
theorem X1 {α:Type}{l:List α}{k:Nat}{x d:α}(h:l[k]?=some x):l.getD k d=x:=by rw[List.getD_eq_getElem?_getD,h];rfl
theorem Z06 {a l:QQ}(hl:0<l)(h:l*a<=0):a<=0:=by
 have:=Lr (a:=-a) (b:=l) (by grind) hl
 grind
theorem J7 {a b:QQ}(h:b≠0):a / b*b=a:=by grind
theorem Rm {a b:QQ}(ha:0<=a)(hb:b<=0):a*b<=0:=by
 have:=_root_.Rat.mul_nonneg ha (show 0<=-b by grind)
 grind
theorem D7 {f:Nat->QQ}{n:Nat}(h:∀ k,k<n->f k<=0):sQ n f<=0:=by
 have:=D8 (f:=f) (g:=fun _=>0) h
 rw[Uf (f:=fun _=>0) fun _ _=>rfl] at this
 exact this
theorem Le (f:Nat->Int):∀ (n:Nat),((sm n f:Int):QQ)=sQ n (fun j=>(f j:QQ))
 | 0=>_root_.Rat.intCast_zero
 | n+1=>by
  show ((sm n f+f n:Int):QQ)=sQ n (fun j=>(f j:QQ))+(f n:QQ)
  rw[_root_.Rat.intCast_add,Le f n]
theorem Pj {l:List Rat}{f:Rat->Rat}{k:Nat}(hk:k<l.length):qr (l.map f) k=qv (f (l.getD k (0,1))):=by
 have e1:l[k]?=some l[k]:=by simp[hk]
 unfold qr
 rw[List.getD_eq_getElem?_getD,List.getElem?_map,e1,X1 e1]
 rfl
theorem Dk {c k:Nat}{f:Nat->Rat}(hk:k<c):qr ((List.range c).map f) k=qv (f k):=by
 unfold qr
 rw[List.getD_eq_getElem?_getD,List.getElem?_map,List.getElem?_range hk]
 rfl
theorem Qq {c:Nat}{rs:List Rat}(h:RowR c rs):0<lcmB rs/\∀ v,v<c->(rowF rs v:QQ)=(lcmB rs:QQ)*qr rs v:=by
 obtain⟨hl,n,D,Z,r⟩:=h
 refine⟨r.least.pos,fun v hv=>?_⟩
 have er:rs[v]?=some (rs[v]'(by omega)):=by simp
 obtain⟨e2,_,lo⟩:=r.least.at_ v ((rs[v]'(by omega)).1*(lcmB rs).fdiv (rs[v]'(by omega)).2) (rs[v]'(by omega)) (by unfold wholeB;simp[show v<rs.length by omega]) er
 have p:=Xa r.least.pos
 rw[Si er]
 unfold qr
 rw[X1 er,Di lo.pos r.least.pos e2]
 grind
section
variable {c:Nat}{rss:List (List Rat)}{o:Option (Nat->Bool)}{as W:List Rat}{T:Sv.Tab}{v:Rat}
theorem L6 (rows:∀ rs∈rss,RowR c rs){j:Nat}(hj:j<rss.length):0<lcmB (rss.getD j [])/\∀ i,i<c->(AOf rss j i:QQ)=(lcmB (rss.getD j []):QQ)*qr (rss.getD j []) i:=by
 refine Qq ?_
 rw[X1 (l:=rss) (x:=rss[j]) (by simp[hj])]
 exact rows _ (List.getElem_mem hj)
theorem M9 {i:Nat}(hi:i<c):(rowF (papR c o) i:QQ)=if inE o i then 1 else 0:=by
 rw[Z2d hi,Mm]
 cases inE o i <;> rfl
theorem Bm {y α β:Nat->Int}(rows:∀ rs∈rss,RowR c rs)(w:WtsQ c rss W)(y0:∀ j,j<rss.length->0<=y j)(h:∀ i,i<c->α i<=sm rss.length (fun j=>AOf rss j i*y j)+β i):sQ c (fun i=>qr W i*(α i:QQ))<=sQ c (fun i=>qr W i*(β i:QQ)):=by
 have a:sQ c (fun i=>qr W i*(α i:QQ))<=sQ c (fun i=>sQ rss.length (fun j=>qr W i*((AOf rss j i:QQ)*(y j:QQ)))+qr W i*(β i:QQ)):=D8 fun i hi=>by
  have:=_root_.Rat.intCast_le_intCast.mpr (h i hi)
  rw[_root_.Rat.intCast_add,Le] at this
  rw[Zo (f:=fun j=>((AOf rss j i*y j:Int):QQ)) (g:=fun j=>(AOf rss j i:QQ)*(y j:QQ)) fun j _=>_root_.Rat.intCast_mul _ _] at this
  rw[Yi]
  have:=_root_.Rat.mul_nonneg (w.nn i hi) (show 0<=sQ rss.length (fun j=>(AOf rss j i:QQ)*(y j:QQ))+(β i:QQ) - (α i:QQ) by grind)
  grind
 rw[Wt,Sg] at a
 have b:sQ rss.length (fun j=>sQ c (fun i=>qr W i*((AOf rss j i:QQ)*(y j:QQ))))<=0:=D7 fun j hj=>by
  obtain⟨lp,e⟩:=L6 rows hj
  rw[Zo (g:=fun i=>(y j:QQ)*(lcmB (rss.getD j []):QQ)*(qr W i*qr (rss.getD j []) i)) fun i hi=>by rw[e i hi];grind,Yi]
  refine Rm (_root_.Rat.mul_nonneg (_root_.Rat.intCast_nonneg.mpr (y0 j hj)) (_root_.Rat.le_of_lt (Yx lp))) (w.fit _ ?_)
  rw[X1 (l:=rss) (x:=rss[j]) (by simp[hj])]
  exact List.getElem_mem hj
 grind
theorem NoneT.noshareq {gs:List Rat}(h:NoneT c rss o gs T)(rows:∀ rs∈rss,RowR c rs)(w:WtsQ c rss W):(shR c o W).1=0:=by
 obtain⟨h1,h2⟩:=h.sv
 have d:=Bm (y:=fun k=>-Sv.numAt c T rss.length (c+k)) (α:=fun i=>rowF (papR c o) i*T.b) (β:=fun _=>0) rows w (fun j hj=>by have:=h1 j hj;omega) fun i hi=>by have:=h2 i hi;omega
 have ls:=Yy w.low (Wb (o:=o) (Vw c))
 have e:sQ c (fun i=>qr W i*((rowF (papR c o) i*T.b:Int):QQ))=(T.b:QQ)*qv (shR c o W):=by
  rw[Yw w.low w.len,← Yi]
  refine Zo fun i hi=>?_
  rw[_root_.Rat.intCast_mul,M9 hi]
  cases inE o i <;> simp <;> grind
 rw[e,Uf fun i _=>by rw[_root_.Rat.intCast_zero];grind] at d
 have a:=(Wh ls.pos).mpr (Z06 (Yx h.inv.pos) d)
 have b:0<=qv (shR c o W):=by
  rw[Yw w.low w.len]
  exact R8 fun k hk=>by cases inE o k <;> simp <;> exact w.nn k hk
 have b:=(Ui ls.pos).mpr b
 have a:(shR c o W).1<=0:=a
 have b:0<=(shR c o W).1:=b
 omega
theorem NoneT.noloadsq {gs:List Rat}(h:NoneT c rss none gs T)(rows:∀ rs∈rss,RowR c rs)(w:WtsQ c rss W):False:=by
 have e:=h.noshareq rows w
 have ls:=Yy w.low (Wb (o:=none) (Vw c))
 have a:=(Wh ls.pos).mp (show (shR c none W).1<=0 by omega)
 have b:qv (shR c none W)=1:=(Yw w.low w.len).trans w.lie
 have a:qv (shR c none W)<=0:=a
 rw[b] at a
 exact absurd a (by decide)
theorem NoneT.q {gs:List Rat}(h:NoneT c rss o gs T)(rows:∀ rs∈rss,RowR c rs){i:Nat}(hi:i<c):(if inE o i then (1:QQ) else 0)<=sQ rss.length (fun j=>qr (multR c rss T rss.length 1) j*qr (rss.getD j []) i):=by
 have bp:=h.inv.pos
 have pb:=Yx bp
 have s:=_root_.Rat.intCast_le_intCast.mpr (h.sv.2 i hi)
 rw[_root_.Rat.intCast_mul,M9 hi,Le] at s
 have e:sQ rss.length (fun j=>((AOf rss j i * -Sv.numAt c T rss.length (c+j):Int):QQ))=(T.b:QQ)*sQ rss.length (fun j=>qr (multR c rss T rss.length 1) j*qr (rss.getD j []) i):=by
  rw[← Yi]
  refine Zo fun j hj=>?_
  have:qr (multR c rss T rss.length 1) j=((-Sv.numAt c T rss.length (c+j)*lcmB (rss.getD j []):Int):QQ) / ((1*T.b:Int):QQ):=(Dk hj).trans (Wu (by omega))
  rw[this,_root_.Rat.intCast_mul,_root_.Rat.intCast_mul,(L6 rows hj).2 i hi,Int.one_mul]
  grind
 rw[e] at s
 have:=Lr (a:=sQ rss.length (fun j=>qr (multR c rss T rss.length 1) j*qr (rss.getD j []) i) - if inE o i then (1:QQ) else 0) (b:=(T.b:QQ)) (by grind) pb
 grind
theorem Vt (hl:Lows as)(lv:Low v):Lows (gP o as v):=by
 unfold gP
 refine Wb fun r hr=>?_
 obtain⟨x,hx,rfl⟩:=List.mem_map.mp hr
 exact Wl (hl x hx) lv
theorem Bc:(gP o as v).length=as.length:=by unfold gP;rw[Yl,List.length_map]
theorem Z1t {k:Nat}(hl:Lows as)(lv:Low v)(hk:k<as.length):qr (gP o as v) k=if inE o k then qr as k - qv v else 0:=by
 unfold gP
 rw[Vk,Pj hk,Ph (Wk hl k) lv]
 rfl
theorem Pz (lw:Lows W)(len:W.length=c)(hl:Lows as)(la:as.length=c)(lv:Low v):qv (mn W (gP o as v))=sQ c (fun k=>qr W k*qr (cutR o as) k) + -qv v*qv (shR c o W):=by
 rw[Wi lw (Vt hl lv) len (by rw[Bc,la]),Yw lw len,← Yi,← Wt]
 refine Zo fun k hk=>?_
 rw[Z1t hl lv (by omega),Vk]
 cases inE o k <;> simp <;> grind
theorem Z16 {r:Rat}(l:Low r)(e:qv r=0):r.1=0:=by
 have a:=(Wh l.pos).mpr (by grind)
 have b:=(Ui l.pos).mpr (by grind)
 omega
theorem MostT.conq (h:MostT c rss o (cutR o as) T)(rows:∀ rs∈rss,RowR c rs)(ra:RowR c as):ConV c rss o as (valueR c rss.length (cutR o as) T):=by
 have M:=h.sv
 have bp:=h.inv.pos
 have pb:=Yx bp
 obtain⟨gp,ge⟩:=Qq (ra.cut o)
 have pg:=Yx gp
 have la:=ra.1
 have low:=ra.lows
 have p2:=Int.mul_pos gp bp
 have lv:Low (valueR c rss.length (cutR o as) T):=Yp (by omega)
 have ev:qv (valueR c rss.length (cutR o as) T)*((lcmB (cutR o as):QQ)*(T.b:QQ))=((-T.L (rss.length+1) c:Int):QQ):=by
  have e:qv (valueR c rss.length (cutR o as) T)=((-Sv.endOf (rss.length+2) c T (c+rss.length+1):Int):QQ) / ((lcmB (cutR o as)*T.b:Int):QQ):=Wu p2
  rw[← h.aim,(TabOk.of h.inv).endO (by omega),_root_.Rat.intCast_mul] at e
  rw[e]
  exact J7 (by have:=_root_.Rat.mul_pos pg pb;grind)
 generalize valueR c rss.length (cutR o as) T=v at *
 generalize hV:-T.L (rss.length+1) c=V at *
 refine⟨lv,?_,fun W w=>?_⟩
 ·have x0:=M.x0
  have fit:=M.fit
  have lie:=congrArg (fun z:Int=>(z:QQ)) M.lie
  have val:=congrArg (fun z:Int=>(z:QQ)) M.val
  simp only [Le,_root_.Rat.intCast_mul] at lie val
  generalize Sv.endOf (rss.length+2) c T=e at *
  rw[Zo fun i hi=>by rw[M9 hi]] at lie
  rw[Zo fun i hi=>by rw[ge i hi],hV] at val
  have en:∀ i,i<c->0<=(e i:QQ):=fun i hi=>_root_.Rat.intCast_nonneg.mpr (x0 i hi)
  have Sp:0<sm c e:=by
   refine _root_.Rat.intCast_pos.mp ?_
   rw[Le]
   have:=D8 (n:=c) (f:=fun i=>(if inE o i then (1:QQ) else 0)*(e i:QQ)) (g:=fun i=>(e i:QQ)) fun i hi=>by have:=en i hi;cases inE o i <;> simp <;> grind
   grind
  have ps:=Yx Sp
  have se:=Le e c
  generalize sm c e=S at *
  have rp:0<(1:QQ) / (S:QQ):=by
   rcases Classical.em (0<(1:QQ) / (S:QQ)) with z | z
   ·exact z
   ·have:=Rm (_root_.Rat.le_of_lt ps) (show (1:QQ) / (S:QQ)<=0 by grind)
    have e1:(S:QQ)*(1 / (S:QQ))=1:=by grind
    rw[e1] at this
    exact absurd this (by decide)
  have qw:∀ i,i<c->qr ((List.range c).map fun i=>nrm (e i) S) i=1 / (S:QQ)*(e i:QQ):=fun i hi=>by rw[Dk hi,Wu Sp];grind
  have lw:Lows ((List.range c).map fun i=>nrm (e i) S):=fun r hr=>by
   obtain⟨i,_,rfl⟩:=List.mem_map.mp hr
   exact Yp (by omega)
  have len:((List.range c).map fun i=>nrm (e i) S).length=c:=by simp
  generalize (List.range c).map (fun i=>nrm (e i) S)=W at *
  have wq:WtsQ c rss W:=by
   refine⟨len,lw,fun i hi=>?_,fun rs hr=>?_,?_⟩
   ·rw[qw i hi]
    exact _root_.Rat.mul_nonneg (_root_.Rat.le_of_lt rp) (en i hi)
   ·obtain⟨j,hj,rfl⟩:=List.getElem_of_mem hr
    have f:=_root_.Rat.intCast_le_intCast.mpr (fit j hj)
    rw[Le] at f
    obtain⟨lp,ea⟩:=L6 rows hj
    rw[X1 (l:=rss) (x:=rss[j]) (by simp[hj])] at lp ea
    rw[Zo (g:=fun i=>(lcmB rss[j]:QQ)*((e i:QQ)*qr rss[j] i)) fun i hi=>by rw[_root_.Rat.intCast_mul,ea i hi];grind,Yi] at f
    rw[Zo (g:=fun i=>1 / (S:QQ)*((e i:QQ)*qr rss[j] i)) fun i hi=>by rw[qw i hi];grind,Yi]
    exact Rm (_root_.Rat.le_of_lt rp) (Z06 (Yx lp) f)
   ·rw[Zo qw,Yi,← se]
    grind
  have es:qv (shR c o W)=1 / (S:QQ)*(T.b:QQ):=by
   rw[Yw lw len,← lie,← Yi]
   exact Zo fun i hi=>by rw[qw i hi];cases inE o i <;> simp <;> grind
  refine⟨W,wq.wts rows,Z16 (Yy lw (Vt low lv)) ?_,(Z25 (Yy lw (Wb (Vw c))).pos).mpr ?_⟩
  ·rw[Pz lw len low la lv,es]
   have e1:(lcmB (cutR o as):QQ)*sQ c (fun k=>qr W k*qr (cutR o as) k)=1 / (S:QQ)*(V:QQ):=by
    rw[← val,← Yi,← Yi]
    exact Zo fun i hi=>by rw[qw i hi];grind
   have e2:(lcmB (cutR o as):QQ)*(sQ c (fun k=>qr W k*qr (cutR o as) k) + -qv v*(1 / (S:QQ)*(T.b:QQ)))=0:=by
    rw[← ev] at e1
    grind
   have a:=Z06 pg (show _<=(0:QQ) by rw[e2];exact _root_.Rat.le_refl)
   have b:=Lr (a:=sQ c (fun k=>qr W k*qr (cutR o as) k) + -qv v*(1 / (S:QQ)*(T.b:QQ))) (b:=(lcmB (cutR o as):QQ)) (by grind) pg
   grind
  ·show 0<qv (shR c o W)
   rw[es]
   exact _root_.Rat.mul_pos rp pb
 ·have wq:=w.toQ rows
  refine (Wh (Yy wq.low (Vt low lv)).pos).mpr ?_
  rw[Pz wq.low wq.len low la lv]
  have d:=Bm (y:=fun k=>-Sv.numAt c T (rss.length+1) (c+k)) (α:=fun i=>rowF (cutR o as) i*T.b) (β:=fun i=>rowF (papR c o) i*V) rows wq (fun j hj=>by have:=M.y0 j hj;omega) fun i hi=>by have:=M.show_ i hi;rw[hV] at this;exact this
  have e1:sQ c (fun i=>qr W i*((rowF (cutR o as) i*T.b:Int):QQ))=(lcmB (cutR o as):QQ)*(T.b:QQ)*sQ c (fun k=>qr W k*qr (cutR o as) k):=by
   rw[← Yi]
   exact Zo fun i hi=>by rw[_root_.Rat.intCast_mul,ge i hi];grind
  have e2:sQ c (fun i=>qr W i*((rowF (papR c o) i*V:Int):QQ))=(V:QQ)*qv (shR c o W):=by
   rw[Yw wq.low wq.len,← Yi]
   exact Zo fun i hi=>by rw[_root_.Rat.intCast_mul,M9 hi];cases inE o i <;> simp <;> grind
  rw[e1,e2,← ev] at d
  exact Z06 (_root_.Rat.mul_pos pg pb) (by grind)
end
end Sb
namespace Sb
open PySem L2
open Sv (sm)
theorem N6 {n:Nat}{D:Int}{Z:List Int}{rs:List Rat}(h:RepL n D Z rs):∀ r∈rs,∃ W,r.1*D=W*r.2/\Bd n W/\Low r:=fun r hr=>by
 obtain⟨i,hi⟩:=List.getElem?_of_mem hr
 have hl:i<Z.length:=by rw[h.len];exact (List.getElem?_eq_some_iff.mp hi).1
 exact⟨_,h.at_ i Z[i] r (by simp[hl]) hi⟩
theorem RepL.each {n:Nat}{D:Int}(hD:0<D)(bD:Bd n D):∀ {rs:List Rat},(∀ r∈rs,∃ W,r.1*D=W*r.2/\Bd n W/\Low r)->∃ Ws,RepL n D Ws rs
 | [],_=>⟨[],hD,bD,rfl,fun i W r h=>by simp at h⟩
 | r::t,h=>by
  obtain⟨Ws,p⟩:=RepL.each hD bD (rs:=t) fun x hx=>h x (List.mem_cons_of_mem _ hx)
  obtain⟨W,e⟩:=h r List.mem_cons_self
  refine⟨W::Ws,hD,bD,by simp[p.len],fun i V x hV hx=>?_⟩
  cases i with
  | zero=>cases hV;cases hx;exact e
  | succ i=>exact p.at_ i V x (by simpa using hV) (by simpa using hx)
theorem Rl {n:Nat}{D W:Int}{r:Rat}(hD:0<D)(bD:Bd n D)(e:r.1*D=W*r.2)(b:Bd n W)(l:Low r):Good n r:=by
 obtain⟨Ws,p⟩:=RepL.each hD bD (rs:=[r]) fun x hx=>by
  obtain rfl:=List.mem_singleton.mp hx
  exact⟨W,e,b,l⟩
 exact p.good r (by simp)
theorem Gc {r S x:Rat}{D V Y:Int}(hr:0<r.2)(hs:0<S.2)(e1:r.1*D=V*r.2)(e:S.1*D=Y*S.2)(cr:x.1*(r.2*S.1)=r.1*S.2*x.2):x.1*Y=V*x.2:=by
 refine Int.eq_of_mul_eq_mul_left (Int.ne_of_gt (Int.mul_pos hr hs)) ?_
 have a1:r.2*S.2*(x.1*Y)=x.1*r.2*(Y*S.2):=by grind
 have a2:r.2*S.2*(V*x.2)=(V*r.2)*S.2*x.2:=by grind
 rw[a1,a2,← e,← e1]
 have a3:x.1*r.2*(S.1*D)=x.1*(r.2*S.1)*D:=by grind
 rw[a3,cr]
 grind
theorem Z26 {r s:Rat}(lr:0<r.2)(ls:0<s.2)(h:0<s.1):qv (nrm (r.1*s.2) (r.2*s.1))*qv s=qv r:=by
 rw[Wu (Int.mul_pos lr h),_root_.Rat.intCast_mul,_root_.Rat.intCast_mul]
 unfold qv
 have a:=Xa lr
 have b:=Xa ls
 have d:=Xa h
 grind
theorem Sh {f:Nat->QQ}:∀ {n:Nat},(∀ k,k<n->0<=f k)->sQ n f=0->∀ k,k<n->f k=0
 | 0,_,_=>fun k hk=>absurd hk (by omega)
 | n+1,h,e=>fun k hk=>by
  have e':sQ n f+f n=0:=e
  have a:=R8 (n:=n) (f:=f) fun k hk=>h k (by omega)
  have b:=h n (by omega)
  by_cases z:k=n
  ·rw[z]
   grind
  ·exact Sh (n:=n) (fun k hk=>h k (by omega)) (by grind) k (by omega)
theorem Ug {n:Nat}{E:Int}{rs:List Rat}{p:Rat}{Y:Int}(h:∀ r∈rs,Fd 21 r)(hE:0<E)(bE:Bd n E)(e:p.1*(420*E)=Y*p.2)(bY:Bd (n+30) Y)(l:Low p):(∃ Z,RepL (n+31) (420*E) Z (rs.map fun x=>subR x p))/\∃ Z,RepL (n+31) (420*E) Z (rs.map fun x=>subR p x):=by
 have hD:0<420*E:=by omega
 have bD:Bd (n+31) (420*E):=by
  have:=(Yz (n:=9) (x:=420) 9 (by decide) (by decide)).mul bE
  exact this.mono (by omega)
 have key:∀ r∈rs,∃ V,r.1*(420*E)=V*r.2/\Bd (n+30) V/\Low r:=fun r hr=>by
  have f:=h r hr
  have b:=f.rep.2.mul bE
  refine⟨r.1*(420:Int).fdiv r.2*E,?_,by rw[Nat.add_comm];exact b,f.g.low⟩
  rw[← Int.mul_assoc,f.rep.1]
  grind
 constructor
 ·refine RepL.each hD bD fun x hx=>?_
  obtain⟨r,hr,rfl⟩:=List.mem_map.mp hx
  obtain⟨V,e1,b1,l1⟩:=key r hr
  exact⟨_,Sj l1.pos l.pos e1 e,b1.sub bY,Wl l1 l⟩
 ·refine RepL.each hD bD fun x hx=>?_
  obtain⟨r,hr,rfl⟩:=List.mem_map.mp hx
  obtain⟨V,e1,b1,l1⟩:=key r hr
  exact⟨_,Sj l.pos l1.pos e e1,bY.sub b1,Wl l l1⟩
section
variable {c:Nat}{o:Option (Nat->Bool)}{as W:List Rat}{v:Rat}
def gM (o:Option (Nat->Bool))(as:List Rat)(p:Rat):List Rat:=cutR o (as.map fun x=>subR p x)
theorem Be (hl:Lows as)(lv:Low v):Lows (gM o as v):=by
 unfold gM
 refine Wb fun r hr=>?_
 obtain⟨x,hx,rfl⟩:=List.mem_map.mp hr
 exact Wl lv (hl x hx)
theorem Z31 (lw:Lows W)(len:W.length=c)(hl:Lows as)(la:as.length=c)(lv:Low v):qv (mn W (gM o as v))=qv v*qv (shR c o W) - sQ c (fun k=>qr W k*qr (cutR o as) k):=by
 have e:sQ c (fun k=>qr W k*qr (gM o as v) k)=qv v*sQ c (fun k=>if inE o k then qr W k else 0)+(-1)*sQ c (fun k=>qr W k*qr (cutR o as) k):=by
  rw[← Yi,← Yi,← Wt]
  refine Zo fun k hk=>?_
  have:qr (gM o as v) k=if inE o k then qv v - qr as k else 0:=by
   unfold gM
   rw[Vk,Pj (by omega),Ph lv (Wk hl k)]
   rfl
  rw[this,Vk]
  cases inE o k <;> simp <;> grind
 rw[Wi lw (Be hl lv) len (by unfold gM;rw[Yl,List.length_map,la]),e,Yw lw len]
 grind
theorem Z2q (lw:Lows W)(len:W.length=c)(nn:∀ k,k<c->0<=qr W k)(s:qv (shR c o W)=0):sQ c (fun k=>qr W k*qr (cutR o as) k)=0:=by
 rw[Yw lw len] at s
 have z:=Sh (fun k hk=>by cases inE o k <;> simp <;> exact nn k hk) s
 refine Uf fun k hk=>?_
 have:=z k hk
 rw[Vk]
 cases e:inE o k with
 | false=>simp
 | true =>
  rw[e] at this
  simp at this
  rw[this]
  grind
theorem N3 {mid ra rb:Rat}(lw:Lows W)(len:W.length=c)(hl:Lows as)(la:as.length=c)(s0:0<=qv (shR c o W))(e:qv mid*qv (shR c o W)=sQ c (fun k=>qr W k*qr (cutR o as) k))(l1:Low ra)(l2:Low rb)(h1:qv mid<=qv ra)(h2:qv rb<=qv mid):(mn W (gP o as ra)).1<=0/\(mn W (gM o as rb)).1<=0:=by
 constructor
 ·refine (Wh (Yy lw (Vt hl l1)).pos).mpr ?_
  rw[Pz lw len hl la l1,← e]
  have:=_root_.Rat.mul_nonneg (show 0<=qv ra - qv mid by grind) s0
  grind
 ·refine (Wh (Yy lw (Be hl l2)).pos).mpr ?_
  rw[Z31 lw len hl la l2,← e]
  have:=_root_.Rat.mul_nonneg (show 0<=qv mid - qv rb by grind) s0
  grind
end
end Sb
namespace Sb
open PySem L2
structure OffN (n c:Nat)(o:Offr):Prop where
 len:o.row.length=c
 good:GoodO n o
 gain:∀ bb r,priceO o bb=some r->∃ D Z,RepL n D Z (gainR o bb)
section
variable {P:Program}{w:World}{K:W.Frag}{mg:Str->Option Value}{base:Heap}
def gC (K:W.Frag):Sp:=fun vs H Q _=>∃ (b aw:Addr) (c n m:Nat) (D:Int) (U:List Int) (ws:List Rat),vs=[.ref b,.int (c:Int),.ref aw]/\BagAt H b n/\n<=50000/\RowAt K H aw ws/\WtsQ c [] ws/\RepL m D U ws/\m<=100/\1<=c/\c<=16 ∧
 ∀ (v:V) (H':Hp) (o:Offr),BagAt H' b (n+4*c+10)->SameX b H H'->OffAt K H' c o v->OffN (m+36) c o->(∀ bb r,priceO o bb=some r->(mn ws (gainR o bb)).1<=0)->Q v H'
theorem Nn:FnScope ["_law_bag_here","_law_count","_law_weights_here","_law_row_here","_law_event_here","_law_ask","_law_bid","_law_share","_law_middle","_law_way"] ["_law_bag_here","_law_count","_law_weights_here"] (defScope lR):=fsc
set_option maxHeartbeats 1600000 in
theorem C4 (D:Def K mg "_law_offer" lR ["_law_bag_here","_law_count","_law_weights_here"])(T:Blt mg)(eC:Z1 P w K mg base)(eE:Z2 P w K mg base)(eS:Has P w K mg base 3 "_law_small" ["_law_bag_here"] (fP K))(jH:Has P w K mg base 4 "_law_row" ["_law_bag_here","_law_count"] (iK K))(iF:Has P w K mg base 2 "_law_event" ["_law_bag_here","_law_count"] (h9 K))(eK:Has P w K mg base 1 "_law_inside" ["_law_row_here","_law_event_here"] (fQ K))
  (fF:Has P w K mg base 4 "_law_mean" ["_law_weights_here","_law_row_here"] (fZ K)) (eF:Z3 P w K mg base) (eJ:Z7 P w K mg base):Has P w K mg base 5 "_law_offer" ["_law_bag_here","_law_count","_law_weights_here"] (gC K):=by
 refine D.has fun f fd F=>F.ok Nn (fun vs H Q E h=>?_) (fun cdv A outer s H vs Q E hr h=>?_)
 ·obtain⟨b,aw,c,n,m,D,U,ws,rfl,_⟩:=h
  rfl
 ·obtain⟨b,aw,c,n,m,D,U,ws,rfl,hB,hn,hW,wq,rW,hm,hc1,hc,k⟩:=h
  have sc:=Nn
  have nd1:(["_law_world"]:List Str).Nodup:=by decide +kernel
  refine⟨_,(Z9 (Zi (i:=3) sc.nd rfl (Or.inl rfl) (Ze jH hr (Z0 (pv 0) (Z0 (pv 1) Z8))))
   (Z9 (Zi (i:=4) sc.nd rfl (Or.inl rfl) (Ze iF hr (Z0 (pv 0) (Z0 (pv 1) Z8))))
   (Z9 (Zi (i:=5) sc.nd rfl (Or.inl rfl) (Ze eS hr (Z0 (pv 0) Z8)))
   (Z9 (Zi (i:=6) sc.nd rfl (Or.inl rfl) (Ze eS hr (Z0 (pv 0) Z8)))
   (Z9 (Zi (i:=7) sc.nd rfl (Or.inl rfl) (Yf (Z0 Za (Z0 Za Z8))))
   (Z9 (X4 (Yd (Zn Uj (pv 2) Yr (Zt _))
    (Zc (Zi (i:=7) sc.nd rfl (Or.inl rfl) (Ze fF hr (Z0 (pv 2) (Z0 (Ze eK hr (Z0 (Zy Zv rfl T.tuple PyProof.Rows.boot_tuple (Z0 (Yk (N:=["_law_world"]) (k:=1) (fv:=[]) rfl (Vc (pv 3))
   (fun _ _ _ _ _=>Zk (i:=0) nd1 rfl (Or.inl rfl)) (fun _ _ _ _ _=>Y7) (fun _ _ _ _ _=>(Yf (Z0 Za (Z0 Za Z8)))) Zw) Z8)) (Z0 (pv 4) Z8))) Z8)))))
    Zu))
   (Z9 (X4 (Yd (Zn Rj (Zh Xj (pv 7) Za (fun _ _=>rfl)) Za (Zt _))
    (Z9 (Zi (i:=8) sc.nd rfl (Or.inl rfl) (Ze fF hr (Z0 (pv 2) (Z0 (Ze eK hr (Z0 (pv 3) (Z0 (pv 4) Z8))) Z8))))
    (Z9 (Zi (i:=8) sc.nd rfl (Or.inl rfl) (Ze eE hr (Z0 (Zl Zx (Zh Xj (pv 8) Za (fun _ _=>rfl)) (Zh X7 (pv 7) Za (fun _ _=>rfl))) (Z0 (Zl Zx (Zh X7 (pv 8) Za (fun _ _=>rfl)) (Zh Xj (pv 7) Za (fun _ _=>rfl))) Z8))))
    (Z9 (Zi (i:=5) sc.nd rfl (Or.inl rfl) (Ze eF hr (Z0 (pv 8) (Z0 (Ze eE hr (Z0 (Ze eC hr (Z0 (pv 0) (Z0 Za Z8))) (Z0 Za Z8))) Z8))))
    (Zc (Zi (i:=6) sc.nd rfl (Or.inl rfl) (Ze eJ hr (Z0 (pv 8) (Z0 (Ze eE hr (Z0 (Ze eC hr (Z0 (pv 0) (Z0 Za Z8))) (Z0 Za Z8))) Z8))))))))
    Zu))
   (Z9 (Zi (i:=9) sc.nd rfl (Or.inl rfl) (Ze eC hr (Z0 (pv 0) (Z0 Za Z8))))
   (Zc (Zj (Yf (Z0 (pv 3) (Z0 (Zh Y2 (Xz (Z0 (pv 5) (Z0 Yr (Z0 (pv 5) (Z0 (pv 5) Z8))))) (pv 9) (fun _ _=>rfl)) (Z0 (Zh Y2 (Xz (Z0 (pv 6) (Z0 (pv 6) (Z0 Yr (Z0 (pv 6) Z8))))) (pv 9) (fun _ _=>rfl)) (Z0 (pv 4) Z8))))))))))))))),?_⟩
  refine⟨_,rfl,_,rfl,b,c,n,rfl,hB,by omega,by omega,fun ar H1 rs B1 S1 R1 l1 f1=>?_⟩
  have W1:=hW.ext (Ext.bag S1 hB)
  refine⟨_,rfl,_,rfl,b,c,_,rfl,B1,by omega,by omega,fun ve H2 o B2 S2 E2=>?_⟩
  have x2:=Ext.bag S2 B1
  refine⟨_,rfl,b,_,rfl,B2,by omega,fun aA H3 rA B3 S3 eA fA=>?_⟩
  have x3:=Ext.bag S3 B2
  refine⟨_,rfl,b,_,rfl,B3,by omega,fun aB H4 rB B4 S4 eB fB=>?_⟩
  have x4:=Ext.bag S4 B3
  have S04:=((S1.trans S2).trans S3).trans S4
  have R4:=R1.ext ((x2.trans x3).trans x4)
  have E4:=E2.ext (x3.trans x4)
  have W4:=W1.ext ((x2.trans x3).trans x4)
  have qA:SqT K H4 aA [.int rA.1,.int rA.2]:=x4.sq (SqT.of eA)
  have qB:SqT K H4 aB [.int rB.1,.int rB.2]:=SqT.of eB
  clear S1 S2 S3 S4 B1 B2 B3 R1 E2 W1 hW eA eB x2 x3 x4 hB
  refine⟨sz2,fun pS hS=>?_⟩
  have S5:Same H4 (upd H4 pS (.tup [.int 0,.int 1])):=Same.new hS
  have e5:upd H4 pS (.tup [.int 0,.int 1]) pS=some (.tup [.int 0,.int 1]):=Zb
  generalize upd H4 pS (.tup [.int 0,.int 1])=H5 at *
  refine⟨fun σ H'=>∃ (ps:Addr) (sh:Rat),σ=[some (.ref b),some (.int (c:Int)),some (.ref aw),some (.ref ar),some ve,some (.ref aA),some (.ref aB),some (.ref ps),none,none]/\Same H4 H'/\SqT K H' ps [.int sh.1,.int sh.2]/\sh=shR c o ws,?_,?_⟩
  ·refine⟨_,rfl,rfl,_,rfl,?_⟩
   obtain⟨xs,hxs,hws⟩:=W4.ext (Ext.same S5)
   refine Qy (fun z=>nomatch z) ?_
   ·skip
    obtain⟨us,hus,hrs⟩:=R4.same S5
    have lus:=hrs.len
    refine⟨_,rfl,_,rfl,ar,rfl,⟨_,hus⟩,fun d hd=>?_⟩
    refine⟨c,fun j ys H'=>Same H5 H'/\Rs K H' (List.replicate j (1,1)) ys,Zp (by omega),⟨Same.new hd,.nil⟩,?_,?_⟩
    ·rintro j ys H10 hj ⟨S10,R10⟩ hd10
     refine⟨⟨us,us[j]'(by omega),Zq S10 hus,by simp⟩,?_⟩
     rintro x' H3' ⟨rfl,fx⟩
     refine Ye ?_
     refine⟨sz2,fun p hp=>?_⟩
     have S11:Same H3' (upd H3' p (.tup [.int 1,.int 1])):=Same.new hp
     have hd11:=S11 _ _ hd10
     refine⟨hd11,fun q o' e=>?_,?_⟩
     ·rw[Zf (Zd e hd)]
      exact S11 _ _ (S10 _ _ e)
     ·rw[List.replicate_succ']
      exact (R10.ext ((Ext.same S11).trans (Ext.upd hd11))).snoc ⟨p,rfl,(Ext.upd hd11).sq (SqT.of Zb)⟩
    rintro ys H10 ⟨S10,R10⟩ hd10
    refine⟨⟨us,Zq S10 hus,by omega⟩,d,ys,rfl,.inl ⟨SqL.of hd10,fun lt hlt=>?_⟩⟩
    have S11:Same H10 (upd H10 lt (.tup ys)):=Same.new hlt
    have R11:RowAt K (upd H10 lt (.tup ys)) lt (List.replicate c (1,1)):=⟨ys,SqT.of Zb,R10.ext (Ext.new hlt)⟩
    generalize upd H10 lt (.tup ys)=H11 at *
    have S511:=S10.trans S11
    refine⟨_,rfl,lt,ve,List.replicate c (1,1),o,rfl,R11,by rw[List.length_replicate];exact E4.same (S5.trans S511),by rw[List.length_replicate];omega,fun p12 H12 S12 R12=>?_⟩
    obtain⟨ys12,h12,r12⟩:=R12
    have S512:=S511.trans S12
    have ro:=(RepL.ones c).cut o
    have lo:(cutR o (List.replicate c (1,1))).length=c:=by rw[Yl,List.length_replicate]
    refine⟨aw,p12,xs,ys12,ws,_,m,1,_,_,_,_,rfl,.inr (Zq S512 hxs),hws.ext (Ext.same S512),.inr h12,r12,by rw[lo];exact wq.len,by rw[lo];omega,rW,ro,by omega,fun ash H13 S13 e13=>?_⟩
    exact⟨ash,_,rfl,(S5.trans S512).trans S13,e13,rfl⟩
  rintro σ H6 ⟨ps,sh,rfl,S6,sqs,hsh⟩
  have ro:=(RepL.ones c).cut o
  have lo1:(cutR o (List.replicate c (1,1))).length=c:=by rw[Yl,List.length_replicate]
  have rs1:=rW.mul ro (by rw[lo1];exact wq.len)
  have gs:Good (m+5) sh:=by rw[hsh];exact rs1.sumGood (k:=4) (by rw[List.length_zipWith,lo1];omega)
  obtain⟨se,_⟩:=rs1.sum
  replace se:(shR c o ws).1*(D*1)=(List.zipWith (·*·) U (cutZ o (List.replicate c 1))).sum*(shR c o ws).2:=se
  have sb:Bd (m+5) (List.zipWith (·*·) U (cutZ o (List.replicate c 1))).sum:=Nd _ rs1.bdW 4 (by rw[rs1.len,List.length_zipWith,lo1];omega)
  have lows:Lows rs:=fun r hr=>(f1 r hr).g.low
  have sn:0<=qv (shR c o ws):=by
   rw[Yw wq.low wq.len]
   exact R8 fun k hk=>by cases inE o k <;> simp <;> exact wq.nn k hk
  have rrow:RowR c rs:=⟨l1,_,_,_,RepL.fd f1⟩
  replace R4:=R4.same S6
  replace E4:=E4.same S6
  replace W4:=W4.ext (Ext.same S6)
  replace B4:=B4.same S6
  replace qA:=Zq S6 qA
  replace qB:=Zq S6 qB
  replace S04:=S04.trans (SameX.of S6)
  clear S6 S5 e5 hS
  refine⟨fun σ H'=>∃ (pa pb:Addr) (ra rb:Rat) (y:Option V),σ=[some (.ref b),some (.int (c:Int)),some (.ref aw),some (.ref ar),some ve,some (.ref pa),some (.ref pb),some (.ref ps),y,none]/\SameX b H6 H'/\Ext H6 H'/\BagAt H' b (n+4*c+9)/\SqT K H' pa [.int ra.1,.int ra.2]/\SqT K H' pb [.int rb.1,.int rb.2]/\Good (m+36) ra/\Good (m+36) rb/\(∃ D Z,RepL (m+36) D Z (rs.map fun x=>subR x ra))/\(∃ D Z,RepL (m+36) D Z (rs.map fun x=>subR rb x))/\(mn ws (gP o rs ra)).1<=0/\(mn ws (gM o rs rb)).1<=0,?_,?_⟩
  ·refine⟨_,rfl,ps,_,_,rfl,rfl,sqs,_,_,rfl,rfl,_,rfl,?_⟩
   refine Xd (fun h=>?_) (fun h=>?_)
   ·have hpos:0<sh.1:=of_decide_eq_true h
    obtain⟨xs,hxs,hws⟩:=W4
    have rf:=RepL.fd f1
    refine⟨_,rfl,_,rfl,_,rfl,ar,ve,rs,o,rfl,R4,by rw[l1];exact E4,by omega,fun p7 H7 S7 R7=>?_⟩
    obtain⟨ys7,h7,r7⟩:=R7
    have lo:(cutR o rs).length=c:=by rw[Yl];exact l1
    refine⟨aw,p7,xs,ys7,ws,_,m,30,_,_,_,_,rfl,.inr (Zq S7 hxs),hws.ext (Ext.same S7),.inr h7,r7,by rw[lo];exact wq.len,by rw[lo];omega,rW,rf.cut o,by omega,fun am H8 S8 e8=>?_⟩
    have rm:=rW.mul (rf.cut o) (by rw[lo];exact wq.len)
    have gm:Good (m+34) (sumR (List.zipWith mulR' ws (cutR o rs))):=rm.sumGood (k:=4) (by rw[List.length_zipWith,lo];omega)
    obtain⟨me,_⟩:=rm.sum
    have mb:Bd (m+34) (List.zipWith (·*·) U (cutZ o (wholeB rs 420))).sum:=Nd _ rm.bdW 4 (by rw[rm.len,List.length_zipWith,lo];omega)
    replace me:(sumR (List.zipWith mulR' ws (cutR o rs))).1*(D*420)=(List.zipWith (·*·) U (cutZ o (wholeB rs 420))).sum*(sumR (List.zipWith mulR' ws (cutR o rs))).2:=me
    have hM:sQ c (fun k=>qr ws k*qr (cutR o rs) k)=qv (sumR (List.zipWith mulR' ws (cutR o rs))):=(Wi wq.low (Wb lows) wq.len lo).symm
    generalize (List.zipWith (·*·) U (cutZ o (wholeB rs 420))).sum=Mt at *
    generalize sumR (List.zipWith mulR' ws (cutR o rs))=M at *
    have S68:=S7.trans S8
    have sq8:=Zq S68 sqs
    have mne:M.2*sh.1≠0:=Int.mul_ne_zero (by have:=gm.pos;omega) (by omega)
    refine⟨_,rfl,_,_,_,rfl,rfl,e8,_,rfl,_,_,_,rfl,rfl,sq8,_,_,rfl,rfl,gm.b1.mulOk gs.b2 (by omega) (by omega),_,rfl,_,_,_,rfl,rfl,e8,_,rfl,_,_,_,rfl,rfl,sq8,_,_,rfl,rfl,gm.b2.mulOk gs.b1 (by omega) (by omega),_,_,rfl,mne,(gm.b2.mul gs.b1).log (by omega),fun a9 H9 f9 S9 e9=>?_⟩
    replace e9:SqT K H9 a9 [.int (nrm (M.1*sh.2) (M.2*sh.1)).1,.int (nrm (M.1*sh.2) (M.2*sh.1)).2]:=SqT.of e9
    have cmid:(nrm (M.1*sh.2) (M.2*sh.1)).1*(M.2*sh.1)=(M.1*sh.2)*(nrm (M.1*sh.2) (M.2*sh.1)).2:=Yu _ _
    have emid:=Z26 gm.pos gs.pos hpos
    have lmid:Low (nrm (M.1*sh.2) (M.2*sh.1)):=Yp mne
    generalize nrm (M.1*sh.2) (M.2*sh.1)=mid at *
    rw[← hsh] at se sn
    have St:0<(List.zipWith (·*·) U (cutZ o (List.replicate c 1))).sum:=by
     have:0<(List.zipWith (·*·) U (cutZ o (List.replicate c 1))).sum*sh.2:=by rw[← se,Int.mul_one];exact Int.mul_pos hpos rW.pos
     exact Int.pos_of_mul_pos_left this gs.pos
    generalize (List.zipWith (·*·) U (cutZ o (List.replicate c 1))).sum=E at *
    have cm:mid.1*(420*E)=Mt*mid.2:=Gc gm.pos gs.pos me (show sh.1*(D*420)=420*E*sh.2 by rw[Int.mul_one] at se;rw[← Int.mul_assoc,se];grind) cmid
    have bD:Bd (m+34) (420*E):=((Yz (n:=9) (x:=420) 9 (by decide) (by decide)).mul sb).mono (by omega)
    have gr:Good (m+34) mid:=Rl (by omega) bD cm mb lmid
    have half:∀ z:Int,0<=z->z<4->(nrm z 2).1*(420*E)=z*210*E*(nrm z 2).2/\Bd (m+34) (z*210*E)/\0<=qv (nrm z 2):=fun z z0 z1=>by
     have e:(nrm z 2).1*2=z*(nrm z 2).2:=Yu _ _
     refine⟨?_,?_,?_⟩
     ·have:(nrm z 2).1*(420*E)=(nrm z 2).1*2*(210*E):=by grind
      rw[this,e]
      grind
     ·have b1:Bd 10 (z*210):=by
       show (z*210).natAbs<2 ^ 10
       omega
      exact (b1.mul sb).mono (by omega)
     ·rw[Wu (by decide)]
      refine Lr (b:=((2:Int):QQ)) ?_ (by decide)
      rw[J7 (by decide)]
      exact _root_.Rat.intCast_nonneg.mpr z0
    have S69:=S68.trans S9
    have B9:=B4.same S69
    have g2:∀ z:Int,0<=z->z<4->Good 21 (nrm z 2):=fun z z0 z1=>V3 (Qe (by omega) (by omega)) (Qe (by omega) (by omega)) (by decide)
    refine⟨_,rfl,_,rfl,b,_,_,rfl,B9,by omega,by decide,by decide +kernel,fun z H10 z0 z1 B10 S10=>?_⟩
    refine⟨_,_,rfl,by decide,(Qe (x:=2) (by decide) (by decide)).log (by decide),fun a11 H11 f11 S11 e11=>?_⟩
    have x911:=(Ext.bag S10 B9).trans (Ext.same S11)
    refine⟨a9,a11,mid,nrm z 2,m+34,rfl,x911.sq e9,SqT.of e11,gr,(g2 z z0 z1).mono (by omega),by omega,fun a12 H12 f12 S12 e12=>?_⟩
    have B12:=(B10.same S11).same S12
    have x912:=x911.trans (Ext.same S12)
    refine⟨_,rfl,_,rfl,b,_,_,rfl,B12,by omega,by decide,by decide +kernel,fun z' H13 z0' z1' B13 S13=>?_⟩
    refine⟨_,_,rfl,by decide,(Qe (x:=2) (by decide) (by decide)).log (by decide),fun a14 H14 f14 S14 e14=>?_⟩
    have x1214:=(Ext.bag S13 B12).trans (Ext.same S14)
    refine⟨a9,a14,mid,nrm z' 2,m+34,rfl,(x912.trans x1214).sq e9,SqT.of e14,gr,(g2 z' z0' z1').mono (by omega),by omega,fun a15 H15 f15 S15 e15=>?_⟩
    obtain⟨h1,h2,h3⟩:=half z z0 z1
    obtain⟨h1',h2',h3'⟩:=half z' z0' z1'
    have lz:=(g2 z z0 z1).low
    have lz':=(g2 z' z0' z1').low
    have pa:=Sl lmid.pos lz.pos cm h1
    have pb:=Sj lmid.pos lz'.pos cm h1'
    have ba:=mb.add h2
    have bb:=mb.sub h2'
    have bD5:Bd (m+5+30) (420*E):=bD.mono (by omega)
    have ft:=N3 (o:=o) (mid:=mid) (ra:=addR mid (nrm z 2)) (rb:=subR mid (nrm z' 2)) wq.low wq.len lows l1 (by rw[← hsh];exact sn) (by rw[← hsh,hM];exact emid) (Wn lmid lz) (Wl lmid lz') (by rw[Lp lmid lz];grind) (by rw[Ph lmid lz'];grind)
    refine⟨a12,a15,_,_,_,rfl,?_,?_,((B13.same S14).same S15).mono (by omega),(x1214.trans (Ext.same S15)).sq (SqT.of e12),SqT.of e15,(Rl (by omega) bD5 pa (ba.mono (by omega)) (Wn lmid lz)).mono (by omega),(Rl (by omega) bD5 pb (bb.mono (by omega)) (Wl lmid lz')).mono (by omega),⟨_,(Ug f1 St sb pa (ba.mono (by omega)) (Wn lmid lz)).1⟩,⟨_,(Ug f1 St sb pb (bb.mono (by omega)) (Wl lmid lz')).2⟩,ft.1,ft.2⟩
    ·exact ((((((SameX.of S69).trans S10).trans (SameX.of S11)).trans (SameX.of S12)).trans S13).trans (SameX.of S14)).trans (SameX.of S15)
    ·exact (((Ext.same S69).trans x912).trans x1214).trans (Ext.same S15)
   ·have z0:qv (shR c o ws)=0:=by
     have:¬ 0<sh.1:=fun z=>h (decide_eq_true z)
     have:=(Wh gs.pos).mp (show sh.1<=0 by omega)
     rw[hsh] at this
     grind
    have nd:=Z2q (as:=rs) wq.low wq.len wq.nn z0
    have ft:=N3 (o:=o) (mid:=rA) (ra:=rA) (rb:=rA) wq.low wq.len lows l1 sn (by rw[z0,nd];grind) fA.g.low fA.g.low _root_.Rat.le_refl _root_.Rat.le_refl
    have fu:=N3 (o:=o) (mid:=rB) (ra:=rB) (rb:=rB) wq.low wq.len lows l1 sn (by rw[z0,nd];grind) fB.g.low fB.g.low _root_.Rat.le_refl _root_.Rat.le_refl
    have r1:=(Ug (n:=1) (E:=1) f1 (by decide) (Yz 1 (by decide) (by decide)) (show rA.1*(420*1)=_ from fA.rep.1) (fA.rep.2.mono (by decide)) fA.g.low).1
    have r2:=(Ug (n:=1) (E:=1) f1 (by decide) (Yz 1 (by decide) (by decide)) (show rB.1*(420*1)=_ from fB.rep.1) (fB.rep.2.mono (by decide)) fB.g.low).2
    exact⟨aA,aB,rA,rB,none,rfl,SameX.refl _ _,Ext.same (Same.refl _),B4.mono (by omega),qA,qB,fA.g.mono (by omega),fB.g.mono (by omega),r1.elim fun Z r=>⟨_,Z,r.mono (by omega)⟩,r2.elim fun Z r=>⟨_,Z,r.mono (by omega)⟩,ft.1,fu.2⟩
  rintro σ H7 ⟨pa,pb,ra,rb,y,rfl,S7,x7,B7,sqa,sqb,ga,gb,⟨DA,ZA,repA⟩,⟨DB,ZB,repB⟩,fitA,fitB⟩
  replace R4:=R4.ext x7
  replace E4:=E4.ext x7
  replace S04:=S04.trans S7
  clear W4 qA qB B4 S7 x7 sqs
  refine⟨_,rfl,b,_,_,rfl,B7,by omega,by decide,by decide +kernel,fun z H8 z0 z1 B8 S8=>?_⟩
  have x8:=Ext.bag S8 B7
  replace R4:=R4.ext x8
  replace E4:=E4.ext x8
  replace sqa:=x8.sq sqa
  replace sqb:=x8.sq sqb
  replace S04:=S04.trans S8
  refine⟨_,rfl,_,rfl,_,rfl,_,rfl,sz4,fun lA hA=>?_⟩
  have S9:Same H8 (upd H8 lA (.lst [.ref pa,.non,.ref pa,.ref pa])):=Same.new hA
  have e9:upd H8 lA (.lst [.ref pa,.non,.ref pa,.ref pa]) lA=some (.lst [.ref pa,.non,.ref pa,.ref pa]):=Zb
  generalize upd H8 lA (.lst [.ref pa,.non,.ref pa,.ref pa])=H9 at *
  obtain⟨va,oa,eva,hva,goa⟩:∃ (va:V) (oa:Option Rat),atI [V.ref pa,.non,.ref pa,.ref pa] z=some va/\(∀ H',SqT K H' pa [.int ra.1,.int ra.2]->MayAt K H' oa va)/\∀ r,oa=some r->r=ra:=by
   have h:z=0 \/ z=1 \/ z=2 \/ z=3:=by omega
   have g1:∀ r,some ra=some r->r=ra:=fun r e=>by cases e;rfl
   rcases h with rfl | rfl | rfl | rfl
   ·exact⟨_,some ra,Zg (j:=0) rfl,fun H' q=>⟨pa,rfl,q⟩,g1⟩
   ·exact⟨_,none,Zg (j:=1) rfl,fun H' q=>rfl,fun r e=>nomatch e⟩
   ·exact⟨_,some ra,Zg (j:=2) rfl,fun H' q=>⟨pa,rfl,q⟩,g1⟩
   ·exact⟨_,some ra,Zg (j:=3) rfl,fun H' q=>⟨pa,rfl,q⟩,g1⟩
  refine⟨_,rfl,lA,_,_,_,rfl,rfl,SqL.of e9,eva,?_⟩
  refine⟨_,rfl,_,rfl,_,rfl,sz4,fun lB hB'=>?_⟩
  have S10:Same H9 (upd H9 lB (.lst [.ref pb,.ref pb,.non,.ref pb])):=Same.new hB'
  have e10:upd H9 lB (.lst [.ref pb,.ref pb,.non,.ref pb]) lB=some (.lst [.ref pb,.ref pb,.non,.ref pb]):=Zb
  generalize upd H9 lB (.lst [.ref pb,.ref pb,.non,.ref pb])=H10 at *
  obtain⟨vb,ob,evb,hvb,gob⟩:∃ (vb:V) (ob:Option Rat),atI [V.ref pb,.ref pb,.non,.ref pb] z=some vb/\(∀ H',SqT K H' pb [.int rb.1,.int rb.2]->MayAt K H' ob vb)/\∀ r,ob=some r->r=rb:=by
   have h:z=0 \/ z=1 \/ z=2 \/ z=3:=by omega
   have g1:∀ r,some rb=some r->r=rb:=fun r e=>by cases e;rfl
   rcases h with rfl | rfl | rfl | rfl
   ·exact⟨_,some rb,Zg (j:=0) rfl,fun H' q=>⟨pb,rfl,q⟩,g1⟩
   ·exact⟨_,some rb,Zg (j:=1) rfl,fun H' q=>⟨pb,rfl,q⟩,g1⟩
   ·exact⟨_,none,Zg (j:=2) rfl,fun H' q=>rfl,fun r e=>nomatch e⟩
   ·exact⟨_,some rb,Zg (j:=3) rfl,fun H' q=>⟨pb,rfl,q⟩,g1⟩
  refine⟨_,rfl,lB,_,_,_,rfl,rfl,SqL.of e10,evb,?_⟩
  refine⟨_,rfl,sz4,fun p hp=>?_⟩
  have S11:Same H10 (upd H10 p (.tup [.ref ar,va,vb,ve])):=Same.new hp
  have S811:=(S9.trans S10).trans S11
  exact k (.ref p) _ ⟨rs,oa,ob,o⟩ ((B8.same S811).mono (by omega)) (S04.trans (SameX.of S811)) ⟨p,ar,va,vb,ve,rfl,SqT.of Zb,R4.same S811,l1,hva _ (Zq S811 sqa),hvb _ (Zq S811 sqb),E4.same S811⟩ ⟨l1,⟨fun r hr=>(f1 r hr).g.mono (by omega),fun r e=>by rw[goa r e];exact ga,fun r e=>by rw[gob r e];exact gb⟩,fun bb r hp=>by
   cases bb with
   | true =>
    have hp:oa=some r:=hp
    have e:=goa r hp
    subst e
    unfold gainR
    rw[hp]
    exact⟨_,_,repA.cut o⟩
   | false =>
    have hp:ob=some r:=hp
    have e:=gob r hp
    subst e
    unfold gainR
    rw[hp]
    exact⟨_,_,repB.cut o⟩⟩ (fun bb r hp=>by
   cases bb with
   | true =>
    have hp:oa=some r:=hp
    have e:=goa r hp
    subst e
    unfold gainR
    rw[hp]
    exact fitA
   | false =>
    have hp:ob=some r:=hp
    have e:=gob r hp
    subst e
    unfold gainR
    rw[hp]
    exact fitB)
end
def farN:Int:=100000000000000000
def nearR (ws us:List Rat):List Rat:=List.zipWith (fun w u=>addR (mulR' w (farN - 1,farN)) (mulR' u (1,farN))) ws us
theorem low_f1:Low (farN - 1,farN):=⟨by decide,by decide⟩
theorem low_f2:Low (1,farN):=⟨by decide,by decide⟩
theorem good_f1:Good 57 (farN - 1,farN):=⟨Yz 57 (by decide) (by decide),Yz 57 (by decide) (by decide),by decide,by decide⟩
theorem good_f2:Good 57 (1,farN):=⟨Yz 57 (by decide) (by decide),Yz 57 (by decide) (by decide),by decide,by decide⟩
section
variable {c:Nat}{Ws Us:List Int}{ws us:List Rat}
theorem Jc (lw:ws.length=c)(lu:us.length=c)(h1:Lows ws)(h2:Lows us){k:Nat}(hk:k<c):qr (nearR ws us) k=qr ws k*qv (farN - 1,farN)+qr us k*qv (1,farN):=by
 have e1:ws[k]?=some (ws[k]'(by omega)):=by simp
 have e2:us[k]?=some (us[k]'(by omega)):=by simp
 unfold qr nearR
 rw[List.getD_eq_getElem?_getD,List.getElem?_zipWith,e1,e2,X1 e1,X1 e2]
 show qv (addR _ _)=_
 have l1:=h1 _ (List.getElem_mem (show k<ws.length by omega))
 have l2:=h2 _ (List.getElem_mem (show k<us.length by omega))
 rw[Lp (Xe l1 low_f1) (Xe l2 low_f2),Pi l1 low_f1,Pi l2 low_f2]
theorem Mh (lw:ws.length=c)(lu:us.length=c):(nearR ws us).length=c:=by unfold nearR;rw[List.length_zipWith];omega
theorem Mg {r:Rat}(h:r∈nearR ws us):∃ (k:Nat) (w u:Rat),ws[k]?=some w/\us[k]?=some u/\r=addR (mulR' w (farN - 1,farN)) (mulR' u (1,farN)):=by
 obtain⟨k,hk⟩:=List.getElem?_of_mem h
 unfold nearR at hk
 rw[List.getElem?_zipWith] at hk
 cases e1:ws[k]? with
 | none=>rw[e1] at hk;simp at hk
 | some w =>
  cases e2:us[k]? with
  | none=>rw[e1,e2] at hk;simp at hk
  | some u =>
   rw[e1,e2] at hk
   exact⟨k,w,u,e1,e2,(Option.some.inj hk).symm⟩
theorem Cn (h1:Lows ws)(h2:Lows us):Lows (nearR ws us):=fun r hr=>by
 obtain⟨k,w,u,e1,e2,rfl⟩:=Mg hr
 exact Wn (Xe (h1 w (List.mem_of_getElem? e1)) low_f1) (Xe (h2 u (List.mem_of_getElem? e2)) low_f2)
theorem Cl (w1:WtsQ c [] ws)(w2:WtsQ c [] us):WtsQ c [] (nearR ws us):=by
 have f1:0<=qv (farN - 1,farN):=(Ui low_f1.pos).mp (by decide)
 have f2:0<=qv (1,farN):=(Ui low_f2.pos).mp (by decide)
 have f3:qv (farN - 1,farN)+qv (1,farN)=1:=by
  show ((farN - 1:Int):QQ) / (farN:QQ)+((1:Int):QQ) / (farN:QQ)=1
  have h:=Xa (show 0<farN by decide)
  rw[_root_.Rat.intCast_sub]
  grind
 refine⟨Mh w1.len w2.len,Cn w1.low w2.low,fun k hk=>?_,(fun _ h=>nomatch h),?_⟩
 ·rw[Jc w1.len w2.len w1.low w2.low hk]
  have a:=_root_.Rat.mul_nonneg (w1.nn k hk) f1
  have b:=_root_.Rat.mul_nonneg (w2.nn k hk) f2
  grind
 ·rw[Zo (g:=fun k=>qv (farN - 1,farN)*qr ws k+qv (1,farN)*qr us k) fun k hk=>by rw[Jc w1.len w2.len w1.low w2.low hk];grind,Wt,Yi,Yi,w1.lie,w2.lie]
  grind
theorem Cm (w1:WtsR c Ws ws)(w2:WtsR c Us us):∃ D U,RepL 78 D U (nearR ws us):=by
 refine⟨Ws.sum*Us.sum*farN,RepL.each ?_ ?_ fun x hx=>?_⟩
 ·exact Int.mul_pos (Int.mul_pos w1.rep.pos w2.rep.pos) (by decide)
 ·exact ((w1.rep.bD.mul w2.rep.bD).mul (Yz (n:=57) (x:=farN) 57 (by decide) (by decide))).mono (by decide)
 ·obtain⟨k,w,u,e1,e2,rfl⟩:=Mg hx
  obtain⟨W,a1,b1,l1⟩:=N6 w1.rep w (List.mem_of_getElem? e1)
  obtain⟨U,a2,b2,l2⟩:=N6 w2.rep u (List.mem_of_getElem? e2)
  have m1:=Sk l1.pos low_f1.pos a1 (show (farN - 1,farN).1*farN=(farN - 1)*(farN - 1,farN).2 from rfl)
  have m2:=Sk l2.pos low_f2.pos a2 (show ((1:Int),farN).1*farN=1*((1:Int),farN).2 from rfl)
  have lm1:=Xe l1 low_f1
  have lm2:=Xe l2 low_f2
  have n1:(mulR' w (farN - 1,farN)).1*(Ws.sum*Us.sum*farN)=W*(farN - 1)*Us.sum*(mulR' w (farN - 1,farN)).2:=by
   have:(mulR' w (farN - 1,farN)).1*(Ws.sum*Us.sum*farN)=(mulR' w (farN - 1,farN)).1*(Ws.sum*farN)*Us.sum:=by grind
   rw[this,m1]
   grind
  have n2:(mulR' u (1,farN)).1*(Ws.sum*Us.sum*farN)=U*1*Ws.sum*(mulR' u (1,farN)).2:=by
   have:(mulR' u (1,farN)).1*(Ws.sum*Us.sum*farN)=(mulR' u (1,farN)).1*(Us.sum*farN)*Ws.sum:=by grind
   rw[this,m2]
   grind
  refine⟨_,Sl lm1.pos lm2.pos n1 n2,?_,Wn lm1 lm2⟩
  have c1:=(b1.mul (Yz (n:=57) (x:=farN - 1) 57 (by decide) (by decide))).mul w2.rep.bD
  have c2:=(b2.mul (Yz (n:=57) (x:=1) 57 (by decide) (by decide))).mul w1.rep.bD
  exact (c1.add c2).mono (by decide)
end
section
variable {P:Program}{w:World}{K:W.Frag}{mg:Str->Option Value}{base:Heap}
def iL (K:W.Frag):Sp:=fun vs H Q _=>∃ (a1 a2:Addr) (c:Nat) (ws us:List Rat),vs=[.ref a1,.ref a2]/\RowAt K H a1 ws/\RowAt K H a2 us/\ws.length=c/\us.length=c/\(∀ r∈ws,Good 57 r)/\(∀ r∈us,Good 57 r)/\c<=100/\∀ (p:Addr) (H':Hp),Same H H'->RowAt K H' p (nearR ws us)->Q (.ref p) H'
theorem Fy:FnScope ["_law_weights_here","_law_others","_law_far","_law_some","_law_k","_law_part"] ["_law_weights_here","_law_others"] (defScope mC):=fsc
theorem Z2j (D:Def K mg "_law_near" mC ["_law_weights_here","_law_others"])(T:Blt mg)(eI:Z6 P w K mg base)(eF:Z3 P w K mg base):Has P w K mg base 4 "_law_near" ["_law_weights_here","_law_others"] (iL K):=by
 refine D.has fun f fd F=>F.ok Fy (fun vs H Q E h=>?_) (fun cdv A outer s H vs Q E hr h=>?_)
 ·obtain⟨a1,a2,c,ws,us,rfl,_⟩:=h
  rfl
 ·obtain⟨a1,a2,c,ws,us,rfl,⟨xs,hxs,hws⟩,⟨ys,hys,hus⟩,lw,lu,gw,gu,hc,k⟩:=h
  have sc:=Fy
  refine⟨_,(Z9 (Zi (i:=2) sc.nd rfl (Or.inl rfl) (Zl Po Za Za))
   (Z9 (Zi (i:=3) sc.nd rfl (Or.inl rfl) (Xz Z8))
   (Z9 (Xn PassesOwn.never rfl (Yj rfl T.range (Z0 (Zz Y4 rfl T.len boot_len (Z0 (pv 0) Z8)) Z8)) (Zk (i:=4) sc.nd rfl (Or.inl rfl))
    (Z9 (Zi (i:=5) sc.nd rfl (Or.inl rfl) (Ze eI hr (Z0 (Zh Y8 (pv 0) (pv 4) (fun _ _=>rfl)) (Z0 (Yf (Z0 (Zl U5 (pv 2) Za) (Z0 (pv 2) Z8))) Z8))))
    (Zc (Xh (Wj PySem.F.plainAttrs_list PySem.F.slot_list_append PySem.F.type_list_append Ym (pv 3) (Z0 (Ze eF hr (Z0 (pv 5) (Z0 (Ze eI hr (Z0 (Zh Y8 (pv 1) (pv 4) (fun _ _=>rfl)) (Z0 (Yf (Z0 Za (Z0 (pv 2) Z8))) Z8))) Z8))) Z8))))))
   (Zc (Zj (Zy Zv rfl T.tuple PyProof.Rows.boot_tuple (Z0 (pv 3) Z8))))))),?_⟩
  have lx:=hws.len
  have ly:=hus.len
  refine⟨_,_,rfl,rfl,Z1g (by decide) (by decide),?_⟩
  refine⟨sz0,fun d hd=>?_⟩
  have S0:Same H (upd H d (.lst [])):=Same.new hd
  have e0:upd H d (.lst []) d=some (.lst []):=Zb
  generalize upd H d (.lst [])=H0 at *
  refine⟨_,rfl,a1,xs,rfl,.inr (Zq S0 hxs),(xs.length:Int),rfl,(by omega),(by omega),?_⟩
  have et:(xs.length:Int).toNat=xs.length:=by omega
  rw[et]
  refine Vx (lo:=0) (n:=xs.length) (fun i σ H'=>Same H H'/\∃ (zs:List V) (x y:Option V),σ=[some (.ref a1),some (.ref a2),some (.int farN),some (.ref d),x,y]/\H' d=some (.lst zs)/\Rs K H' ((nearR ws us).take i) zs) ⟨S0,[],none,none,rfl,e0,.nil⟩ ?_ ?_
  ·rintro i σ H1 hi ⟨S1,zs,x,y,rfl,hd1,R1⟩
   have e1:(0+(i:Int))=((i:Nat):Int):=by omega
   rw[e1]
   have e1':ws[i]?=some (ws[i]'(by omega)):=by simp
   have e2':us[i]?=some (us[i]'(by omega)):=by simp
   obtain⟨x1,ex1,b1,rfl,sb1⟩:=(hws.ext (Ext.same S1)).at e1'
   obtain⟨x2,ex2,b2,rfl,sb2⟩:=(hus.ext (Ext.same S1)).at e2'
   have g1:=gw _ (List.getElem_mem (show i<ws.length by omega))
   have g2:=gu _ (List.getElem_mem (show i<us.length by omega))
   have lz:=R1.len
   refine⟨_,rfl,_,rfl,a1,_,_,_,rfl,rfl,Zq S1 hxs,Zg ex1,_,rfl,_,_,rfl,rfl,_,rfl,sz2,fun q1 hq1=>?_⟩
   have T1:=Same.new (o:=.tup [.int (farN - 1),.int farN]) hq1
   have f1:upd H1 q1 (.tup [.int (farN - 1),.int farN]) q1=some (.tup [.int (farN - 1),.int farN]):=Zb
   generalize upd H1 q1 (.tup [.int (farN - 1),.int farN])=H2 at *
   refine⟨b1,q1,_,(farN - 1,farN),57,rfl,Zq T1 sb1,SqT.of f1,g1,good_f1,by decide,fun p3 H3 f3 S3 e3=>?_⟩
   have S13:=T1.trans S3
   refine⟨_,rfl,.inl ⟨rfl,_,SqL.of (S13 _ _ hd1)⟩,_,rfl,_,rfl,_,rfl,a2,_,_,_,rfl,rfl,Zq (S1.trans S13) hys,Zg ex2,_,rfl,sz2,fun q2 hq2=>?_⟩
   have T4:=Same.new (o:=.tup [.int 1,.int farN]) hq2
   have f4:upd H3 q2 (.tup [.int 1,.int farN]) q2=some (.tup [.int 1,.int farN]):=Zb
   generalize upd H3 q2 (.tup [.int 1,.int farN])=H4 at *
   refine⟨b2,q2,_,(1,farN),57,rfl,Zq (S13.trans T4) sb2,SqT.of f4,g2,good_f2,by decide,fun p5 H5 f5 S5 e5=>?_⟩
   have gm1:=(V3 (g1.b1.mul good_f1.b1) (g1.b2.mul good_f1.b2) (Xp g1.pos good_f1.pos):Good (57+57) (mulR' (ws[i]'(by omega)) (farN - 1,farN)))
   have gm2:=(V3 (g2.b1.mul good_f2.b1) (g2.b2.mul good_f2.b2) (Xp g2.pos good_f2.pos):Good (57+57) (mulR' (us[i]'(by omega)) (1,farN)))
   refine⟨p3,p5,_,_,114,rfl,SqT.of ((T4.trans S5) _ _ e3),SqT.of e5,gm1,gm2,by decide,fun p6 H6 f6 S6 e6=>?_⟩
   have S46:=(T4.trans S5).trans S6
   have S16:=S13.trans S46
   have hd6:=S16 _ _ hd1
   refine⟨d,_,_,rfl,rfl,hd6,Xl (by rw[← lz,List.length_take];omega),?_⟩
   refine⟨fun q o' e=>?_,zs++[.ref p6],_,_,rfl,Zb,?_⟩
   ·rw[Zf (Zd e hd)]
    exact S16 _ _ (S1 _ _ e)
   ·have ec:(nearR ws us)[i]?=some (addR (mulR' (ws[i]'(by omega)) (farN - 1,farN)) (mulR' (us[i]'(by omega)) (1,farN))):=by
     unfold nearR
     rw[List.getElem?_zipWith,e1',e2']
    rw[Y9 ec]
    exact (R1.ext ((Ext.same S16).trans (Ext.upd hd6))).snoc ⟨p6,rfl,(Ext.upd hd6).sq (SqT.of e6)⟩
  ·rintro σ H1 ⟨S1,zs,x,y,rfl,hd1,R1⟩
   have ln:=Mh (c:=c) lw lu
   rw[List.take_of_length_le (by omega)] at R1
   refine⟨_,rfl,d,zs,rfl,.inl ⟨SqL.of hd1,fun l2 hl2=>?_⟩⟩
   exact k l2 _ (S1.trans (Same.new hl2)) ⟨_,SqT.of Zb,R1.ext (Ext.new hl2)⟩
def gZ (K:W.Frag):Sp:=fun vs H Q _=>∃ (a b:Addr) (xs us:List V) (ws rs:List Rat) (n n':Nat) (D D':Int) (Ws Zs:List Int),vs=[.ref a,.ref b]/\(SqL K H a xs \/ SqT K H a xs)/\Rs K H ws xs/\(SqL K H b us \/ SqT K H b us)/\Rs K H rs us/\ws.length=rs.length/\rs.length<=1000/\RepL n D Ws ws/\RepL n' D' Zs rs/\n<=4000/\n'<=4000/\n+n'+10<=8000 ∧
 ∀ c H',Same H H'->SqT K H' c [.int (sumR (List.zipWith mulR' ws rs)).1,.int (sumR (List.zipWith mulR' ws rs)).2]->Q (.ref c) H'
theorem Kt:FnScope ["weights","row","mine","theirs","products"] ["weights","row"] (defScope mD):=fsc
theorem Z0u (D:Def K mg "mean" mD ["weights","row"])(T:Blt mg)(eD:Z4 P w K mg base)(eO:Has P w K mg base 1 "whole_by" ["several","bottom"] (eR K))(fH:Has P w K mg base 3 "ratio" ["top","bottom"] eG):Has P w K mg base 4 "mean" ["weights","row"] (gZ K):=by
 refine D.has fun f fd F=>F.ok Kt (fun vs H Q E h=>?_) (fun cdv A outer s H vs Q E hr h=>?_)
 ·obtain⟨a,b,xs,us,ws,rs,n,n',D,D',Ws,Zs,rfl,_⟩:=h
  rfl
 ·obtain⟨a,b,xs,us,ws,rs,n,n',D,D',Ws,Zs,rfl,hA,hWs,hB,hRs,hl,hl2,rw_,rr,hn,hn',hnn,k⟩:=h
  have sc:=Kt
  have nd1:(["one","other"]:List Str).Nodup:=by decide +kernel
  refine⟨_,(Z9 (Zi (i:=2) sc.nd rfl (Or.inl rfl) (Ze eD hr (Z0 (pv 0) Z8)))
   (Z9 (Zi (i:=3) sc.nd rfl (Or.inl rfl) (Ze eD hr (Z0 (pv 1) Z8)))
   (Z9 (W5 (i:=4) (N:=["one","other"]) (k:=2) (fv:=[]) sc.nd rfl (Or.inl rfl) rfl (Pk rfl T.zip (Z0 (Ze eO hr (Z0 (pv 0) (Z0 (pv 2) Z8))) (Z0 (Ze eO hr (Z0 (pv 1) (Z0 (pv 3) Z8))) Z8)))
   (fun _ _ _ _ _=>Ww (n:=2) rfl (Yb (Zk (i:=0) nd1 rfl (Or.inl rfl)) (Yb (Zk (i:=1) nd1 rfl (Or.inl rfl)) Xt))) (fun _ _ _ _ _=>Y7) (fun _ _ _ _ _=>(Zl Zx (pv 0) (pv 1))) Wy)
   (Zc (Zj (Ze fH hr (Z0 (Zz (Tp (K:=K) rfl) rfl T.sum PyProof.Rows.boot_sum (Z0 (pv 4) Z8)) (Z0 (Zl Zx (pv 2) (pv 3)) Z8)))))))),?_⟩
  have lw:=rw_.least
  have lr:=rr.least
  refine⟨_,rfl,a,xs,ws,n,D,Ws,rfl,hA,hWs,rw_,hn,?_⟩
  refine⟨_,rfl,b,us,rs,n',D',Zs,rfl,hB,hRs,rr,hn',?_⟩
  refine⟨_,rfl,_,rfl,a,_,xs,ws,n,rfl,hA,hWs,lw.good,lw.bD,lw.pos,hn,by omega,fun d1 H1 f1 S1 e1=>?_⟩
  have hB1:SqL K H1 b us \/ SqT K H1 b us:=hB.elim (fun z=>.inl (M3 S1 z)) fun z=>.inr (Zq S1 z)
  refine⟨_,rfl,_,rfl,b,_,us,rs,n',rfl,hB1,hRs.ext (Ext.same S1),lr.good,lr.bD,lr.pos,hn',hl2,fun d2 H2 f2 S2 e2=>?_⟩
  replace e1:=S2 _ _ e1
  refine⟨d1,d2,rfl,⟨_,SqL.of e1⟩,⟨_,SqL.of e2⟩,fun d hd=>?_⟩
  have ll:(wholeB ws (lcmB ws)).length=rs.length:=by rw[lw.len,hl]
  have ll2:(wholeB rs (lcmB rs)).length=rs.length:=lr.len
  generalize hX:wholeB ws (lcmB ws)=As at *
  generalize hY:wholeB rs (lcmB rs)=Bs at *
  have bA:∀ z∈As,Bd n z:=fun z hz=>by
   obtain⟨i,hi⟩:=List.getElem?_of_mem hz
   have hl':i<As.length:=(List.getElem?_eq_some_iff.mp hi).1
   exact (lw.at_ i z (ws[i]'(by omega)) hi (by simp)).2.1
  have bB:∀ z∈Bs,Bd n' z:=fun z hz=>by
   obtain⟨i,hi⟩:=List.getElem?_of_mem hz
   have hl':i<Bs.length:=(List.getElem?_eq_some_iff.mp hi).1
   exact (lr.at_ i z (rs[i]'(by omega)) hi (by simp)).2.1
  refine⟨rs.length,fun i ys H3=>Same H2 H3/\ys=((List.zipWith (·*·) As Bs).take i).map V.int,Zp hl2,⟨Same.new hd,rfl⟩,?_,?_⟩
  ·rintro i ys H3 hi ⟨S3,rfl⟩ hd3
   refine⟨⟨_,_,SqL.of (S3 _ _ e1),SqL.of (S3 _ _ e2),by rw[List.length_map];omega,by rw[List.length_map];omega⟩,?_⟩
   rintro x H4 ⟨p,x0,y0,rfl,hp,rfl,fx,fy⟩
   have ea:As[i]?=some (As[i]'(by omega)):=by simp
   have eb:Bs[i]?=some (Bs[i]'(by omega)):=by simp
   have ex0:x0=V.int (As[i]'(by omega)):=by
    have:=fx _ (SqL.of (S3 _ _ e1))
    rw[List.getElem?_map,ea] at this
    exact (Option.some.inj this).symm
   have ey0:y0=V.int (Bs[i]'(by omega)):=by
    have:=fy _ (SqL.of (S3 _ _ e2))
    rw[List.getElem?_map,eb] at this
    exact (Option.some.inj this).symm
   subst ex0 ey0
   refine Sm (SqT.of Zb) ?_
   have hpd:d≠p:=Zd hd3 hp
   refine⟨_,rfl,_,rfl,_,_,rfl,rfl,(bA _ (List.getElem_mem _)).mulOk (bB _ (List.getElem_mem _)) (by omega) (by omega),by rw[Zf hpd];exact hd3,fun q o e=>?_,?_⟩
   ·have:=S3 _ _ e
    rw[Zf (Zd e hd),Zf (Zd this hp)]
    exact this
   ·have:(List.zipWith (·*·) As Bs)[i]?=some (As[i]'(by omega)*Bs[i]'(by omega)):=by rw[List.getElem?_zipWith,ea,eb]
    rw[Y9 this,List.map_append]
    rfl
  ·rintro ys H3 ⟨S3,rfl⟩ hd3
   rw[List.take_of_length_le (by rw[List.length_zipWith];omega)] at hd3
   refine⟨⟨_,_,SqL.of (S3 _ _ e1),SqL.of (S3 _ _ e2),by rw[List.length_map];omega⟩,?_⟩
   refine⟨_,rfl,d,_,rfl,SqL.of hd3,_,rfl,_,rfl,_,_,rfl,rfl,lw.bD.mulOk lr.bD (by omega) (by omega),_,_,rfl,by have:=Int.mul_pos lw.pos lr.pos;omega,(lw.bD.mul lr.bD).log (by omega),fun c H4 f4 S4 e4=>?_⟩
   have me:=Z17 lw lr hl
   have e5:sumR (List.zipWith mulR' ws rs)=nrm (List.zipWith (·*·) As Bs).sum (lcmB ws*lcmB rs):=me.symm
   refine k c H4 (((S1.trans S2).trans S3).trans S4) ?_
   rw[e5]
   exact SqT.of e4
end
theorem RepL.crude {n:Nat}:∀ {rs:List Rat},(∀ r∈rs,Good n r)->∃ D Ws,RepL (n*rs.length+1) D Ws rs
 | [],_=>⟨1,[],by decide,by show (1:Int).natAbs<2 ^ (n*0+1);rw[Nat.mul_zero];decide,rfl,fun i W r e=>by simp at e⟩
 | r::rs,h=>by
  obtain⟨D,Ws,rp⟩:=RepL.crude (n:=n) (rs:=rs) fun x hx=>h x (List.mem_cons_of_mem _ hx)
  have g:=h r List.mem_cons_self
  have el:n*(r::rs).length+1=n+(n*rs.length+1):=by rw[List.length_cons,Nat.mul_add,Nat.mul_one];omega
  rw[el]
  refine⟨r.2*D,r.1*D::Ws.map (r.2*·),Int.mul_pos g.pos rp.pos,g.b2.mul rp.bD,by simp[rp.len],fun i W x eW ex=>?_⟩
  cases i with
  | zero =>
   simp at eW ex
   subst eW
   subst ex
   exact⟨by rw[Int.mul_assoc,Int.mul_comm D,← Int.mul_assoc],g.b1.mul rp.bD,g.low⟩
  | succ i =>
   simp at eW ex
   obtain⟨z,ez,rfl⟩:=eW
   obtain⟨e1,b1,l1⟩:=rp.at_ i z x ez ex
   refine⟨?_,g.b2.mul b1,l1⟩
   rw[Int.mul_left_comm,e1,Int.mul_assoc]
def colR (rss:List (List Rat))(k:Nat):List Rat:=rss.map fun rs=>rs.getD k (0,1)
def comeW (c:Nat)(rss:List (List Rat))(ms:List Rat):List Rat:=(List.range c).map fun k=>sumR (List.zipWith mulR' (colR rss k) ms)
theorem Gp (r s:Rat):mulR' r s=mulR' s r:=by
 unfold mulR'
 rw[Int.mul_comm r.1,Int.mul_comm r.2]
theorem Jz (xs ys:List Rat):List.zipWith mulR' xs ys=List.zipWith mulR' ys xs:=List.zipWith_comm_of_comm Gp
theorem Fg {n c k:Nat}{rss:List (List Rat)}(hk:k<c)(h:∀ rs∈rss,rs.length=c/\∀ r∈rs,Good n r):∀ r∈colR rss k,Good n r:=fun r hr=>by
 obtain⟨rs,hm,rfl⟩:=List.mem_map.mp hr
 obtain⟨l,g⟩:=h rs hm
 have:rs.getD k (0,1)=rs[k]'(by omega):=by simp[List.getD,show k<rs.length by omega]
 rw[this]
 exact g _ (List.getElem_mem _)
section
variable {P:Program}{w:World}{K:W.Frag}{mg:Str->Option Value}{base:Heap}
def LstAt (K:W.Frag)(H:Hp)(a:Addr)(ms:List Rat):Prop:=∃ xs,H a=some (.lst xs)/\Rs K H ms xs
end
open Sv (sm)
theorem Go {c i:Nat}{rss:List (List Rat)}{T:Sv.Tab}(h:0<T.b):Lows (multR c rss T i 1):=fun m hm=>by
 unfold multR at hm
 obtain⟨j,_,rfl⟩:=List.mem_map.mp hm
 exact Yp (by omega)
theorem L3 {c k:Nat}{rss:List (List Rat)}(hrs:∀ rs∈rss,RowR c rs):Lows (colR rss k):=fun r hr=>by
 unfold colR at hr
 obtain⟨rs,h,rfl⟩:=List.mem_map.mp hr
 exact Wk (hrs rs h).lows k
theorem Z28 {k j:Nat}{rss:List (List Rat)}(hj:j<rss.length):qr (colR rss k) j=qr (rss.getD j []) k:=by
 unfold qr colR
 rw[List.getD_eq_getElem?_getD,List.getElem?_map,List.getElem?_eq_getElem hj,X1 (l:=rss) (x:=rss[j]) (by simp[hj])]
 rfl
theorem P7 {c:Nat}{rss:List (List Rat)}{ms:List Rat}(hrs:∀ rs∈rss,RowR c rs)(hm:Lows ms):Lows (comeW c rss ms):=fun r hr=>by
 unfold comeW at hr
 obtain⟨k,_,rfl⟩:=List.mem_map.mp hr
 exact Kg (Rv (L3 hrs) hm)
theorem L1 {c:Nat}{rss:List (List Rat)}{ms:List Rat}:(comeW c rss ms).length=c:=by unfold comeW;simp
theorem J6 {c k:Nat}{rss:List (List Rat)}{ms:List Rat}(hrs:∀ rs∈rss,RowR c rs)(hm:Lows ms)(lm:ms.length=rss.length)(hk:k<c):qr (comeW c rss ms) k=sQ rss.length (fun j=>qr ms j*qr (rss.getD j []) k):=by
 have e:(comeW c rss ms).getD k (0,1)=mn (colR rss k) ms:=by
  unfold comeW
  rw[List.getD_eq_getElem?_getD,List.getElem?_map,List.getElem?_range hk]
  rfl
 show qv ((comeW c rss ms).getD k (0,1))=_
 rw[e,Wi (L3 hrs) hm (by unfold colR;simp) lm]
 exact Zo fun j hj=>by rw[Z28 hj];grind
theorem Bn {c:Nat}{rss:List (List Rat)}{ms:List Rat}(hrs:∀ rs∈rss,RowR c rs)(hm:Lows ms)(lm:ms.length=rss.length)(f:Nat->QQ):sQ c (fun k=>f k*qr (comeW c rss ms) k)=sQ rss.length (fun j=>qr ms j*sQ c (fun k=>f k*qr (rss.getD j []) k)):=by
 have e1:sQ c (fun k=>f k*qr (comeW c rss ms) k)=sQ c (fun k=>sQ rss.length (fun j=>qr ms j*(f k*qr (rss.getD j []) k))):=Zo fun k hk=>by
  rw[J6 hrs hm lm hk,← Yi]
  exact Zo fun j _=>by grind
 rw[e1,Sg]
 exact Zo fun j _=>Yi _ _ _
def outsW (c:Nat)(o:Option (Nat->Bool)):List Nat:=(List.range c).filter fun k=>!inE o k
def foldR (q rs:List Rat)(us:List Nat):List Rat:=mn q rs::us.map fun k=>rs.getD k (0,1)
structure OnE (c:Nat)(o:Option (Nat->Bool))(q:List Rat):Prop where
 len:q.length=c
 low:Lows q
 nn:∀ k,k<c->0<=qr q k
 out:∀ k,k<c->inE o k=false->qr q k=0
 lie:sQ c (qr q)=1
def narrow (c:Nat)(o:Option (Nat->Bool))(q:List Rat)(rss:List (List Rat)):List (List Rat):=rss.map fun rs=>foldR q rs (outsW c o)
def oneW:Option (Nat->Bool):=some fun k=>k == 0
structure NotL (c:Nat)(o:Option (Nat->Bool))(rss:List (List Rat))(q R:List Rat):Prop where
 len:R.length=c
 low:Lows R
 up:0<sQ c (fun k=>qr q k*qr R k)
 out:∀ k,k<c->inE o k=false->0<=qr R k
 top:∀ W,WtsQ c rss W->sQ c (fun k=>qr W k*qr R k)<=0
structure ToldQ (c:Nat)(o:Option (Nat->Bool))(W t:List Rat):Prop where
 len:t.length=c
 low:Lows t
 s0:0<qv (shR c o W)
 at_:∀ k,k<c->qr t k*qv (shR c o W)=if inE o k then qr W k else 0
end Sb
namespace Sb
open PySem L2
open Sv (sm)
theorem Br {r:Rat}{S D:Int}(hr:0<r.2)(hD:0<D)(e:qv r=(S:QQ) / (D:QQ)):r.1*D=S*r.2:=by
 have a:=Xa hr
 have b:=Xa hD
 have h:((r.1*D:Int):QQ)=((S*r.2:Int):QQ):=by
  rw[_root_.Rat.intCast_mul,_root_.Rat.intCast_mul]
  have t:=T9 hr
  rw[e] at t
  rw[← t]
  grind
 exact _root_.Rat.intCast_inj.mp h
structure BeatN (c:Nat)(rss:List (List Rat))(N:Nat)(ns:List Int):Prop where
 len:ns.length=rss.length
 nn:∀ j,j<rss.length->0<=ns.getD j 0
 up:∀ i,i<c->0<sQ rss.length (fun j=>(ns.getD j 0:QQ)*qr (rss.getD j []) i)
 bits:∃ (D:Int) (y:Nat->Int),0<D/\Bd N D/\∀ j,j<rss.length->Bd N (y j)/\ns.getD j 0*D=y j*lcmB (rss.getD j [])
theorem Fj {ms:List Rat}(h:Lows ms){j:Nat}(hj:j<ms.length):0<lcmB ms/\((wholeM ms).getD j 0:QQ)=(lcmB ms:QQ)*qr ms j:=by
 obtain⟨p,d,_⟩:=W8 (rs:=ms) fun r hr=>(h r hr).pos
 refine⟨p,?_⟩
 have e1:ms[j]?=some ms[j]:=by simp[hj]
 have l:=h _ (List.getElem_mem hj)
 have w:=W9 (r:=ms[j]) (d _ (List.getElem_mem hj))
 have e2:(wholeM ms).getD j 0=ms[j].1*(lcmB ms).fdiv ms[j].2:=by
  unfold wholeM wholeB
  rw[List.getD_eq_getElem?_getD,List.getElem?_map,e1]
  rfl
 rw[e2]
 unfold qr
 rw[X1 e1,Di l.pos p w]
 have:=Xa p
 grind
theorem NoneT.beatN {c N:Nat}{rss:List (List Rat)}{gs:List Rat}{T:Sv.Tab}(h:NoneT c rss none gs T)(rows:∀ rs∈rss,RowR c rs)(bd:TabBd N (rss.length+2) c T):BeatN c rss N (wholeM (multR c rss T rss.length 1)):=by
 have bp:=h.inv.pos
 have low:=Go (c:=c) (i:=rss.length) (rss:=rss) bp
 have lm:(multR c rss T rss.length 1).length=rss.length:=Vo
 have ok:=TabOk.of h.inv
 have qm:∀ j,j<rss.length->qr (multR c rss T rss.length 1) j=((-Sv.numAt c T rss.length (c+j)*lcmB (rss.getD j []):Int):QQ) / (T.b:QQ):=fun j hj=>by
  have:qr (multR c rss T rss.length 1) j=((-Sv.numAt c T rss.length (c+j)*lcmB (rss.getD j []):Int):QQ) / ((1*T.b:Int):QQ):=(Dk hj).trans (Wu (by omega))
  rw[this,Int.one_mul]
 have dv:lcmB (multR c rss T rss.length 1) ∣ T.b:=(W8 (rs:=multR c rss T rss.length 1) fun r hr=>(low r hr).pos).2.2 _ fun r hr=>by
  unfold multR at hr
  obtain⟨k,_,rfl⟩:=List.mem_map.mp hr
  have:=Cq (-Sv.numAt c T rss.length (c+k)*lcmB (rss.getD k [])) (1*T.b)
  rw[Int.one_mul] at this
  show nB _ (1*T.b) ∣ T.b
  rw[Int.one_mul]
  exact this
 have nq:=fun i hi=>h.q rows (i:=i) hi
 have yn:=h.sv.1
 have wa:=fun j (hj:j<rss.length)=>Fj low (j:=j) (by omega)
 have len:(wholeM (multR c rss T rss.length 1)).length=rss.length:=by rw[L8,lm]
 have pl:0<lcmB (multR c rss T rss.length 1):=(W8 (rs:=multR c rss T rss.length 1) fun r hr=>(low r hr).pos).1
 generalize multR c rss T rss.length 1=ms at *
 obtain⟨e,he⟩:=dv
 have ep:0<e:=by
  have:0<lcmB ms*e:=by rw[← he];exact bp
  exact Int.pos_of_mul_pos_right this pl
 have pq:=Yx pl
 refine⟨len,fun j hj=>?_,fun i hi=>?_,e,fun j=>-Sv.numAt c T rss.length (c+j),ep,?_,fun j hj=>⟨?_,?_⟩⟩
 ·have m0:0<=qr ms j:=by
   rw[qm j hj]
   refine Lr (b:=(T.b:QQ)) ?_ (Yx bp)
   rw[J7 (Xa bp)]
   exact _root_.Rat.intCast_nonneg.mpr (Int.mul_nonneg (by have:=yn j hj;omega) (Int.le_of_lt (L6 rows hj).1))
  have:=_root_.Rat.mul_nonneg (_root_.Rat.le_of_lt pq) m0
  rw[← (wa j hj).2] at this
  exact _root_.Rat.intCast_nonneg.mp this
 ·have q:=nq i hi
  rw[Zo (g:=fun j=>(lcmB ms:QQ)*(qr ms j*qr (rss.getD j []) i)) fun j hj=>by rw[(wa j hj).2];grind,Yi]
  have q1:(1:QQ)<=sQ rss.length (fun j=>qr ms j*qr (rss.getD j []) i):=q
  exact _root_.Rat.mul_pos pq (by grind)
 ·have hb:T.b.natAbs<2 ^ N:=bd.b
  show e.natAbs<2 ^ N
  have h1:e*1<=e*lcmB ms:=Int.mul_le_mul_of_nonneg_left (by omega) (by omega)
  have h2:e*lcmB ms=T.b:=by rw[Int.mul_comm,he]
  omega
 ·exact (ok.numBd bd (by omega) (c+j)).neg
 ·refine _root_.Rat.intCast_inj.mp ?_
  rw[_root_.Rat.intCast_mul,(wa j hj).2,qm j hj,he,_root_.Rat.intCast_mul (lcmB ms) e]
  have a:=Xa pl
  have b:=Xa ep
  grind
end Sb
namespace Sb
open PySem L2
section
variable {P:Program}{w:World}{K:W.Frag}{mg:Str->Option Value}{base:Heap}
def fL (K:W.Frag):Sp:=fun vs H Q _=>∃ (a:Addr) (xs:List V) (rs:List Rat) (n:Nat) (D:Int) (Ws:List Int),vs=[.ref a]/\(SqL K H a xs \/ SqT K H a xs)/\Rs K H rs xs/\RepL n D Ws rs/\n<=4000/\rs.length<=1000/\∀ (d:Addr) (H':Hp),H d=none->Same H H'->H' d=some (.lst ((wholeM rs).map V.int))->Q (.ref d) H'
theorem Tt:FnScope ["multiples"] ["multiples"] (defScope kD):=fsc
theorem Md (D:Def K mg "made_whole" kD ["multiples"])(eD:Z4 P w K mg base)(eO:Has P w K mg base 1 "whole_by" ["several","bottom"] (eR K)):Has P w K mg base 3 "made_whole" ["multiples"] (fL K):=by
 refine D.has fun f fd F=>F.ok Tt (fun vs H Q E h=>?_) (fun cdv A outer s H vs Q E hr h=>?_)
 ·obtain⟨a,xs,rs,n,D,Ws,rfl,_⟩:=h
  rfl
 ·obtain⟨a,xs,rs,n,D,Ws,rfl,hA,hRs,rep,hn,hl,k⟩:=h
  have sc:=Tt
  refine⟨_,(Zc (Zj (Ze eO hr (Z0 (pv 0) (Z0 (Ze eD hr (Z0 (pv 0) Z8)) Z8))))),?_⟩
  refine⟨_,rfl,_,rfl,a,xs,rs,n,D,Ws,rfl,hA,hRs,rep,hn,?_⟩
  exact⟨a,lcmB rs,xs,rs,n,rfl,hA,hRs,rep.good,rep.least.bD,rep.least.pos,hn,hl,k⟩
structure BookP (c N:Nat)(os:List Offr):Prop where
 few:os.length<=100
 good:∀ o∈os,GoodO 114 o
 rep:∀ rs∈gainsP os os.length,rs.length=c/\∃ D Zs,RepL 114 D Zs rs
 sides:(gainsP os os.length).length<=30
 nN:N<=1200
 bd:∀ (gs:List Rat) (T':Sv.Tab),(∃ D Ws,RepL 114 D Ws gs)->InvR c (gainsP os os.length) none gs T'->TabBd N ((gainsP os os.length).length+2) c T'
theorem BookP.rows {c N:Nat}{os:List Offr}(b:BookP c N os):∀ rs∈gainsP os os.length,RowR c rs:=fun rs hr=>⟨(b.rep rs hr).1,(b.rep rs hr).2.elim fun D z=>z.elim fun Z r=>⟨114,D,Z,r⟩⟩
def fU (K:W.Frag):Sp:=fun vs H Q _=>∃ (l:Addr) (c N:Nat) (os:List Offr),vs=[.int (c:Int),.ref l]/\OffsAt K H l c os/\BookP c N os/\2<=c/\c<=100 ∧
 (∀ (t q:Addr) (ns:List Int) (H':Hp),Same H H'->H' q=some (.lst (ns.map V.int))->SqT K H' t [.str "beaten",.ref q]->BeatN c (gainsP os os.length) N ns->(∃ n,n<=1400/\∀ z∈ns,Bd n z)->Q (.ref t) H') ∧
 (∀ (t lo:Addr) (H':Hp),Same H H'->SqT K H' t [.str "fair",.ref lo]->(∃ W,WtsQ c (gainsP os os.length) W)->Q (.ref t) H')
theorem Nv:FnScope ["count","offers","found"] ["count","offers"] (defScope lE):=fsc
set_option maxHeartbeats 800000 in
theorem Gg (D:Def K mg "judged" lE ["count","offers"])(eQ:Z5 P w K mg base)(fS:Has P w K mg base 5 "gains" ["offers"] (eN K))(gK:Has P w K mg base 3 "made_whole" ["multiples"] (fL K))(fC:Con K mg "NOUGHT" (0,1)):Has P w K mg base 6 "judged" ["count","offers"] (fU K):=by
 refine D.has fun f fd F=>F.ok Nv (fun vs H Q E h=>?_) (fun cdv A outer s H vs Q E hr h=>?_)
 ·obtain⟨l,c,N,os,rfl,_⟩:=h
  rfl
 ·obtain⟨l,c,N,os,rfl,hO,bg,hc2,hc,kB,kF⟩:=h
  obtain⟨c_NOUGHT,m_NOUGHT,s_NOUGHT⟩:=fC
  have sc:=Nv
  refine⟨_,(Z9 (Zi (i:=2) sc.nd rfl (Or.inl rfl) (Ze eQ hr (Z0 (pv 0) (Z0 (Ze fS hr (Z0 (pv 1) Z8)) (Z0 Yr (Z0 (Zl Jb (Yf (Z0 (Xi (v:=.ref c_NOUGHT) rfl m_NOUGHT rfl) Z8)) (pv 0)) Z8))))))
   (Z9 (Yd (Zn W0 (Zh Y8 (pv 2) Za (fun _ _=>rfl)) Xo (Zt _))
    (Zc (Zj (Yf (Z0 Xo (Z0 (Ze gK hr (Z0 (Zh Y8 (pv 2) Za (fun _ _=>rfl)) Z8)) Z8)))))
    Zu)
   (Zc (Zj (Yf (Z0 Xo (Z0 (Zh Y8 (pv 2) Za (fun _ _=>rfl)) Z8))))))),?_⟩
  have few:=bg.few
  have nN:=bg.nN
  have sides:=bg.sides
  refine⟨_,rfl,_,rfl,l,c,114,os,rfl,hO,few,by omega,by decide,bg.good,fun d H1 fd S1 hR1=>?_⟩
  refine⟨sz1,fun t ht=>⟨_,rfl,t,c,[.ref c_NOUGHT],rfl,rfl,SqT.of Zb,by omega,by simp,by simp;omega,fun p hp=>?_⟩⟩
  have S2:Same H1 (upd H1 t (.tup [.ref c_NOUGHT])):=Same.new ht
  have et:(c:Int).toNat=c:=by omega
  have ef:(List.replicate (c:Int).toNat [V.ref c_NOUGHT]).flatten=List.replicate c (V.ref c_NOUGHT):=by rw[et];simp
  rw[ef]
  have S3:=S2.trans (Same.new (o:=.tup (List.replicate c (V.ref c_NOUGHT))) hp)
  have R3:RowAt K (upd (upd H1 t (.tup [.ref c_NOUGHT])) p (.tup (List.replicate c (V.ref c_NOUGHT)))) p (List.replicate c (0,1)):=⟨_,SqT.of Zb,Rs.rep ⟨c_NOUGHT,rfl,s_NOUGHT _⟩ c⟩
  generalize upd (upd H1 t (.tup [.ref c_NOUGHT])) p (.tup (List.replicate c (V.ref c_NOUGHT)))=H3 at *
  obtain⟨ads,hd,hP⟩:=hR1
  have S03:=S1.trans S3
  have zr:=Qf c (show 1<=114 by decide)
  have zrow:RowR c (List.replicate c ((0,1):Rat)):=⟨by simp,_,_,_,zr⟩
  refine⟨d,p,.non,c,114,N,gainsP os os.length,none,List.replicate c (0,1),rfl,⟨ads,S3 _ _ hd,Yg hP (Ext.same S3)⟩,rfl,R3,by simp,bg.rep,⟨_,_,zr⟩,by decide,by decide,by omega,by omega,fun T' I=>bg.bd _ T' ⟨_,_,zr.cut none⟩ I,by omega,by omega,by omega,fun Tb q t4 xs H4 fq S4 nt hq rs4 sq=>?_,fun Tb q t4 va lo xs H4 fq S4 mt hq rs4 iv rl sq=>?_⟩
  ·refine⟨_,rfl,t4,_,_,_,rfl,rfl,sq,Zg (j:=0) rfl,rfl,_,rfl,Ti ?_⟩
   have I:=nt.inv
   have bd:=bg.bd _ _ ⟨_,_,zr.cut none⟩ I
   have mr:=Cr (b:=1) bg.rep I.pos (TabOk.of I) bd (show (gainsP os os.length).length<(gainsP os os.length).length+2 by omega) (by decide) (Yz 1 (by decide) (by decide))
   refine⟨_,rfl,t4,_,_,_,rfl,rfl,sq,Zg (j:=1) rfl,q,xs,_,_,_,_,rfl,.inl (SqL.of hq),rs4,mr,by omega,by rw[Vo];omega,fun d2 H5 fd2 S5 e5=>?_⟩
   refine⟨sz2,fun t6 ht6=>?_⟩
   have S6:=Same.new (o:=.tup [.str "beaten",.ref d2]) ht6
   have S05:=(S03.trans S4).trans S5
   exact kB t6 d2 _ _ (S05.trans S6) (S6 _ _ e5) (SqT.of Zb) (nt.beatN bg.rows bd) ⟨_,by omega,mr.least.bdW⟩
  ·refine⟨_,rfl,t4,_,_,_,rfl,rfl,sq,Zg (j:=0) rfl,rfl,_,rfl,Wf ?_⟩
   refine⟨_,rfl,t4,_,_,_,rfl,rfl,sq,Zg (j:=2) rfl,sz2,fun t6 ht6=>?_⟩
   have S6:=Same.new (o:=.tup [.str "fair",.ref lo]) ht6
   obtain⟨W,w,_⟩:=(mt.conq bg.rows zrow).hit
   exact kF t6 lo _ ((S03.trans S4).trans S6) (SqT.of Zb) ⟨W,w.toQ bg.rows⟩
def iU:Sp:=fun vs H Q _=>∃ (z:Int),vs=[.int z]/\∀ p,H p=none->Q (.ref p) (upd H p (.tup [.int z,.int 1]))
theorem D6:FnScope ["multiple"] ["multiple"] (defScope kU):=fsc
theorem Z2p (D:Def K mg "as_ratio" kU ["multiple"])(fG:Has P w K mg base 1 "is_whole" ["value"] eX):Has P w K mg base 2 "as_ratio" ["multiple"] iU:=by
 refine D.has fun f fd F=>F.ok D6 (fun vs H Q E h=>?_) (fun cdv A outer s H vs Q E hr h=>?_)
 ·obtain⟨z,rfl,_⟩:=h
  rfl
 ·obtain⟨z,rfl,q⟩:=h
  have sc:=D6
  refine⟨_,(Zc (Zj (Vm (Xm (Ze fG hr (Z0 (pv 0) Z8))) (Yf (Z0 (pv 0) (Z0 Za Z8))) (pv 0)))),?_⟩
  exact⟨_,rfl,z,rfl,_,rfl,Ti ⟨_,rfl,sz2,fun p hp=>q p hp⟩⟩
def fW (K:W.Frag):Sp:=fun vs H Q _=>∃ (l q:Addr) (c:Nat) (rss:List (List Rat)) (ns:List Int) (nm:Nat),vs=[.int (c:Int),.ref l,.ref q]/\RowsAt K H l rss/\H q=some (.lst (ns.map V.int))/\ns.length=rss.length/\rss.length<=24/\c<=100/\(∀ rs∈rss,rs.length=c/\∀ r∈rs,Good 126 r)/\nm<=4000/\1<=nm/\(∀ z∈ns,Bd nm z) ∧
 ∀ (a:Addr) (H':Hp),Same H H'->RowAt K H' a (comeW c rss (ns.map fun z=>(z,1)))->Q (.ref a) H'
theorem Qp:FnScope ["count","rows","multiples","taken"] ["count","rows","multiples"] (defScope lI):=fsc
set_option maxHeartbeats 800000 in
theorem Gk (D:Def K mg "come_to" lI ["count","rows","multiples"])(T:Blt mg)(jE:Has P w K mg base 2 "as_ratio" ["multiple"] iU)(jY:Has P w K mg base 4 "mean" ["weights","row"] (gZ K)):Has P w K mg base 5 "come_to" ["count","rows","multiples"] (fW K):=by
 refine D.has fun f fd F=>F.ok Qp (fun vs H Q E h=>?_) (fun cdv A outer s H vs Q E hr h=>?_)
 ·obtain⟨l,q,c,rss,ns,nm,rfl,_⟩:=h
  rfl
 ·obtain⟨l,q,c,rss,ns,nm,rfl,⟨ads,hl,hA⟩,hq,ln,few,hc,hrs,hnm,n1,bn,k⟩:=h
  have sc:=Qp
  have nd1:(["multiple"]:List Str).Nodup:=by decide +kernel
  have nd2:(["world","rows","taken"]:List Str).Nodup:=by decide +kernel
  have nd3:(["row","world"]:List Str).Nodup:=by decide +kernel
  refine⟨_,(Z9 (Zi (i:=3) sc.nd rfl (Or.inr rfl) (Yk (N:=["multiple"]) (k:=1) (fv:=[]) rfl (Xs (pv 2))
   (fun _ _ _ _ _=>Zk (i:=0) nd1 rfl (Or.inl rfl)) (fun _ _ _ _ _=>Y7) (fun _ _ _ _ _=>(Ze jE hr (Z0 (pv 0) Z8))) Zw))
   (Zc (Zj (Zy Zv rfl T.tuple PyProof.Rows.boot_tuple (Z0 (Du (x0:="world") (N:=["world","rows","taken"]) (k:=1) (fv:=[1,3]) rfl (Yj rfl T.range (Z0 (pv 0) Z8))
   (fun _ _ _ _ _=>Zk (i:=0) nd2 rfl (Or.inr rfl)) (fun _ _ _ _ _=>Y7) (fun _ _ _ _ _=>(Ze jY hr (Z0 (pv 2) (Z0 (Yk (N:=["row","world"]) (k:=1) (fv:=[0]) rfl (Dp (K:=K) (pv 1))
   (fun _ _ _ _ _=>Zk (i:=0) nd3 rfl (Or.inl rfl)) (fun _ _ _ _ _=>Y7) (fun _ _ _ _ _=>(Zh (Mn (K:=K)) (pv 0) (pv 1) (fun _ _=>rfl))) Zw) Z8)))) Zw) Z8))))),?_⟩
  have lads:=Paired.length hA
  have lx:(ns.map V.int).length=ns.length:=by simp
  have lm:(ns.map fun z=>((z,1):Rat)).length=rss.length:=by rw[List.length_map];exact ln
  obtain⟨Wm,rm⟩:∃ W,RepL nm 1 W (ns.map fun z=>((z,1):Rat)):=RepL.each (by decide) (Yz 1 (by decide) n1) fun r hr=>by
   obtain⟨z,hz,rfl⟩:=List.mem_map.mp hr
   exact⟨z,rfl,bn z hz,(show (0:Int)<1 by decide),Int.gcd_one_right _⟩
  generalize hms:(ns.map fun z=>((z,1):Rat))=ms at *
  refine⟨_,rfl,q,rfl,⟨_,SqL.of hq⟩,fun d hd=>?_⟩
  refine⟨ms.length,fun i ys H2=>Same H H2/\Rs K H2 (ms.take i) ys,Zp (by omega),⟨Same.new hd,.nil⟩,?_,?_⟩
  ·rintro i ys H2 hi ⟨S2,R2⟩ hd2
   have hin:i<ns.length:=by omega
   refine⟨⟨_,V.int ns[i],SqL.of (S2 _ _ hq),by simp[hin]⟩,?_⟩
   rintro x H3 ⟨rfl,fx⟩
   have ex:x=V.int ns[i]:=by
    have:=fx _ (SqL.of (S2 _ _ hq))
    rw[List.getElem?_map,List.getElem?_eq_getElem hin] at this
    exact (Option.some.inj this).symm
   subst ex
   have er:ms[i]?=some (ns[i],1):=by rw[← hms,List.getElem?_map,List.getElem?_eq_getElem hin];rfl
   refine Ye ?_
   refine⟨_,rfl,ns[i],rfl,fun p hp=>?_⟩
   have S4:=Same.new (o:=.tup [.int ns[i],.int 1]) hp
   have hd4:=S4 _ _ hd2
   refine⟨hd4,fun q' o' e=>?_,?_⟩
   ·rw[Zf (Zd e hd)]
    exact S4 _ _ (S2 _ _ e)
   ·rw[Y9 er]
    exact (R2.ext ((Ext.same S4).trans (Ext.upd hd4))).snoc ⟨p,rfl,(Ext.upd hd4).sq (SqT.of Zb)⟩
  rintro ys H1 ⟨S1,R1⟩ hd1
  rw[List.take_of_length_le (Nat.le_refl _)] at R1
  refine⟨⟨_,SqL.of (S1 _ _ hq),by omega⟩,?_⟩
  replace hl:=S1 _ _ hl
  replace hA:=Yg hA (Ext.same S1)
  refine⟨_,rfl,(c:Int),rfl,(by omega),(by omega),fun d0 hd0=>?_⟩
  have et:(c:Int).toNat=c:=by omega
  rw[et]
  refine⟨c,fun j ys H'=>Same H1 H'/\Rs K H' ((comeW c rss ms).take j) ys,Zp (by omega),⟨Same.new hd0,.nil⟩,?_,?_⟩
  ·rintro j zs H2 hj ⟨S2,R2⟩ hd2
   refine⟨hj,?_⟩
   rintro x H3 ⟨rfl,rfl⟩
   have e0:(0+(j:Int))=((j:Nat):Int):=by omega
   rw[e0]
   refine Ye ?_
   have hl3:=S2 _ _ hl
   have A3:=Yg hA (Ext.same S2)
   refine⟨_,rfl,_,rfl,l,rfl,⟨_,SqL.of hl3⟩,fun d2 hd2'=>?_⟩
   refine⟨rss.length,fun i us H'=>Same H3 H'/\Rs K H' ((colR rss j).take i) us,Zp (by omega),⟨Same.new hd2',.nil⟩,?_,?_⟩
   ·rintro i us H4 hi ⟨S4,R4⟩ hd4
    have hia:i<ads.length:=by omega
    refine⟨⟨_,V.ref (ads[i]'hia),SqL.of (S4 _ _ hl3),by simp[hia]⟩,?_⟩
    rintro x H5 ⟨rfl,fx⟩
    have ex:x=V.ref (ads[i]'hia):=by
     have:=fx _ (SqL.of (S4 _ _ hl3))
     rw[List.getElem?_map,List.getElem?_eq_getElem hia] at this
     exact (Option.some.inj this).symm
    subst ex
    have er:rss[i]?=some rss[i]:=by simp[hi]
    obtain⟨lr,gr⟩:=hrs rss[i] (List.getElem_mem hi)
    obtain⟨vs,hvs,rvs⟩:=(Paired.getB A3 (show ads[i]?=some ads[i] by simp[hia]) er).same S4
    have lv:=rvs.len
    have ew:rss[i][j]?=some (rss[i][j]'(by omega)):=by simp
    obtain⟨x1,ex1,b1,rfl,sq1⟩:=rvs.at ew
    refine Ye ?_
    refine⟨_,rfl,_,rfl,ads[i],_,_,_,rfl,rfl,hvs,Zg ex1,hd4,fun q' o' e=>?_,?_⟩
    ·rw[Zf (Zd e hd2')]
     exact S4 _ _ e
    ·have ec:(colR rss j)[i]?=some (rss[i][j]'(by omega)):=by
      unfold colR
      rw[List.getElem?_map,er]
      simp[List.getD,show j<rss[i].length by omega]
     rw[Y9 ec]
     exact (R4.ext (Ext.upd hd4)).snoc ⟨b1,rfl,(Ext.upd hd4).sq sq1⟩
   rintro us H4 ⟨S4,R4⟩ hd4
   have lcol:(colR rss j).length=rss.length:=by unfold colR;rw[List.length_map]
   rw[List.take_of_length_le (by omega)] at R4
   refine⟨⟨_,SqL.of (S4 _ _ hl3),by rw[List.length_map];omega⟩,?_⟩
   have S14:=S2.trans S4
   obtain⟨Dc,Wc,rc⟩:=RepL.crude (Fg hj hrs)
   have bc:126*(colR rss j).length+1<=126*24+1:=by omega
   refine⟨d,d2,ys,us,ms,colR rss j,_,_,1,Dc,Wm,Wc,rfl,.inl (SqL.of (S14 _ _ hd1)),R1.ext (Ext.same S14),.inl (SqL.of hd4),R4,by omega,by omega,rm,rc,hnm,by omega,by omega,fun cm H5 S5 e5=>?_⟩
   have S15:=S4.trans S5
   have hd5:=S15 _ _ hd2
   refine⟨hd5,fun q' o' e=>?_,?_⟩
   ·rw[Zf (Zd e hd0)]
    exact S15 _ _ (S2 _ _ e)
   ·have ec:(comeW c rss ms)[j]?=some (sumR (List.zipWith mulR' ms (colR rss j))):=by
     unfold comeW
     rw[List.getElem?_map,Jz ms]
     simp[hj]
    rw[Y9 ec]
    exact (R2.ext ((Ext.same S15).trans (Ext.upd hd5))).snoc ⟨cm,rfl,(Ext.upd hd5).sq e5⟩
  rintro zs H2 ⟨S2,R2⟩ hd2
  have lcw:(comeW c rss ms).length=c:=by unfold comeW;simp
  rw[List.take_of_length_le (by omega)] at R2
  refine⟨Nat.le_refl _,d0,zs,rfl,.inl ⟨SqL.of hd2,fun ar har=>?_⟩⟩
  exact k ar _ ((S1.trans S2).trans (Same.new har)) ⟨zs,SqT.of Zb,R2.ext (Ext.new har)⟩
end
open Sv (sm)
theorem Z29 {a b:QQ}(h:b≠0):b*a / b=a:=by grind
theorem M4 (f:Nat->QQ)(m:Nat):∀ (n:Nat),sQ (m+n) f=sQ m f+sQ n (fun k=>f (m+k))
 | 0=>by show sQ m f=sQ m f+0;grind
 | n+1=>by
  show sQ (m+n) f+f (m+n)=sQ m f+(sQ n (fun k=>f (m+k))+f (m+n))
  rw[M4 f m n]
  grind
theorem Fo (f:Nat->Int):∀ (n:Nat),((((List.range n).map f).sum:Int):QQ)=sQ n (fun j=>(f j:QQ))
 | 0=>_root_.Rat.intCast_zero
 | n+1=>by
  rw[List.range_succ,List.map_append,List.sum_append,_root_.Rat.intCast_add,Fo f n]
  show _=sQ n (fun j=>(f j:QQ))+(f n:QQ)
  congr 1
  simp
structure PartR (c:Nat)(r1 r2:List (List Rat))(R:List Rat):Prop where
 len:R.length=c
 low:Lows R
 one:∀ W,WtsQ c r1 W->sQ c (fun k=>qr W k*qr R k)<=0
 two:∀ W,WtsQ c r2 W->0<sQ c (fun k=>qr W k*qr R k)
def intR (ns:List Int):List Rat:=ns.map fun z=>((z,1):Rat)
theorem Sn (ns:List Int):Lows (intR ns):=fun r hr=>by
 obtain⟨z,_,rfl⟩:=List.mem_map.mp hr
 exact⟨(show (0:Int)<1 by decide),Int.gcd_one_right _⟩
theorem Dl {ns:List Int}{j:Nat}(hj:j<ns.length):qr (intR ns) j=(ns.getD j 0:QQ):=by
 have e:ns[j]?=some ns[j]:=by simp[hj]
 unfold qr intR
 rw[List.getD_eq_getElem?_getD,List.getElem?_map,e,X1 e]
 show ((ns[j]:Int):QQ) / ((1:Int):QQ)=_
 rw[_root_.Rat.intCast_one]
 grind
section
variable {c N:Nat}{r1 r2:List (List Rat)}{ns:List Int}
theorem Kd {j g:Nat}(hj:j<g):(ns.take g).getD j 0=ns.getD j 0:=by
 rw[List.getD_eq_getElem?_getD,List.getElem?_take,if_pos hj,← List.getD_eq_getElem?_getD]
theorem Bw {j:Nat}(hj:j<r1.length):(r1++r2).getD j []=r1.getD j []:=by
 rw[List.getD_eq_getElem?_getD,List.getElem?_append_left hj,← List.getD_eq_getElem?_getD]
theorem Z1k {j:Nat}:(r1++r2).getD (r1.length+j) []=r2.getD j []:=by
 rw[List.getD_eq_getElem?_getD,List.getElem?_append_right (by omega),Nat.add_sub_cancel_left,← List.getD_eq_getElem?_getD]
theorem BeatN.lt (b:BeatN c (r1++r2) N ns):(ns.take r1.length).length=r1.length:=by
 have:=b.len
 rw[List.length_append] at this
 rw[List.length_take]
 omega
theorem BeatN.row (b:BeatN c (r1++r2) N ns)(h1:∀ rs∈r1,RowR c rs){i:Nat}(hi:i<c):qr (comeW c r1 (intR (ns.take r1.length))) i=sQ r1.length (fun j=>(ns.getD j 0:QQ)*qr (r1.getD j []) i):=by
 have lt:=b.lt
 have li:(intR (ns.take r1.length)).length=r1.length:=by unfold intR;rw[List.length_map];exact lt
 rw[J6 h1 (Sn _) li hi]
 exact Zo fun j hj=>by rw[Dl (by omega),Kd hj]
theorem BeatN.part (b:BeatN c (r1++r2) N ns)(h1:∀ rs∈r1,RowR c rs):PartR c r1 r2 (comeW c r1 (intR (ns.take r1.length))):=by
 have lt:=b.lt
 have li:(intR (ns.take r1.length)).length=r1.length:=by unfold intR;rw[List.length_map];exact lt
 have nn:∀ j,j<r1.length+r2.length->0<=(ns.getD j 0:QQ):=fun j hj=>_root_.Rat.intCast_nonneg.mpr (b.nn j (by rw[List.length_append];exact hj))
 refine⟨L1,P7 h1 (Sn _),fun W w=>?_,fun W w=>?_⟩
 ·rw[Bn h1 (Sn _) li]
  refine D7 fun j hj=>?_
  rw[Dl (by omega),Kd hj]
  refine Rm (nn j (by omega)) (w.fit _ ?_)
  rw[X1 (l:=r1) (x:=r1[j]) (by simp[hj])]
  exact List.getElem_mem hj
 ·have up:=b.up
  rw[List.length_append] at up
  have pos:0<sQ c (fun i=>qr W i*sQ (r1.length+r2.length) (fun j=>(ns.getD j 0:QQ)*qr ((r1++r2).getD j []) i)):=by
   have n0:∀ i,i<c->0<=qr W i*sQ (r1.length+r2.length) (fun j=>(ns.getD j 0:QQ)*qr ((r1++r2).getD j []) i):=fun i hi=>_root_.Rat.mul_nonneg (w.nn i hi) (_root_.Rat.le_of_lt (up i hi))
   have s0:=R8 n0
   rcases Classical.em (0<sQ c (fun i=>qr W i*sQ (r1.length+r2.length) (fun j=>(ns.getD j 0:QQ)*qr ((r1++r2).getD j []) i))) with z | z
   ·exact z
   ·have e:=Sh n0 (by grind)
    have:sQ c (qr W)=0:=Uf fun i hi=>by
     have a:=e i hi
     have u:=up i hi
     generalize sQ (r1.length+r2.length) (fun j=>(ns.getD j 0:QQ)*qr ((r1++r2).getD j []) i)=x at *
     have:qr W i*x / x=qr W i:=by grind
     rw[a] at this
     grind
    rw[w.lie] at this
    exact absurd this (by decide)
  have e1:sQ c (fun i=>qr W i*sQ (r1.length+r2.length) (fun j=>(ns.getD j 0:QQ)*qr ((r1++r2).getD j []) i))=sQ c (fun k=>qr W k*qr (comeW c r1 (intR (ns.take r1.length))) k)+sQ r2.length (fun j=>(ns.getD (r1.length+j) 0:QQ)*sQ c (fun i=>qr W i*qr (r2.getD j []) i)):=by
   have a:sQ r2.length (fun j=>(ns.getD (r1.length+j) 0:QQ)*sQ c (fun i=>qr W i*qr (r2.getD j []) i))=sQ c (fun i=>sQ r2.length (fun j=>(ns.getD (r1.length+j) 0:QQ)*(qr W i*qr (r2.getD j []) i))):=by
    rw[Sg]
    exact Zo fun j _=>(Yi _ _ _).symm
   rw[a,← Wt]
   refine Zo fun i hi=>?_
   rw[b.row h1 hi,M4,Zo (n:=r1.length) (f:=fun j=>(ns.getD j 0:QQ)*qr ((r1++r2).getD j []) i) fun j hj=>by rw[Bw hj],Zo (n:=r2.length) (f:=fun k=>(ns.getD (r1.length+k) 0:QQ)*qr ((r1++r2).getD (r1.length+k) []) i) fun j hj=>by rw[Z1k]]
   rw[Zo (n:=r2.length) (f:=fun j=>(ns.getD (r1.length+j) 0:QQ)*(qr W i*qr (r2.getD j []) i)) (g:=fun j=>qr W i*((ns.getD (r1.length+j) 0:QQ)*qr (r2.getD j []) i)) fun j _=>by grind,Yi]
   grind
  have e2:sQ r2.length (fun j=>(ns.getD (r1.length+j) 0:QQ)*sQ c (fun i=>qr W i*qr (r2.getD j []) i))<=0:=D7 fun j hj=>by
   refine Rm (nn _ (by omega)) (w.fit _ ?_)
   rw[X1 (l:=r2) (x:=r2[j]) (by simp[hj])]
   exact List.getElem_mem hj
  rw[e1] at pos
  grind
theorem BeatN.rep {n:Nat}(b:BeatN c (r1++r2) N ns)(h1:∀ rs∈r1,rs.length=c/\∃ D Z,RepL n D Z rs)(few:r1.length<=32):∃ D U,RepL (N+n+5) D U (comeW c r1 (intR (ns.take r1.length))):=by
 obtain⟨D,y,hD,bD,hy⟩:=b.bits
 have rows:∀ rs∈r1,RowR c rs:=fun rs hr=>⟨(h1 rs hr).1,(h1 rs hr).2.elim fun D z=>z.elim fun Z r=>⟨n,D,Z,r⟩⟩
 refine⟨D,RepL.each hD (bD.mono (by omega)) fun x hx=>?_⟩
 have lx:=P7 rows (Sn (ns.take r1.length)) x hx
 obtain⟨i,hi⟩:=List.getElem?_of_mem hx
 have hic:i<c:=by
  have:=(List.getElem?_eq_some_iff.mp hi).1
  rw[L1] at this
  exact this
 refine⟨((List.range r1.length).map fun j=>y j*AOf r1 j i).sum,Br lx.pos hD ?_,?_,lx⟩
 ·have e:=b.row rows hic
  unfold qr at e
  rw[X1 hi] at e
  rw[e,Fo]
  have t:sQ r1.length (fun j=>((y j*AOf r1 j i:Int):QQ))=(D:QQ)*sQ r1.length (fun j=>(ns.getD j 0:QQ)*qr (r1.getD j []) i):=by
   rw[← Yi]
   refine Zo fun j hj=>?_
   have a:=congrArg (fun z:Int=>(z:QQ)) (hy j (by rw[List.length_append];omega)).2
   simp only [_root_.Rat.intCast_mul] at a
   rw[Bw hj] at a
   rw[_root_.Rat.intCast_mul,(L6 rows hj).2 i hic]
   grind
  rw[t]
  exact (Z29 (Xa hD)).symm
 ·refine (Nd (n:=N+n) _ (fun z hz=>?_) 5 (by simpa using few))
  obtain⟨j,hj,rfl⟩:=List.mem_map.mp hz
  have hj':j<r1.length:=by simpa using hj
  have b1:=(hy j (by rw[List.length_append];omega)).1
  obtain⟨_,D',Z',rr⟩:=h1 _ (List.getElem_mem hj')
  have b2:Bd n (AOf r1 j i):=by
   have:AOf r1 j i=rowF r1[j] i:=by
    unfold AOf rowF
    rw[X1 (l:=r1) (x:=r1[j]) (by simp[hj'])]
   rw[this]
   exact W3 rr i
  exact b1.mul b2
end
end Sb
namespace Sb
open PySem L2
theorem RowR.of {c n:Nat}{as:List Rat}(la:as.length=c)(ra:∃ D Ws,RepL n D Ws as):RowR c as:=⟨la,ra.elim fun D z=>z.elim fun W r=>⟨n,D,W,r⟩⟩
structure BookM (c n N M:Nat)(os:List Offr):Prop where
 few:os.length<=100
 good:∀ o∈os,GoodO n o
 rep:∀ rs∈gainsP os os.length,rs.length=c/\∃ D Zs,RepL M D Zs rs
 sides:(gainsP os os.length).length<=30
 m1:1<=M
 n4:n<=4000
 nN:N+M<=3900
 bd:∀ (o:Option (Nat->Bool)) (gs:List Rat) (T':Sv.Tab),(∃ D Ws,RepL M D Ws gs)->InvR c (gainsP os os.length) o gs T'->TabBd N ((gainsP os os.length).length+2) c T'
theorem BookM.rows {c n N M:Nat}{os:List Offr}(b:BookM c n N M os):∀ rs∈gainsP os os.length,RowR c rs:=fun rs hr=>RowR.of (b.rep rs hr).1 (b.rep rs hr).2
theorem MostT.goodM {c N M:Nat}{rss:List (List Rat)}{o:Option (Nat->Bool)}{as:List Rat}{T:Sv.Tab}{D:Int}{Z:List Int}(h:MostT c rss o (cutR o as) T)(ha:RepL M D Z as)(bd:TabBd N (rss.length+2) c T):Good (N+M) (valueR c rss.length (cutR o as) T):=by
 have b1:=(TabOk.of h.inv).endBd bd (c+rss.length+1)
 have b2:=(ha.cut o).least.bD.mul bd.b
 rw[Nat.add_comm] at b2
 have:=Int.mul_pos (ha.cut o).least.pos h.inv.pos
 exact V3 (b1.neg.mono (by omega)) b2 (by omega)
theorem Ln {r:Rat}:qv (negR r)=-qv r:=by
 show ((-r.1:Int):QQ) / (r.2:QQ)=-((r.1:QQ) / (r.2:QQ))
 rw[_root_.Rat.intCast_neg]
 grind
theorem Dj {r s:Rat}(hr:0<r.2)(hs:0<s.2):leR r s ↔ qv r<=qv s:=by
 have e1:=T9 hr
 have e2:=T9 hs
 have p1:=Yx hr
 have p2:=Yx hs
 have p:=_root_.Rat.mul_pos p1 p2
 have c1:((r.1*s.2:Int):QQ)=qv r*((r.2:QQ)*(s.2:QQ)):=by rw[_root_.Rat.intCast_mul,← e1];grind
 have c2:((s.1*r.2:Int):QQ)=qv s*((r.2:QQ)*(s.2:QQ)):=by rw[_root_.Rat.intCast_mul,← e2];grind
 unfold leR
 rw[← _root_.Rat.intCast_le_intCast,c1,c2]
 constructor
 ·intro h
  have:=Lr (a:=qv s - qv r) (b:=(r.2:QQ)*(s.2:QQ)) (by grind) p
  grind
 ·intro h
  have:=_root_.Rat.mul_nonneg (show 0<=qv s - qv r by grind) (_root_.Rat.le_of_lt p)
  grind
theorem Ci {l:List Rat}(h:Lows l):Lows (ngR l):=fun r hr=>by
 unfold ngR at hr
 obtain⟨x,hx,rfl⟩:=List.mem_map.mp hr
 exact Xe (h x hx) ⟨by decide,by decide⟩
theorem Z2r {l:List Rat}:(ngR l).length=l.length:=by unfold ngR;simp
theorem Z3a {l:List Rat}{k:Nat}(h:Lows l)(hk:k<l.length):qr (ngR l) k=-qr l k:=by
 unfold ngR
 rw[Pj hk,Pi (Wk h k) ⟨by decide,by decide⟩]
 have:qv (-1,1)=-1:=by
  show qv (negR (1,1))=-1
  rw[Ln,Z02]
 rw[this]
 unfold qr
 grind
section
variable {c:Nat}{rss:List (List Rat)}{o:Option (Nat->Bool)}{as bs W:List Rat}{u v m:Rat}
theorem G7 (w:WtsQ c rss W)(h:1<=qv (shR c o W)):∀ k,k<c->inE o k=false->qr W k=0:=by
 have e:sQ c (fun k=>if inE o k then 0 else qr W k)=1 - qv (shR c o W):=by
  rw[Yw w.low w.len]
  have l:=w.lie
  have:sQ c (qr W)=sQ c (fun k=>if inE o k then 0 else qr W k)+sQ c (fun k=>if inE o k then qr W k else 0):=by
   rw[← Wt]
   exact Zo fun k hk=>by cases inE o k <;> simp <;> grind
  grind
 have nn:∀ k,k<c->0<=(if inE o k then 0 else qr W k):=fun k hk=>by
  cases inE o k
  ·simpa using w.nn k hk
  ·simp
 have p:=R8 nn
 have z:=Sh nn (by grind)
 intro k hk i
 have:=z k hk
 rw[i] at this
 simpa using this
theorem Mz (w:WtsQ c rss W)(h:1<=qv (shR c o W))(la:Lows as)(len:as.length=c)(lv:Low v):qv (mn W (gP o as v))=qv (mn W as) - qv v:=by
 rw[Wi w.low (Vt la lv) w.len (by rw[Bc,len]),Wi w.low la w.len len]
 have out:=G7 w h
 have e:sQ c (fun k=>qr W k*qr (gP o as v) k)=sQ c (fun k=>qr W k*qr as k) + -qv v*sQ c (qr W):=by
  rw[← Yi,← Wt]
  refine Zo fun k hk=>?_
  rw[Z1t la lv (by omega)]
  cases z:inE o k with
  | true=>simp;grind
  | false=>rw[out k hk z];simp;grind
 rw[e,w.lie]
 grind
theorem ConV.most (h:ConV c rss o as v)(hrs:∀ rs∈rss,RowR c rs)(one:∀ W,Wts c rss W->1<=qv (shR c o W))(la:Lows as)(len:as.length=c):MostV c rss as v:=by
 refine⟨h.low,?_,fun W w=>?_⟩
 ·obtain⟨W,w,e,_⟩:=h.hit
  have wq:=w.toQ hrs
  refine⟨W,w,Lo (Yy wq.low la) h.low ?_⟩
  have lg:=Yy wq.low (Vt (o:=o) la h.low)
  have a:=(Wh lg.pos).mp (by omega)
  have b:=(Ui lg.pos).mp (by omega)
  rw[Mz wq (one W w) la len h.low] at a b
  grind
 ·have wq:=w.toQ hrs
  have lg:=Yy wq.low (Vt (o:=o) la h.low)
  refine (Dj (Yy wq.low la).pos h.low.pos).mpr ?_
  have a:=(Wh lg.pos).mp (h.top W w)
  rw[Mz wq (one W w) la len h.low] at a
  grind
end
theorem Z0h {c:Nat}{rss:List (List Rat)}(hrs:∀ rs∈rss,RowR c rs):∀ W,Wts c rss W->1<=qv (shR c none W):=fun W w=>by
 have wq:=w.toQ hrs
 have e:qv (shR c none W)=1:=(Yw wq.low wq.len).trans wq.lie
 rw[e]
 exact _root_.Rat.le_refl
theorem MostV.leastq {c:Nat}{rss:List (List Rat)}{as:List Rat}{v:Rat}(h:MostV c rss (as.map fun r=>mulR' r (-1,1)) v)(hrs:∀ rs∈rss,RowR c rs)(la:Lows as)(len:as.length=c):LeastV c rss as (negR v):=by
 have key:∀ W,Wts c rss W->Low (mn W as)/\Low (mn W (ngR as))/\qv (mn W (ngR as))=-qv (mn W as):=fun W w=>by
  have wq:=w.toQ hrs
  refine⟨Yy wq.low la,Yy wq.low (Ci la),?_⟩
  rw[Wi wq.low (Ci la) wq.len (by rw[Z2r];exact len),Wi wq.low la wq.len len,show -sQ c (fun k=>qr W k*qr as k)=(-1)*sQ c (fun k=>qr W k*qr as k) by grind,← Yi]
  exact Zo fun k hk=>by rw[Z3a la (by omega)];grind
 refine⟨negR.low h.low,?_,fun W w=>?_⟩
 ·obtain⟨W,w,e⟩:=h.hit
  obtain⟨l1,l2,e2⟩:=key W w
  have e:mn W (ngR as)=v:=e
  refine⟨W,w,Lo l1 (negR.low h.low) ?_⟩
  rw[Ln,← e,e2]
  grind
 ·obtain⟨l1,l2,e2⟩:=key W w
  have t:=(Dj l2.pos h.low.pos).mp (h.top W w)
  refine (Dj (negR.low h.low).pos l1.pos).mpr ?_
  rw[Ln]
  grind
section
variable {P:Program}{w:World}{K:W.Frag}{mg:Str->Option Value}{base:Heap}{C:Addr}
def fO (K:W.Frag):Sp:=fun vs H Q _=>∃ (l g:Addr) (c n N M:Nat) (os:List Offr) (as:List Rat) (D:Int) (Z:List Int),vs=[.int (c:Int),.ref l,.ref g]/\OffsAt K H l c os/\BookM c n N M os/\RowAt K H g as/\as.length=c/\RepL M D Z as/\(∃ ls,Wts c (gainsP os os.length) ls)/\2<=c/\c<=100 ∧
 ∀ (t q va lo:Addr) (v:Rat) (H':Hp),Same H H'->MostV c (gainsP os os.length) as v->Good (N+M) v->SqT K H' va [.int v.1,.int v.2]->SqT K H' t [.ref va,.ref q,.ref lo]->Q (.ref t) H'
theorem Nj:FnScope ["count","offers","row","found"] ["count","offers","row"] (defScope lK):=fsc
theorem Dz (D:Def K mg "upper" lK ["count","offers","row"])(eQ:Z5 P w K mg base)(fS:Has P w K mg base 5 "gains" ["offers"] (eN K)):Has P w K mg base 6 "upper" ["count","offers","row"] (fO K):=by
 refine D.has fun f fd F=>F.ok Nj (fun vs H Q E h=>?_) (fun cdv A outer s H vs Q E hr h=>?_)
 ·obtain⟨l,g,c,n,N,M,os,as,D,Z,rfl,_⟩:=h
  rfl
 ·obtain⟨l,g,c,n,N,M,os,as,D,Z,rfl,hO,bg,hg,la,ra,⟨ls0,wl⟩,hc2,hc,k⟩:=h
  have sc:=Nj
  refine⟨_,(Z9 (Zi (i:=3) sc.nd rfl (Or.inl rfl) (Ze eQ hr (Z0 (pv 0) (Z0 (Ze fS hr (Z0 (pv 1) Z8)) (Z0 Yr (Z0 (pv 2) Z8))))))
   (Z9 (Yd (Zn W0 (Zh Y8 (pv 3) Za (fun _ _=>rfl)) Xo (Zt _))
    (Zc Rb)
    Zu)
   (Zc (Zj (Yf (Z0 (Zh Y8 (pv 3) Za (fun _ _=>rfl)) (Z0 (Zh Y8 (pv 3) Za (fun _ _=>rfl)) (Z0 (Zh Y8 (pv 3) Za (fun _ _=>rfl)) Z8)))))))),?_⟩
  have few:=bg.few
  have nN:=bg.nN
  have sides:=bg.sides
  have n1:=bg.m1
  refine⟨_,rfl,_,rfl,l,c,n,os,rfl,hO,few,by omega,bg.n4,bg.good,fun d H1 fd S1 hR1=>?_⟩
  refine⟨_,rfl,d,g,.non,c,M,N,gainsP os os.length,none,as,rfl,hR1,rfl,hg.same S1,la,bg.rep,⟨_,_,ra⟩,by omega,by omega,by omega,by omega,fun T' I=>bg.bd _ _ T' ⟨_,_,ra.cut none⟩ I,by omega,by omega,by omega,fun T q t4 xs H4 fq S4 nt hq rs4 sq=>?_,fun T q t4 va lo xs H4 fq S4 mt hq rs4 iv rl sq=>?_⟩
  ·exact (nt.noloadsq bg.rows (wl.toQ bg.rows)).elim
  ·refine⟨_,rfl,t4,_,_,_,rfl,rfl,sq,Zg (j:=0) rfl,rfl,_,rfl,Wf ?_⟩
   obtain⟨va',e,sv⟩:=iv
   cases e
   refine⟨_,rfl,t4,_,_,_,rfl,rfl,sq,Zg (j:=1) rfl,_,rfl,t4,_,_,_,rfl,rfl,sq,Zg (j:=3) rfl,_,rfl,t4,_,_,_,rfl,rfl,sq,Zg (j:=2) rfl,sz3,fun t hp=>?_⟩
   have S5:Same H4 (upd H4 t (.tup [.ref va,.ref q,.ref lo])):=Same.new hp
   have bd:=bg.bd _ _ _ ⟨_,_,ra.cut none⟩ mt.inv
   have rr:RowR c as:=⟨la,_,_,_,ra⟩
   exact k t q va lo _ _ ((S1.trans S4).trans S5) ((mt.conq bg.rows rr).most bg.rows (Z0h bg.rows) rr.lows la) (mt.goodM ra bd) (Zq S5 sv) (SqT.of Zb)
def gD (K:W.Frag):Sp:=fun vs H Q _=>∃ (l g:Addr) (c n N M:Nat) (os:List Offr) (as:List Rat) (D:Int) (Z:List Int),vs=[.int (c:Int),.ref l,.ref g]/\OffsAt K H l c os/\BookM c n N M os/\RowAt K H g as/\as.length=c/\RepL M D Z as/\(∃ ls,Wts c (gainsP os os.length) ls)/\2<=c/\c<=100 ∧
 ∀ (t q va lo:Addr) (u:Rat) (H':Hp),Same H H'->LeastV c (gainsP os os.length) as u->SqT K H' va [.int u.1,.int u.2]->SqT K H' t [.ref va,.ref q,.ref lo]->Q (.ref t) H'
theorem Np:FnScope ["count","offers","row","told"] ["count","offers","row"] (defScope lT):=fsc
theorem C6 (D:Def K mg "lower" lT ["count","offers","row"])(gJ:Has P w K mg base 6 "upper" ["count","offers","row"] (fO K))(jG:Has P w K mg base 5 "turned" ["row"] (gB K))(gA:Has P w K mg base 3 "minus" ["one","other"] (fK K subR))(fC:Con K mg "NOUGHT" (0,1)):Has P w K mg base 7 "lower" ["count","offers","row"] (gD K):=by
 refine D.has fun f fd F=>F.ok Np (fun vs H Q E h=>?_) (fun cdv A outer s H vs Q E hr h=>?_)
 ·obtain⟨l,g,c,n,N,M,os,as,D,Z,rfl,_⟩:=h
  rfl
 ·obtain⟨l,g,c,n,N,M,os,as,D,Z,rfl,⟨vs,hl,hP⟩,bg,hg,la,ra,wl,hc2,hc,k⟩:=h
  obtain⟨c_NOUGHT,m_NOUGHT,s_NOUGHT⟩:=fC
  have sc:=Np
  refine⟨_,(Z9 (Zi (i:=3) sc.nd rfl (Or.inl rfl) (Ze gJ hr (Z0 (pv 0) (Z0 (pv 1) (Z0 (Ze jG hr (Z0 (pv 2) Z8)) Z8)))))
   (Zc (Zj (Yf (Z0 (Ze gA hr (Z0 (Xi (v:=.ref c_NOUGHT) rfl m_NOUGHT rfl) (Z0 (Zh Y8 (pv 3) Za (fun _ _=>rfl)) Z8))) (Z0 (Zh Y8 (pv 3) Za (fun _ _=>rfl)) (Z0 (Zh Y8 (pv 3) Za (fun _ _=>rfl)) Z8))))))),?_⟩
  have nN:=bg.nN
  have n1:=bg.m1
  have ln:(as.map fun r=>mulR' r (-1,1)).length=c:=by rw[List.length_map];exact la
  refine⟨_,rfl,_,rfl,_,rfl,g,as,M,rfl,hg,by omega,ra.good,by omega,by omega,fun g2 H1 S1 R1=>?_⟩
  refine⟨l,g2,c,n,N,M,os,_,_,_,rfl,⟨vs,S1 _ _ hl,Yo hP (Ext.same S1)⟩,bg,R1,ln,Z14 ra,wl,hc2,hc,fun t q va lo v H2 S2 mv gv sv sq=>?_⟩
  refine⟨_,rfl,t,_,_,_,rfl,rfl,sq,Zg (j:=0) rfl,c_NOUGHT,va,(0,1),v,N+M,rfl,s_NOUGHT _,sv,⟨bd0 _,Yz 1 (by decide) (by omega),by decide,by decide⟩,gv,by omega,fun m H3 fm S3 e3=>?_⟩
  rw[Ld gv.low] at e3
  have rr:RowR c as:=⟨la,_,_,_,ra⟩
  have lv:=mv.leastq bg.rows rr.lows la
  have sq3:=Zq S3 sq
  refine⟨_,rfl,t,_,_,_,rfl,rfl,sq3,Zg (j:=1) rfl,_,rfl,t,_,_,_,rfl,rfl,sq3,Zg (j:=2) rfl,sz3,fun t2 hp=>?_⟩
  have S4:Same H3 (upd H3 t2 (.tup [.ref m,.ref q,.ref lo])):=Same.new hp
  exact k t2 q m lo _ _ ((S1.trans S2).trans (S3.trans S4)) lv (SqT.of (S4 _ _ e3)) (SqT.of Zb)
end
section
variable {P:Program}{w:World}{K:W.Frag}{mg:Str->Option Value}{base:Heap}
def gE (K:W.Frag):Sp:=fun vs H Q _=>∃ (l1 l2:Addr) (c:Nat) (os1 os2:List Offr),vs=[.ref l1,.ref l2]/\OffsAt K H l1 c os1/\OffsAt K H l2 c os2/\os1.length+os2.length<=100/\∀ (l:Addr) (H':Hp),Same H H'->OffsAt K H' l c (os1++os2)->Q (.ref l) H'
theorem Nw:FnScope ["one","other"] ["one","other"] (defScope lF):=fsc
theorem Cb (D:Def K mg "joined" lF ["one","other"])(T:Blt mg):Has P w K mg base 1 "joined" ["one","other"] (gE K):=by
 refine D.has fun f fd F=>F.ok Nw (fun vs H Q E h=>?_) (fun cdv A outer s H vs Q E hr h=>?_)
 ·obtain⟨l1,l2,c,os1,os2,rfl,_⟩:=h
  rfl
 ·obtain⟨l1,l2,c,os1,os2,rfl,⟨v1,h1,p1⟩,⟨v2,h2,p2⟩,few,k⟩:=h
  have sc:=Nw
  refine⟨_,(Zc (Zj (Zl Rk (Zy Yv rfl T.list PyProof.Rows.boot_list (Z0 (pv 0) Z8)) (Zy Yv rfl T.list PyProof.Rows.boot_list (Z0 (pv 1) Z8))))),?_⟩
  have n1:=Paired.length p1
  have n2:=Paired.length p2
  refine⟨_,rfl,l1,v1,rfl,.inl (SqL.of h1),fun a1 ha1=>?_⟩
  have T1:=Same.new (o:=.lst v1) ha1
  have f1:upd H a1 (.lst v1) a1=some (.lst v1):=Zb
  generalize upd H a1 (.lst v1)=H1 at *
  refine⟨_,rfl,l2,v2,rfl,.inl (SqL.of (T1 _ _ h2)),fun a2 ha2=>?_⟩
  have T2:=Same.new (o:=.lst v2) ha2
  have f2:upd H1 a2 (.lst v2) a2=some (.lst v2):=Zb
  generalize upd H1 a2 (.lst v2)=H2 at *
  refine⟨a1,a2,_,_,rfl,rfl,T2 _ _ f1,f2,Zp (by omega),fun l hl=>?_⟩
  have T3:=Same.new (o:=.lst (v1++v2)) hl
  have S:=(T1.trans T2).trans T3
  exact k l _ S ⟨_,Zb,Paired.appP (Yo p1 (Ext.same S)) (Yo p2 (Ext.same S))⟩
def fT (K:W.Frag):Sp:=fun vs H Q _=>∃ (l1 l2:Addr) (c N N':Nat) (os1 os2:List Offr),vs=[.int (c:Int),.ref l1,.ref l2]/\OffsAt K H l1 c os1/\OffsAt K H l2 c os2/\BookP c N (os1++os2)/\BookM c 114 N' (N+119) os1/\BookM c 114 N' (N+119) os2/\(gainsP os1 os1.length).length<=24/\os1.length+os2.length<=100/\(∃ W,Wts c (gainsP os1 os1.length) W)/\(∃ W,Wts c (gainsP os2 os2.length) W)/\gainsP (os1++os2) (os1++os2).length=gainsP os1 os1.length++gainsP os2 os2.length/\(∀ rs∈gainsP os1 os1.length,rs.length=c/\∃ D Z,RepL 114 D Z rs)/\2<=c/\c<=100 ∧
 (∀ (H':Hp),Same H H'->(∃ W,WtsQ c (gainsP os1 os1.length++gainsP os2 os2.length) W)->Q .non H') ∧
 (∀ (t ar ah al:Addr) (R:List Rat) (H':Hp),Same H H'->SqT K H' t [.ref ar,.ref ah,.ref al]->RowAt K H' ar R->PartR c (gainsP os1 os1.length) (gainsP os2 os2.length) R->(∃ D U,RepL (N+119) D U R)->Q (.ref t) H')
theorem Ql:FnScope ["count","one","other","told","mine","row","high","low"] ["count","one","other"] (defScope kP):=fsc
set_option maxHeartbeats 800000 in
theorem Gf (D:Def K mg "parting" kP ["count","one","other"])(T:Blt mg)(jK:Has P w K mg base 6 "judged" ["count","offers"] (fU K))(jL:Has P w K mg base 1 "joined" ["one","other"] (gE K))(fS:Has P w K mg base 5 "gains" ["offers"] (eN K))(jM:Has P w K mg base 5 "come_to" ["count","rows","multiples"] (fW K))(gJ:Has P w K mg base 6 "upper" ["count","offers","row"] (fO K))(jT:Has P w K mg base 7 "lower" ["count","offers","row"] (gD K)):Has P w K mg base 8 "parting" ["count","one","other"] (fT K):=by
 refine D.has fun f fd F=>F.ok Ql (fun vs H Q E h=>?_) (fun cdv A outer s H vs Q E hr h=>?_)
 ·obtain⟨l1,l2,c,N,N',os1,os2,rfl,_⟩:=h
  rfl
 ·obtain⟨l1,l2,c,N,N',os1,os2,rfl,⟨v1,h1,p1⟩,⟨v2,h2,p2⟩,bp,b1,b2,few1,few,w1,w2,eg,rep1,hc2,hc,kF,kB⟩:=h
  have sc:=Ql
  refine⟨_,(Z9 (Zi (i:=3) sc.nd rfl (Or.inl rfl) (Ze jK hr (Z0 (pv 0) (Z0 (Ze jL hr (Z0 (pv 1) (Z0 (pv 2) Z8))) Z8))))
   (Z9 (Yd (Zn W0 (Zh Y8 (pv 3) Za (fun _ _=>rfl)) Xo (Zt _))
    (Zc (Zj Yr))
    Zu)
   (Z9 (Zi (i:=4) sc.nd rfl (Or.inl rfl) (Ze fS hr (Z0 (pv 1) Z8)))
   (Z9 (Zi (i:=5) sc.nd rfl (Or.inl rfl) (Ze jM hr (Z0 (pv 0) (Z0 (pv 4) (Z0 (Ds Bz (Zh Y8 (pv 3) Za (fun _ _=>rfl)) Z08 (Z07 (Zz Y4 rfl T.len boot_len (Z0 (pv 4) Z8)))) Z8)))))
   (Z9 (Zi (i:=6) sc.nd rfl (Or.inl rfl) (Zh Y8 (Ze gJ hr (Z0 (pv 0) (Z0 (pv 1) (Z0 (pv 5) Z8)))) Za (fun _ _=>rfl)))
   (Z9 (Zi (i:=7) sc.nd rfl (Or.inl rfl) (Zh Y8 (Ze jT hr (Z0 (pv 0) (Z0 (pv 2) (Z0 (pv 5) Z8)))) Za (fun _ _=>rfl)))
   (Zc (Zj (Yf (Z0 (pv 5) (Z0 (pv 6) (Z0 (pv 7) Z8)))))))))))),?_⟩
  refine⟨_,rfl,_,rfl,_,rfl,l1,l2,c,os1,os2,rfl,⟨v1,h1,p1⟩,⟨v2,h2,p2⟩,few,fun lj H1 S1 hj=>?_⟩
  refine⟨lj,c,N,os1++os2,rfl,hj,bp,hc2,hc,fun t q ns H2 S2 hq ht beat ⟨nb,hnb,bn⟩=>?_,fun t lo H2 S2 ht hw=>?_⟩
  case refine_2 =>
   rw[eg] at hw
   exact⟨_,rfl,t,_,_,_,rfl,rfl,ht,Zg (j:=0) rfl,rfl,_,rfl,Ti (kF _ (S1.trans S2) hw)⟩
  rw[eg] at beat
  refine⟨_,rfl,t,_,_,_,rfl,rfl,ht,Zg (j:=0) rfl,rfl,_,rfl,Wf ?_⟩
  have S02:=S1.trans S2
  refine⟨_,rfl,l1,c,114,os1,rfl,⟨v1,S02 _ _ h1,Yo p1 (Ext.same S02)⟩,b1.few,by omega,by decide,b1.good,fun d H3 fd3 S3 hR3=>?_⟩
  have S03:=S02.trans S3
  obtain⟨ads,hd,hA⟩:=hR3
  have la:=Paired.length hA
  refine⟨_,rfl,_,rfl,_,rfl,t,_,_,_,rfl,rfl,Zq S3 ht,Zg (j:=1) rfl,?_⟩
  have lads:(ads.map V.ref).length=(gainsP os1 os1.length).length:=by rw[List.length_map];exact la
  have lns:=beat.len
  rw[List.length_append] at lns
  have hq3:=S3 _ _ hq
  refine⟨_,rfl,d,_,rfl,.inl (SqL.of hd),_,rfl,q,_,rfl,SqL.of hq3,fun pq hpq=>?_⟩
  have ec:cutV (ns.map V.int) none (some (((ads.map V.ref).length:Nat):Int))=(ns.take (gainsP os1 os1.length).length).map V.int:=by
   rw[Z33 (by rw[lads,List.length_map];omega),lads,List.map_take]
  rw[ec]
  have T4:=Same.new (o:=.lst ((ns.take (gainsP os1 os1.length).length).map V.int)) hpq
  have f4:upd H3 pq (.lst ((ns.take (gainsP os1 os1.length).length).map V.int)) pq=some (.lst ((ns.take (gainsP os1 os1.length).length).map V.int)):=Zb
  generalize upd H3 pq (.lst ((ns.take (gainsP os1 os1.length).length).map V.int))=H4 at *
  have nN:=bp.nN
  refine⟨d,pq,c,gainsP os1 os1.length,ns.take (gainsP os1 os1.length).length,nb+1,rfl,⟨ads,T4 _ _ hd,Yg hA (Ext.same T4)⟩,f4,beat.lt,few1,by omega,fun rs hr=>⟨(rep1 rs hr).1,fun r h=>(rep1 rs hr).2.elim fun D z=>z.elim fun Z y=>(y.good r h).mono (by decide)⟩,by omega,by omega,fun z hz=>(bn z (List.mem_of_mem_take hz)).mono (by omega),fun ar H5 S5 R5=>?_⟩
  have rows1:∀ rs∈gainsP os1 os1.length,RowR c rs:=fun rs hr=>RowR.of (rep1 rs hr).1 (rep1 rs hr).2
  have part:=beat.part rows1
  obtain⟨DR,UR,rR⟩:=beat.rep rep1 (by omega)
  replace R5:RowAt K H5 ar (comeW c (gainsP os1 os1.length) (intR (ns.take (gainsP os1 os1.length).length))):=R5
  generalize comeW c (gainsP os1 os1.length) (intR (ns.take (gainsP os1 os1.length).length))=R at *
  have S05:=(S03.trans T4).trans S5
  have rR':RepL (N+119) DR UR R:=rR
  refine⟨_,rfl,_,rfl,_,rfl,l1,ar,c,114,N',N+119,os1,R,_,_,rfl,⟨v1,S05 _ _ h1,Yo p1 (Ext.same S05)⟩,b1,R5,part.len,rR',w1,hc2,hc,fun t6 q6 va6 lo6 u6 H6 S6 mv gv sv6 ht6=>?_⟩
  have S06:=S05.trans S6
  refine⟨t6,_,_,_,rfl,rfl,ht6,Zg (j:=0) rfl,?_⟩
  refine⟨_,rfl,_,rfl,_,rfl,l2,ar,c,114,N',N+119,os2,R,_,_,rfl,⟨v2,S06 _ _ h2,Yo p2 (Ext.same S06)⟩,b2,R5.same S6,part.len,rR',w2,hc2,hc,fun t7 q7 va7 lo7 u7 H7 S7 lv sv7 ht7=>?_⟩
  refine⟨t7,_,_,_,rfl,rfl,ht7,Zg (j:=0) rfl,?_⟩
  refine⟨_,rfl,_,rfl,_,rfl,sz3,fun tt htt=>?_⟩
  have S8:=Same.new (o:=.tup [.ref ar,.ref va6,.ref va7]) htt
  exact kB tt ar va6 va7 R _ ((S06.trans S7).trans S8) (SqT.of Zb) (R5.same ((S6.trans S7).trans S8)) part ⟨_,_,rR'⟩
theorem Qo:FnScope ["_law_offers","_law_rows","_law_row_here","_law_ask","_law_bid","_law_event_here"] ["_law_offers"] (defScope lD):=fsc
set_option maxHeartbeats 800000 in
theorem Gj (D:Def K mg "_law_gains" lD ["_law_offers"])(eJ:Z7 P w K mg base)(T:Blt mg)(eK:Has P w K mg base 1 "_law_inside" ["_law_row_here","_law_event_here"] (fQ K)):Has P w K mg base 4 "_law_gains" ["_law_offers"] (eN K):=by
 refine D.has fun f fd F=>F.ok Qo (fun vs H Q E h=>?_) (fun cdv A outer s H vs Q E hr h=>?_)
 ·obtain⟨l,c,n,os,rfl,_⟩:=h
  rfl
 ·obtain⟨l,c,n,os,rfl,⟨vs,hl,hO⟩,hlen,hc,hn,g,k⟩:=h
  have sc:=Qo
  have nd1:(["_law_part","_law_ask"]:List Str).Nodup:=by decide +kernel
  have nd2:(["_law_part","_law_bid"]:List Str).Nodup:=by decide +kernel
  refine⟨_,(Z9 (Zi (i:=1) sc.nd rfl (Or.inl rfl) (Xz Z8))
   (Z9 (Xn PassesOwn.never rfl (Xs (pv 0)) (Ww (n:=4) rfl (Yb (Zk (i:=2) sc.nd rfl (Or.inl rfl)) (Yb (Zk (i:=3) sc.nd rfl (Or.inr rfl)) (Yb (Zk (i:=4) sc.nd rfl (Or.inr rfl)) (Yb (Zk (i:=5) sc.nd rfl (Or.inl rfl)) Xt)))))
    (Z9 (X4 (Yd (Zn Uj (pv 3) Yr (Zt _))
     (Zc (Xh (Wj PySem.F.plainAttrs_list PySem.F.slot_list_append PySem.F.type_list_append Ym (pv 1) (Z0 (Ze eK hr (Z0 (Zy Zv rfl T.tuple PyProof.Rows.boot_tuple (Z0 (Yk (N:=["_law_part","_law_ask"]) (k:=1) (fv:=[3]) rfl (Vc (pv 2))
   (fun _ _ _ _ _=>Zk (i:=0) nd1 rfl (Or.inl rfl)) (fun _ _ _ _ _=>Y7) (fun _ _ _ _ _=>(Ze eJ hr (Z0 (pv 0) (Z0 (pv 1) Z8)))) Zw) Z8)) (Z0 (pv 5) Z8))) Z8))))
     Zu))
    (Zc (Yd (Zn Uj (pv 4) Yr (Zt _))
     (Zc (Xh (Wj PySem.F.plainAttrs_list PySem.F.slot_list_append PySem.F.type_list_append Ym (pv 1) (Z0 (Ze eK hr (Z0 (Zy Zv rfl T.tuple PyProof.Rows.boot_tuple (Z0 (Yk (N:=["_law_part","_law_bid"]) (k:=1) (fv:=[4]) rfl (Vc (pv 2))
   (fun _ _ _ _ _=>Zk (i:=0) nd2 rfl (Or.inl rfl)) (fun _ _ _ _ _=>Y7) (fun _ _ _ _ _=>(Ze eJ hr (Z0 (pv 1) (Z0 (pv 0) Z8)))) Zw) Z8)) (Z0 (pv 5) Z8))) Z8))))
     Zu))))
   (Zc (Zj (pv 1))))),?_⟩
  have lo:=Paired.length hO
  refine⟨sz0,fun d hd=>?_⟩
  have S0:Same H (upd H d (.lst [])):=Same.new hd
  have up:∀ (zs:List V) (H1:Hp),Same H H1->Same H (upd H1 d (.lst zs)):=fun zs H1 S1 q o e=>by
   rw[Zf (Zd e hd)]
   exact S1 _ _ e
  have glen:∀ i,i<=os.length->(gainsP os i).length<=2*i:=fun i _=>by rw[← Vr,List.length_map];exact V9 os i
  refine⟨_,rfl,l,rfl,⟨_,SqL.of (S0 _ _ hl)⟩,Uu (K:=K) (a:=l) (xs:=vs) (fun i σ H'=>Same H H'/\∃ (as:List Addr) (x1 x2 x3 x4:Option V),σ=[some (.ref l),some (.ref d),x1,x2,x3,x4]/\H' d=some (.lst (as.map V.ref))/\Paired (RowAt K H') as (gainsP os i)) ⟨S0,[],none,none,none,none,rfl,Zb,.nil⟩ (fun i σ H' _ h=>SqL.of (h.1 _ _ hl)) ?_ ?_⟩
  ·rintro i v σ H1 hi ⟨S1,as,x1,x2,x3,x4,rfl,hd1,P1⟩
   have hiv:i<vs.length:=(List.getElem?_eq_some_iff.mp hi).1
   have hio:i<os.length:=by omega
   have eo:os[i]?=some (os.getD i offD):=by simp[List.getD,hio]
   have hv:=(Paired.getB hO hi eo).same S1
   have go:=g _ (List.mem_of_getElem? eo)
   have gl:=glen i (by omega)
   have ga:=Ty os i
   generalize os.getD i offD=o at *
   obtain⟨p,ar,va,vb,ve,rfl,hp,hR,hrl,hA,hB,hE⟩:=hv
   have la1:=Paired.length P1
   refine⟨p,_,rfl,hp,rfl,_,_,rfl,_,_,rfl,_,_,rfl,_,_,rfl,rfl,?_⟩
   obtain⟨xs,hxs,hrs⟩:=hR
   have lx:=hrs.len
   refine⟨fun σ H'=>SameX d H1 H'/\Same H H'/\∃ as':List Addr,σ=[some (.ref l),some (.ref d),some (.ref ar),some va,some vb,some ve]/\H' d=some (.lst (as'.map V.ref))/\Paired (RowAt K H') as' (gainsP os i++(if o.ask.isSome then [gainR o true] else [])),?_,?_⟩
   ·refine⟨_,rfl,rfl,_,rfl,?_⟩
    cases e:o.ask with
    | none =>
     rw[e] at hA
     have z:va=V.non:=hA
     subst z
     exact Wf ⟨SameX.refl _ _,S1,as,rfl,hd1,by simpa using P1⟩
    | some r =>
     rw[e] at hA
     obtain⟨ab,rfl,hab⟩:=hA
     refine Qy (fun z=>nomatch z) ?_
     refine⟨_,rfl,.inl ⟨rfl,_,SqL.of hd1⟩,_,rfl,ar,rfl,⟨_,hxs⟩,fun dd hdd=>?_⟩
     refine⟨o.row.length,fun j ys H2=>Same H1 H2/\Rs K H2 ((o.row.map fun x=>subR x r).take j) ys,Zp (by omega),⟨Same.new hdd,.nil⟩,?_,?_⟩
     ·rintro j ys H2 hj ⟨S2,R2⟩ hd2
      refine⟨⟨xs,xs[j]'(by omega),Zq S2 hxs,by simp⟩,?_⟩
      rintro x H3 ⟨rfl,fx⟩
      obtain⟨x0,er,ix⟩:=hrs.back (fx xs (Zq S2 hxs))
      obtain⟨a1,rfl,sq1⟩:=ix.ext (Ext.same S2)
      refine Ye ?_
      refine⟨_,rfl,_,rfl,a1,ab,x0,r,n,rfl,sq1,Zq S2 hab,go.row x0 (List.mem_of_getElem? er),go.ask r e,hn,fun c4 H4 f4 S4 e4=>?_⟩
      have hd4:=S4 _ _ hd2
      refine⟨hd4,fun q o' e=>?_,?_⟩
      ·rw[Zf (Zd e hdd)]
       exact S4 _ _ (S2 _ _ e)
      ·rw[Wz _ er]
       exact (R2.ext ((Ext.same S4).trans (Ext.upd hd4))).snoc ⟨c4,rfl,(Ext.upd hd4).sq (SqT.of e4)⟩
     ·rintro ys H2 ⟨S2,R2⟩ hd2
      rw[List.take_of_length_le (by rw[List.length_map];omega)] at R2
      refine⟨⟨xs,Zq S2 hxs,by omega⟩,dd,ys,rfl,.inl ⟨SqL.of hd2,fun lt hlt=>?_⟩⟩
      have S2t:=S2.trans (Same.new (o:=.tup ys) hlt)
      have Rt:RowAt K (upd H2 lt (.tup ys)) lt _:=⟨ys,SqT.of Zb,R2.ext (Ext.new hlt)⟩
      generalize upd H2 lt (.tup ys)=H2t at *
      refine⟨_,rfl,lt,ve,_,o.ev,rfl,Rt,by rw[List.length_map,hrl];exact hE.same S2t,by rw[List.length_map];omega,fun p' H' S' R'=>?_⟩
      have S1':=S2t.trans S'
      have hd':=S1' _ _ hd1
      refine⟨d,_,_,rfl,rfl,hd',Xl (by rw[List.length_map];omega),(SameX.of S1').trans (SameX.upd d H' _),up _ _ (S1.trans S1'),as++[p'],rfl,by rw[Zb,List.map_append];rfl,?_⟩
      ·have hg:cutR o.ev (o.row.map fun x=>subR x r)=gainR o true:=by unfold gainR;rw[e];rfl
       rw[hg] at R'
       simp only [Option.isSome_some,if_true]
       exact Paired.snoc (Yg P1 ((Ext.same S1').trans (Ext.upd hd'))) (R'.ext (Ext.upd hd'))
   ·rintro σ H2 ⟨SX,S2,as',rfl,hd2,P2⟩
    have x2:Ext H1 H2:=Ext.x SX hd1
    replace hxs:=x2.sq hxs
    replace hrs:=hrs.ext x2
    replace hE:=hE.ext x2
    replace hB:=hB.ext x2
    have la2:=Paired.length P2
    have la3:(gainsP os i++(if o.ask.isSome then [gainR o true] else [])).length<=2*i+1:=by
     rw[List.length_append]
     have:(if o.ask.isSome then [gainR o true] else []).length<=1:=by split <;> simp
     omega
    refine⟨_,rfl,rfl,_,rfl,?_⟩
    cases e:o.bid with
    | none =>
     rw[e] at hB
     have z:vb=V.non:=hB
     subst z
     refine Wf ⟨S2,as',_,_,_,_,rfl,hd2,?_⟩
     rw[ga]
     unfold wordsO
     rw[e]
     cases ea:o.ask with
     | none=>rw[ea] at P2;simpa using P2
     | some r=>rw[ea] at P2;simpa using P2
    | some r =>
     rw[e] at hB
     obtain⟨ab,rfl,hab⟩:=hB
     refine Qy (fun z=>nomatch z) ?_
     refine⟨_,rfl,.inl ⟨rfl,_,SqL.of hd2⟩,_,rfl,ar,rfl,⟨_,hxs⟩,fun dd hdd=>?_⟩
     refine⟨o.row.length,fun j ys H3=>Same H2 H3/\Rs K H3 ((o.row.map fun x=>subR r x).take j) ys,Zp (by omega),⟨Same.new hdd,.nil⟩,?_,?_⟩
     ·rintro j ys H3 hj ⟨S3,R3⟩ hd3
      refine⟨⟨xs,xs[j]'(by omega),Zq S3 hxs,by simp⟩,?_⟩
      rintro x H4 ⟨rfl,fx⟩
      obtain⟨x0,er,ix⟩:=hrs.back (fx xs (Zq S3 hxs))
      obtain⟨a1,rfl,sq1⟩:=ix.ext (Ext.same S3)
      refine Ye ?_
      refine⟨_,rfl,_,rfl,ab,a1,r,x0,n,rfl,Zq S3 hab,sq1,go.bid r e,go.row x0 (List.mem_of_getElem? er),hn,fun c4 H5 f4 S4 e4=>?_⟩
      have hd4:=S4 _ _ hd3
      refine⟨hd4,fun q o' e=>?_,?_⟩
      ·rw[Zf (Zd e hdd)]
       exact S4 _ _ (S3 _ _ e)
      ·rw[Wz _ er]
       exact (R3.ext ((Ext.same S4).trans (Ext.upd hd4))).snoc ⟨c4,rfl,(Ext.upd hd4).sq (SqT.of e4)⟩
     ·rintro ys H3 ⟨S3,R3⟩ hd3
      rw[List.take_of_length_le (by rw[List.length_map];omega)] at R3
      refine⟨⟨xs,Zq S3 hxs,by omega⟩,dd,ys,rfl,.inl ⟨SqL.of hd3,fun lt hlt=>?_⟩⟩
      have S3t:=S3.trans (Same.new (o:=.tup ys) hlt)
      have Rt:RowAt K (upd H3 lt (.tup ys)) lt _:=⟨ys,SqT.of Zb,R3.ext (Ext.new hlt)⟩
      generalize upd H3 lt (.tup ys)=H3t at *
      refine⟨_,rfl,lt,ve,_,o.ev,rfl,Rt,by rw[List.length_map,hrl];exact hE.same S3t,by rw[List.length_map];omega,fun p' H' S' R'=>?_⟩
      have S2':=S3t.trans S'
      have hd':=S2' _ _ hd2
      refine⟨d,_,_,rfl,rfl,hd',Xl (by rw[List.length_map];omega),up _ _ (S2.trans S2'),as'++[p'],_,_,_,_,rfl,by rw[Zb,List.map_append];rfl,?_⟩
      have hg:cutR o.ev (o.row.map fun x=>subR r x)=gainR o false:=by unfold gainR;rw[e];rfl
      rw[hg] at R'
      have P3:=Paired.snoc (Yg P2 ((Ext.same S2').trans (Ext.upd (o:=.lst (as'.map V.ref++[.ref p'])) hd'))) (R'.ext (Ext.upd hd'))
      rw[ga]
      unfold wordsO
      rw[e]
      cases ea:o.ask with
      | none=>rw[ea] at P3;simpa using P3
      | some r=>rw[ea] at P3;simpa using P3
  ·rintro σ H1 ⟨S1,as,x1,x2,x3,x4,rfl,hd1,P1⟩
   rw[lo] at P1
   exact⟨_,rfl,k d H1 hd S1 ⟨as,hd1,P1⟩⟩
end
theorem Wts.okW {c:Nat}{rss:List (List Rat)}{ls:List Rat}(w:Wts c rss ls)(as:List Rat):∃ N,LoadsOk c rss none as N ls (sumR (List.zipWith mulR' ls (cutR none as))):=by
 obtain⟨N,D,L,r⟩:=w.rep
 exact⟨N,w.len,⟨D,L,r⟩,w.nn,w.fit,w.lie,rfl⟩
theorem Wts.total {c:Nat}{rss:List (List Rat)}{ls:List Rat}(w:Wts c rss ls):sumR ls=(1,1):=(w.okW ls).elim fun _ h=>h.total
section
variable {P:Program}{w:World}{K:W.Frag}{mg:Str->Option Value}{base:Heap}
theorem Ki:FnScope ["_law_found"] ["_law_found"] (defScope lJ):=fsc
theorem Z0j (D:Def K mg "_law_whole" lJ ["_law_found"])(T:Blt mg):Has P w K mg base 1 "_law_whole" ["_law_found"] eX:=by
 refine D.has fun f fd F=>F.ok Ki (fun vs H Q E h=>?_) (fun cdv A outer s H vs Q E hr h=>?_)
 ·obtain⟨i,rfl,_⟩:=h
  rfl
 ·obtain⟨i,rfl,q⟩:=h
  have sc:=Ki
  refine⟨_,(Zc (Zj (Lv (Zz Xy rfl T.isinstance PyProof.Rows.boot_isinstance (Z0 (pv 0) (Z0 (Qr T.int PyProof.Rows.boot_int) Z8))) (Pl (Dt (Zz Xy rfl T.isinstance PyProof.Rows.boot_isinstance (Z0 (pv 0) (Z0 (Qr T.bool PyProof.Rows.boot_bool) Z8)))))))),?_⟩
  refine⟨_,rfl,_,_,_,_,rfl,TyOf.int i,Uq,_,rfl,Ti ?_⟩
  exact⟨_,rfl,_,_,_,_,rfl,TyOf.int i,Ur,_,rfl,q⟩
def iN (K:W.Frag):Sp:=fun vs H Q _=>∃ (a:Addr) (r:Rat),vs=[.ref a,.ref a]/\SqT K H a [.int r.1,.int r.2]/\Q (.bl true) H
theorem Z1o:FnScope ["_law_found","_law_due"] ["_law_found","_law_due"] (defScope sIs):=fsc
theorem Z3f (D:Def K mg "_law_is" sIs ["_law_found","_law_due"])(T:Blt mg)(fX:Has P w K mg base 1 "_law_whole" ["_law_found"] eX):Has P w K mg base 2 "_law_is" ["_law_found","_law_due"] (iN K):=by
 refine D.has fun f fd F=>F.ok Z1o (fun vs H Q E h=>?_) (fun cdv A outer s H vs Q E hr h=>?_)
 ·obtain⟨a,r,rfl,_⟩:=h
  rfl
 ·obtain⟨a,r,rfl,hA,q⟩:=h
  have hU:=Nat.lt_of_succ_lt (Z1x hr)
  have sc:=Z1o
  refine⟨_,(Z9 (Yd (PW.pt (Vl (Wv (Xm (Zz Nc rfl T.isinstance PyProof.Rows.boot_isinstance (Z0 (pv 0) (Z0 (Qr T.tuple PyProof.Rows.boot_tuple) Z8))))) (Vl (Zn Qu (Zz Y4 rfl T.len boot_len (Z0 (pv 0) Z8)) Za (Zt _)) (Vl (Wv (Xm (Ze fX hr (Z0 (Zh Xj (pv 0) Za (fun _ _=>rfl)) Z8)))) (Vb (Wv (Xm (Ze fX hr (Z0 (Zh X7 (pv 0) Za (fun _ _=>rfl)) Z8)))))))))
    (Zc (Zj U1))
    Zu)
   (Zc (Zj (Vd (Dx (K:=K) hU) (pv 0) (pv 1) (Zt _))))),?_⟩
  refine⟨_,rfl,_,_,_,_,rfl,hA,Uq,_,rfl,Wf ?_⟩
  refine⟨_,rfl,a,_,rfl,.inr hA,rfl,_,rfl,Mo rfl ?_⟩
  refine⟨_,rfl,_,_,_,rfl,rfl,hA,_,rfl,_,rfl,Wf ?_⟩
  refine⟨_,rfl,_,_,_,rfl,rfl,hA,_,rfl,_,rfl,Wf ?_⟩
  refine⟨_,rfl,_,rfl,a,a,[r.1,r.2],[r.1,r.2],rfl,rfl,hA,hA,?_⟩
  rw[decide_eq_true rfl]
  exact q
def gY (K:W.Frag):Sp:=fun vs H Q _=>∃ (q:Addr) (ms:List Rat),vs=[.ref q,.int (ms.length:Int)]/\LstAt K H q ms/\(∀ m∈ms,0<=m.1)/\Q (.bl true) H
theorem Kr:FnScope ["_law_found","_law_many","_law_one"] ["_law_found","_law_many"] (defScope j5):=fsc
theorem Z0s (D:Def K mg "_law_multiples_like" j5 ["_law_found","_law_many"])(T:Blt mg)(gN:Has P w K mg base 2 "_law_is" ["_law_found","_law_due"] (iN K)):Has P w K mg base 3 "_law_multiples_like" ["_law_found","_law_many"] (gY K):=by
 refine D.has fun f fd F=>F.ok Kr (fun vs H Q E h=>?_) (fun cdv A outer s H vs Q E hr h=>?_)
 ·obtain⟨q,ms,rfl,_⟩:=h
  rfl
 ·obtain⟨q,ms,rfl,⟨xs,hq,hms⟩,nn,k⟩:=h
  have sc:=Kr
  refine⟨_,(Z9 (Yd (PW.pt (Vl (Wv (Xm (Zz Xy rfl T.isinstance PyProof.Rows.boot_isinstance (Z0 (pv 0) (Z0 (Qr T.list PyProof.Rows.boot_list) Z8))))) (Vb (Zn Qu (Zz Y4 rfl T.len boot_len (Z0 (pv 0) Z8)) (pv 1) (Zt _)))))
    (Zc (Zj U1))
    Zu)
   (Z9 (Xn PassesOwn.never rfl (Xs (pv 0)) (Zk (i:=2) sc.nd rfl (Or.inl rfl))
    (Zc (Yd (PW.pt (Vl (Wv (Xm (Ze gN hr (Z0 (pv 2) (Z0 (pv 2) Z8))))) (Vb (Zn Tv (Zh Xj (pv 2) Za (fun _ _=>rfl)) Za (Zt _)))))
     (Zc (Zj U1))
     Zu)))
   (Zc (Zj U1)))),?_⟩
  have lx:=hms.len
  refine⟨_,rfl,_,_,_,_,rfl,TyOf.lst hq,Uq,_,rfl,Wf ?_⟩
  refine⟨_,rfl,q,_,rfl,.inl (SqL.of hq),_,rfl,rfl,_,rfl,Mo (by rw[lx]) ?_⟩
  refine⟨_,rfl,q,rfl,⟨_,SqL.of hq⟩,Uu (K:=K) (a:=q) (xs:=xs) (fun i σ H'=>H'=H/\∃ (x:Option V),σ=[some (.ref q),some (.int (ms.length:Int)),x]) ⟨rfl,none,rfl⟩ (fun i σ H' _ h=>by rw[h.1];exact SqL.of hq) ?_ ?_⟩
  ·rintro i x σ H2 hix ⟨rfl,x1,rfl⟩
   obtain⟨r,er,b,rfl,hb⟩:=hms.back hix
   have n0:=nn r (List.mem_of_getElem? er)
   refine⟨_,rfl,_,rfl,b,r,rfl,hb,_,rfl,Wf ?_⟩
   refine⟨_,rfl,b,_,_,rfl,rfl,hb,_,_,rfl,rfl,_,rfl,?_⟩
   refine Xd (fun h=>absurd (of_decide_eq_true h) (by omega)) (fun _=>?_)
   exact⟨rfl,_,rfl⟩
  ·rintro σ H2 ⟨rfl,x1,rfl⟩
   exact k
def iH (K:W.Frag):Sp:=fun vs H Q _=>∃ (a l:Addr) (c n N:Nat) (us:List Rat) (rss:List (List Rat)),vs=[.ref a,.ref l]/\RowAt K H a us/\RowsAt K H l rss/\us.length=c/\(∃ D Us,RepL N D Us us)/\Wts c rss us/\(∀ rs∈rss,rs.length=c/\∃ D Zs,RepL n D Zs rs)/\n+N+10<=4000/\c<=100/\∀ (H':Hp),Same H H'->Q (.bl true) H'
theorem Fu:FnScope ["_law_weights_here","_law_rows","_law_some","_law_one","_law_row_here"] ["_law_weights_here","_law_rows"] (defScope j8):=fsc
set_option maxHeartbeats 800000 in
theorem Z2f (D:Def K mg "_law_weights_fit" j8 ["_law_weights_here","_law_rows"])(T:Blt mg)(gN:Has P w K mg base 2 "_law_is" ["_law_found","_law_due"] (iN K))(eF:Z3 P w K mg base)(fF:Has P w K mg base 4 "_law_mean" ["_law_weights_here","_law_row_here"] (fZ K)):Has P w K mg base 5 "_law_weights_fit" ["_law_weights_here","_law_rows"] (iH K):=by
 refine D.has fun f fd F=>F.ok Fu (fun vs H Q E h=>?_) (fun cdv A outer s H vs Q E hr h=>?_)
 ·obtain⟨a,l,c,n,N,us,rss,rfl,_⟩:=h
  rfl
 ·obtain⟨a,l,c,n,N,us,rss,rfl,hA,⟨ads,hl,hP⟩,lu,⟨D1,Us,rU⟩,wt,hrs,hN,hc,k⟩:=h
  obtain⟨xs,hxs,hus⟩:=hA
  have hU:=Nat.lt_of_succ_lt (Z1x hr)
  have sc:=Fu
  refine⟨_,(Z9 (Zi (i:=2) sc.nd rfl (Or.inl rfl) (Yf (Z0 Za (Z0 Za Z8))))
   (Z9 (Xn PassesOwn.never rfl (Vc (pv 0)) (Zk (i:=3) sc.nd rfl (Or.inl rfl))
    (Z9 (Yd (PW.pt (Vl (Wv (Xm (Ze gN hr (Z0 (pv 3) (Z0 (pv 3) Z8))))) (Vb (Zn Tv (Zh Xj (pv 3) Za (fun _ _=>rfl)) Za (Zt _)))))
     (Zc (Zj U1))
     Zu)
    (Zc (Zi (i:=2) sc.nd rfl (Or.inl rfl) (Ze eF hr (Z0 (pv 2) (Z0 (pv 3) Z8)))))))
   (Z9 (Xn PassesOwn.never rfl (Xs (pv 1)) (Zk (i:=4) sc.nd rfl (Or.inl rfl))
    (Zc (Yd (Zn Rj (Zh Xj (Ze fF hr (Z0 (pv 0) (Z0 (pv 4) Z8))) Za (fun _ _=>rfl)) Za (Zt _))
     (Zc (Zj U1))
     Zu)))
   (Zc (Zj (Vd (Dx (K:=K) hU) (pv 2) (Yf (Z0 Za (Z0 Za Z8))) (Zt _))))))),?_⟩
  have lp:=Paired.length hP
  have lx:=hus.len
  refine⟨sz2,fun p hp=>?_⟩
  have S0:Same H (upd H p (.tup [.int 0,.int 1])):=Same.new hp
  refine⟨_,rfl,a,rfl,⟨_,Zq S0 hxs⟩,N0 (K:=K) (a:=a) (xs:=xs) (fun i σ H'=>Same H H'/\∃ (p:Addr) (x:Option V),σ=[some (.ref a),some (.ref l),some (.ref p),x,none]/\SqT K H' p [.int (sumR (us.take i)).1,.int (sumR (us.take i)).2]) ⟨S0,p,none,rfl,SqT.of Zb⟩ (fun i σ H' _ h=>Zq h.1 hxs) ?_ ?_⟩
  ·rintro i x σ H2 hix ⟨S2,p2,x1,rfl,sqp⟩
   obtain⟨r,er,b,rfl,hb⟩:=(hus.ext (Ext.same S2)).back hix
   have hm:=List.mem_of_getElem? er
   have g:=rU.good r hm
   have nn:=wt.nn r hm
   refine⟨_,rfl,_,rfl,b,r,rfl,hb,_,rfl,Wf ?_⟩
   refine⟨_,rfl,b,_,_,rfl,rfl,hb,_,_,rfl,rfl,_,rfl,?_⟩
   have e0:decide (r.1<0)=false:=decide_eq_false (by omega)
   rw[e0]
   refine Wf ?_
   have gs:=(rU.take i).sumGood (k:=10) (by rw[List.length_take];omega)
   replace gs:Good (N+10) (sumR (us.take i)):=gs
   refine⟨_,rfl,_,rfl,p2,b,_,r,N+10,rfl,sqp,hb,gs,g.mono (by omega),by omega,fun p3 H3 f3 S3 e3=>?_⟩
   refine⟨S2.trans S3,p3,_,rfl,?_⟩
   rw[Qh er]
   exact SqT.of e3
  ·rintro σ H2 ⟨S2,p2,x1,rfl,sqp⟩
   rw[List.take_of_length_le (by omega),wt.total] at sqp
   refine⟨_,rfl,l,rfl,⟨_,SqL.of (S2 _ _ hl)⟩,Uu (K:=K) (a:=l) (xs:=ads.map V.ref) (fun i σ H'=>Same H2 H'/\∃ (x:Option V),σ=[some (.ref a),some (.ref l),some (.ref p2),x1,x]) ⟨Same.refl _,none,rfl⟩ (fun i σ H' _ h=>SqL.of (h.1 _ _ (S2 _ _ hl))) ?_ ?_⟩
   ·rintro i x σ H3 hix ⟨S3,x3,rfl⟩
    rw[List.getElem?_map] at hix
    cases ea:ads[i]? with
    | none=>rw[ea] at hix;cases hix
    | some ar =>
     rw[ea] at hix
     cases hix
     have hia:i<ads.length:=(List.getElem?_eq_some_iff.mp ea).1
     have hir:i<rss.length:=by omega
     have er:rss[i]?=some rss[i]:=by simp[hir]
     have S03:=S2.trans S3
     obtain⟨zs,hzs,hrz⟩:=(Paired.getB hP ea er).same S03
     have hm:=List.getElem_mem hir
     obtain⟨lr,D2,Zs,rz⟩:=hrs _ hm
     refine⟨_,rfl,_,rfl,a,ar,xs,zs,us,rss[i],N,n,D1,D2,Us,Zs,rfl,.inr (Zq S03 hxs),hus.ext (Ext.same S03),.inr hzs,hrz,by omega,by omega,rU,rz,by omega,fun cm H4 S4 e4=>?_⟩
     refine⟨cm,_,_,rfl,rfl,e4,_,_,rfl,rfl,_,rfl,?_⟩
     have ft:=wt.fit _ hm
     refine Xd (fun h=>absurd (of_decide_eq_true h) (by omega)) (fun h=>?_)
     exact⟨S3.trans S4,_,rfl⟩
   ·rintro σ H3 ⟨S3,x3,rfl⟩
    refine⟨_,rfl,sz2,fun p3 hp3=>?_⟩
    have S4:Same H3 (upd H3 p3 (.tup [.int 1,.int 1])):=Same.new hp3
    refine⟨p2,p3,[1,1],[1,1],rfl,rfl,Zq (S3.trans S4) sqp,SqT.of Zb,?_⟩
    rw[decide_eq_true rfl]
    exact k _ ((S2.trans S3).trans S4)
def iC (K:W.Frag):Sp:=fun vs H Q _=>∃ (l q:Addr) (c n N:Nat) (rss:List (List Rat)) (ms:List Rat) (D:Int) (E:Nat->Nat->Int),vs=[.int (c:Int),.ref l,.ref q]/\RowsAt K H l rss/\LstAt K H q ms/\ComeR c n N rss ms D E/\n<=4000/\N<=3900/\c<=100/\rss.length<=100 ∧
 ∀ (d:Addr) (cs:List Rat) (H':Hp),Same H H'->RowAt K H' d cs->RepL (N+10) D (comeE c rss.length E) cs->Q (.ref d) H'
theorem J1:FnScope ["_law_count","_law_rows","_law_multiples","_law_some","_law_k"] ["_law_count","_law_rows","_law_multiples"] (defScope mG):=fsc
set_option maxHeartbeats 800000 in
theorem Z12 (D:Def K mg "_law_come" mG ["_law_count","_law_rows","_law_multiples"])(T:Blt mg)(eF:Z3 P w K mg base)(eI:Z6 P w K mg base):Has P w K mg base 4 "_law_come" ["_law_count","_law_rows","_law_multiples"] (iC K):=by
 refine D.has fun f fd F=>F.ok J1 (fun vs H Q E h=>?_) (fun cdv A outer s H vs Q E hr h=>?_)
 ·obtain⟨l,q,c,n,N,rss,ms,D,E,rfl,_⟩:=h
  rfl
 ·obtain⟨l,q,c,n,N,rss,ms,D,En,rfl,⟨ads,hl,hP⟩,⟨xs,hq,hms⟩,cr,hn,hN,hc,hg,k⟩:=h
  have sc:=J1
  have nd1:(["_law_world"]:List Str).Nodup:=by decide +kernel
  have nd2:(["_law_w","_law_rows","_law_multiples","_law_some","_law_k"]:List Str).Nodup:=by decide +kernel
  refine⟨_,(Z9 (Zi (i:=3) sc.nd rfl (Or.inr rfl) (Zy Zv rfl T.tuple PyProof.Rows.boot_tuple (Z0 (Yk (N:=["_law_world"]) (k:=1) (fv:=[]) rfl (Yj rfl T.range (Z0 (pv 0) Z8))
   (fun _ _ _ _ _=>Zk (i:=0) nd1 rfl (Or.inl rfl)) (fun _ _ _ _ _=>Y7) (fun _ _ _ _ _=>(Yf (Z0 Za (Z0 Za Z8)))) Zw) Z8)))
   (Z9 (Xn PassesOwn.never rfl (Yj rfl T.range (Z0 (Zz Y4 rfl T.len boot_len (Z0 (pv 1) Z8)) Z8)) (Zk (i:=4) sc.nd rfl (Or.inr rfl))
    (Zc (Zi (i:=3) sc.nd rfl (Or.inr rfl) (Zy Zv rfl T.tuple PyProof.Rows.boot_tuple (Z0 (Yk (N:=["_law_w","_law_rows","_law_multiples","_law_some","_law_k"]) (k:=1) (fv:=[1,2,3,4]) rfl (Yj rfl T.range (Z0 (pv 0) Z8))
   (fun _ _ _ _ _=>Zk (i:=0) nd2 rfl (Or.inl rfl)) (fun _ _ _ _ _=>Y7) (fun _ _ _ _ _=>(Ze eF hr (Z0 (Zh (Mn (K:=K)) (pv 3) (pv 0) (fun _ _=>rfl)) (Z0 (Ze eI hr (Z0 (Zh (Mn (K:=K)) (Zh (Jg (K:=K)) (pv 1) (pv 4) (fun _ _=>rfl)) (pv 0) (fun _ _=>rfl)) (Z0 (Zh (Jg (K:=K)) (pv 2) (pv 4) (fun _ _=>rfl)) Z8))) Z8)))) Zw) Z8)))))
   (Zc (Zj (pv 3))))),?_⟩
  have lp:=Paired.length hP
  have lx:=hms.len
  have lm:=cr.lm
  have et:(c:Int).toNat=c:=by omega
  refine⟨_,rfl,(c:Int),rfl,(by omega),(by omega),fun d hd=>?_⟩
  rw[et]
  refine⟨c,fun i ys H'=>Same H H'/\Rs K H' (List.replicate i (0,1)) ys,Zp (by omega),⟨Same.new hd,.nil⟩,?_,?_⟩
  ·rintro i ys H10 hi ⟨S10,R10⟩ hd10
   refine⟨hi,?_⟩
   rintro x' H3 ⟨rfl,rfl⟩
   refine Ye ?_
   refine⟨sz2,fun p hp=>?_⟩
   have S11:Same H3 (upd H3 p (.tup [.int 0,.int 1])):=Same.new hp
   have hd11:=S11 _ _ hd10
   refine⟨hd11,fun q o' e=>?_,?_⟩
   ·rw[Zf (Zd e hd)]
    exact S11 _ _ (S10 _ _ e)
   ·rw[List.replicate_succ']
    exact (R10.ext ((Ext.same S11).trans (Ext.upd hd11))).snoc ⟨p,rfl,(Ext.upd hd11).sq (SqT.of Zb)⟩
  rintro ys0 H0 ⟨S0,R0⟩ hd0
  refine⟨Nat.le_refl _,d,ys0,rfl,.inl ⟨SqL.of hd0,fun lt0 hlt0=>?_⟩⟩
  have S00:Same H0 (upd H0 lt0 (.tup ys0)):=Same.new hlt0
  have e00:upd H0 lt0 (.tup ys0) lt0=some (.tup ys0):=Zb
  generalize upd H0 lt0 (.tup ys0)=H00 at *
  replace S0:=S0.trans S00
  replace R0:=R0.ext (Ext.same S00)
  refine⟨_,rfl,l,_,rfl,.inl (SqL.of (S0 _ _ hl)),((ads.map V.ref).length:Int),rfl,(by rw[List.length_map];omega),(by rw[List.length_map];omega),?_⟩
  have et2:(((ads.map V.ref).length:Nat):Int).toNat=rss.length:=by rw[List.length_map];omega
  rw[et2]
  refine Vx (lo:=0) (n:=rss.length) (fun i σ H'=>Same H H'/\∃ (dc:Addr) (cs:List Rat) (x:Option V),σ=[some (.int (c:Int)),some (.ref l),some (.ref q),some (.ref dc),x]/\RowAt K H' dc cs/\RepL (N+10) D (comeE c i En) cs) ⟨S0,lt0,_,none,rfl,⟨ys0,SqT.of e00,R0⟩,Z3s cr.pos cr.bD⟩ ?_ ?_
  ·rintro i σ H1 hi ⟨S1,dc,cs,x,rfl,⟨ys,hdc,Rc⟩,rep⟩
   have e0:(0+(i:Int))=((i:Nat):Int):=by omega
   rw[e0]
   have ea:ads[i]?=some (ads[i]'(by omega)):=by simp
   have er:rss[i]?=some rss[i]:=by simp[hi]
   have em:ms[i]?=some (ms[i]'(by omega)):=by simp
   obtain⟨us,hus,hrs⟩:=(Paired.getB hP ea er).same S1
   obtain⟨xm,exm,ixm⟩:=hms.at em
   obtain⟨am,rfl,sqm⟩:=ixm.ext (Ext.same S1)
   have hm:=List.getElem_mem hi
   have lr:=cr.len _ hm
   have gm:=cr.gm _ (List.mem_of_getElem? em)
   have lcs:cs.length=c:=by rw[← rep.len];unfold comeE;simp
   have lys:=Rc.len
   have lus:=hrs.len
   refine⟨_,rfl,(c:Int),rfl,(by omega),(by omega),fun d2 hd2=>?_⟩
   rw[et]
   refine⟨c,fun j zs H'=>Same H1 H'/\∃ ns,Rs K H' ns zs/\ns.length=j/\∀ (k:Nat) (r x:Rat),k<j->cs[k]?=some x->rss[i][k]?=some r->ns[k]?=some (addR x (mulR' r (ms[i]'(by omega)))),Zp (by omega),⟨Same.new hd2,[],.nil,rfl,fun k r x h=>by omega⟩,?_,?_⟩
   ·rintro j zs H3 hj ⟨S3,ns,R3,l3,h3⟩ hd3
    refine⟨hj,?_⟩
    rintro x' H4 ⟨rfl,rfl⟩
    have e1:(0+(j:Int))=((j:Nat):Int):=by omega
    rw[e1]
    refine Ye ?_
    have hjc:j<cs.length:=by omega
    have hjr:j<rss[i].length:=by omega
    obtain⟨yv,ey,iy⟩:=Rc.at (i:=j) (r:=cs[j]) (by simp[hjc])
    obtain⟨rv,ev,iv⟩:=hrs.at (i:=j) (r:=rss[i][j]) (by simp[hjr])
    obtain⟨ay,rfl,sqy⟩:=iy.ext (Ext.same S3)
    obtain⟨av,rfl,sqv⟩:=iv.ext (Ext.same S3)
    have gc:=rep.good cs[j] (List.getElem_mem hjc)
    have gr:=cr.gr _ hm rss[i][j] (List.getElem_mem hjr)
    have S13:=S1.trans S3
    refine⟨_,rfl,_,rfl,dc,_,_,_,rfl,rfl,Zq S3 hdc,Zg ey,?_⟩
    refine⟨_,rfl,_,rfl,l,_,_,_,rfl,rfl,SqL.of (S13 _ _ hl),Zg (by rw[List.getElem?_map,ea];rfl),_,rfl,_,_,_,_,rfl,rfl,Zq S3 hus,Zg ev,?_⟩
    refine⟨_,rfl,_,rfl,q,_,_,_,rfl,rfl,SqL.of (S13 _ _ hq),Zg exm,?_⟩
    refine⟨av,am,rss[i][j],ms[i]'(by omega),n,rfl,sqv,Zq S3 sqm,gr,gm,by omega,fun p5 H5 f5 S5 e5=>?_⟩
    obtain⟨ce1,ce2⟩:=cr.at_ i j _ _ _ er (show rss[i][j]?=some rss[i][j] by simp[hjr]) em
    have lp':=Xe gr.low gm.low
    have gp:Good N (mulR' rss[i][j] (ms[i]'(by omega))):=Vq cr.pos lp'.pos lp'.cop ce1 cr.bD ce2
    have bnd:N<=4000:=by omega
    refine⟨ay,p5,cs[j],mulR' rss[i][j] (ms[i]'(by omega)),4000,rfl,Zq S5 sqy,SqT.of e5,gc.mono (by omega),gp.mono bnd,by decide,fun p6 H6 f6 S6 e6=>?_⟩
    have hd6:=S6 _ _ (S5 _ _ hd3)
    refine⟨hd6,fun q' o' e=>?_,ns++[addR cs[j] (mulR' rss[i][j] (ms[i]'(by omega)))],(R3.ext ((Ext.same (S5.trans S6)).trans (Ext.upd hd6))).snoc ⟨p6,rfl,(Ext.upd hd6).sq (SqT.of e6)⟩,by rw[List.length_append,l3];rfl,fun kk r x hk ex ek=>?_⟩
    ·rw[Zf (Zd e hd2)]
     exact S6 _ _ (S5 _ _ (S3 _ _ e))
    ·by_cases qq:kk<ns.length
     ·rw[List.getElem?_append_left qq]
      exact h3 kk r x (by omega) ex ek
     ·have hkj:kk=j:=by omega
      subst hkj
      rw[List.getElem?_append_right (by omega),l3,Nat.sub_self]
      rw[List.getElem?_eq_getElem hjc] at ex
      rw[List.getElem?_eq_getElem hjr] at ek
      cases ex
      cases ek
      rfl
   ·rintro zs H3 ⟨S3,ns,R3,l3,h3⟩ hd3
    refine⟨Nat.le_refl _,d2,zs,rfl,.inl ⟨SqL.of hd3,fun lt hlt=>?_⟩⟩
    refine⟨(S1.trans S3).trans (Same.new hlt),lt,ns,_,rfl,⟨zs,SqT.of Zb,R3.ext (Ext.new hlt)⟩,Ff cr hi (by omega) er em rep l3 fun k r x ex ek=>?_⟩
    exact h3 k r x (by have:=(List.getElem?_eq_some_iff.mp ek).1;omega) ex ek
  ·rintro σ H1 ⟨S1,dc,cs,x,rfl,Rc,rep⟩
   exact⟨_,rfl,k dc cs H1 S1 Rc rep⟩
end
open Sv (sm)
section
variable {c:Nat}{rss:List (List Rat)}{as:List Rat}{T:Sv.Tab}
theorem MostT.valq {o:Option (Nat->Bool)}(h:MostT c rss o (cutR o as) T)(ra:RowR c as):Low (valueR c rss.length (cutR o as) T)/\qv (valueR c rss.length (cutR o as) T)*((lcmB (cutR o as):QQ)*(T.b:QQ))=((-T.L (rss.length+1) c:Int):QQ):=by
 have bp:=h.inv.pos
 obtain⟨gp,_⟩:=Qq (ra.cut o)
 have p2:=Int.mul_pos gp bp
 refine⟨Yp (by omega),?_⟩
 have e:qv (valueR c rss.length (cutR o as) T)=((-Sv.endOf (rss.length+2) c T (c+rss.length+1):Int):QQ) / ((lcmB (cutR o as)*T.b:Int):QQ):=Wu p2
 rw[← h.aim,(TabOk.of h.inv).endO (by omega),_root_.Rat.intCast_mul] at e
 rw[e]
 exact J7 (by have:=_root_.Rat.mul_pos (Yx gp) (Yx bp);grind)
theorem MostT.shown (h:MostT c rss none (cutR none as) T)(ra:RowR c as){k:Nat}(hk:k<c):(qr as k - qv (valueR c rss.length (cutR none as) T))*((lcmB (cutR none as):QQ)*(T.b:QQ))<=((sm rss.length (fun j=>AOf rss j k * -Sv.numAt c T (rss.length+1) (c+j)):Int):QQ):=by
 obtain⟨_,ev⟩:=h.valq ra
 obtain⟨gp,ge⟩:=Qq (ra.cut none)
 have s:=_root_.Rat.intCast_le_intCast.mpr (h.sv.show_ k hk)
 rw[_root_.Rat.intCast_add,_root_.Rat.intCast_mul,_root_.Rat.intCast_mul (rowF (papR c none) k),M9 hk,ge k hk,Vk,← ev] at s
 have i:inE none k=true:=rfl
 rw[i] at s
 simp only [if_true] at s
 grind
theorem MostT.hit9 (h:MostT c rss none (cutR none as) T)(rows:∀ rs∈rss,RowR c rs)(ra:RowR c as):∃ W,WtsQ c rss W/\sQ c (fun k=>qr W k*qr as k)=qv (valueR c rss.length (cutR none as) T):=by
 have cv:=h.conq rows ra
 obtain⟨W,w,e,_⟩:=cv.hit
 have wq:=w.toQ rows
 refine⟨W,wq,?_⟩
 have lg:=Yy wq.low (Vt (o:=none) ra.lows cv.low)
 have a:=(Wh lg.pos).mp (by omega)
 have b:=(Ui lg.pos).mp (by omega)
 rw[Pz wq.low wq.len ra.lows ra.1 cv.low] at a b
 have s1:qv (shR c none W)=1:=(Yw wq.low wq.len).trans wq.lie
 have e2:sQ c (fun k=>qr W k*qr (cutR none as) k)=sQ c (fun k=>qr W k*qr as k):=Zo fun k _=>by rw[Vk];rfl
 rw[s1,e2] at a b
 grind
end
end Sb
namespace Sb
open PySem L2
open Sv (sm)
theorem Lz {c n N1 X i:Nat}{rss:List (List Rat)}{T:Sv.Tab}{b:Int}(hrs:∀ rs∈rss,rs.length=c/\∃ D Ws,RepL n D Ws rs)(pos:0<T.b)(bn:∀ j,Bd N1 (Sv.numAt c T i (c+j)))(hb:0<b)(bb:Bd X (b*T.b))(hX:n+N1<=X):ComeR c X X rss (multR c rss T i b) (b*T.b) (fun j k=>AOf rss j k * -Sv.numAt c T i (c+j)):=by
 have p2:=Int.mul_pos hb pos
 refine⟨p2,bb,fun rs hr=>(hrs rs hr).1,Vo,fun rs hr r hr'=>?_,fun m hm=>?_,fun j k rs r m er ek em=>?_⟩
 ·obtain⟨_,D,Ws,rp⟩:=hrs rs hr
  exact (rp.good r hr').mono (by omega)
 ·obtain⟨j,hj⟩:=List.getElem?_of_mem hm
  have hjl:j<rss.length:=by have:=(List.getElem?_eq_some_iff.mp hj).1;rw[Vo] at this;exact this
  rw[Ps hjl] at hj
  cases hj
  obtain⟨_,D,Ws,rp⟩:=hrs _ (List.getElem_mem hjl)
  have b1:=(bn j).neg.mul rp.least.bD
  exact V3 (b1.mono (by omega)) bb (by omega)
 ·have hj:j<rss.length:=(List.getElem?_eq_some_iff.mp er).1
  have e0:rss[j]=rs:=by rw[List.getElem?_eq_getElem hj] at er;exact Option.some.inj er
  rw[Ps hj] at em
  cases em
  obtain⟨_,D,Ws,rp⟩:=hrs rs (List.mem_of_getElem? er)
  have ea:AOf rss j k=rowF rs k:=by rw[Z1l hj,e0]
  rw[ea,e0]
  have hk:k<rs.length:=(List.getElem?_eq_some_iff.mp ek).1
  have ew:(wholeB rs (lcmB rs))[k]?=some (rowF rs k):=by
   rw[Si ek]
   unfold wholeB
   rw[List.getElem?_map,ek]
   rfl
  obtain⟨a1,a2,a3⟩:=rp.least.at_ k _ _ ew ek
  have lp:=rp.least.pos
  have lo:=Yp (p:=-(Sv.numAt c T i (c+j))*lcmB rs) (q:=b*T.b) (by omega)
  have e:=Sk a3.pos lo.pos a1 (Yu (-(Sv.numAt c T i (c+j))*lcmB rs) (b*T.b))
  refine⟨?_,(a2.mul (bn j).neg).mono hX⟩
  have e':lcmB rs*((mulR' r (nrm (-(Sv.numAt c T i (c+j))*lcmB rs) (b*T.b))).1*(b*T.b))=lcmB rs*(rowF rs k * -(Sv.numAt c T i (c+j))*(mulR' r (nrm (-(Sv.numAt c T i (c+j))*lcmB rs) (b*T.b))).2):=by
   have h1:lcmB rs*((mulR' r (nrm (-(Sv.numAt c T i (c+j))*lcmB rs) (b*T.b))).1*(b*T.b))=(mulR' r (nrm (-(Sv.numAt c T i (c+j))*lcmB rs) (b*T.b))).1*(lcmB rs*(b*T.b)):=by grind
   rw[h1]
   refine e.trans ?_
   show rowF rs k*(-(Sv.numAt c T i (c+j))*lcmB rs)*(mulR' r (nrm (-(Sv.numAt c T i (c+j))*lcmB rs) (b*T.b))).2=_
   grind
  exact Int.eq_of_mul_eq_mul_left (by omega) e'
theorem ComeR.app {c X Y:Nat}{r1 r2:List (List Rat)}{m1 m2:List Rat}{D1 D2:Int}{E1 E2:Nat->Nat->Int}(h1:ComeR c X X r1 m1 D1 E1)(h2:ComeR c X X r2 m2 D2 E2)(hY:X+X<=Y):ComeR c X Y (r1++r2) (m1++m2) (D1*D2) (fun j k=>if j<r1.length then E1 j k*D2 else E2 (j - r1.length) k*D1):=by
 have l1:=h1.lm
 have l2:=h2.lm
 refine⟨Int.mul_pos h1.pos h2.pos,(h1.bD.mul h2.bD).mono hY,fun rs hr=>?_,by rw[List.length_append,List.length_append,l1,l2],fun rs hr=>?_,fun m hm=>?_,fun j k rs r m er ek em=>?_⟩
 ·rcases List.mem_append.mp hr with h | h
  ·exact h1.len rs h
  ·exact h2.len rs h
 ·rcases List.mem_append.mp hr with h | h
  ·exact h1.gr rs h
  ·exact h2.gr rs h
 ·rcases List.mem_append.mp hm with h | h
  ·exact h1.gm m h
  ·exact h2.gm m h
 ·by_cases q:j<r1.length
  ·rw[List.getElem?_append_left q] at er
   rw[List.getElem?_append_left (by omega)] at em
   obtain⟨a,b⟩:=h1.at_ j k rs r m er ek em
   rw[if_pos q]
   exact⟨by rw[← Int.mul_assoc,a];grind,(b.mul h2.bD).mono hY⟩
  ·rw[List.getElem?_append_right (by omega)] at er
   rw[List.getElem?_append_right (by omega),l1] at em
   obtain⟨a,b⟩:=h2.at_ (j - r1.length) k rs r m er ek em
   rw[if_neg q]
   refine⟨?_,(b.mul h1.bD).mono hY⟩
   have:(mulR' r m).1*(D1*D2)=(mulR' r m).1*D2*D1:=by grind
   rw[this,a]
   grind
theorem Y1 (f:Nat->Int)(m:Nat):∀ (n:Nat),sm (m+n) f=sm m f+sm n (fun k=>f (m+k))
 | 0=>by show sm m f=sm m f+0;omega
 | n+1=>by
  show sm (m+n) f+f (m+n)=sm m f+(sm n (fun k=>f (m+k))+f (m+n))
  rw[Y1 f m n]
  omega
end Sb
namespace Sb
open PySem L2
open Sv (sm)
theorem Uz {f g:Nat->Int}:∀ {n:Nat},(∀ k,k<n->f k=g k)->sm n f=sm n g
 | 0,_=>rfl
 | n+1,h=>by
  show sm n f+f n=sm n g+g n
  rw[Uz fun k hk=>h k (by omega),h n (by omega)]
theorem Fs (f:Nat->Int)(a:Int):∀ n,sm n (fun k=>f k*a)=sm n f*a
 | 0=>by show (0:Int)=0*a;omega
 | n+1=>by
  show sm n (fun k=>f k*a)+f n*a=(sm n f+f n)*a
  rw[Fs f a n]
  grind
theorem Z1i {c:Nat}{r1 r2:List (List Rat)}{R S:List Rat}{T1 T2:Sv.Tab}(h1:MostT c r1 none (cutR none R) T1)(h2:MostT c r2 none (cutR none S) T2)(rows1:∀ rs∈r1,RowR c rs)(rows2:∀ rs∈r2,RowR c rs)(rR:RowR c R)(rS:RowR c S)(neg:∀ k,k<c->qr S k=-qr R k)(part:PartR c r1 r2 R){k:Nat}(hk:k<c) :
  0<sm (r1.length+r2.length) (fun j=>if j<r1.length then (AOf r1 j k * -Sv.numAt c T1 (r1.length+1) (c+j))*(lcmB (cutR none S)*T2.b) else (AOf r2 (j - r1.length) k * -Sv.numAt c T2 (r2.length+1) (c+(j - r1.length)))*(lcmB (cutR none R)*T1.b)):=by
 have a1:=h1.shown rR hk
 have a2:=h2.shown rS hk
 obtain⟨W1,w1,e1⟩:=h1.hit9 rows1 rR
 obtain⟨W2,w2,e2⟩:=h2.hit9 rows2 rS
 have p1:=part.one W1 w1
 have p2:=part.two W2 w2
 rw[Zo (g:=fun k=>(-1)*(qr W2 k*qr R k)) fun k hk=>by rw[neg k hk];grind,Yi] at e2
 rw[neg k hk] at a2
 obtain⟨g1,_⟩:=Qq (rR.cut none)
 obtain⟨g2,_⟩:=Qq (rS.cut none)
 have d1:=_root_.Rat.mul_pos (Yx g1) (Yx h1.inv.pos)
 have d2:=_root_.Rat.mul_pos (Yx g2) (Yx h2.inv.pos)
 rw[Y1,Uz (n:=r1.length) (g:=fun j=>(AOf r1 j k * -Sv.numAt c T1 (r1.length+1) (c+j))*(lcmB (cutR none S)*T2.b)) fun j hj=>if_pos hj,Uz (n:=r2.length) (g:=fun j=>(AOf r2 j k * -Sv.numAt c T2 (r2.length+1) (c+j))*(lcmB (cutR none R)*T1.b)) fun j hj=>by rw[if_neg (by omega),Nat.add_sub_cancel_left],Fs,Fs]
 generalize sm r1.length (fun j=>AOf r1 j k * -Sv.numAt c T1 (r1.length+1) (c+j))=S1 at *
 generalize sm r2.length (fun j=>AOf r2 j k * -Sv.numAt c T2 (r2.length+1) (c+j))=S2 at *
 refine _root_.Rat.intCast_pos.mp ?_
 rw[_root_.Rat.intCast_add,_root_.Rat.intCast_mul,_root_.Rat.intCast_mul,_root_.Rat.intCast_mul,_root_.Rat.intCast_mul]
 generalize (lcmB (cutR none R):QQ)*(T1.b:QQ)=x1 at *
 generalize (lcmB (cutR none S):QQ)*(T2.b:QQ)=x2 at *
 generalize qv (valueR c r1.length (cutR none R) T1)=v1 at *
 generalize qv (valueR c r2.length (cutR none S) T2)=v2 at *
 generalize qr R k=rk at *
 have q1:=_root_.Rat.mul_nonneg (show 0<=(S1:QQ) - (rk - v1)*x1 by grind) (_root_.Rat.le_of_lt d2)
 have q2:=_root_.Rat.mul_nonneg (show 0<=(S2:QQ) - (-rk - v2)*x2 by grind) (_root_.Rat.le_of_lt d1)
 have q3:=_root_.Rat.mul_pos (show 0 < -v1 - v2 by grind) (_root_.Rat.mul_pos d1 d2)
 grind
end Sb
namespace Sb
open PySem L2
section
variable {P:Program}{w:World}{K:W.Frag}{mg:Str->Option Value}{base:Heap}
def turnR (rs:List Rat):List Rat:=rs.map fun x=>subR (0,1) x
theorem Z04 {rs:List Rat}(h:Lows rs){k:Nat}(hk:k<rs.length):qr (turnR rs) k=-qr rs k:=by
 unfold turnR
 rw[Pj hk,Ph Um (Wk h k),Z03]
 unfold qr
 grind
theorem G3 {n:Nat}{D:Int}{Z:List Int}{rs:List Rat}(h:RepL n D Z rs):∃ Y,RepL n D Y (turnR rs):=RepL.each h.pos h.bD fun r hr=>by
 obtain⟨x,hx,rfl⟩:=List.mem_map.mp hr
 obtain⟨V,e,b,l⟩:=N6 h x hx
 refine⟨-V,?_,b.neg,Wl Um l⟩
 have:=Sj (r:=(0,1)) (s:=x) (D:=D) (W1:=0) (W2:=V) (by decide) l.pos (by simp) e
 rw[Int.zero_sub] at this
 exact this
def g6 (K:W.Frag):Sp:=fun vs H Q _=>∃ (a:Addr) (rs:List Rat) (n:Nat),vs=[.ref a]/\RowAt K H a rs/\(∀ r∈rs,Good n r)/\1<=n/\n<=4000/\rs.length<=100/\∀ (p:Addr) (H':Hp),Same H H'->RowAt K H' p (turnR rs)->Q (.ref p) H'
theorem Ku:FnScope ["_law_row_here"] ["_law_row_here"] (defScope kR):=fsc
theorem Z0v (D:Def K mg "_law_turned" kR ["_law_row_here"])(T:Blt mg)(eJ:Z7 P w K mg base):Has P w K mg base 4 "_law_turned" ["_law_row_here"] (g6 K):=by
 refine D.has fun f fd F=>F.ok Ku (fun vs H Q E h=>?_) (fun cdv A outer s H vs Q E hr h=>?_)
 ·obtain⟨a,rs,n,rfl,_⟩:=h
  rfl
 ·obtain⟨a,rs,n,rfl,⟨xs,hxs,hrs⟩,g,n1,hn,hl,k⟩:=h
  have sc:=Ku
  have nd1:(["_law_part"]:List Str).Nodup:=by decide +kernel
  refine⟨_,(Zc (Zj (Zy Zv rfl T.tuple PyProof.Rows.boot_tuple (Z0 (Yk (N:=["_law_part"]) (k:=1) (fv:=[]) rfl (Vc (pv 0))
   (fun _ _ _ _ _=>Zk (i:=0) nd1 rfl (Or.inl rfl)) (fun _ _ _ _ _=>Y7) (fun _ _ _ _ _=>(Ze eJ hr (Z0 (Yf (Z0 Za (Z0 Za Z8))) (Z0 (pv 0) Z8)))) Zw) Z8)))),?_⟩
  have lx:=hrs.len
  refine⟨_,rfl,a,rfl,⟨_,hxs⟩,fun d hd=>?_⟩
  refine⟨rs.length,fun i ys H'=>Same H H'/\Rs K H' ((turnR rs).take i) ys,Zp (by omega),⟨Same.new hd,.nil⟩,?_,?_⟩
  ·rintro j ys H14 hj ⟨S14,R14⟩ hd14
   refine⟨⟨xs,xs[j]'(by omega),Zq S14 hxs,by simp⟩,?_⟩
   rintro x' H3 ⟨rfl,fx⟩
   obtain⟨r,er,b1,rfl,sb⟩:=(hrs.ext (Ext.same S14)).back (fx _ (Zq S14 hxs))
   refine Ye ?_
   refine⟨sz2,fun z hz=>?_⟩
   have T1:=Same.new (o:=.tup [.int 0,.int 1]) hz
   have f1:upd H3 z (.tup [.int 0,.int 1]) z=some (.tup [.int 0,.int 1]):=Zb
   generalize upd H3 z (.tup [.int 0,.int 1])=H4 at *
   refine⟨_,rfl,z,b1,(0,1),r,n,rfl,SqT.of f1,Zq T1 sb,⟨bd0 _,Yz 1 (by decide) n1,by decide,by decide⟩,g r (List.mem_of_getElem? er),hn,fun aq H15 f15 S15 e15=>?_⟩
   have S35:=T1.trans S15
   have hd15:=S35 _ _ hd14
   refine⟨hd15,fun q o' e=>?_,?_⟩
   ·rw[Zf (Zd e hd)]
    exact S35 _ _ (S14 _ _ e)
   ·have ec:(turnR rs)[j]?=some (subR (0,1) r):=by unfold turnR;rw[List.getElem?_map,er];rfl
    rw[Y9 ec]
    exact (R14.ext ((Ext.same S35).trans (Ext.upd hd15))).snoc ⟨aq,rfl,(Ext.upd hd15).sq (SqT.of e15)⟩
  rintro ys H14 ⟨S14,R14⟩ hd14
  rw[List.take_of_length_le (by unfold turnR;simp)] at R14
  refine⟨⟨_,Zq S14 hxs,by omega⟩,d,ys,rfl,.inl ⟨SqL.of hd14,fun l2 hl2=>?_⟩⟩
  exact k l2 _ (S14.trans (Same.new hl2)) ⟨_,SqT.of Zb,R14.ext (Ext.new hl2)⟩
def jN (K:W.Frag):Sp:=fun vs H Q _=>∃ (l1 l2 ag:Addr) (c M N X:Nat) (r1 r2:List (List Rat)) (R:List Rat) (D:Int) (U:List Int),vs=[.int (c:Int),.ref l1,.ref l2,.ref ag]/\RowsAt K H l1 r1/\RowsAt K H l2 r2/\(∀ rs∈r1,rs.length=c/\∃ D Z,RepL 114 D Z rs)/\(∀ rs∈r2,rs.length=c/\∃ D Z,RepL 114 D Z rs)/\RowAt K H ag R/\RepL M D U R/\PartR c r1 r2 R/\(∃ W,WtsQ c r1 W)/\(∃ W,WtsQ c r2 W)/\r1.length<=12/\r2.length<=12/\114<=M/\M<=1400/\N<=1900/\119*r1.length+M+12<=N/\119*r2.length+M+12<=N/\114+N<=X/\M+(119*r1.length+7)<=X/\M+(119*r2.length+7)<=X/\X<=1950/\2<=c/\c<=100/\∀ H',Same H H'->Q (.bl true) H'
theorem Z1r:FnScope ["_law_count","_law_one","_law_other","_law_row_here","_law_first","_law_second","_law_part"] ["_law_count","_law_one","_law_other","_law_row_here"] (defScope mL):=fsc
set_option maxHeartbeats 1600000 in
theorem Z3i (D:Def K mg "_law_bet" mL ["_law_count","_law_one","_law_other","_law_row_here"])(T:Blt mg)(eQ:Z5 P w K mg base)(gL:Has P w K mg base 4 "_law_turned" ["_law_row_here"] (g6 K))(eM:Has P w K mg base 3 "_law_multiples_like" ["_law_found","_law_many"] (gY K))(i9:Has P w K mg base 4 "_law_come" ["_law_count","_law_rows","_law_multiples"] (iC K)):Has P w K mg base 6 "_law_bet" ["_law_count","_law_one","_law_other","_law_row_here"] (jN K):=by
 refine D.has fun f fd F=>F.ok Z1r (fun vs H Q E h=>?_) (fun cdv A outer s H vs Q E hr h=>?_)
 ·obtain⟨l1,l2,ag,c,M,N,X,r1,r2,R,D,U,rfl,_⟩:=h
  rfl
 ·obtain⟨l1,l2,ag,c,M,N,X,r1,r2,R,D,U,rfl,⟨a1,h1,p1⟩,⟨a2,h2,p2⟩,rep1,rep2,hR,rR,part,⟨W1,w1⟩,⟨W2,w2⟩,f12,f22,M1,M2,N2,b1,b2,x1,x2,x3,x4,c2,hc,k⟩:=h
  have sc:=Z1r
  refine⟨_,(Z9 (Zi (i:=4) sc.nd rfl (Or.inl rfl) (Ze eQ hr (Z0 (pv 0) (Z0 (Zy Yv rfl T.list PyProof.Rows.boot_list (Z0 (pv 1) Z8)) (Z0 Yr (Z0 (pv 3) Z8))))))
   (Z9 (Zi (i:=5) sc.nd rfl (Or.inl rfl) (Ze eQ hr (Z0 (pv 0) (Z0 (Zy Yv rfl T.list PyProof.Rows.boot_list (Z0 (pv 2) Z8)) (Z0 Yr (Z0 (Ze gL hr (Z0 (pv 3) Z8)) Z8))))))
   (Z9 (Yd (PW.pt (Vl (Zn Qu (Zh Y8 (pv 4) Za (fun _ _=>rfl)) Xo (Zt _)) (Vb (Zn Qu (Zh Y8 (pv 5) Za (fun _ _=>rfl)) Xo (Zt _)))))
    (Zc (Zj U1))
    Zu)
   (Z9 (Yd (PW.pt (Vl (Wv (Xm (Ze eM hr (Z0 (Zh Y8 (pv 4) Za (fun _ _=>rfl)) (Z0 (Zz Y4 rfl T.len boot_len (Z0 (pv 1) Z8)) Z8))))) (Vb (Wv (Xm (Ze eM hr (Z0 (Zh Y8 (pv 5) Za (fun _ _=>rfl)) (Z0 (Zz Y4 rfl T.len boot_len (Z0 (pv 2) Z8)) Z8))))))))
    (Zc (Zj U1))
    Zu)
   (Z9 (Xn PassesOwn.never rfl (Vc (Ze i9 hr (Z0 (pv 0) (Z0 (Zl Rk (pv 1) (pv 2)) (Z0 (Zl Rk (Zh Y8 (pv 4) Za (fun _ _=>rfl)) (Zh Y8 (pv 5) Za (fun _ _=>rfl))) Z8))))) (Zk (i:=6) sc.nd rfl (Or.inl rfl))
    (Zc (Yd (Zn Z1u (Zh Xj (pv 6) Za (fun _ _=>rfl)) Za (Zt _))
     (Zc (Zj U1))
     Zu)))
   (Zc (Zj U1))))))),?_⟩
  have rows1:∀ rs∈r1,RowR c rs:=fun rs hr=>RowR.of (rep1 rs hr).1 (rep1 rs hr).2
  have rows2:∀ rs∈r2,RowR c rs:=fun rs hr=>RowR.of (rep2 rs hr).1 (rep2 rs hr).2
  have rr:RowR c R:=⟨part.len,_,_,_,rR⟩
  refine⟨_,rfl,_,rfl,l1,_,rfl,.inl (SqL.of h1),fun lc hlc=>?_⟩
  have T1:=Same.new (o:=.lst (a1.map V.ref)) hlc
  have f1:upd H lc (.lst (a1.map V.ref)) lc=some (.lst (a1.map V.ref)):=Zb
  generalize upd H lc (.lst (a1.map V.ref))=H1 at *
  have bdA:∀ (rss:List (List Rat)) (as:List Rat),(∀ rs∈rss,rs.length=c/\∃ D Z,RepL 114 D Z rs)->(∃ D Z,RepL M D Z as)->119*rss.length+M+12<=N->rss.length<=12->∀ T':Sv.Tab,InvR c rss none (cutR none as) T'->TabBd N (rss.length+2) c T':=fun rss as rep ra hb hl T' I=>by
   have key:=Ke (nb:=fun _=>114) (fun r rs e=>(rep rs (List.mem_of_getElem? e)).2) (ra.elim fun D z=>z.elim fun Z y=>⟨_,_,y.cut none⟩) (by omega) I
   have hN:Sv.sN rss.length (fun _=>114+5)+M+12<=N:=by
    have:=Sv.sN_const (f:=fun _=>114+5) (M:=119) (n:=rss.length) fun k hk=>by decide
    omega
   exact⟨fun i j hi hj=>(key.l i j hi hj).mono hN,key.b.mono hN⟩
  have come:∀ (rss:List (List Rat)) (as:List Rat) (T':Sv.Tab),(∀ rs∈rss,rs.length=c/\∃ D Z,RepL 114 D Z rs)->(∃ D Z,RepL M D Z as)->119*rss.length+M+12<=N->rss.length<=12->M+(119*rss.length+7)<=X->MostT c rss none (cutR none as) T'->ComeR c X X rss (multR c rss T' (rss.length+1) (lcmB (cutR none as))) (lcmB (cutR none as)*T'.b) (fun j k=>AOf rss j k * -Sv.numAt c T' (rss.length+1) (c+j)):=fun rss as T' rep ra hb hl hx mt=>by
   obtain⟨D,Z,y⟩:=id ra
   have bb:=(y.cut none).least.bD.mul (By (fun rs hr=>(rep rs hr).2) (by omega) mt.inv mt.aim).1
   exact Lz rep mt.inv.pos (fun j=>(TabOk.of mt.inv).numBd (bdA rss as rep ra hb hl _ mt.inv) (by omega) (c+j)) (y.cut none).least.pos (bb.mono (by omega)) x1
  refine⟨_,rfl,lc,ag,.non,c,M,N,r1,none,R,rfl,⟨a1,f1,Yg p1 (Ext.same T1)⟩,rfl,hR.same T1,part.len,fun rs hr=>⟨(rep1 rs hr).1,(rep1 rs hr).2.elim fun D z=>z.elim fun Z y=>⟨D,Z,y.mono M1⟩⟩,⟨_,_,rR⟩,by omega,by omega,by omega,by omega,bdA r1 R rep1 ⟨_,_,rR⟩ b1 f12,by omega,by omega,by omega,fun T3 q3 t3 xs3 H3 fq3 S3 nt hq3 rs3 sq3=>(nt.noloadsq rows1 w1).elim,fun T3 q3 t3 va3 lo3 xs3 H3 fq3 S3 mt hq3 rs3 iv3 rl3 sq3=>?_⟩
  have S13:=T1.trans S3
  obtain⟨Y,rY⟩:=G3 rR
  have lY:(turnR R).length=c:=by unfold turnR;rw[List.length_map];exact part.len
  refine⟨_,rfl,_,rfl,l2,_,rfl,.inl (SqL.of (S13 _ _ h2)),fun lc4 hlc4=>?_⟩
  have T4:=Same.new (o:=.lst (a2.map V.ref)) hlc4
  have f4:upd H3 lc4 (.lst (a2.map V.ref)) lc4=some (.lst (a2.map V.ref)):=Zb
  generalize upd H3 lc4 (.lst (a2.map V.ref))=H4 at *
  have S04:=S13.trans T4
  refine⟨_,rfl,ag,R,M,rfl,hR.same S04,rR.good,by omega,by omega,by rw[part.len];exact hc,fun p5 H5 S5 R5=>?_⟩
  have S05:=S04.trans S5
  refine⟨lc4,p5,.non,c,M,N,r2,none,turnR R,rfl,⟨a2,S5 _ _ f4,Yg p2 (Ext.same S05)⟩,rfl,R5,lY,fun rs hr=>⟨(rep2 rs hr).1,(rep2 rs hr).2.elim fun D z=>z.elim fun Z y=>⟨D,Z,y.mono M1⟩⟩,⟨_,_,rY⟩,by omega,by omega,by omega,by omega,bdA r2 _ rep2 ⟨_,_,rY⟩ b2 f22,by omega,by omega,by omega,fun T6 q6 t6 xs6 H6 fq6 S6 nt hq6 rs6 sq6=>(nt.noloadsq rows2 w2).elim,fun T6 q6 t6 va6 lo6 xs6 H6 fq6 S6 mt6 hq6 rs6 iv6 rl6 sq6=>?_⟩
  have S06:=S05.trans S6
  have S36:=(T4.trans S5).trans S6
  replace sq3:=Zq S36 sq3
  replace hq3:=S36 _ _ hq3
  replace rs3:=rs3.ext (Ext.same S36)
  refine⟨_,rfl,t3,_,_,_,rfl,rfl,sq3,Zg (j:=0) rfl,rfl,_,rfl,Mo rfl ?_⟩
  refine⟨_,rfl,t6,_,_,_,rfl,rfl,sq6,Zg (j:=0) rfl,rfl,_,rfl,Mo rfl ?_⟩
  have cr1:=come r1 R T3 rep1 ⟨_,_,rR⟩ b1 f12 x2 mt
  have cr2:=come r2 (turnR R) T6 rep2 ⟨_,_,rY⟩ b2 f22 x3 mt6
  have n1:=Jd rep1 mt.inv.pos (rR.cut none).least.pos mt.sv.y0
  have n2:=Jd rep2 mt6.inv.pos (rY.cut none).least.pos mt6.sv.y0
  have pos:=fun k (hk:k<c)=>Z1i mt mt6 rows1 rows2 rr (RowR.of lY ⟨_,_,rY⟩) (fun k hk=>Z04 part.low (by rw[part.len];exact hk)) part hk
  have la1:=Paired.length p1
  have la2:=Paired.length p2
  have lm1:=cr1.lm
  have lm2:=cr2.lm
  have e1:((a1.map V.ref).length:Int)=((multR c r1 T3 (r1.length+1) (lcmB (cutR none R))).length:Int):=by rw[List.length_map,la1,lm1]
  have e2:((a2.map V.ref).length:Int)=((multR c r2 T6 (r2.length+1) (lcmB (cutR none (turnR R)))).length:Int):=by rw[List.length_map,la2,lm2]
  have h16:=S06 _ _ h1
  have h26:=S06 _ _ h2
  refine⟨_,rfl,t3,_,_,_,rfl,rfl,sq3,Zg (j:=3) rfl,_,rfl,l1,_,rfl,.inl (SqL.of h16),q3,_,by rw[← e1];rfl,⟨xs3,hq3,rs3⟩,n1,_,rfl,Wf ?_⟩
  refine⟨_,rfl,t6,_,_,_,rfl,rfl,sq6,Zg (j:=3) rfl,_,rfl,l2,_,rfl,.inl (SqL.of h26),q6,_,by rw[← e2];rfl,⟨xs6,hq6,rs6⟩,n2,_,rfl,Wf ?_⟩
  generalize multR c r1 T3 (r1.length+1) (lcmB (cutR none R))=ms1 at *
  generalize multR c r2 T6 (r2.length+1) (lcmB (cutR none (turnR R)))=ms2 at *
  have lx3:=rs3.len
  have lx6:=rs6.len
  refine⟨_,rfl,_,rfl,_,rfl,l1,l2,_,_,rfl,rfl,h16,h26,Zp (by rw[List.length_map,List.length_map];omega),fun lj hlj=>?_⟩
  have T7:=Same.new (o:=.lst (a1.map V.ref++a2.map V.ref)) hlj
  have f7:upd H6 lj (.lst (a1.map V.ref++a2.map V.ref)) lj=some (.lst (a1.map V.ref++a2.map V.ref)):=Zb
  generalize upd H6 lj (.lst (a1.map V.ref++a2.map V.ref))=H7 at *
  refine⟨_,rfl,t3,_,_,_,rfl,rfl,Zq T7 sq3,Zg (j:=3) rfl,_,rfl,t6,_,_,_,rfl,rfl,Zq T7 sq6,Zg (j:=3) rfl,q3,q6,_,_,rfl,rfl,T7 _ _ hq3,T7 _ _ hq6,Zp (by omega),fun lm hlm=>?_⟩
  have T8:=Same.new (o:=.lst (xs3++xs6)) hlm
  have f8:upd H7 lm (.lst (xs3++xs6)) lm=some (.lst (xs3++xs6)):=Zb
  generalize upd H7 lm (.lst (xs3++xs6))=H8 at *
  have T78:=T7.trans T8
  have S08:=S06.trans T78
  refine⟨lj,lm,c,X,3900,r1++r2,ms1++ms2,_,_,rfl,⟨a1++a2,by rw[List.map_append];exact T8 _ _ f7,Paired.appP (Yg p1 (Ext.same S08)) (Yg p2 (Ext.same S08))⟩,⟨_,f8,Rs.app (rs3.ext (Ext.same T78)) (rs6.ext (Ext.same T78))⟩,cr1.app cr2 (by omega),by omega,by omega,hc,by rw[List.length_append];omega,fun d cs H9 S9 ⟨xc,hxc,hcs⟩ rep=>?_⟩
  have lcs:=rep.len
  refine⟨d,rfl,⟨_,hxc⟩,N0 (K:=K) (a:=d) (xs:=xc) (fun _ σ H'=>Same H9 H'/\∃ (x1:Option V),σ=[some (.int (c:Int)),some (.ref l1),some (.ref l2),some (.ref ag),some (.ref t3),some (.ref t6),x1]) ⟨Same.refl _,none,rfl⟩ (fun _ σ H' _ h=>Zq h.1 hxc) ?_ ?_⟩
  ·rintro i x σ H10 hx ⟨S10,x1,rfl⟩
   obtain⟨r,er,b,rfl,sb⟩:=(hcs.ext (Ext.same S10)).back hx
   have hi:i<cs.length:=(List.getElem?_eq_some_iff.mp er).1
   have hic:i<c:=by
    unfold comeE at lcs
    simp at lcs
    omega
   obtain⟨e,_,lo⟩:=rep.at_ i _ _ (Ux hic) er
   have ps:=pos i hic
   have np:¬ r.1<=0:=fun z=>by
    have:=((V5 rep.pos lo.pos e).2.1).mp z
    rw[List.length_append] at this
    omega
   exact⟨_,rfl,b,_,_,rfl,rfl,sb,_,_,rfl,rfl,_,rfl,Xd (fun h=>absurd (of_decide_eq_true h) np) fun _=>⟨S10,_,rfl⟩⟩
  ·rintro σ H10 ⟨S10,x1,rfl⟩
   exact k _ ((S08.trans S9).trans S10)
end
def iJ (K:W.Frag):Sp:=fun vs H Q _=>∃ (b:Addr) (n:Nat),vs=[.ref b]/\BagAt H b n/\n<=1000/\∀ (t:Addr) (H':Hp) (c m:Nat),BagAt H' b (n+2)->SameX b H H'->SqT K H' t [.int (c:Int),.int (m:Int)]->2<=c->c<=12->m<=6/\2*m+min c (4*m+2)<=14->Q (.ref t) H'
theorem Lu {f:Expr}{as:List Expr}{ks:List PySem.Keyword}{pos:Pos}:PlainIx (.Call f as ks pos):=fun _ _=>rfl
theorem Fp {a b:Expr}{pos:Pos}{es:List Expr}{env:Env}:starEach (.Subscript a b pos::es) env=(false,eval (.Subscript a b pos) env)::starEach es env:=rfl
theorem X9 {c:Const}{k:Nat}{pos:Pos}{es:List Expr}{env:Env}:starEach (.Constant c k pos::es) env=(false,eval (.Constant c k pos) env)::starEach es env:=rfl
theorem Fq {x:Str}{pos:Pos}{es:List Expr}{env:Env}:starEach (.Name x pos::es) env=(false,eval (.Name x pos) env)::starEach es env:=rfl
theorem Z0a {X:Cx}{a b:Expr}{c:Const}{x1 k:Nat}{pos pos1 pos2:Pos}{te te2:TE}(ha:PE X (.Subscript a b pos1) te)(h2:PE X (.Constant c k pos2) te2):PE X (.Tuple [.Subscript a b pos1,.Constant c k pos2] x1 pos) (tTup (tCons te (tCons te2 tNil))):=Yf (Z0 ha (Z0 h2 Z8 X9) Fp)
set_option maxHeartbeats 800000 in
theorem Z3c {X:Cx}{i1 i2 i3 i4 i5 i6 i7 i8:Int}{k1 k2 k3 k4 k5 k6 k7 k8:Nat}{p1 p2 p3 p4 p5 p6 p7 p8 pos:Pos}:PE X (.List [.Constant (.int i1) k1 p1,.Constant (.int i2) k2 p2,.Constant (.int i3) k3 p3,.Constant (.int i4) k4 p4,.Constant (.int i5) k5 p5,.Constant (.int i6) k6 p6,.Constant (.int i7) k7 p7,.Constant (.int i8) k8 p8] pos) (tLst (tCons (tC (.int i1)) (tCons (tC (.int i2)) (tCons (tC (.int i3)) (tCons (tC (.int i4)) (tCons (tC (.int i5)) (tCons (tC (.int i6)) (tCons (tC (.int i7)) (tCons (tC (.int i8)) tNil))))))))):=Xz (Z0 Za (Z0 Za (Z0 Za (Z0 Za (Z0 Za (Z0 Za (Z0 Za (Z0 Za Z8 X9) X9) X9) X9) X9) X9) X9) X9)
section
variable {P:Program}{w:World}{K:W.Frag}{mg:Str->Option Value}{base:Heap}
theorem Fw:FnScope ["_law_bag_here","_law_way"] ["_law_bag_here"] (defScope mB):=fsc
set_option maxHeartbeats 12000000 in
theorem Z2h (D:Def K mg "_law_size" mB ["_law_bag_here"])(eC:Z1 P w K mg base):Has P w K mg base 2 "_law_size" ["_law_bag_here"] (iJ K):=by
 refine D.has fun f fd F=>F.ok Fw (fun vs H Q E h=>?_) (fun cdv A outer s H vs Q E hr h=>?_)
 ·obtain⟨b,n,rfl,_⟩:=h
  rfl
 ·obtain⟨b,n,rfl,hB,hn,k⟩:=h
  have sc:=Fw
  refine⟨_,(Z9 (Zi (i:=1) sc.nd rfl (Or.inl rfl) (Ze eC hr (Z0 (pv 0) (Z0 Za Z8))))
   (Z9 (Yd (Zn W0 (pv 1) Za (Zt _))
    (Zc (Zj (Yf (Z0 Za (Z0 Za Z8)))))
    Zu)
   (Z9 (Yd (Zn W0 (pv 1) Za (Zt _))
    (Zc (Zj (Yf (Z0 (Zl Yt Za (Ze eC hr (Z0 (pv 0) (Z0 Za Z8)))) (Z0 Za Z8)))))
    Zu)
   (Z9 (Yd (Zn W0 (pv 1) Za (Zt _))
    (Zc (Zj (Yf (Z0 Za (Z0 Za Z8)))))
    Zu)
   (Zc (Zj (Z0a (Zh Y2 Z3c (Ze eC hr (Z0 (pv 0) (Z0 Za Z8 X9) Fq)) Lu) Za))))))),?_⟩
  refine⟨_,rfl,b,_,n,rfl,hB,by omega,by decide,by decide +kernel,fun r1 H1 r10 r11 B1 S1=>?_⟩
  have fin:∀ (H2:Hp) (c m:Nat),BagAt H2 b (n+2)->SameX b H H2->2<=c->c<=12->m<=6/\2*m+min c (4*m+2)<=14->∀ t,H2 t=none->Q (.ref t) (upd H2 t (.tup [.int (c:Int),.int (m:Int)])):=fun H2 c m B2 S2 h1 h2 h3 t ht=>k t _ c m (B2.same (Same.new ht)) (S2.trans (SameX.of (Same.new ht))) (SqT.of Zb) h1 h2 h3
  refine⟨_,rfl,rfl,_,rfl,?_⟩
  refine Xd (fun _=>?_) (fun _=>?_)
  ·exact⟨sz2,fun t ht=>fin H1 12 2 (B1.mono (by omega)) S1 (by decide) (by decide) (by decide) t ht⟩
  refine⟨_,rfl,rfl,_,rfl,?_⟩
  refine Xd (fun _=>?_) (fun _=>?_)
  ·refine⟨_,rfl,b,_,_,rfl,B1,by omega,by decide,by decide +kernel,fun r2 H2 r20 r21 B2 S2=>⟨_,_,rfl,rfl,sz2,fun t ht=>?_⟩⟩
   obtain⟨g,rfl⟩:=Int.eq_ofNat_of_zero_le r20
   have fi:=fin H2 (6+g) 2 B2 (S1.trans S2) (by omega) (by omega) (by omega) t ht
   have e:((6+g:Nat):Int)=6+((g:Nat):Int):=by omega
   rw[e] at fi
   exact fi
  refine⟨_,rfl,rfl,_,rfl,?_⟩
  refine Xd (fun _=>?_) (fun _=>?_)
  ·exact⟨sz2,fun t ht=>fin H1 2 6 (B1.mono (by omega)) S1 (by decide) (by decide) (by decide) t ht⟩
  refine⟨sz8,fun l0 hl0=>?_⟩
  have S2:Same H1 (upd H1 l0 (.lst [.int 2,.int 3,.int 3,.int 4,.int 2,.int 3,.int 4,.int 5])):=Same.new hl0
  have e2:upd H1 l0 (.lst [.int 2,.int 3,.int 3,.int 4,.int 2,.int 3,.int 4,.int 5]) l0=some (.lst [.int 2,.int 3,.int 3,.int 4,.int 2,.int 3,.int 4,.int 5]):=Zb
  generalize upd H1 l0 (.lst [.int 2,.int 3,.int 3,.int 4,.int 2,.int 3,.int 4,.int 5])=H2 at *
  have hlb:l0≠b:=by
   obtain⟨ys,e⟩:=B1.lst
   exact (Zd e hl0).symm
  refine⟨_,rfl,b,_,_,rfl,B1.same S2,by omega,by decide,by decide +kernel,fun r3 H3 r30 r31 B3 S3=>?_⟩
  obtain⟨c0,ec,c2,c5⟩:∃ c:Nat,atI [V.int 2,.int 3,.int 3,.int 4,.int 2,.int 3,.int 4,.int 5] r3=some (.int c)/\2<=c/\c<=5:=by
   have h:r3=0 \/ r3=1 \/ r3=2 \/ r3=3 \/ r3=4 \/ r3=5 \/ r3=6 \/ r3=7:=by omega
   rcases h with rfl | rfl | rfl | rfl | rfl | rfl | rfl | rfl
   ·exact⟨2,Zg (j:=0) rfl,by decide,by decide⟩
   ·exact⟨3,Zg (j:=1) rfl,by decide,by decide⟩
   ·exact⟨3,Zg (j:=2) rfl,by decide,by decide⟩
   ·exact⟨4,Zg (j:=3) rfl,by decide,by decide⟩
   ·exact⟨2,Zg (j:=4) rfl,by decide,by decide⟩
   ·exact⟨3,Zg (j:=5) rfl,by decide,by decide⟩
   ·exact⟨4,Zg (j:=6) rfl,by decide,by decide⟩
   ·exact⟨5,Zg (j:=7) rfl,by decide,by decide⟩
  refine⟨l0,_,_,_,rfl,rfl,SqL.of (S3 _ _ e2 hlb),ec,sz2,fun t ht=>?_⟩
  exact fin H3 c0 3 B3 ((S1.trans (SameX.of S2)).trans S3) c2 (by omega) (by omega) t ht
end
structure BookD (c m:Nat)(os:List Offr)(ws:List Rat):Prop where
 few:os.length<=m
 off:∀ o∈os,OffN 114 c o
 fit:∀ o∈os,∀ bb r,priceO o bb=some r->(mn ws (gainR o bb)).1<=0
section
variable {c m:Nat}{os os1 os2:List Offr}{ws:List Rat}
theorem BookD.rep (h:∀ o∈os,OffN 114 c o):∀ rs∈gainsP os os.length,rs.length=c/\∃ D Z,RepL 114 D Z rs:=fun rs hr=>by
 rw[Xr] at hr
 obtain⟨o,ho,h2⟩:=List.mem_flatMap.mp hr
 obtain⟨b,r,e,rfl⟩:=Q2 h2
 exact⟨by rw[F9];exact (h o ho).len,(h o ho).gain b r e⟩
theorem BookD.wts (h:BookD c m os ws)(w:WtsQ c [] ws):WtsQ c (gainsP os os.length) ws:=by
 refine⟨w.len,w.low,w.nn,fun rs hr=>?_,w.lie⟩
 obtain⟨l,D,Z,rp⟩:=BookD.rep h.off rs hr
 rw[Xr] at hr
 obtain⟨o,ho,h2⟩:=List.mem_flatMap.mp hr
 obtain⟨b,r,e,rfl⟩:=Q2 h2
 have low:Lows (gainR o b):=fun x hx=>(rp.good x hx).low
 have:=(Wh (Yy w.low low).pos).mp (h.fit o ho b r e)
 rw[Wi w.low low w.len l] at this
 exact this
theorem Tk:gainsP (os1++os2) (os1++os2).length=gainsP os1 os1.length++gainsP os2 os2.length:=by rw[Xr,Xr,Xr,List.flatMap_append]
theorem Vu (h:os.length<=m):(gainsP os os.length).length<=2*m:=by
 have:=Ms os
 rw[Xr]
 omega
theorem BookP.of (h1:∀ o∈os1,OffN 114 c o)(h2:∀ o∈os2,OffN 114 c o)(l1:os1.length<=m)(l2:os2.length<=m)(hm:m<=6)(sz:2*m+min c (4*m+2)<=14):BookP c (119*min c (4*m+2)+1) (os1++os2):=by
 have off:∀ o∈os1++os2,OffN 114 c o:=fun o ho=>(List.mem_append.mp ho).elim (h1 o) (h2 o)
 have rep:=BookD.rep off
 have n1:=Vu l1
 have n2:=Vu l2
 have e:(gainsP (os1++os2) (os1++os2).length).length=(gainsP os1 os1.length).length+(gainsP os2 os2.length).length:=by rw[Tk,List.length_append]
 have mn:min c ((gainsP (os1++os2) (os1++os2).length).length+2)<=min c (4*m+2):=by omega
 refine⟨by rw[List.length_append];omega,fun o ho=>(off o ho).good,rep,by omega,?_,fun gs T' rg I=>?_⟩
 ·rcases Nat.lt_or_ge m 2 with q | q
  ·omega
  ·omega
 ·have key:=Fn rep rg (by decide) (by omega) I
  have hb:bitsOf 114 c (gainsP (os1++os2) (os1++os2).length).length<=119*min c (4*m+2)+1:=by
   unfold bitsOf
   have:=Nat.mul_le_mul_left 119 mn
   omega
  exact⟨fun i j hi hj=>(key.l i j hi hj).mono hb,key.b.mono hb⟩
theorem BookM.of9 (h:∀ o∈os,OffN 114 c o)(l:os.length<=m)(hm:m<=6)(sz:2*m+min c (4*m+2)<=14):BookM c 114 (119*(2*m)+(119*min c (4*m+2)+120)+12) (119*min c (4*m+2)+120) os:=by
 have rep:=BookD.rep h
 have n1:=Vu l
 refine⟨by omega,fun o ho=>(h o ho).good,fun rs hr=>⟨(rep rs hr).1,(rep rs hr).2.elim fun D z=>z.elim fun Z r=>⟨D,Z,r.mono (by omega)⟩⟩,by omega,by omega,by decide,by omega,fun o gs T' rg I=>?_⟩
 have key:=Ke (nb:=fun _=>114) (fun r rs e=>(rep rs (List.mem_of_getElem? e)).2) rg (by omega) I
 have hN:Sv.sN (gainsP os os.length).length (fun _=>114+5)+(119*min c (4*m+2)+120)+12<=119*(2*m)+(119*min c (4*m+2)+120)+12:=by
  have:=Sv.sN_const (f:=fun _=>114+5) (M:=119) (n:=(gainsP os os.length).length) fun k hk=>by decide
  have:=Nat.mul_le_mul_left 119 n1
  omega
 exact⟨fun i j hi hj=>(key.l i j hi hj).mono hN,key.b.mono hN⟩
end
theorem WtsR.wtq {c:Nat}{Ws:List Int}{ws:List Rat}(wt:WtsR c Ws ws):WtsQ c [] ws:=by
 have lW:Ws.length=c:=by rw[wt.rep.len];exact wt.len
 have wp:=wt.pos
 refine Wts.toQ ⟨wt.len,⟨_,_,_,wt.rep⟩,fun r hr=>?_,(fun rs hr=>nomatch hr),?_⟩ (fun rs hr=>nomatch hr)
 ·obtain⟨i,hi⟩:=List.getElem?_of_mem hr
  have hl:i<Ws.length:=by have:=(List.getElem?_eq_some_iff.mp hi).1;have:=wt.rep.len;omega
  obtain⟨e,_,lo⟩:=wt.rep.at_ i Ws[i] r (by simp[hl]) hi
  exact ((V5 wt.pos lo.pos e).1).mpr (wt.nn _ (List.getElem_mem hl))
 ·have lp:=V2 c none
  obtain⟨e1,lo⟩:=(wt.rep.mul (Xv c none) (by rw[wt.len,lp])).sum
  have e2:(List.zipWith (·*·) Ws (cutZ none (List.replicate c 1))).sum=Ws.sum:=by
   have:cutZ none (List.replicate c (1:Int))=List.replicate c 1:=by
    apply List.ext_getElem?
    intro i
    rw[Jv]
    cases (List.replicate c (1:Int))[i]? <;> rfl
   rw[this,← lW]
   exact (show ∀ l:List Int,(List.zipWith (·*·) l (List.replicate l.length 1)).sum=l.sum from fun l=>by
    induction l with
    | nil=>rfl
    | cons a t ih=>rw[List.length_cons,List.replicate_succ,List.zipWith_cons_cons,List.sum_cons,List.sum_cons,ih,Int.mul_one]) Ws
  rw[e2] at e1
  refine Xf lo.pos (by decide) lo.cop (by decide) ?_
  show (sumR (List.zipWith mulR' ws (papR c none))).1*1=1*(sumR (List.zipWith mulR' ws (papR c none))).2
  have e1:(sumR (List.zipWith mulR' ws (papR c none))).1*(Ws.sum*1)=Ws.sum*(sumR (List.zipWith mulR' ws (papR c none))).2:=e1
  generalize sumR (List.zipWith mulR' ws (papR c none))=x at *
  rw[Int.mul_one] at e1 ⊢
  rw[Int.one_mul]
  exact Int.eq_of_mul_eq_mul_right (show Ws.sum≠0 by omega) (by rw[e1,Int.mul_comm])
section
variable {P:Program}{w:World}{K:W.Frag}{mg:Str->Option Value}{base:Heap}
def spLaw (K:W.Frag):Sp:=fun vs H Q _=>∃ (a:Addr) (ns:List Int),vs=[.ref a]/\SqL K H a (ns.map V.int)/\∀ H',Q (.bl true) H'
theorem Z1n:FnScope ["_law_script","_law_bag_here","_law_count","_law_most","_law_weights_here","_law_others","_law_way","_law_one","_law_other","_law_found","_law_rows","_law_told"] ["_law_script"] (defScope mJ):=fsc
set_option maxHeartbeats 3200000 in
theorem Z3e {f:Addr}{fd:FuncData}(F:Fun K "law" "law" mJ f fd)(T:Blt mg)(jA:Has P w K mg base 1 "_law_cell" ["_law_script","_law_k"] (iT K))(jJ:Has P w K mg base 1 "_law_bag" ["_law_cell_here"] jO)(eC:Z1 P w K mg base)(iY:Has P w K mg base 2 "_law_size" ["_law_bag_here"] (iJ K))(fM:Has P w K mg base 3 "_law_weights" ["_law_bag_here","_law_count"] (fN K))(iZ:Has P w K mg base 4 "_law_near" ["_law_weights_here","_law_others"] (iL K))(fY:Has P w K mg base 5 "_law_offer" ["_law_bag_here","_law_count","_law_weights_here"] (gC K))(iW:Has P w K mg base 8 "parting" ["count","one","other"] (fT K))(eT:Has P w K mg base 4 "_law_gains" ["_law_offers"] (eN K))(eQ:Z5 P w K mg base)(fR:Has P w K mg base 5 "_law_weights_fit" ["_law_weights_here","_law_rows"] (iH K))(jI:Has P w K mg base 6 "_law_bet" ["_law_count","_law_one","_law_other","_law_row_here"] (jN K)):FnOk P w K mg base CX0 9 f fd ["_law_script"] (spLaw K) true:=by
 refine F.ok Z1n (fun vs H Q E h=>?_) (fun cdv A outer s H vs Q E hr h=>?_)
 ·obtain⟨a,ns,rfl,_⟩:=h
  rfl
 ·obtain⟨a,ns,rfl,hS,k⟩:=h
  have sc:=Z1n
  have nd1:(["_law_k","_law_bag_here","_law_count","_law_weights_here"]:List Str).Nodup:=by decide +kernel
  have nd2:(["_law_k","_law_bag_here","_law_count","_law_others"]:List Str).Nodup:=by decide +kernel
  have nd3:(["_law_world"]:List Str).Nodup:=by decide +kernel
  refine⟨_,(Z9 (Zi (i:=1) sc.nd rfl (Or.inr rfl) (Ze jJ hr (Z0 (Ze jA hr (Z0 (pv 0) (Z0 Za Z8))) Z8)))
   (Z9 (Ta (Ze iY hr (Z0 (pv 1) Z8)) (Ww (n:=2) rfl (Yb (Zk (i:=2) sc.nd rfl (Or.inr rfl)) (Yb (Zk (i:=3) sc.nd rfl (Or.inl rfl)) Xt))))
   (Z9 (Zi (i:=4) sc.nd rfl (Or.inr rfl) (Ze fM hr (Z0 (pv 1) (Z0 (pv 2) Z8))))
   (Z9 (Zi (i:=5) sc.nd rfl (Or.inr rfl) (Ze fM hr (Z0 (pv 1) (Z0 (pv 2) Z8))))
   (Z9 (Zi (i:=6) sc.nd rfl (Or.inl rfl) (Ze eC hr (Z0 (pv 1) (Z0 Za Z8))))
   (Z9 (X4 (Yd (Zn W0 (pv 6) Za (Zt _))
    (Zc (Zi (i:=5) sc.nd rfl (Or.inr rfl) (pv 4)))
    Zu))
   (Z9 (X4 (Yd (Zn W0 (pv 6) Za (Zt _))
    (Zc (Zi (i:=5) sc.nd rfl (Or.inr rfl) (Ze iZ hr (Z0 (pv 4) (Z0 (pv 5) Z8)))))
    Zu))
   (Z9 (X4 (W5 (i:=7) (N:=["_law_k","_law_bag_here","_law_count","_law_weights_here"]) (k:=1) (fv:=[1,2,4]) sc.nd rfl (Or.inl rfl) rfl (Yj rfl T.range (Z0 (Ze eC hr (Z0 (pv 1) (Z0 (Zl Yt (pv 3) Za) Z8))) Z8))
   (fun _ _ _ _ _=>Zk (i:=0) nd1 rfl (Or.inl rfl)) (fun _ _ _ _ _=>Y7) (fun _ _ _ _ _=>(Ze fY hr (Z0 (pv 1) (Z0 (pv 2) (Z0 (pv 3) Z8))))) Zw))
   (Z9 (X4 (W5 (i:=8) (N:=["_law_k","_law_bag_here","_law_count","_law_others"]) (k:=1) (fv:=[1,2,5]) sc.nd rfl (Or.inl rfl) rfl (Yj rfl T.range (Z0 (Ze eC hr (Z0 (pv 1) (Z0 (Zl Yt (pv 3) Za) Z8))) Z8))
   (fun _ _ _ _ _=>Zk (i:=0) nd2 rfl (Or.inl rfl)) (fun _ _ _ _ _=>Y7) (fun _ _ _ _ _=>(Ze fY hr (Z0 (pv 1) (Z0 (pv 2) (Z0 (pv 3) Z8))))) Zw))
   (Z9 (X4 (Zi (i:=9) sc.nd rfl (Or.inl rfl) (Ze iW hr (Z0 (pv 2) (Z0 (Zy Yv rfl T.list PyProof.Rows.boot_list (Z0 (pv 7) Z8)) (Z0 (Zy Yv rfl T.list PyProof.Rows.boot_list (Z0 (pv 8) Z8)) Z8))))))
   (Z9 (X4 (Zi (i:=10) sc.nd rfl (Or.inl rfl) (Zl Rk (Ze eT hr (Z0 (pv 7) Z8)) (Ze eT hr (Z0 (pv 8) Z8)))))
   (Z9 (Yd (Zn Ri (pv 9) Yr (Zt _))
    (Z9 (Zi (i:=11) sc.nd rfl (Or.inl rfl) (Ze eQ hr (Z0 (pv 2) (Z0 (pv 10) (Z0 Yr (Z0 (Zy Zv rfl T.tuple PyProof.Rows.boot_tuple (Z0 (Yk (N:=["_law_world"]) (k:=1) (fv:=[]) rfl (Yj rfl T.range (Z0 (pv 2) Z8))
   (fun _ _ _ _ _=>Zk (i:=0) nd3 rfl (Or.inl rfl)) (fun _ _ _ _ _=>Y7) (fun _ _ _ _ _=>(Yf (Z0 Za (Z0 Za Z8)))) Zw) Z8)) Z8))))))
    (Zc (Zj (Lv (Vd W0 (Zh Y8 (pv 11) Za (fun _ _=>rfl)) Xo (Zt _)) (Pl (Ze fR hr (Z0 (Zh Y8 (pv 11) Za (fun _ _=>rfl)) (Z0 (pv 10) Z8))))))))
    Zu)
   (Zc (Zj (Ze jI hr (Z0 (pv 2) (Z0 (Ze eT hr (Z0 (pv 7) Z8)) (Z0 (Ze eT hr (Z0 (pv 8) Z8)) (Z0 (Zh Y8 (pv 9) Za (fun _ _=>rfl)) Z8))))))))))))))))))),?_⟩
  refine⟨_,rfl,a,0,ns,rfl,hS,by decide,by decide,fun z=>?_⟩
  refine⟨_,rfl,fun b H1 fb1 S1 B1=>?_⟩
  refine⟨_,rfl,b,1,rfl,B1,by decide,fun t H2 c m B2 S2 ht c2 c12 hm=>?_⟩
  refine⟨t,_,rfl,ht,rfl,_,_,rfl,_,_,rfl,rfl,?_⟩
  refine⟨_,rfl,_,rfl,b,c,_,rfl,B2,by decide,by omega,by omega,fun aw H3 Ws ws B3 S3 Rw wt=>?_⟩
  refine⟨_,rfl,_,rfl,b,c,_,rfl,B3,by omega,by omega,by omega,fun au H4 Us us B4 S4 Ru wu=>?_⟩
  replace Rw:=Rw.ext (Ext.bag S4 B3)
  refine⟨_,rfl,b,_,_,rfl,B4,by omega,by decide,by decide +kernel,fun y H5 y0 y1 B5 S5=>?_⟩
  replace Rw:=Rw.ext (Ext.bag S5 B4)
  replace Ru:=Ru.ext (Ext.bag S5 B4)
  clear B1 B2 B3 B4 S1 S2 S3 S4 S5 ht
  refine⟨fun σ H'=>∃ (ao:Addr) (Vs:List Int) (vs:List Rat),σ=[some (.ref a),some (.ref b),some (.int c),some (.int m),some (.ref aw),some (.ref ao),some (.int y),none,none,none,none,none]/\H5=H'/\RowAt K H5 ao vs/\WtsR c Vs vs,?_,?_⟩
  ·refine⟨_,rfl,rfl,_,rfl,?_⟩
   exact Xd (fun _=>⟨_,rfl,aw,Ws,ws,rfl,rfl,Rw,wt⟩) (fun _=>⟨au,Us,us,rfl,rfl,Ru,wu⟩)
  rintro σ H' ⟨ao,Vs,vs,rfl,rfl,Ro,wo⟩
  refine⟨fun σ H'=>∃ (ao:Addr) (vs:List Rat) (D:Int) (U:List Int),σ=[some (.ref a),some (.ref b),some (.int c),some (.int m),some (.ref aw),some (.ref ao),some (.int y),none,none,none,none,none]/\Same H5 H'/\RowAt K H' ao vs/\WtsQ c [] vs/\RepL 78 D U vs,?_,?_⟩
  ·refine⟨_,rfl,rfl,_,rfl,?_⟩
   refine Xd (fun _=>?_) (fun _=>⟨ao,vs,_,_,rfl,Same.refl _,Ro,wo.wtq,wo.rep.mono (by decide)⟩)
   refine⟨_,rfl,_,rfl,aw,ao,c,ws,vs,rfl,Rw,Ro,wt.len,wo.len,fun r h=>(wt.rep.good r h).mono (by decide),fun r h=>(wo.rep.good r h).mono (by decide),by omega,fun p H6 S6 R6=>?_⟩
   obtain⟨D,U,rU⟩:=Cm wt wo
   exact⟨p,_,D,U,rfl,S6,R6,Cl wt.wtq wo.wtq,rU⟩
  rintro σ H6 ⟨ae,es,De,Ue,rfl,S56,Re,we,re⟩
  replace Rw:=Rw.same S56
  replace B5:=B5.same S56
  have wq:=wt.wtq
  have rw':RepL 78 Ws.sum Ws ws:=wt.rep.mono (by decide)
  have lim:∀ {g:Nat},g<=m->(4*c+10)*g<=58*6:=fun h=>Nat.mul_le_mul (by omega) (by omega)
  clear Ru wu Ro wo wt S56
  refine⟨fun σ H'=>∃ (l:Addr) (os:List Offr),σ=[some (.ref a),some (.ref b),some (.int c),some (.int m),some (.ref aw),some (.ref ae),some (.int y),some (.ref l),none,none,none,none]/\BagAt H' b 400/\RowAt K H' ae es/\OffsAt K H' l c os/\l≠b/\BookD c m os ws,?_,?_⟩
  ·refine⟨_,rfl,_,rfl,_,_,rfl,rfl,b,_,_,rfl,B5,by omega,by omega,(Qe (x:=(m:Int)+1) (by omega) (by omega)).log (by decide),fun g H7 g0 g1 B7 S7=>?_⟩
   obtain⟨g,rfl⟩:=Int.eq_ofNat_of_zero_le g0
   refine⟨_,rfl,by omega,by omega,fun d hd=>?_⟩
   have et:((g:Nat):Int).toNat=g:=by omega
   rw[et]
   have gm:g<=m:=by omega
   have hdb:d≠b:=by
    obtain⟨ys,e⟩:=B7.lst
    exact (Zd e hd).symm
   have x7:=(Ext.bag S7 B5).trans (Ext.new (o:=.lst []) hd)
   refine⟨g,fun i ys H'=>RowAt K H' aw ws/\RowAt K H' ae es/\BagAt H' b (40+(4*c+10)*i)/\∃ os:List Offr,Paired (fun v o=>OffAt K H' c o v) ys os/\os.length=i/\(∀ o∈os,OffN 114 c o)/\∀ o∈os,∀ bb r,priceO o bb=some r->(mn ws (gainR o bb)).1<=0,Zp (by omega),⟨Rw.ext x7,Re.ext x7,(B7.upd (Ne.symm hdb)).mono (by omega),[],.nil,rfl,(fun _ h=>nomatch h),fun _ h=>nomatch h⟩,?_,?_⟩
   ·rintro i ys H8 hi ⟨Rw8,Re8,B8,os,P8,l8,ok8,ft8⟩ hd8
    refine⟨hi,?_⟩
    rintro x H9 ⟨rfl,rfl⟩
    refine Ye ?_
    have bnd:=lim (g:=i) (by omega)
    refine⟨_,rfl,_,rfl,_,rfl,b,aw,c,_,78,_,_,ws,rfl,B8,by omega,Rw8,wq,rw',by decide,by omega,by omega,fun v H10 o B10 S10 O10 ok10 ft10=>?_⟩
    have hd10:H10 d=some (.lst ys):=S10 _ _ hd8 hdb
    have xu:=(Ext.bag S10 B8).trans (Ext.upd (o:=.lst (ys++[v])) hd10)
    exact⟨hd10,Rw8.ext xu,Re8.ext xu,(B10.upd (Ne.symm hdb)).mono (by rw[Nat.mul_add];omega),os++[o],Paired.snoc (Yo P8 xu) (O10.ext (Ext.upd hd10)),by rw[List.length_append,l8];rfl,fun o' ho=>(List.mem_append.mp ho).elim (ok8 o') fun z=>by rw[List.mem_singleton.mp z];exact ok10,fun o' ho=>(List.mem_append.mp ho).elim (ft8 o') fun z=>by rw[List.mem_singleton.mp z];exact ft10⟩
   rintro ys H8 ⟨Rw8,Re8,B8,os,P8,l8,ok8,ft8⟩ hd8
   have bnd:=lim gm
   exact⟨Nat.le_refl _,d,os,rfl,B8.mono (by omega),Re8,⟨ys,hd8,P8⟩,hdb,by omega,ok8,ft8⟩
  rintro σ H7 ⟨l1,os1,rfl,B7,Re7,⟨v1,h1,p1⟩,nlb,bk1⟩
  clear B5 Rw Re
  refine⟨fun σ H'=>∃ (l:Addr) (os:List Offr),σ=[some (.ref a),some (.ref b),some (.int c),some (.int m),some (.ref aw),some (.ref ae),some (.int y),some (.ref l1),some (.ref l),none,none,none]/\H' l1=some (.lst v1)/\Paired (fun v o=>OffAt K H' c o v) v1 os1/\OffsAt K H' l c os/\BookD c m os es,?_,?_⟩
  ·refine⟨_,rfl,_,rfl,_,_,rfl,rfl,b,_,_,rfl,B7,by omega,by omega,(Qe (x:=(m:Int)+1) (by omega) (by omega)).log (by decide),fun g H8 g0 g1 B8 S8=>?_⟩
   obtain⟨g,rfl⟩:=Int.eq_ofNat_of_zero_le g0
   refine⟨_,rfl,by omega,by omega,fun d hd=>?_⟩
   have et:((g:Nat):Int).toNat=g:=by omega
   rw[et]
   have gm:g<=m:=by omega
   have hdb:d≠b:=by
    obtain⟨ys,e⟩:=B8.lst
    exact (Zd e hd).symm
   have h18:=S8 _ _ h1 nlb
   have hdl:l1≠d:=Zd h18 hd
   have x8:=(Ext.bag S8 B7).trans (Ext.new (o:=.lst []) hd)
   refine⟨g,fun i ys H'=>(H' l1=some (.lst v1)/\Paired (fun v o=>OffAt K H' c o v) v1 os1)/\RowAt K H' ae es/\BagAt H' b (410+(4*c+10)*i)/\∃ os:List Offr,Paired (fun v o=>OffAt K H' c o v) ys os/\os.length=i/\(∀ o∈os,OffN 114 c o)/\∀ o∈os,∀ bb r,priceO o bb=some r->(mn es (gainR o bb)).1<=0,Zp (by omega),⟨⟨by rw[Zf hdl];exact h18,Yo p1 x8⟩,Re7.ext x8,(B8.upd (Ne.symm hdb)).mono (by omega),[],.nil,rfl,(fun _ h=>nomatch h),fun _ h=>nomatch h⟩,?_,?_⟩
   ·rintro i ys H9 hi ⟨⟨h19,p19⟩,Re9,B9,os,P9,l9,ok9,ft9⟩ hd9
    refine⟨hi,?_⟩
    rintro x H9' ⟨rfl,rfl⟩
    refine Ye ?_
    have bnd:=lim (g:=i) (by omega)
    refine⟨_,rfl,_,rfl,_,rfl,b,ae,c,_,78,_,_,es,rfl,B9,by omega,Re9,we,re,by decide,by omega,by omega,fun v H10 o B10 S10 O10 ok10 ft10=>?_⟩
    have hd10:H10 d=some (.lst ys):=S10 _ _ hd9 hdb
    have xu:=(Ext.bag S10 B9).trans (Ext.upd (o:=.lst (ys++[v])) hd10)
    exact⟨hd10,⟨by rw[Zf hdl];exact S10 _ _ h19 nlb,Yo p19 xu⟩,Re9.ext xu,(B10.upd (Ne.symm hdb)).mono (by rw[Nat.mul_add];omega),os++[o],Paired.snoc (Yo P9 xu) (O10.ext (Ext.upd hd10)),by rw[List.length_append,l9];rfl,fun o' ho=>(List.mem_append.mp ho).elim (ok9 o') fun z=>by rw[List.mem_singleton.mp z];exact ok10,fun o' ho=>(List.mem_append.mp ho).elim (ft9 o') fun z=>by rw[List.mem_singleton.mp z];exact ft10⟩
   rintro ys H9 ⟨⟨h19,p19⟩,Re9,B9,os,P9,l9,ok9,ft9⟩ hd9
   exact⟨Nat.le_refl _,d,os,rfl,h19,p19,⟨ys,hd9,P9⟩,by omega,ok9,ft9⟩
  rintro σ H8 ⟨l2,os2,rfl,h18,p18,⟨v2,h2,p2⟩,bk2⟩
  clear B7 h1 p1 nlb Re7
  have w1:=bk1.wts wq
  have w2:=bk2.wts we
  have rep1:=BookD.rep bk1.off
  have rep2:=BookD.rep bk2.off
  have rows1:∀ rs∈gainsP os1 os1.length,RowR c rs:=fun rs hr=>RowR.of (rep1 rs hr).1 (rep1 rs hr).2
  have rows2:∀ rs∈gainsP os2 os2.length,RowR c rs:=fun rs hr=>RowR.of (rep2 rs hr).1 (rep2 rs hr).2
  have n1:=Vu bk1.few
  have n2:=Vu bk2.few
  have f1:=bk1.few
  have f2:=bk2.few
  have m6:=hm.1
  have sz:=hm.2
  have bp:=BookP.of bk1.off bk2.off f1 f2 m6 sz
  have b1:=BookM.of9 bk1.off f1 m6 sz
  have b2:=BookM.of9 bk2.off f2 m6 sz
  clear sz
  have hm2:2*m+min c (4*m+2)<=14:=hm.2
  have m10:min c (4*m+2)<=10:=by rcases Nat.lt_or_ge m 2 with q | q <;> omega
  generalize min c (4*m+2)=e at *
  refine⟨fun σ H'=>∃ (vf:V),σ=[some (.ref a),some (.ref b),some (.int c),some (.int m),some (.ref aw),some (.ref ae),some (.int y),some (.ref l1),some (.ref l2),some vf,none,none]/\Same H8 H'/\((vf=.non/\∃ W,WtsQ c (gainsP os1 os1.length++gainsP os2 os2.length) W) \/ ∃ (t ar ah al:Addr) (R:List Rat),vf=.ref t/\SqT K H' t [.ref ar,.ref ah,.ref al]/\RowAt K H' ar R/\PartR c (gainsP os1 os1.length) (gainsP os2 os2.length) R/\∃ D U,RepL (119*e+1+119) D U R),?_,?_⟩
  ·refine⟨_,rfl,_,rfl,l1,_,rfl,.inl (SqL.of h18),fun a1 ha1=>?_⟩
   have T1:=Same.new (o:=.lst v1) ha1
   have e1:upd H8 a1 (.lst v1) a1=some (.lst v1):=Zb
   generalize upd H8 a1 (.lst v1)=H9 at *
   refine⟨_,rfl,l2,_,rfl,.inl (SqL.of (T1 _ _ h2)),fun a2 ha2=>?_⟩
   have T2:=Same.new (o:=.lst v2) ha2
   have e2:upd H9 a2 (.lst v2) a2=some (.lst v2):=Zb
   generalize upd H9 a2 (.lst v2)=H10 at *
   have S:=T1.trans T2
   refine⟨a1,a2,c,119*e+1,_,os1,os2,rfl,⟨v1,T2 _ _ e1,Yo p18 (Ext.same S)⟩,⟨v2,e2,Yo p2 (Ext.same S)⟩,bp,b1,b2,by omega,by omega,⟨_,w1.wts rows1⟩,⟨_,w2.wts rows2⟩,Tk,rep1,c2,by omega,fun H11 S11 hw=>⟨_,rfl,S.trans S11,.inl ⟨rfl,hw⟩⟩,fun t ar ah al R H11 S11 ht hR part rR=>⟨_,rfl,S.trans S11,.inr ⟨t,ar,ah,al,R,rfl,ht,hR,part,rR⟩⟩⟩
  rintro σ H9 ⟨vf,rfl,S9,alt⟩
  have gains:∀ {H:Hp},Same H9 H->OffsAt K H l1 c os1/\OffsAt K H l2 c os2:=fun S=>⟨⟨v1,(S9.trans S) _ _ h18,Yo p18 (Ext.same (S9.trans S))⟩,⟨v2,(S9.trans S) _ _ h2,Yo p2 (Ext.same (S9.trans S))⟩⟩
  refine⟨fun σ H'=>∃ (d:Addr),σ=[some (.ref a),some (.ref b),some (.int c),some (.int m),some (.ref aw),some (.ref ae),some (.int y),some (.ref l1),some (.ref l2),some vf,some (.ref d),none]/\Same H9 H'/\RowsAt K H' d (gainsP os1 os1.length++gainsP os2 os2.length),?_,?_⟩
  ·refine⟨_,rfl,l1,c,114,os1,rfl,(gains (Same.refl _)).1,by omega,by omega,by decide,fun o h=>(bk1.off o h).good,fun d1 H10 fd1 S10 ⟨ad1,hd1,hA1⟩=>?_⟩
   refine⟨_,rfl,l2,c,114,os2,rfl,(gains S10).2,by omega,by omega,by decide,fun o h=>(bk2.off o h).good,fun d2 H11 fd2 S11 ⟨ad2,hd2,hA2⟩=>?_⟩
   have la1:=Paired.length hA1
   have la2:=Paired.length hA2
   refine⟨d1,d2,_,_,rfl,rfl,S11 _ _ hd1,hd2,Zp (by rw[List.length_map,List.length_map];omega),fun lj hlj=>?_⟩
   have T3:=Same.new (o:=.lst (ad1.map V.ref++ad2.map V.ref)) hlj
   exact⟨lj,rfl,(S10.trans S11).trans T3,ad1++ad2,by rw[List.map_append];exact Zb,Paired.appP (Yg hA1 (Ext.same (S11.trans T3))) (Yg hA2 (Ext.same T3))⟩
  rintro σ H10 ⟨d,rfl,S10,hd⟩
  rcases alt with ⟨rfl,W,wW⟩ | ⟨t,ar,ah,al,R,rfl,ht,hR,part,D,U,rR⟩
  ·refine⟨_,rfl,rfl,_,rfl,Ti ?_⟩
   have rep:∀ rs∈gainsP os1 os1.length++gainsP os2 os2.length,rs.length=c/\∃ D Z,RepL 114 D Z rs:=fun rs h=>(List.mem_append.mp h).elim (rep1 rs) (rep2 rs)
   have rows:∀ rs∈gainsP os1 os1.length++gainsP os2 os2.length,RowR c rs:=fun rs h=>(List.mem_append.mp h).elim (rows1 rs) (rows2 rs)
   have lr:(gainsP os1 os1.length++gainsP os2 os2.length).length<=24:=by rw[List.length_append];omega
   have bd:=bp.bd
   rw[Tk] at bd
   generalize gainsP os1 os1.length++gainsP os2 os2.length=rss at *
   have et:(c:Int).toNat=c:=by omega
   refine⟨_,rfl,_,rfl,_,rfl,(c:Int),rfl,(by omega),(by omega),fun q hq=>?_⟩
   rw[et]
   refine⟨c,fun i ys H'=>Same H10 H'/\Rs K H' (List.replicate i (0,1)) ys,Zp (by omega),⟨Same.new hq,.nil⟩,?_,?_⟩
   ·rintro i ys H11 hi ⟨S11,R11⟩ hd11
    refine⟨hi,?_⟩
    rintro x' H3 ⟨rfl,rfl⟩
    refine Ye ?_
    refine⟨sz2,fun p hp=>?_⟩
    have S12:Same H3 (upd H3 p (.tup [.int 0,.int 1])):=Same.new hp
    have hd12:=S12 _ _ hd11
    refine⟨hd12,fun q o' e=>?_,?_⟩
    ·rw[Zf (Zd e hq)]
     exact S12 _ _ (S11 _ _ e)
    ·rw[List.replicate_succ']
     exact (R11.ext ((Ext.same S12).trans (Ext.upd hd12))).snoc ⟨p,rfl,(Ext.upd hd12).sq (SqT.of Zb)⟩
   rintro ys0 H11 ⟨S11,R11⟩ hq11
   refine⟨Nat.le_refl _,q,ys0,rfl,.inl ⟨SqL.of hq11,fun lt hlt=>?_⟩⟩
   have T4:=Same.new (o:=.tup ys0) hlt
   have R12:RowAt K (upd H11 lt (.tup ys0)) lt (List.replicate c (0,1)):=⟨ys0,SqT.of Zb,R11.ext (Ext.new hlt)⟩
   generalize upd H11 lt (.tup ys0)=H12 at *
   have S12:=S11.trans T4
   have zr:=Qf c (show 1<=114 by decide)
   have hd12:RowsAt K H12 d rss:=by
    obtain⟨ads,e,hA⟩:=hd
    exact⟨ads,S12 _ _ e,Yg hA (Ext.same S12)⟩
   refine⟨d,lt,.non,c,114,119*e+1,rss,none,List.replicate c (0,1),rfl,hd12,rfl,R12,by simp,rep,⟨_,_,zr⟩,by decide,by decide,by omega,by omega,fun T' I=>bd _ T' ⟨_,_,zr.cut none⟩ I,by omega,by omega,by omega,fun Tb q t4 xs H13 fq S13 nt hq rs4 sq=>(nt.noloadsq rows wW).elim,fun Tb q t4 va lo xs H13 fq S13 mt hq rs4 iv rl sq=>?_⟩
   refine⟨_,rfl,t4,_,_,_,rfl,rfl,sq,Zg (j:=0) rfl,rfl,_,rfl,Ti ?_⟩
   obtain⟨wl,_,DL,UL,rL⟩:=mt.meets rep ⟨_,_,zr⟩ (by simp) (by decide) (by omega)
   have bl:=bd _ _ ⟨_,_,zr.cut none⟩ mt.inv
   have rl':=Tf mt.inv.pos (TabOk.of mt.inv) bl
   have hd13:RowsAt K H13 d rss:=by
    obtain⟨ads,e,hA⟩:=hd12
    exact⟨ads,S13 _ _ e,Yg hA (Ext.same S13)⟩
   exact⟨_,rfl,t4,_,_,_,rfl,rfl,sq,Zg (j:=2) rfl,_,rfl,lo,d,c,114,_,_,rss,rfl,rl,hd13,wl.len,⟨_,_,rl'⟩,wl,rep,by omega,by omega,fun H14 S14=>k _⟩
  ·refine⟨_,rfl,rfl,_,rfl,Wf ?_⟩
   refine⟨_,rfl,_,rfl,l1,c,114,os1,rfl,(gains S10).1,by omega,by omega,by decide,fun o h=>(bk1.off o h).good,fun d1 H11 fd1 S11 ⟨ad1,hd1,hA1⟩=>?_⟩
   have S911:=S10.trans S11
   refine⟨_,rfl,l2,c,114,os2,rfl,(gains S911).2,by omega,by omega,by decide,fun o h=>(bk2.off o h).good,fun d2 H12 fd2 S12 hR2=>?_⟩
   have S912:=S911.trans S12
   have l1':=Nat.mul_le_mul_left 119 n1
   have l2':=Nat.mul_le_mul_left 119 n2
   exact⟨_,rfl,t,_,_,_,rfl,rfl,Zq S912 ht,Zg (j:=0) rfl,d1,d2,ar,c,119*e+1+119,119*(2*m)+(119*e+120)+12,114+(119*(2*m)+(119*e+120)+12),_,_,R,D,U,rfl,⟨ad1,S12 _ _ hd1,Yg hA1 (Ext.same S12)⟩,hR2,rep1,rep2,hR.same S912,rR,part,⟨_,w1⟩,⟨_,w2⟩,by omega,by omega,by omega,by omega,by omega,by omega,by omega,by omega,by omega,by omega,by omega,c2,by omega,fun H' _=>k _⟩
end
end Sb
theorem Sb.len1 {us:List PySem.Value}(h:us.length=1):∃ a0,us=[a0]:=by
 match us,h with
 | [a0],_=>exact⟨a0,rfl⟩
theorem Sb.len2 {us:List PySem.Value}(h:us.length=2):∃ a0 a1,us=[a0,a1]:=by
 match us,h with
 | [a0,a1],_=>exact⟨a0,a1,rfl⟩
theorem Sb.len3 {us:List PySem.Value}(h:us.length=3):∃ a0 a1 a2,us=[a0,a1,a2]:=by
 match us,h with
 | [a0,a1,a2],_=>exact⟨a0,a1,a2,rfl⟩
theorem Sb.len4 {us:List PySem.Value}(h:us.length=4):∃ a0 a1 a2 a3,us=[a0,a1,a2,a3]:=by
 match us,h with
 | [a0,a1,a2,a3],_=>exact⟨a0,a1,a2,a3,rfl⟩
theorem Sb.len5 {us:List PySem.Value}(h:us.length=5):∃ a0 a1 a2 a3 a4,us=[a0,a1,a2,a3,a4]:=by
 match us,h with
 | [a0,a1,a2,a3,a4],_=>exact⟨a0,a1,a2,a3,a4,rfl⟩
theorem Sb.len6 {us:List PySem.Value}(h:us.length=6):∃ a0 a1 a2 a3 a4 a5,us=[a0,a1,a2,a3,a4,a5]:=by
 match us,h with
 | [a0,a1,a2,a3,a4,a5],_=>exact⟨a0,a1,a2,a3,a4,a5,rfl⟩
namespace PySem.W.Fast
theorem tw5044963421975635877:True:=⟨⟩
theorem te16356176466998024307:True:=⟨⟩
theorem tw16356176466998024307:True:=⟨⟩
theorem tw15378514447898043528:True:=⟨⟩
theorem tw14712354930468392347:True:=⟨⟩
theorem tw4757097426126627470:True:=⟨⟩
theorem tw6338924515838331475:True:=⟨⟩
theorem tw27912496081436848:True:=⟨⟩
theorem tw13886207714418043655:True:=⟨⟩
theorem tw16208886747643068070:True:=⟨⟩
theorem tw1736498264326760612:True:=⟨⟩
theorem tw11158526891665755039:True:=⟨⟩
theorem tw781986516963501636:True:=⟨⟩
theorem tw13023089605313532563:True:=⟨⟩
theorem tw7667709538311496255:True:=⟨⟩
theorem tw13616801660847567318:True:=⟨⟩
theorem tw16515737768463833525:True:=⟨⟩
theorem tw5118078830461605571:True:=⟨⟩
theorem tw10588926113405056738:True:=⟨⟩
theorem tw11762985249975334545:True:=⟨⟩
theorem tw3355693799223157197:True:=⟨⟩
theorem tw15644808671054500007:True:=⟨⟩
theorem tw3806037430325125041:True:=⟨⟩
theorem tw13143012445511413123:True:=⟨⟩
theorem tw11084767832461720150:True:=⟨⟩
theorem tw969150113894494959:True:=⟨⟩
theorem tw6033066784432065749:True:=⟨⟩
theorem tw4223184856680078:True:=⟨⟩
theorem tw101387365357288044:True:=⟨⟩
theorem tw11242724498075378248:True:=⟨⟩
theorem tw4155964223756315004:True:=⟨⟩
theorem tw13255139168730437634:True:=⟨⟩
theorem tw8563390136381943316:True:=⟨⟩
theorem tw4137299187018008481:True:=⟨⟩
theorem tw15516122861614377139:True:=⟨⟩
theorem tw17115253314883870381:True:=⟨⟩
theorem tw3726219803012594379:True:=⟨⟩
theorem tw10213952620833958647:True:=⟨⟩
theorem tw14970125907405853354:True:=⟨⟩
theorem tw252762231284311714:True:=⟨⟩
theorem tw3883703169376084498:True:=⟨⟩
theorem tw13758336993985520258:True:=⟨⟩
theorem tw2191846935498605136:True:=⟨⟩
theorem tw15601435526677336776:True:=⟨⟩
theorem tw8468316246997756656:True:=⟨⟩
theorem tw16111652363394293736:True:=⟨⟩
theorem tw9897773900101580112:True:=⟨⟩
theorem tw16803603091517251527:True:=⟨⟩
theorem tw716808743370883643:True:=⟨⟩
theorem tw12862664617255312408:True:=⟨⟩
theorem tw17615446966748652280:True:=⟨⟩
theorem tw1347128897002090328:True:=⟨⟩
theorem tw13047276444618474021:True:=⟨⟩
theorem tw17017795748155083939:True:=⟨⟩
theorem tw10041126022919933675:True:=⟨⟩
theorem tw14965231982072051934:True:=⟨⟩
theorem tw13676396365958315013:True:=⟨⟩
theorem tw13359546991257818972:True:=⟨⟩
theorem tw17791743685790539305:True:=⟨⟩
theorem tw2575829201604715372:True:=⟨⟩
theorem tw16521406624483210236:True:=⟨⟩
theorem tw4803477327285531951:True:=⟨⟩
theorem tw9134145281385354041:True:=⟨⟩
theorem tw4992881056118358675:True:=⟨⟩
theorem tw7904560844477483765:True:=⟨⟩
theorem tw2693547881618827120:True:=⟨⟩
theorem tw4329773462798158023:True:=⟨⟩
theorem tw12287235486401095533:True:=⟨⟩
theorem tw16305583951188785673:True:=⟨⟩
theorem tw9305053838726229267:True:=⟨⟩
theorem tw6304969804718151099:True:=⟨⟩
theorem tw14578441458793028284:True:=⟨⟩
theorem tw10209244072526810186:True:=⟨⟩
theorem tw14765124378186442022:True:=⟨⟩
theorem tw6172943105835814583:True:=⟨⟩
theorem tw15432234873980877506:True:=⟨⟩
theorem tw7805739195513825039:True:=⟨⟩
theorem tw10689413848622099031:True:=⟨⟩
theorem tw15331485810768769261:True:=⟨⟩
theorem tw1870175728727707160:True:=⟨⟩
theorem tw14465169131006812627:True:=⟨⟩
theorem tw7846596107802198903:True:=⟨⟩
theorem tw12253944531503824608:True:=⟨⟩
theorem tw2190718781079465182:True:=⟨⟩
theorem tw16899692351079705617:True:=⟨⟩
theorem tw11505242056080945825:True:=⟨⟩
theorem tw307141247905617782:True:=⟨⟩
theorem tw1656426201667059838:True:=⟨⟩
theorem tw7298948463219621497:True:=⟨⟩
theorem tw7826637525669411376:True:=⟨⟩
theorem tw14976628201008405834:True:=⟨⟩
theorem tw9065690624495377076:True:=⟨⟩
theorem tw16783899755103870029:True:=⟨⟩
theorem tw13793945742992748968:True:=⟨⟩
theorem tw12975000005572586928:True:=⟨⟩
theorem tw4254100453024028240:True:=⟨⟩
theorem tw16303466627876046993:True:=⟨⟩
theorem tw1762383281784115366:True:=⟨⟩
theorem tw15939571211629165823:True:=⟨⟩
theorem tw2159442723493030144:True:=⟨⟩
theorem tw2893476236117641333:True:=⟨⟩
theorem tw244237068594163985:True:=⟨⟩
theorem tw18331812334634332309:True:=⟨⟩
theorem tw13658881506421221283:True:=⟨⟩
theorem tw14446124954964687594:True:=⟨⟩
theorem tw9564444031302113136:True:=⟨⟩
theorem tw840868481966835933:True:=⟨⟩
theorem tw13658757970991873934:True:=⟨⟩
theorem tw8318876531463705806:True:=⟨⟩
theorem tw13589830582192812421:True:=⟨⟩
theorem tw7876429334566607884:True:=⟨⟩
theorem tw7110332411604890435:True:=⟨⟩
theorem tw2542972785947041354:True:=⟨⟩
theorem tw15052876193172488688:True:=⟨⟩
theorem tw16213009568897420780:True:=⟨⟩
theorem tw5997010683757475212:True:=⟨⟩
theorem tw8625415468443693423:True:=⟨⟩
theorem tw12985092870367789148:True:=⟨⟩
theorem tw4305029888075939721:True:=⟨⟩
theorem tw16101110432554082883:True:=⟨⟩
theorem tw280650258938260999:True:=⟨⟩
theorem tw10292633391688689647:True:=⟨⟩
theorem tw17504501674420936368:True:=⟨⟩
theorem tw3684681718633489899:True:=⟨⟩
theorem tw903184966868831184:True:=⟨⟩
theorem tw977731246865597056:True:=⟨⟩
theorem tw12711414702216326853:True:=⟨⟩
theorem tw13789043212784021702:True:=⟨⟩
theorem tw1555589359420711196:True:=⟨⟩
theorem tw710980246534097047:True:=⟨⟩
theorem tw7600976998071874262:True:=⟨⟩
theorem tw1842250218235693303:True:=⟨⟩
theorem tw1061992769627018316:True:=⟨⟩
theorem tw14011137685860994218:True:=⟨⟩
theorem tw7791574440352365073:True:=⟨⟩
theorem tw7197697380165179455:True:=⟨⟩
theorem tw11811412071489607404:True:=⟨⟩
theorem tw934857811432747230:True:=⟨⟩
theorem tw2629495390848002614:True:=⟨⟩
theorem tw17166838561044111434:True:=⟨⟩
theorem tw18210694980702294590:True:=⟨⟩
theorem tw5739128181665286604:True:=⟨⟩
theorem tw15505011613847506604:True:=⟨⟩
theorem tw15143887200889570958:True:=⟨⟩
theorem tw13326109766887706323:True:=⟨⟩
theorem tw12758628049440761467:True:=⟨⟩
theorem tw3166574577849670533:True:=⟨⟩
theorem tw12739574856532742863:True:=⟨⟩
theorem tw6223605237426264606:True:=⟨⟩
theorem tw6150439489758178139:True:=⟨⟩
theorem tw11108846698128702901:True:=⟨⟩
theorem tw13832413261641163529:True:=⟨⟩
theorem tw7333158335593826439:True:=⟨⟩
theorem tw10840713809643928670:True:=⟨⟩
theorem tw10048972044857420788:True:=⟨⟩
theorem tw4653096303144827478:True:=⟨⟩
theorem tw6293867276388805479:True:=⟨⟩
theorem tw772043607949471630:True:=⟨⟩
theorem tw17159377546646498669:True:=⟨⟩
theorem tw16890493473620746929:True:=⟨⟩
theorem tw3276812246486712567:True:=⟨⟩
theorem tw10884606981780649932:True:=⟨⟩
theorem tw15426349854549719406:True:=⟨⟩
theorem tw10681737315288082741:True:=⟨⟩
theorem tw9654785102745164841:True:=⟨⟩
theorem tw10203454494841456641:True:=⟨⟩
theorem tw16573761791418820699:True:=⟨⟩
theorem tw5764704164746613828:True:=⟨⟩
theorem tw7445572091525173879:True:=⟨⟩
theorem tw10316704714311959201:True:=⟨⟩
theorem tw16706339471613931142:True:=⟨⟩
theorem tw7005778060535447750:True:=⟨⟩
theorem tw9548795022161489055:True:=⟨⟩
theorem tw2947320736924038550:True:=⟨⟩
theorem tw9235303124146808493:True:=⟨⟩
theorem tw18184365666488164872:True:=⟨⟩
theorem tw4065209122757635163:True:=⟨⟩
theorem tw7387589193696925792:True:=⟨⟩
theorem tw3826665453657346201:True:=⟨⟩
theorem tw7279878118295834736:True:=⟨⟩
theorem tw16892327334488259270:True:=⟨⟩
theorem tw17894256045301023457:True:=⟨⟩
theorem tw7201003454064996994:True:=⟨⟩
theorem tw15963116904274152002:True:=⟨⟩
theorem tw4540440872146294830:True:=⟨⟩
theorem tw15019719853962280666:True:=⟨⟩
theorem tw7710311981896308543:True:=⟨⟩
theorem tw18322205884994092320:True:=⟨⟩
theorem tw5138684294963698593:True:=⟨⟩
theorem tw10788109085622540819:True:=⟨⟩
theorem tw18177343240550700305:True:=⟨⟩
theorem tw12403026778199673087:True:=⟨⟩
theorem tw10539798752415680030:True:=⟨⟩
theorem tw18057359814964341048:True:=⟨⟩
theorem tw2860882219573226455:True:=⟨⟩
theorem tw6152722177169016714:True:=⟨⟩
theorem tw3570860175941087238:True:=⟨⟩
theorem tw10678174691849414876:True:=⟨⟩
theorem tw6604956840840570957:True:=⟨⟩
theorem tw5821086725673336761:True:=⟨⟩
theorem tw16568819284172282314:True:=⟨⟩
theorem tw16275272157230889075:True:=⟨⟩
theorem tw5479265408117174353:True:=⟨⟩
theorem tw3851483861954093488:True:=⟨⟩
theorem tw3682215994931675299:True:=⟨⟩
theorem tw7458786389262644698:True:=⟨⟩
theorem tw14666734962419761368:True:=⟨⟩
theorem tw3839582919198775939:True:=⟨⟩
theorem tw4091027866314360554:True:=⟨⟩
theorem tw7768740525565781013:True:=⟨⟩
theorem tw8376218331013076867:True:=⟨⟩
theorem tw17560308288112370830:True:=⟨⟩
theorem tw8067793010677791659:True:=⟨⟩
theorem tw10233295184333012768:True:=⟨⟩
theorem tw10736301150887978942:True:=⟨⟩
theorem tw9130558844946728046:True:=⟨⟩
theorem tw17186987182558161889:True:=⟨⟩
theorem tw1485977799249664978:True:=⟨⟩
theorem tw16885854213200182984:True:=⟨⟩
theorem tw6726592831348776187:True:=⟨⟩
theorem tw10267401109991152304:True:=⟨⟩
theorem tw531047187655585892:True:=⟨⟩
theorem tw14710481867092229223:True:=⟨⟩
theorem tw5971740466639952221:True:=⟨⟩
theorem tw15771176094112253007:True:=⟨⟩
theorem tw14307121434970590469:True:=⟨⟩
theorem tw2362588498824741843:True:=⟨⟩
theorem tw11167156192637983258:True:=⟨⟩
theorem tw7178363823335841696:True:=⟨⟩
theorem tw6423641458575134226:True:=⟨⟩
theorem tw11711268571257596555:True:=⟨⟩
theorem tw6133444209739324863:True:=⟨⟩
theorem tw5540178507377835599:True:=⟨⟩
theorem tw6968625181997644739:True:=⟨⟩
theorem tw17719248972575777095:True:=⟨⟩
theorem tw8566318625913204274:True:=⟨⟩
theorem tw6196516800048165470:True:=⟨⟩
theorem tw2004946840220599114:True:=⟨⟩
theorem tw448166489977585935:True:=⟨⟩
theorem tw4014595649826398582:True:=⟨⟩
theorem tw16866543023705016200:True:=⟨⟩
theorem tw3670290685406853823:True:=⟨⟩
theorem tw8715266887440344581:True:=⟨⟩
theorem tw6806139283447716140:True:=⟨⟩
theorem tw16023157574221349651:True:=⟨⟩
theorem tw1003244036042143347:True:=⟨⟩
theorem tw16445359625471866930:True:=⟨⟩
theorem tw655719410646255912:True:=⟨⟩
theorem tw8280041365253892445:True:=⟨⟩
theorem tw4605886799493932011:True:=⟨⟩
theorem tw13295712818746694263:True:=⟨⟩
theorem tw15926133334736270411:True:=⟨⟩
theorem tw16097273489726898764:True:=⟨⟩
theorem tw13882262645420388320:True:=⟨⟩
theorem tw4335586371865855777:True:=⟨⟩
theorem tw12142970788149585717:True:=⟨⟩
theorem tw4127617952089611472:True:=⟨⟩
theorem tw11614227652498837667:True:=⟨⟩
theorem tw3135564822334275238:True:=⟨⟩
theorem tw13469230200955843780:True:=⟨⟩
theorem tw7318346656515217344:True:=⟨⟩
theorem tw2643860888848810911:True:=⟨⟩
theorem tw6299742122144871343:True:=⟨⟩
theorem tw10297000427387485806:True:=⟨⟩
theorem tw8818661161812757048:True:=⟨⟩
theorem tw13660161153724526600:True:=⟨⟩
theorem tw10853835344971151362:True:=⟨⟩
theorem tw15436069586076025996:True:=⟨⟩
theorem tw9986425918131607171:True:=⟨⟩
theorem tw16696229267246710346:True:=⟨⟩
theorem tw3148995301644584004:True:=⟨⟩
theorem tw12141011749110257804:True:=⟨⟩
theorem tw9233962714159226712:True:=⟨⟩
theorem tw16571874414275110651:True:=⟨⟩
theorem tw15165375964096733366:True:=⟨⟩
theorem tw14748862630087450761:True:=⟨⟩
theorem tw6559073954310944764:True:=⟨⟩
theorem tw7409113679409393529:True:=⟨⟩
theorem tw524274811011972341:True:=⟨⟩
theorem tw12442604129212193772:True:=⟨⟩
theorem tw14307170732180898017:True:=⟨⟩
theorem tw11846263419785205421:True:=⟨⟩
theorem tw18052382499605365247:True:=⟨⟩
theorem tw4586796802730861886:True:=⟨⟩
theorem tw2710796663465408635:True:=⟨⟩
theorem tw14758605225874286566:True:=⟨⟩
theorem tw3614082271558486127:True:=⟨⟩
theorem tw4904507005406579115:True:=⟨⟩
theorem tw13230990671199411016:True:=⟨⟩
theorem tw877612834808939307:True:=⟨⟩
theorem tw6118555162887712355:True:=⟨⟩
theorem tw15974028583750330386:True:=⟨⟩
theorem tw15215005679051209822:True:=⟨⟩
theorem tw11284810368883943571:True:=⟨⟩
theorem tw14167842269906365073:True:=⟨⟩
theorem tw18125890489159216417:True:=⟨⟩
theorem tw12796507367486791134:True:=⟨⟩
theorem tw14805639643217382663:True:=⟨⟩
theorem tw2621314947760351288:True:=⟨⟩
theorem tw9012380802810092329:True:=⟨⟩
theorem tw7329022860423320319:True:=⟨⟩
theorem tw1645856727213298650:True:=⟨⟩
theorem tw12645801175515912234:True:=⟨⟩
theorem tw6540625923341701043:True:=⟨⟩
theorem tw13388858879844961337:True:=⟨⟩
theorem tw12777035603814036404:True:=⟨⟩
theorem tw66479201400773278:True:=⟨⟩
theorem tw17005302343819779350:True:=⟨⟩
theorem tw2784123659877113777:True:=⟨⟩
theorem tw12602992428938742388:True:=⟨⟩
theorem tw8739094418032158235:True:=⟨⟩
theorem tw5021436391012047395:True:=⟨⟩
theorem tw4184181878678523248:True:=⟨⟩
theorem tw7204182071993741729:True:=⟨⟩
theorem tw8389199555267887133:True:=⟨⟩
theorem tw17729451892461347560:True:=⟨⟩
theorem tw11942821263884001907:True:=⟨⟩
theorem tw1538488507874008847:True:=⟨⟩
theorem tw12325434063799058153:True:=⟨⟩
theorem tw13494648454772049617:True:=⟨⟩
theorem tw6776808937814245348:True:=⟨⟩
theorem tw798749377837432498:True:=⟨⟩
theorem tw11945626884643425913:True:=⟨⟩
theorem tw12970683944651417904:True:=⟨⟩
theorem tw10511128107470437838:True:=⟨⟩
theorem tw6016372986109594095:True:=⟨⟩
theorem tw3178909391653445038:True:=⟨⟩
theorem tw17948464374130632421:True:=⟨⟩
theorem tw9695436053370766621:True:=⟨⟩
theorem tw14895232948374542845:True:=⟨⟩
theorem tw2543694784932668202:True:=⟨⟩
theorem tw9838878928159408345:True:=⟨⟩
theorem tw8898037392332799735:True:=⟨⟩
theorem tw15609221327689790451:True:=⟨⟩
theorem tw14803082631376771195:True:=⟨⟩
theorem tw3486014275861720157:True:=⟨⟩
theorem tw2488892678497059239:True:=⟨⟩
theorem tw7118305529917270719:True:=⟨⟩
theorem tw9222475298145065920:True:=⟨⟩
theorem tw7069215305248012817:True:=⟨⟩
theorem tw7706342513896901859:True:=⟨⟩
theorem tw12415683114914760013:True:=⟨⟩
theorem tw3977139982882782181:True:=⟨⟩
theorem tw13245260497726093782:True:=⟨⟩
theorem tw12911969084048482493:True:=⟨⟩
theorem tw13305914238820283360:True:=⟨⟩
theorem tw990306213397822383:True:=⟨⟩
theorem tw11729148832487257044:True:=⟨⟩
theorem tw13257668177845033111:True:=⟨⟩
theorem tw13934011562246352451:True:=⟨⟩
theorem tw4854874883428402586:True:=⟨⟩
theorem tw7743691704812523479:True:=⟨⟩
theorem tw1509404875454943230:True:=⟨⟩
theorem tw15357455415609818783:True:=⟨⟩
theorem tw3672703895430651459:True:=⟨⟩
theorem tw14248319339991366078:True:=⟨⟩
theorem tw15833707715073609428:True:=⟨⟩
theorem tw4790906042194292070:True:=⟨⟩
theorem tw12688863711754019899:True:=⟨⟩
theorem tw16121994993446185258:True:=⟨⟩
theorem tw15255621287854234457:True:=⟨⟩
theorem tw6149371338372478009:True:=⟨⟩
theorem tw16565943002833844391:True:=⟨⟩
theorem tw2547265472109064064:True:=⟨⟩
theorem tw10347871687744644248:True:=⟨⟩
theorem tw15689985695631841780:True:=⟨⟩
theorem tw30372382130168918:True:=⟨⟩
theorem tw4912459039901529142:True:=⟨⟩
theorem tw8744961221802941010:True:=⟨⟩
theorem tw1894592759532558895:True:=⟨⟩
theorem tw3903334608295636198:True:=⟨⟩
end PySem.W.Fast
abbrev Sb.pk:PySem.Program:=PySem.Challenge.rw_surebook_k40_whole_joined.prog
theorem Sb.bn1 {C:List PySem.Value->Prop}{us:List PySem.Value}(h:us.length=1)(k:∀ a0,C [a0]):C us:=by
 obtain⟨a0,rfl⟩:=Sb.len1 h
 exact k _
theorem Sb.bn2 {C:List PySem.Value->Prop}{us:List PySem.Value}(h:us.length=2)(k:∀ a0 a1,C [a0,a1]):C us:=by
 obtain⟨a0,a1,rfl⟩:=Sb.len2 h
 exact k _ _
theorem Sb.bn3 {C:List PySem.Value->Prop}{us:List PySem.Value}(h:us.length=3)(k:∀ a0 a1 a2,C [a0,a1,a2]):C us:=by
 obtain⟨a0,a1,a2,rfl⟩:=Sb.len3 h
 exact k _ _ _
theorem Sb.bn4 {C:List PySem.Value->Prop}{us:List PySem.Value}(h:us.length=4)(k:∀ a0 a1 a2 a3,C [a0,a1,a2,a3]):C us:=by
 obtain⟨a0,a1,a2,a3,rfl⟩:=Sb.len4 h
 exact k _ _ _ _
theorem Sb.bn5 {C:List PySem.Value->Prop}{us:List PySem.Value}(h:us.length=5)(k:∀ a0 a1 a2 a3 a4,C [a0,a1,a2,a3,a4]):C us:=by
 obtain⟨a0,a1,a2,a3,a4,rfl⟩:=Sb.len5 h
 exact k _ _ _ _ _
open PySem PySem.W PyProof.Rows
set_option maxRecDepth 100000 in
set_option maxHeartbeats 0 in
theorem PySem.Challenge.cw_surebook_k40_whole_joined_holds : PySem.Challenge.rw_surebook_k40_whole_joined.Holds := by
 w_on; o_law; k_head; (case hw=>w_witness2)
 k_fill
 refine L2.Fk (l:=PySem.Challenge.rw_surebook_k40_whole_joined) (n:=63) (k:=9) (x:="_law_script") (CX:=L2.CX0) (sp:=Sb.spLaw) (sr:=true) rfl (by decide) rfl ⟨fun _=>rfl,by decide,by decide⟩ (fun w h Y=>PySem.W.kIn_of Y) ?F (fun K H a ns hl hO hS=>⟨a,ns,rfl,hS,fun _=>rfl⟩) (fun _ _ _ _ z=>z)
 case F =>
  intro w mg fa h KX G hmg
  have n_len:mg "len"=none:=by
   refine' PySem.W.mg_none_of KX G ?z
   (case z=>k_is)
  have n_abs:mg "abs"=none:=by
   refine' PySem.W.mg_none_of KX G ?z
   (case z=>k_is)
  have n_isinstance:mg "isinstance"=none:=by
   refine' PySem.W.mg_none_of KX G ?z
   (case z=>k_is)
  have n_int:mg "int"=none:=by
   refine' PySem.W.mg_none_of KX G ?z
   (case z=>k_is)
  have n_bool:mg "bool"=none:=by
   refine' PySem.W.mg_none_of KX G ?z
   (case z=>k_is)
  have n_tuple:mg "tuple"=none:=by
   refine' PySem.W.mg_none_of KX G ?z
   (case z=>k_is)
  have n_range:mg "range"=none:=by
   refine' PySem.W.mg_none_of KX G ?z
   (case z=>k_is)
  have n_zip:mg "zip"=none:=by
   refine' PySem.W.mg_none_of KX G ?z
   (case z=>k_is)
  have n_enumerate:mg "enumerate"=none:=by
   refine' PySem.W.mg_none_of KX G ?z
   (case z=>k_is)
  have n_any:mg "any"=none:=by
   refine' PySem.W.mg_none_of KX G ?z
   (case z=>k_is)
  have n_sum:mg "sum"=none:=by
   refine' PySem.W.mg_none_of KX G ?z
   (case z=>k_is)
  have n_list:mg "list"=none:=by
   refine' PySem.W.mg_none_of KX G ?z
   (case z=>k_is)
  have n_min:mg "min"=none:=by
   refine' PySem.W.mg_none_of KX G ?z
   (case z=>k_is)
  have T:Sb.Blt mg:=⟨n_len,n_abs,n_isinstance,n_int,n_bool,n_tuple,n_range,n_zip,n_enumerate,n_any,n_sum,n_list,n_min⟩
  have oF:Sb.Def (L2.KOf KX) mg "is_whole" Sb.kS ["value"]:=by
   dsimp only [L2.KOf]
   refine' Sb.Zm KX G ?a ?l ?c ?k (fun _ _ _ _ _ _ _ h=>by obtain⟨a0,rfl⟩:=Sb.len1 h;rfl)
   case a|l|c|k=>k_is
  have mS:Sb.Def (L2.KOf KX) mg "common_divisor" Sb.j6 ["one","other"]:=by
   dsimp only [L2.KOf]
   refine' Sb.Zm KX G ?a ?l ?c ?k (fun _ _ _ _ _ _ _ h=>by obtain⟨a0,a1,rfl⟩:=Sb.len2 h;rfl)
   case a|l|c|k=>k_is
  have oX:Sb.Def (L2.KOf KX) mg "lowest" Sb.kY ["top","bottom"]:=by
   dsimp only [L2.KOf]
   refine' Sb.Zm KX G ?a ?l ?c ?k (fun _ _ _ _ _ _ _ h=>by obtain⟨a0,a1,rfl⟩:=Sb.len2 h;rfl)
   case a|l|c|k=>k_is
  have pT:Sb.Def (L2.KOf KX) mg "ratio" Sb.kX ["top","bottom"]:=by
   dsimp only [L2.KOf]
   refine' Sb.Zm KX G ?a ?l ?c ?k (fun _ _ _ _ _ _ _ h=>by obtain⟨a0,a1,rfl⟩:=Sb.len2 h;rfl)
   case a|l|c|k=>k_is
  have pU:Sb.Def (L2.KOf KX) mg "minus" Sb.lS ["one","other"]:=by
   dsimp only [L2.KOf]
   refine' Sb.Zm KX G ?a ?l ?c ?k (fun _ _ _ _ _ _ _ h=>by obtain⟨a0,a1,rfl⟩:=Sb.len2 h;rfl)
   case a|l|c|k=>k_is
  have pO:Sb.Def (L2.KOf KX) mg "times" Sb.lL ["one","other"]:=by
   dsimp only [L2.KOf]
   refine' Sb.Zm KX G ?a ?l ?c ?k (fun _ _ _ _ _ _ _ h=>by obtain⟨a0,a1,rfl⟩:=Sb.len2 h;rfl)
   case a|l|c|k=>k_is
  have mU:Sb.Def (L2.KOf KX) mg "common_bottom" Sb.j7 ["several"]:=by
   dsimp only [L2.KOf]
   refine' Sb.Zm KX G ?a ?l ?c ?k (fun _ _ _ _ _ _ _ h=>by obtain⟨a0,rfl⟩:=Sb.len1 h;rfl)
   case a|l|c|k=>k_is
  have oB:Sb.Def (L2.KOf KX) mg "whole_by" Sb.kL ["several","bottom"]:=by
   dsimp only [L2.KOf]
   refine' Sb.Zm KX G ?a ?l ?c ?k (fun _ _ _ _ _ _ _ h=>by obtain⟨a0,a1,rfl⟩:=Sb.len2 h;rfl)
   case a|l|c|k=>k_is
  have nA:Sb.Def (L2.KOf KX) mg "multiplied" Sb.j9 ["row","by"]:=by
   dsimp only [L2.KOf]
   refine' Sb.Zm KX G ?a ?l ?c ?k (fun _ _ _ _ _ _ _ h=>by obtain⟨a0,a1,rfl⟩:=Sb.len2 h;rfl)
   case a|l|c|k=>k_is
  have oW:Sb.Def (L2.KOf KX) mg "turned" Sb.kW ["row"]:=by
   dsimp only [L2.KOf]
   refine' Sb.Zm KX G ?a ?l ?c ?k (fun _ _ _ _ _ _ _ h=>by obtain⟨a0,rfl⟩:=Sb.len1 h;rfl)
   case a|l|c|k=>k_is
  have qW:Sb.Def (L2.KOf KX) mg "mean" Sb.mD ["weights","row"]:=by
   dsimp only [L2.KOf]
   refine' Sb.Zm KX G ?a ?l ?c ?k (fun _ _ _ _ _ _ _ h=>by obtain⟨a0,a1,rfl⟩:=Sb.len2 h;rfl)
   case a|l|c|k=>k_is
  have pW:Sb.Def (L2.KOf KX) mg "is_in" Sb.mE ["world","event"]:=by
   dsimp only [L2.KOf]
   refine' Sb.Zm KX G ?a ?l ?c ?k (fun _ _ _ _ _ _ _ h=>by obtain⟨a0,a1,rfl⟩:=Sb.len2 h;rfl)
   case a|l|c|k=>k_is
  have rQ:Sb.Def (L2.KOf KX) mg "cut" Sb.mK ["row","event"]:=by
   dsimp only [L2.KOf]
   refine' Sb.Zm KX G ?a ?l ?c ?k (fun _ _ _ _ _ _ _ h=>by obtain⟨a0,a1,rfl⟩:=Sb.len2 h;rfl)
   case a|l|c|k=>k_is
  have oE:Sb.Def (L2.KOf KX) mg "paper_of" Sb.kQ ["count","event"]:=by
   dsimp only [L2.KOf]
   refine' Sb.Zm KX G ?a ?l ?c ?k (fun _ _ _ _ _ _ _ h=>by obtain⟨a0,a1,rfl⟩:=Sb.len2 h;rfl)
   case a|l|c|k=>k_is
  have qX:Sb.Def (L2.KOf KX) mg "gain" Sb.mF ["offer","word"]:=by
   dsimp only [L2.KOf]
   refine' Sb.Zm KX G ?a ?l ?c ?k (fun _ _ _ _ _ _ _ h=>by obtain⟨a0,a1,rfl⟩:=Sb.len2 h;rfl)
   case a|l|c|k=>k_is
  have oA:Sb.Def (L2.KOf KX) mg "words_of" Sb.kK ["offer"]:=by
   dsimp only [L2.KOf]
   refine' Sb.Zm KX G ?a ?l ?c ?k (fun _ _ _ _ _ _ _ h=>by obtain⟨a0,rfl⟩:=Sb.len1 h;rfl)
   case a|l|c|k=>k_is
  have pR:Sb.Def (L2.KOf KX) mg "sides" Sb.lP ["offers"]:=by
   dsimp only [L2.KOf]
   refine' Sb.Zm KX G ?a ?l ?c ?k (fun _ _ _ _ _ _ _ h=>by obtain⟨a0,rfl⟩:=Sb.len1 h;rfl)
   case a|l|c|k=>k_is
  have pX:Sb.Def (L2.KOf KX) mg "gains" Sb.lX ["offers"]:=by
   dsimp only [L2.KOf]
   refine' Sb.Zm KX G ?a ?l ?c ?k (fun _ _ _ _ _ _ _ h=>by obtain⟨a0,rfl⟩:=Sb.len1 h;rfl)
   case a|l|c|k=>k_is
  have oG:Sb.Def (L2.KOf KX) mg "as_ratio" Sb.kU ["multiple"]:=by
   dsimp only [L2.KOf]
   refine' Sb.Zm KX G ?a ?l ?c ?k (fun _ _ _ _ _ _ _ h=>by obtain⟨a0,rfl⟩:=Sb.len1 h;rfl)
   case a|l|c|k=>k_is
  have oS:Sb.Def (L2.KOf KX) mg "come_to" Sb.lI ["count","rows","multiples"]:=by
   dsimp only [L2.KOf]
   refine' Sb.Zm KX G ?a ?l ?c ?k (fun _ _ _ _ _ _ _ h=>by obtain⟨a0,a1,a2,rfl⟩:=Sb.len3 h;rfl)
   case a|l|c|k=>k_is
  have m5:Sb.Def (L2.KOf KX) mg "first_table" Sb.kA ["lines"]:=by
   dsimp only [L2.KOf]
   refine' Sb.Zm KX G ?a ?l ?c ?k (fun _ _ _ _ _ _ _ h=>by obtain⟨a0,rfl⟩:=Sb.len1 h;rfl)
   case a|l|c|k=>k_is
  have oQ:Sb.Def (L2.KOf KX) mg "line_of" Sb.kZ ["table","owner"]:=by
   dsimp only [L2.KOf]
   refine' Sb.Zm KX G ?a ?l ?c ?k (fun _ _ _ _ _ _ _ h=>by obtain⟨a0,a1,rfl⟩:=Sb.len2 h;rfl)
   case a|l|c|k=>k_is
  have o0:Sb.Def (L2.KOf KX) mg "end_of" Sb.l6 ["table","thing"]:=by
   dsimp only [L2.KOf]
   refine' Sb.Zm KX G ?a ?l ?c ?k (fun _ _ _ _ _ _ _ h=>by obtain⟨a0,a1,rfl⟩:=Sb.len2 h;rfl)
   case a|l|c|k=>k_is
  have nS:Sb.Def (L2.KOf KX) mg "number_at" Sb.kI ["table","owner","thing"]:=by
   dsimp only [L2.KOf]
   refine' Sb.Zm KX G ?a ?l ?c ?k (fun _ _ _ _ _ _ _ h=>by obtain⟨a0,a1,a2,rfl⟩:=Sb.len3 h;rfl)
   case a|l|c|k=>k_is
  have oR:Sb.Def (L2.KOf KX) mg "helping" Sb.kT ["table","owner"]:=by
   dsimp only [L2.KOf]
   refine' Sb.Zm KX G ?a ?l ?c ?k (fun _ _ _ _ _ _ _ h=>by obtain⟨a0,a1,rfl⟩:=Sb.len2 h;rfl)
   case a|l|c|k=>k_is
  have nD:Sb.Def (L2.KOf KX) mg "goes_ahead" Sb.kE ["table","column","one","other"]:=by
   dsimp only [L2.KOf]
   refine' Sb.Zm KX G ?a ?l ?c ?k (fun _ _ _ _ _ _ _ h=>by obtain⟨a0,a1,a2,a3,rfl⟩:=Sb.len4 h;rfl)
   case a|l|c|k=>k_is
  have nU:Sb.Def (L2.KOf KX) mg "going_out" Sb.kJ ["table","column"]:=by
   dsimp only [L2.KOf]
   refine' Sb.Zm KX G ?a ?l ?c ?k (fun _ _ _ _ _ _ _ h=>by obtain⟨a0,a1,rfl⟩:=Sb.len2 h;rfl)
   case a|l|c|k=>k_is
  have oC:Sb.Def (L2.KOf KX) mg "replaced" Sb.kH ["numbers","place","number"]:=by
   dsimp only [L2.KOf]
   refine' Sb.Zm KX G ?a ?l ?c ?k (fun _ _ _ _ _ _ _ h=>by obtain⟨a0,a1,a2,rfl⟩:=Sb.len3 h;rfl)
   case a|l|c|k=>k_is
  have pY:Sb.Def (L2.KOf KX) mg "freed" Sb.lZ ["line","key_line","column","bottom"]:=by
   dsimp only [L2.KOf]
   refine' Sb.Zm KX G ?a ?l ?c ?k (fun _ _ _ _ _ _ _ h=>by obtain⟨a0,a1,a2,a3,rfl⟩:=Sb.len4 h;rfl)
   case a|l|c|k=>k_is
  have nV:Sb.Def (L2.KOf KX) mg "exchanged" Sb.kG ["table","place","column"]:=by
   dsimp only [L2.KOf]
   refine' Sb.Zm KX G ?a ?l ?c ?k (fun _ _ _ _ _ _ _ h=>by obtain⟨a0,a1,a2,rfl⟩:=Sb.len3 h;rfl)
   case a|l|c|k=>k_is
  have o7:Sb.Def (L2.KOf KX) mg "driven" Sb.lH ["table","owner"]:=by
   dsimp only [L2.KOf]
   refine' Sb.Zm KX G ?a ?l ?c ?k (fun _ _ _ _ _ _ _ h=>by obtain⟨a0,a1,rfl⟩:=Sb.len2 h;rfl)
   case a|l|c|k=>k_is
  have m9:Sb.Def (L2.KOf KX) mg "whole_line" Sb.kC ["row","end"]:=by
   dsimp only [L2.KOf]
   refine' Sb.Zm KX G ?a ?l ?c ?k (fun _ _ _ _ _ _ _ h=>by obtain⟨a0,a1,rfl⟩:=Sb.len2 h;rfl)
   case a|l|c|k=>k_is
  have pP:Sb.Def (L2.KOf KX) mg "start" Sb.lM ["count","rows","event","goal"]:=by
   dsimp only [L2.KOf]
   refine' Sb.Zm KX G ?a ?l ?c ?k (fun _ _ _ _ _ _ _ h=>by obtain⟨a0,a1,a2,a3,rfl⟩:=Sb.len4 h;rfl)
   case a|l|c|k=>k_is
  have mQ:Sb.Def (L2.KOf KX) mg "shown_multiples" Sb.j4 ["count","rows","table","owner","bottom"]:=by
   dsimp only [L2.KOf]
   refine' Sb.Zm KX G ?a ?l ?c ?k (fun _ _ _ _ _ _ _ h=>by obtain⟨a0,a1,a2,a3,a4,rfl⟩:=Sb.len5 h;rfl)
   case a|l|c|k=>k_is
  have pQ:Sb.Def (L2.KOf KX) mg "solve" Sb.lN ["count","rows","event","aim"]:=by
   dsimp only [L2.KOf]
   refine' Sb.Zm KX G ?a ?l ?c ?k (fun _ _ _ _ _ _ _ h=>by obtain⟨a0,a1,a2,a3,rfl⟩:=Sb.len4 h;rfl)
   case a|l|c|k=>k_is
  have nC:Sb.Def (L2.KOf KX) mg "made_whole" Sb.kD ["multiples"]:=by
   dsimp only [L2.KOf]
   refine' Sb.Zm KX G ?a ?l ?c ?k (fun _ _ _ _ _ _ _ h=>by obtain⟨a0,rfl⟩:=Sb.len1 h;rfl)
   case a|l|c|k=>k_is
  have oY:Sb.Def (L2.KOf KX) mg "judged" Sb.lE ["count","offers"]:=by
   dsimp only [L2.KOf]
   refine' Sb.Zm KX G ?a ?l ?c ?k (fun _ _ _ _ _ _ _ h=>by obtain⟨a0,a1,rfl⟩:=Sb.len2 h;rfl)
   case a|l|c|k=>k_is
  have pM:Sb.Def (L2.KOf KX) mg "upper" Sb.lK ["count","offers","row"]:=by
   dsimp only [L2.KOf]
   refine' Sb.Zm KX G ?a ?l ?c ?k (fun _ _ _ _ _ _ _ h=>by obtain⟨a0,a1,a2,rfl⟩:=Sb.len3 h;rfl)
   case a|l|c|k=>k_is
  have pV:Sb.Def (L2.KOf KX) mg "lower" Sb.lT ["count","offers","row"]:=by
   dsimp only [L2.KOf]
   refine' Sb.Zm KX G ?a ?l ?c ?k (fun _ _ _ _ _ _ _ h=>by obtain⟨a0,a1,a2,rfl⟩:=Sb.len3 h;rfl)
   case a|l|c|k=>k_is
  have oZ:Sb.Def (L2.KOf KX) mg "joined" Sb.lF ["one","other"]:=by
   dsimp only [L2.KOf]
   refine' Sb.Zm KX G ?a ?l ?c ?k (fun _ _ _ _ _ _ _ h=>by obtain⟨a0,a1,rfl⟩:=Sb.len2 h;rfl)
   case a|l|c|k=>k_is
  have oP:Sb.Def (L2.KOf KX) mg "parting" Sb.kP ["count","one","other"]:=by
   dsimp only [L2.KOf]
   refine' Sb.Zm KX G ?a ?l ?c ?k (fun _ _ _ _ _ _ _ h=>by obtain⟨a0,a1,a2,rfl⟩:=Sb.len3 h;rfl)
   case a|l|c|k=>k_is
  have n8:Sb.Def (L2.KOf KX) mg "_law_cell" Sb.mH ["_law_script","_law_k"]:=by
   dsimp only [L2.KOf]
   refine' Sb.Zm KX G ?a ?l ?c ?k (fun _ _ _ _ _ _ _ h=>by obtain⟨a0,a1,rfl⟩:=Sb.len2 h;rfl)
   case a|l|c|k=>k_is
  have nE:Sb.Def (L2.KOf KX) mg "_law_whole" Sb.lJ ["_law_found"]:=by
   dsimp only [L2.KOf]
   refine' Sb.Zm KX G ?a ?l ?c ?k (fun _ _ _ _ _ _ _ h=>by obtain⟨a0,rfl⟩:=Sb.len1 h;rfl)
   case a|l|c|k=>k_is
  have nI:Sb.Def (L2.KOf KX) mg "_law_ratio" Sb.lQ ["_law_top","_law_bottom"]:=by
   dsimp only [L2.KOf]
   refine' Sb.Zm KX G ?a ?l ?c ?k (fun _ _ _ _ _ _ _ h=>by obtain⟨a0,a1,rfl⟩:=Sb.len2 h;rfl)
   case a|l|c|k=>k_is
  have nY:Sb.Def (L2.KOf KX) mg "_law_plus" Sb.lU ["_law_one","_law_other"]:=by
   dsimp only [L2.KOf]
   refine' Sb.Zm KX G ?a ?l ?c ?k (fun _ _ _ _ _ _ _ h=>by obtain⟨a0,a1,rfl⟩:=Sb.len2 h;rfl)
   case a|l|c|k=>k_is
  have nM:Sb.Def (L2.KOf KX) mg "_law_minus" Sb.lC ["_law_one","_law_other"]:=by
   dsimp only [L2.KOf]
   refine' Sb.Zm KX G ?a ?l ?c ?k (fun _ _ _ _ _ _ _ h=>by obtain⟨a0,a1,rfl⟩:=Sb.len2 h;rfl)
   case a|l|c|k=>k_is
  have nF:Sb.Def (L2.KOf KX) mg "_law_times" Sb.k9 ["_law_one","_law_other"]:=by
   dsimp only [L2.KOf]
   refine' Sb.Zm KX G ?a ?l ?c ?k (fun _ _ _ _ _ _ _ h=>by obtain⟨a0,a1,rfl⟩:=Sb.len2 h;rfl)
   case a|l|c|k=>k_is
  have oT:Sb.Def (L2.KOf KX) mg "_law_is" Sb.sIs ["_law_found","_law_due"]:=by
   dsimp only [L2.KOf]
   refine' Sb.Zm KX G ?a ?l ?c ?k (fun _ _ _ _ _ _ _ h=>by obtain⟨a0,a1,rfl⟩:=Sb.len2 h;rfl)
   case a|l|c|k=>k_is
  have oJ:Sb.Def (L2.KOf KX) mg "_law_bag" Sb.mM ["_law_cell_here"]:=by
   dsimp only [L2.KOf]
   refine' Sb.Zm KX G ?a ?l ?c ?k (fun _ _ _ _ _ _ _ h=>by obtain⟨a0,rfl⟩:=Sb.len1 h;rfl)
   case a|l|c|k=>k_is
  have nW:Sb.Def (L2.KOf KX) mg "_law_take" Sb.l7 ["_law_bag_here","_law_many"]:=by
   dsimp only [L2.KOf]
   refine' Sb.Zm KX G ?a ?l ?c ?k (fun _ _ _ _ _ _ _ h=>by obtain⟨a0,a1,rfl⟩:=Sb.len2 h;rfl)
   case a|l|c|k=>k_is
  have nX:Sb.Def (L2.KOf KX) mg "_law_size" Sb.mB ["_law_bag_here"]:=by
   dsimp only [L2.KOf]
   refine' Sb.Zm KX G ?a ?l ?c ?k (fun _ _ _ _ _ _ _ h=>by obtain⟨a0,rfl⟩:=Sb.len1 h;rfl)
   case a|l|c|k=>k_is
  have nG:Sb.Def (L2.KOf KX) mg "_law_small" Sb.lO ["_law_bag_here"]:=by
   dsimp only [L2.KOf]
   refine' Sb.Zm KX G ?a ?l ?c ?k (fun _ _ _ _ _ _ _ h=>by obtain⟨a0,rfl⟩:=Sb.len1 h;rfl)
   case a|l|c|k=>k_is
  have oH:Sb.Def (L2.KOf KX) mg "_law_row" Sb.mI ["_law_bag_here","_law_count"]:=by
   dsimp only [L2.KOf]
   refine' Sb.Zm KX G ?a ?l ?c ?k (fun _ _ _ _ _ _ _ h=>by obtain⟨a0,a1,rfl⟩:=Sb.len2 h;rfl)
   case a|l|c|k=>k_is
  have mX:Sb.Def (L2.KOf KX) mg "_law_weights" Sb.kO ["_law_bag_here","_law_count"]:=by
   dsimp only [L2.KOf]
   refine' Sb.Zm KX G ?a ?l ?c ?k (fun _ _ _ _ _ _ _ h=>by obtain⟨a0,a1,rfl⟩:=Sb.len2 h;rfl)
   case a|l|c|k=>k_is
  have n5:Sb.Def (L2.KOf KX) mg "_law_mean" Sb.lV ["_law_weights_here","_law_row_here"]:=by
   dsimp only [L2.KOf]
   refine' Sb.Zm KX G ?a ?l ?c ?k (fun _ _ _ _ _ _ _ h=>by obtain⟨a0,a1,rfl⟩:=Sb.len2 h;rfl)
   case a|l|c|k=>k_is
  have nQ:Sb.Def (L2.KOf KX) mg "_law_event" Sb.l5 ["_law_bag_here","_law_count"]:=by
   dsimp only [L2.KOf]
   refine' Sb.Zm KX G ?a ?l ?c ?k (fun _ _ _ _ _ _ _ h=>by obtain⟨a0,a1,rfl⟩:=Sb.len2 h;rfl)
   case a|l|c|k=>k_is
  have m8:Sb.Def (L2.KOf KX) mg "_law_inside" Sb.lG ["_law_row_here","_law_event_here"]:=by
   dsimp only [L2.KOf]
   refine' Sb.Zm KX G ?a ?l ?c ?k (fun _ _ _ _ _ _ _ h=>by obtain⟨a0,a1,rfl⟩:=Sb.len2 h;rfl)
   case a|l|c|k=>k_is
  have nJ:Sb.Def (L2.KOf KX) mg "_law_offer" Sb.lR ["_law_bag_here","_law_count","_law_weights_here"]:=by
   dsimp only [L2.KOf]
   refine' Sb.Zm KX G ?a ?l ?c ?k (fun _ _ _ _ _ _ _ h=>by obtain⟨a0,a1,a2,rfl⟩:=Sb.len3 h;rfl)
   case a|l|c|k=>k_is
  have nZ:Sb.Def (L2.KOf KX) mg "_law_near" Sb.mC ["_law_weights_here","_law_others"]:=by
   dsimp only [L2.KOf]
   refine' Sb.Zm KX G ?a ?l ?c ?k (fun _ _ _ _ _ _ _ h=>by obtain⟨a0,a1,rfl⟩:=Sb.len2 h;rfl)
   case a|l|c|k=>k_is
  have nP:Sb.Def (L2.KOf KX) mg "_law_gains" Sb.lD ["_law_offers"]:=by
   dsimp only [L2.KOf]
   refine' Sb.Zm KX G ?a ?l ?c ?k (fun _ _ _ _ _ _ _ h=>by obtain⟨a0,rfl⟩:=Sb.len1 h;rfl)
   case a|l|c|k=>k_is
  have n6:Sb.Def (L2.KOf KX) mg "_law_come" Sb.mG ["_law_count","_law_rows","_law_multiples"]:=by
   dsimp only [L2.KOf]
   refine' Sb.Zm KX G ?a ?l ?c ?k (fun _ _ _ _ _ _ _ h=>by obtain⟨a0,a1,a2,rfl⟩:=Sb.len3 h;rfl)
   case a|l|c|k=>k_is
  have mN:Sb.Def (L2.KOf KX) mg "_law_multiples_like" Sb.j5 ["_law_found","_law_many"]:=by
   dsimp only [L2.KOf]
   refine' Sb.Zm KX G ?a ?l ?c ?k (fun _ _ _ _ _ _ _ h=>by obtain⟨a0,a1,rfl⟩:=Sb.len2 h;rfl)
   case a|l|c|k=>k_is
  have mP:Sb.Def (L2.KOf KX) mg "_law_weights_fit" Sb.j8 ["_law_weights_here","_law_rows"]:=by
   dsimp only [L2.KOf]
   refine' Sb.Zm KX G ?a ?l ?c ?k (fun _ _ _ _ _ _ _ h=>by obtain⟨a0,a1,rfl⟩:=Sb.len2 h;rfl)
   case a|l|c|k=>k_is
  have m7:Sb.Def (L2.KOf KX) mg "_law_turned" Sb.kR ["_law_row_here"]:=by
   dsimp only [L2.KOf]
   refine' Sb.Zm KX G ?a ?l ?c ?k (fun _ _ _ _ _ _ _ h=>by obtain⟨a0,rfl⟩:=Sb.len1 h;rfl)
   case a|l|c|k=>k_is
  have oI:Sb.Def (L2.KOf KX) mg "_law_bet" Sb.mL ["_law_count","_law_one","_law_other","_law_row_here"]:=by
   dsimp only [L2.KOf]
   refine' Sb.Zm KX G ?a ?l ?c ?k (fun _ _ _ _ _ _ _ h=>by obtain⟨a0,a1,a2,a3,rfl⟩:=Sb.len4 h;rfl)
   case a|l|c|k=>k_is
  have mW:Sb.Con (L2.KOf KX) mg "NOUGHT" (0,1):=by
   dsimp only [L2.KOf]
   refine' Sb.Bt KX G ?a ?l
   case a|l=>k_is
  have rP:Sb.Con (L2.KOf KX) mg "ONE" (1,1):=by
   dsimp only [L2.KOf]
   refine' Sb.Bt KX G ?a ?l
   case a|l=>k_is
  have rO:Sb.ConI mg "ROW" 0:=by
   refine' Sb.Sq KX G ?a
   (case a=>k_is)
  have qT:Sb.ConI mg "ASK" 1:=by
   refine' Sb.Sq KX G ?a
   (case a=>k_is)
  have qS:Sb.ConI mg "BID" 2:=by
   refine' Sb.Sq KX G ?a
   (case a=>k_is)
  have pL:Sb.ConI mg "EVENT" 3:=by
   refine' Sb.Sq KX G ?a
   (case a=>k_is)
  have y_Table:Sb.TabHere (L2.KOf KX) mg:=by
   dsimp only [L2.KOf]
   refine' Sb.Z22 KX G ?xaC ?xa1 ?xi1 ?xl1 ?xc1 ?xk1 ?xpg ?xhd ?xpo ?xsa ?xmk ?xkc ?xnL ?xnO ?xnH ?xnB ?xnK
   case xaC|xa1|xi1|xl1|xc1|xk1|xpg|xhd|xpo|xsa|xmk|xkc|xnL|xnO|xnH|xnB|xnK=>k_is
  obtain ⟨C_T,f_T,fd_T,tc,mk_T,F_T,b_T⟩:=y_Table
  refine' Sb.Z2s (st:=Sb.mJ) KX G hmg ?a ?l ?c ?k ?b ?ok
  case a|l|c|k=>k_is
  (case b=>exact fun s v=>.of_eq rfl)
  case ok =>
   intro fd base F
   have qV:=Sb.Z3g (P:=Sb.pk) (w:=w) (base:=base) mS T
   have pD:=Sb.C5 oX qV
   have qU:=Sb.Gh (P:=Sb.pk) (w:=w) (base:=base) oF T
   have pC:=Sb.C3 pT qU pD
   have pK:=Sb.Cg mU qV
   have qZ:=Sb.Ge (P:=Sb.pk) (w:=w) (base:=base) oB
   have rF:=Sb.Z2k (P:=Sb.pk) (w:=w) (base:=base) pW
   have pI:=Sb.Z3h rQ T rF mW
   have rV:=Sb.Z0q oE pI rP
   have c_T:Sb.HasT _ w (L2.KOf KX) mg base C_T:=⟨f_T,fd_T,mk_T,Sb.Z0l (P:=Sb.pk) (w:=w) (base:=base) F_T tc,b_T⟩
   have qP:=Sb.Z0z m5 T tc c_T
   have m4:=Sb.C7 (P:=Sb.pk) (w:=w) (base:=base) oQ tc
   have qR:=Sb.Z11 o0 tc m4
   have qG:=Sb.Z0r nS tc m4
   have rG:=Sb.Gi oR T tc m4
   have rH:=Sb.Z2l (P:=Sb.pk) (w:=w) (base:=base) nD tc
   have qM:=Sb.Z0x nU T tc rH
   have pB:=Sb.Lx (P:=Sb.pk) (w:=w) (base:=base) oC T
   have qN:=Sb.Z0y pY T pB
   have rK:=Sb.Z2n nV tc c_T qN pB
   have pH:=Sb.Cf o7 tc rG rK qM
   have sA:=Sb.Mc m9 pK qZ
   have qC:=Sb.Z0m pP sA rV qP
   have qE:=Sb.Z0o mQ T tc qG pK pC
   have mV:=Sb.C1 pQ T tc pI qC pH qE pK pC qR
   have oN:=Sb.Z0t pU pD
   have rJ:=Sb.Z2m qX T oN pI rO qT qS pL
   have pZ:=Sb.Z0i (P:=Sb.pk) (w:=w) (base:=base) oA qT qS
   have qD:=Sb.Z0n pR T pZ
   have nR:=Sb.Ce pX qD rJ
   have p9:=Sb.Z0k pO pD
   have rN:=Sb.Z2o (P:=Sb.pk) (w:=w) (base:=base) n8 T
   have mO:=Sb.Z0p (P:=Sb.pk) (w:=w) (base:=base) nI T
   have r6:=Sb.Z3j (P:=Sb.pk) (w:=w) (base:=base) oJ
   have mT:=Sb.Z2g (P:=Sb.pk) (w:=w) (base:=base) nW
   have mR:=Sb.Z0w nY mO
   have mZ:=Sb.C9 nM mO
   have mY:=Sb.C8 nF mO
   have p0:=Sb.Z0j (P:=Sb.pk) (w:=w) (base:=base) nE T
   have rX:=Sb.Z3f oT T p0
   have oM:=Sb.C2 nG mT mO
   have rT:=Sb.Z2i oH T oM
   have oU:=Sb.Lw mX T mT mO
   have oO:=Sb.Ca n5 T mR mY
   have qQ:=Sb.Z10 nQ T mT
   have n9:=Sb.Cd (P:=Sb.pk) (w:=w) (base:=base) m8 T
   have pE:=Sb.Gj nP mZ T n9
   have qY:=Sb.Z2f mP T rX mR oO
   have rE:=Sb.Pp nA T p9
   have pA:=Sb.C0 oW rE
   have rC:=Sb.Z2h nX mT
   have rD:=Sb.Z2j nZ T mY mR
   have qF:=Sb.C4 nJ T mT mO oM rT qQ n9 oO mR mZ
   have qJ:=Sb.Z0u qW T pK qZ pC
   have r8:=Sb.Z2p oG qU
   have pJ:=Sb.Gk oS T r8 qJ
   have sB:=Sb.Md nC pK qZ
   have pF:=Sb.Gg oY mV nR sB mW
   have pG:=Sb.Cb (P:=Sb.pk) (w:=w) (base:=base) oZ T
   have oK:=Sb.Dz pM mV nR
   have qL:=Sb.C6 pV oK pA oN mW
   have oV:=Sb.Gf oP T pF pG nR pJ oK qL
   have qH:=Sb.Z0s mN T rX
   have rM:=Sb.Z12 n6 T mR mY
   have qK:=Sb.Z0v m7 T mZ
   have rZ:=Sb.Z3i oI T mV qK qH rM
   exact Sb.Z3e F T rN r6 mT rC oU rD qF oV pE mV qY rZ
#print axioms PySem.Challenge.cw_surebook_k40_whole_joined_holds
